/-
  Turned, all bills come to the new sum; a plan is turned to another one, and back. Conditions: the program does as the laws ask, the table of months reads as laid.
-/
import Derived.Test.YtncndofhecdgnaaDoorBwh
import Derived.Test.YtncndofhecdgnaaDoorBs
import Derived.Deep.Cut
namespace Go.Proofs.YtncndofhecdgnaaDoor
open Go.RowKit Cal
namespace Bil
set_option linter.unusedVariables false

theorem tc_code (l : List Bi) (x y : Int) : tc l x y = 0 ∨ tc l x y ≠ 0 := by omega
set_option maxRecDepth 100000 in
set_option maxHeartbeats 4000000 in
theorem walk_BillSum (Q : Hid Asks) {w : World} (hT : Day.Tab w) (A : Option Addr) (n c : Nat) (l : List Bi) (hS : Raws w (· < w.heap.size) A n l) (x y z : Int) (s : Int × Int) (mm : Int) (hi : In x) (hj : In y) (hk : In z) (h1 : In s.1) (h2 : In s.2) (hm : In mm) : Calls Tryd.prog 10 #[.slice A n c, .int .i64 x, .int .i64 y, .int .i64 z, sg s, .int .i64 mm] w (Yes w true) := by
  obtain ⟨W, hW⟩ : ∃ W, w.alloc (.cells #[.int .i64 s.1, .int .i64 s.2] 23) = W := ⟨_, rfl⟩
  have HX0 := Lib.hid (show Bx W w.heap.size 23 #[.int .i64 s.1, .int .i64 s.2] from hW ▸ Bx.new w _ _)
  have HB0 := Lib.hid (show Below w.heap.size w W from hW ▸ alloc_ _ _)
  have HT0 := Lib.hid (hT.below HB0.out hT.1)
  have HS0 := Lib.hid (hS.below HB0.out)
  have HW := Lib.hid hW
  have HI := Lib.hid (And.intro hi (And.intro hj (And.intro hk (And.intro h1 (And.intro h2 hm)))))
  clear hW hi hj hk h1 h2 hm hT hS
  go_enter Tryd.func10, Tryd.ntmps10
  go_upto_region 1 with fail
  rw [HW.out]
  clear HW
  go_wp2_with fail
  refine (awake_ Q W HT0.out).mono ?_
  rintro e w1 ⟨rfl, hb⟩
  have HB1 := Lib.hid (HB0.out.trans (hb.mono HB0.out.size))
  have HX1 := Lib.hid (HX0.out.keep hb)
  have HT1 := Lib.hid (HT0.out.below hb HT0.out.1)
  have HS1 := Lib.hid (HS0.out.below hb)
  clear hb HB0 HX0 HT0 HS0
  by_cases hn : n ≤ 200
  case neg =>
    have t1 : decide ((200 : Int) < (n : Int)) = true := decide_eq_true (by omega)
    clear hn
    go_wp2
    go_ret
    exact ⟨rfl, HB1.out⟩
  have t1 : decide ((200 : Int) < (n : Int)) = false := decide_eq_false (by omega)
  have HN := Lib.hid hn
  clear hn
  have C := Lib.hid (Q.out.ri A n c l w1 HS1.out HN.out)
  obtain ⟨R, hR⟩ : ∃ R, rt l = R := ⟨_, rfl⟩
  have HR := Lib.hid hR
  rw [hR] at C
  clear hR
  go_wp2_with fail
  refine C.out.mono ?_
  rintro e w2 ⟨rfl, hb⟩
  have HB2 := Lib.hid (HB1.out.trans (hb.mono HB1.out.size))
  have HX2 := Lib.hid (HX1.out.keep hb)
  have HT2 := Lib.hid (HT1.out.below hb HT1.out.1)
  have HS2 := Lib.hid (HS1.out.below hb)
  clear hb C HS1 HB1 HX1 HT1
  cases R
  · go_wp2
    go_ret
    exact ⟨rfl, HB2.out⟩
  have C := Lib.hid (Q.out.tu A n c l x y w2 HS2.out HN.out HI.out.1 HI.out.2.1)
  go_wp2_with fail
  refine C.out.mono ?_
  rintro e w3 ⟨v, rfl, A3, c3, rfl, hR3, hb⟩
  have HB3 := Lib.hid (HB2.out.trans (hb.mono HB2.out.size))
  have HX3 := Lib.hid (HX2.out.keep hb)
  have HT3 := Lib.hid (HT2.out.below hb HT2.out.1)
  have HS3 := Lib.hid (HS2.out.below hb)
  have HR3 := Lib.hid hR3
  clear hb C hR3 HS2 HB2 HX2 HT2
  obtain ⟨m, hm⟩ : ∃ m, tl l x y = m := ⟨_, rfl⟩
  obtain ⟨k, hk⟩ : ∃ k, tc l x y = k := ⟨_, rfl⟩
  have HM := Lib.hid hm
  have HK := Lib.hid hk
  rw [hm] at HR3
  rw [hm, hk]
  obtain ⟨n3, hn3⟩ : ∃ n3, m.length = n3 := ⟨_, rfl⟩
  have HN3 := Lib.hid hn3
  rw [hn3] at HR3
  rw [hn3]
  clear hm hk hn3
  go_upto_if 47 with fail
  go_cut [12] (fun _ wx => ∃ (Wz : World), Wz = wx ∧ Hid (Below w.heap.size w Wz) ∧ Hid (Bx Wz w.heap.size 23 #[.int .i64 s.1, .int .i64 s.2]) ∧ Hid (Day.Tab Wz))
  case first =>
    by_cases hk0 : k = 0
    case neg =>
      have u1 : decide (k = 0) = false := decide_eq_false hk0
      have u2 : (k == 0) = false := beq_eq_false_iff_ne.2 hk0
      clear hk0
      go_wp2
      go_meet
      case rel => exact ⟨_, rfl, HB3, HX3, HT3⟩
    subst hk0
    have ht := turned HK.out
    rw [HM.out] at ht
    have hr := rt_iff.1 HR.out
    have hr2 := rt_iff.1 ht.2.2.2
    have HPB := Lib.hid (show (Pb l ∧ am l ≤ 4000000000000000000) ∧ Pb m ∧ am m ≤ 4000000000000000000 from ⟨⟨rg_pb hr.2, rg_sum (by omega) hr.2⟩, rg_pb hr2.2, rg_sum (by omega) hr2.2⟩)
    have hlen : m.length = n := by rw [ht.2.2.1]; exact HS3.out.1
    have HGET := Lib.hid (fun (i : Nat) (b : Bi) (hb : l[i]? = some b) => (show ∃ c, m[i]? = some c ∧ c.d = b.d ∧ c.p = b.p ∧ (b.d ≤ y → c = b) by
      obtain ⟨c, h⟩ := turned_get HK.out hb
      rw [HM.out] at h
      exact ⟨c, h⟩))
    have HRM := Lib.hid ht.2.2.2
    have HLEN := Lib.hid hlen
    obtain rfl : n = n3 := hlen.symm.trans HN3.out
    obtain ⟨p1, hp1⟩ : ∃ p, pd l = p := ⟨_, rfl⟩
    have HP1 := Lib.hid hp1
    have HSU := Lib.hid (show am m = x ∧ pd m = p1 from ⟨ht.1, ht.2.1.trans hp1⟩)
    obtain ⟨al, hal⟩ : ∃ p, am l = p := ⟨_, rfl⟩
    have HAL := Lib.hid hal
    clear ht hr hr2 hlen hp1 hal
    have C := Lib.hid (rsum A3 n c3 m w3 HR3.out (Nat.le_trans HN.out (by omega)) HPB.out.2.1 HPB.out.2.2)
    rw [HSU.out.1, HSU.out.2] at C
    go_wp2_with fail
    refine C.out.mono ?_
    rintro e w4 ⟨rfl, hb⟩
    have HB4 := Lib.hid (HB3.out.trans (hb.mono HB3.out.size))
    have HX4 := Lib.hid (HX3.out.keep hb)
    have HT4 := Lib.hid (HT3.out.below hb HT3.out.1)
    have HS4 := Lib.hid (HS3.out.below hb)
    have HR4 := Lib.hid (HR3.out.below hb)
    clear hb C HS3 HB3 HX3 HT3 HR3
    have C := Lib.hid (rsum A n c l w4 HS4.out (Nat.le_trans HN.out (by omega)) HPB.out.1.1 HPB.out.1.2)
    rw [HAL.out, HP1.out] at C
    go_wp2_with fail
    refine C.out.mono ?_
    rintro e w5 ⟨rfl, hb⟩
    have HB5 := Lib.hid (HB4.out.trans (hb.mono HB4.out.size))
    have HX5 := Lib.hid (HX4.out.keep hb)
    have HT5 := Lib.hid (HT4.out.below hb HT4.out.1)
    have HS5 := Lib.hid (HS4.out.below hb)
    have HR5 := Lib.hid (HR4.out.below hb)
    clear hb C HS4 HB4 HX4 HT4 HR4
    have C := Lib.hid (Q.out.ri A3 n c3 m w5 HR5.out HN.out)
    rw [HRM.out] at C
    go_wp2_with fail
    refine C.out.mono ?_
    rintro e w6 ⟨rfl, hb⟩
    have HB6 := Lib.hid (HB5.out.trans (hb.mono HB5.out.size))
    have HX6 := Lib.hid (HX5.out.keep hb)
    have HT6 := Lib.hid (HT5.out.below hb HT5.out.1)
    have HS6 := Lib.hid (HS5.out.below hb)
    have HR6 := Lib.hid (HR5.out.below hb)
    clear hb C HS5 HB5 HX5 HT5 HR5
    go_wp2
    go_loopw [20] (fun vi w' => ∃ (k nd : Nat), k ≤ n ∧ vi = .int .i64 (k : Int) ∧ w' = w6.drewN nd) (fun vi _ => n - (intOf vi).toNat)
    case atStart => exact ⟨0, 0, Nat.zero_le _, rfl, rfl⟩
    case round =>
      obtain ⟨k, nd, hk, rfl, rfl⟩ := hrel
      have hn2 : n ≤ 200 := HN.out
      by_cases hlt : k < n
      · obtain ⟨ad, b, rfl, hb, hx, N⟩ := HS6.out.get hlt
        obtain ⟨ad2, b2, rfl, hb2, hx2, N2⟩ := HR6.out.get hlt
        obtain ⟨c', hc', hcd, hcp, hcy⟩ := HGET.out k b hx
        rw [hx2] at hc'
        injection hc' with hc'
        subst hc'
        have hlt2 : (k : Int) < (n : Int) := by omega
        by_cases hd : b.d ≤ y
        · have v1 : decide (b.d ≤ y) = true := decide_eq_true hd
          have e := hcy hd
          subst e
          obtain ⟨c0, c1, c2⟩ := N
          obtain ⟨d0, d1, d2⟩ := N2
          clear hx hx2 hb hb2 hd hcd hcp hcy
          go_wp2
          go_quiet (fail)
          go_wp2
          go_roundw
          case rel => exact ⟨k + 1, _, by omega, by go_num, rfl⟩
          case measure => simp [intOf]; omega
        · have v1 : decide (b.d ≤ y) = false := decide_eq_false hd
          obtain ⟨c0, c1, c2⟩ := N
          obtain ⟨d0, d1, d2⟩ := N2
          rw [hcd] at d0
          rw [hcp] at d2
          clear hx hx2 hb hb2 hd hcd hcp hcy
          go_wp2
          go_quiet (fail)
          go_wp2
          go_roundw
          case rel => exact ⟨k + 1, _, by omega, by go_num, rfl⟩
          case measure => simp [intOf]; omega
      · have hlt2 : ¬ ((k : Int) < (n : Int)) := by omega
        have hdr : Below w6.heap.size w6 (w6.drewN nd) := ⟨rfl, rfl, rfl, Nat.le_refl _, fun _ _ => rfl⟩
        have HB7 := Lib.hid (HB6.out.trans (hdr.mono HB6.out.size))
        have HX7 := Lib.hid (HX6.out.keep hdr)
        have HT7 := Lib.hid (HT6.out.below hdr HT6.out.1)
        clear hdr
        go_wp2
        go_meet
        case rel => exact ⟨_, rfl, HB7, HX7, HT7⟩
  case rest =>
    obtain ⟨Wz, rfl, HB6, HX6, HT6⟩ := hcut
    have x0 := HX6.out.c 0
    have x1 := HX6.out.c 1
    simp at x0 x1
    have C := Lib.hid (Q.out.pl z s mm Wz HT6.out HI.out.2.2.1 HI.out.2.2.2.1 HI.out.2.2.2.2.1 HI.out.2.2.2.2.2)
    clear HB3 HX3 HT3 HS3 HR3
    go_wp2_with fail
    refine C.out.mono ?_
    rintro e w7 ⟨p, v, f, rfl, hp, A7, c7, rfl, hR, hb⟩
    have HB7 := Lib.hid (HB6.out.trans (hb.mono HB6.out.size))
    have HX7 := Lib.hid (HX6.out.keep hb)
    have HT7 := Lib.hid (HT6.out.below hb HT6.out.1)
    have HP7 := Lib.hid hR
    clear hb C hR HB6 HX6 HT6 x0 x1
    by_cases hf : f = 0
    case neg =>
      have u1 : decide (f = 0) = false := decide_eq_false hf
      have u2 : (f == 0) = false := beq_eq_false_iff_ne.2 hf
      have u3 : (f != 0) = true := bne_iff_ne.2 hf
      clear hf hp
      go_wp2
      go_ret
      exact ⟨rfl, HB7.out⟩
    subst hf
    have hask : asks z s mm = true := by
      cases hp with
      | arg _ _ hc => cases hc
      | day _ _ _ _ _ _ hc => cases hc
      | ok h _ _ _ _ => exact h
    obtain ⟨np, due, rfl, hnp, hz, hs1, hl, hsh, h0, hs, hrt, ham, hpd⟩ := hp.is
    have hnb : 1 ≤ np ∧ np ≤ 12 := by omega
    have hy : ∀ i, i < np → s.1 - 1 < due i := fun i hi => by have := hs i hi; omega
    have hlen : p.length = np := by rw [hl, pl_len]
    have hsb : In (s.1 - 1) := by have := HI.out.2.2.2.1; unfold In at this ⊢; omega
    have HSB := Lib.hid hsb
    have HNP := Lib.hid hnb
    have HPL := Lib.hid hl
    have HSW := Lib.hid (show wrap64 (s.1 - 1) = s.1 - 1 from IntWalk.wrap64_in _ ⟨hsb.1, hsb.2⟩)
    have HPV := Lib.hid (show (0 ≤ x ∧ x ≤ 4000000000000000000) → PlIs x s (np : Int) (pl due x np) 0 from fun hx => .ok (asks_iff.2 ⟨hx, (asks_iff.1 hask).2⟩) due (fun i hi => hsh i (by omega)) (by rw [Int.toNat_natCast]) rfl)
    have HTU := Lib.hid (show (0 ≤ x ∧ x ≤ 4000000000000000000) → (tc p x (s.1 - 1) = 0 ∧ tl p x (s.1 - 1) = pl due x np) ∧ tc (pl due x np) z (s.1 - 1) = 0 ∧ tl (pl due x np) z (s.1 - 1) = p from fun hx => by
      have h1 := pl_turn (x := z) (z := x) (y := s.1 - 1) (by rw [← hl]; exact hrt) (by omega) hx hy
      rw [← hl] at h1
      have h2 := (turned h1.1).2.2.2
      rw [h1.2] at h2
      have h3 := pl_turn (x := x) (z := z) (y := s.1 - 1) h2 (by omega) hz hy
      exact ⟨h1, h3.1, by rw [h3.2, ← hl]⟩)
    rw [hlen] at HP7
    rw [hlen]
    clear hp hask hnp hz hs1 hl hsh h0 hs hrt ham hpd hnb hy hlen hsb
    have x0 := HX7.out.c 0
    have x1 := HX7.out.c 1
    simp at x0 x1
    have esw := HSW.out
    have C := Lib.hid (Q.out.tu A7 np c7 p x (s.1 - 1) w7 HP7.out (by have := HNP.out; omega) HI.out.1 HSB.out)
    by_cases hx : 0 ≤ x ∧ x ≤ 4000000000000000000
    case neg =>
      have h := tc_arg (l := p) (x := x) (y := s.1 - 1) fun h => hx h.2
      unfold TuTo at C
      rw [h.1, h.2] at C
      clear h
      by_cases hx0 : x < 0
      · have t2 : decide (x < 0) = true := decide_eq_true hx0
        clear hx hx0
        go_wp2_with fail
        refine C.out.mono ?_
        rintro e w8 ⟨v, rfl, A8, c8, rfl, -, hb⟩
        have HB8 := Lib.hid (HB7.out.trans (hb.mono HB7.out.size))
        clear hb
        go_wp2
        go_ret
        exact ⟨rfl, HB8.out⟩
      · have t2 : decide (x < 0) = false := decide_eq_false hx0
        have t3 : decide (4000000000000000000 < x) = true := decide_eq_true (by omega)
        clear hx hx0
        go_wp2_with fail
        refine C.out.mono ?_
        rintro e w8 ⟨v, rfl, A8, c8, rfl, -, hb⟩
        have HB8 := Lib.hid (HB7.out.trans (hb.mono HB7.out.size))
        clear hb
        go_wp2
        go_ret
        exact ⟨rfl, HB8.out⟩
    have HTU := Lib.hid (HTU.out hx)
    have HPV := Lib.hid (HPV.out hx)
    unfold TuTo at C
    rw [HTU.out.1.1, HTU.out.1.2] at C
    clear hx
    go_wp2_with fail
    refine C.out.mono ?_
    rintro e w8 ⟨v, rfl, A8, c8, rfl, hR, hb⟩
    have HB8 := Lib.hid (HB7.out.trans (hb.mono HB7.out.size))
    have HX8 := Lib.hid (HX7.out.keep hb)
    have HT8 := Lib.hid (HT7.out.below hb HT7.out.1)
    have HP8 := Lib.hid (HP7.out.below hb)
    rw [pl_len] at hR
    have HQ8 := Lib.hid hR
    rw [pl_len]
    clear hb C hR HB7 HX7 HT7 HP7 x0 x1
    have x0 := HX8.out.c 0
    have x1 := HX8.out.c 1
    simp at x0 x1
    have C := Lib.hid (Q.out.tu A8 np c8 (pl due x np) z (s.1 - 1) w8 HQ8.out (by have := HNP.out; omega) HI.out.2.2.1 HSB.out)
    unfold TuTo at C
    rw [HTU.out.2.1, HTU.out.2.2] at C
    go_wp2_with fail
    refine C.out.mono ?_
    rintro e w9 ⟨v, rfl, A9, c9, rfl, hR, hb⟩
    have HB9 := Lib.hid (HB8.out.trans (hb.mono HB8.out.size))
    have HX9 := Lib.hid (HX8.out.keep hb)
    have HT9 := Lib.hid (HT8.out.below hb HT8.out.1)
    have HP9 := Lib.hid (HP8.out.below hb)
    have HQ9 := Lib.hid (HQ8.out.below hb)
    have hlen : p.length = np := HP9.out.1
    rw [hlen] at hR
    have HU9 := Lib.hid hR
    rw [hlen]
    clear hb C hR hlen HB8 HX8 HT8 HP8 HQ8 x0 x1
    have x0 := HX9.out.c 0
    have x1 := HX9.out.c 1
    simp at x0 x1
    have C := Lib.hid (Q.out.pl x s (np : Int) w9 HT9.out HI.out.1 HI.out.2.2.2.1 HI.out.2.2.2.2.1 HI.out.2.2.2.2.2)
    go_wp2_with fail
    refine C.out.mono ?_
    rintro e w10 ⟨q, v, f, rfl, hq, A10, c10, rfl, hR, hb⟩
    obtain ⟨rfl, rfl⟩ := hq.one HPV.out
    have HB10 := Lib.hid (HB9.out.trans (hb.mono HB9.out.size))
    have HX10 := Lib.hid (HX9.out.keep hb)
    have HT10 := Lib.hid (HT9.out.below hb HT9.out.1)
    have HP10 := Lib.hid (HP9.out.below hb)
    have HQ10 := Lib.hid (HQ9.out.below hb)
    have HU10 := Lib.hid (HU9.out.below hb)
    rw [pl_len] at hR
    have HV10 := Lib.hid hR
    rw [pl_len]
    clear hb C hR hq HB9 HX9 HT9 HP9 HQ9 HU9 x0 x1
    have C := Lib.hid (rsame A9 A7 np c9 np c7 p w10 HU10.out HP10.out (by have := HNP.out; omega))
    go_wp2_with fail
    refine C.out.mono ?_
    rintro e w11 ⟨rfl, hb⟩
    have HB11 := Lib.hid (HB10.out.trans (hb.mono HB10.out.size))
    have HX11 := Lib.hid (HX10.out.keep hb)
    have HT11 := Lib.hid (HT10.out.below hb HT10.out.1)
    have HQ11 := Lib.hid (HQ10.out.below hb)
    have HV11 := Lib.hid (HV10.out.below hb)
    clear hb C HB10 HX10 HT10 HP10 HQ10 HU10 HV10
    have C := Lib.hid (rsame A8 A10 np c8 np c10 (pl due x np) w11 HQ11.out HV11.out (by have := HNP.out; omega))
    go_wp2_with fail
    refine C.out.mono ?_
    rintro e w12 ⟨rfl, hb⟩
    have HB12 := Lib.hid (HB11.out.trans (hb.mono HB11.out.size))
    clear hb C
    go_wp2
    go_ret
    exact ⟨by simp, HB12.out⟩

end Bil
end Go.Proofs.YtncndofhecdgnaaDoor
