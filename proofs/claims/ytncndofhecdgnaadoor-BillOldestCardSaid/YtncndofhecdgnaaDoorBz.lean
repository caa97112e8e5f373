/-
  The oldest bill is paid first. Conditions: the program does as the laws ask.
-/
import Derived.Test.YtncndofhecdgnaaDoorBy
import Derived.Test.YtncndofhecdgnaaDoorBx
namespace Go.Proofs.YtncndofhecdgnaaDoor
open Go.RowKit
namespace Bil
set_option linter.unusedVariables false

set_option maxRecDepth 100000 in
set_option maxHeartbeats 4000000 in
theorem walk_BillOldest (Q : Hid Asks) {w : World} (hT : Day.Tab w) (A : Option Addr) (n c : Nat) (l : List Bi) (hS : Raws w (· < w.heap.size) A n l) (a : Int) (hi : In a) : Calls Tryd.prog 7 #[.slice A n c, .int .i64 a] w (Yes w true) := by
  have HS0 := Lib.hid hS
  have HI := Lib.hid hi
  have HB0 := Lib.hid (Below.refl w.heap.size w)
  clear hS hi
  go_enter Tryd.func7, Tryd.ntmps7
  go_wp2_with fail
  refine (awake_ Q w hT).mono ?_
  rintro e w1 ⟨rfl, hb⟩
  have HB1 := Lib.hid (HB0.out.trans (hb.mono HB0.out.size))
  have HS1 := Lib.hid (HS0.out.below hb)
  clear hb hT HS0 HB0
  by_cases hn : n ≤ 200
  case neg =>
    have t1 : decide ((200 : Int) < (n : Int)) = true := decide_eq_true (by omega)
    clear hn
    go_wp2
    go_ret
    exact ⟨rfl, HB1.out⟩
  have t1 : decide ((200 : Int) < (n : Int)) = false := decide_eq_false (by omega)
  have HN := Lib.hid hn
  clear hn
  have C := Lib.hid (Q.out.ri A n c l w1 HS1.out HN.out)
  obtain ⟨R, hR⟩ : ∃ R, rt l = R := ⟨_, rfl⟩
  have HR := Lib.hid hR
  rw [hR] at C
  clear hR
  go_wp2_with fail
  refine C.out.mono ?_
  rintro e w2 ⟨rfl, hb⟩
  have HB2 := Lib.hid (HB1.out.trans (hb.mono HB1.out.size))
  have HS2 := Lib.hid (HS1.out.below hb)
  clear hb C HS1 HB1
  cases R
  · go_wp2
    go_ret
    exact ⟨rfl, HB2.out⟩
  by_cases qa0 : a < 0
  · have ta0 : decide (a < 0) = true := decide_eq_true qa0
    clear qa0
    go_wp2
    go_ret
    exact ⟨rfl, HB2.out⟩
  have ta0 : decide (a < 0) = false := decide_eq_false qa0
  by_cases qa1 : 4000000000000000000 < a
  · have ta1 : decide (4000000000000000000 < a) = true := decide_eq_true qa1
    clear qa1
    go_wp2
    go_ret
    exact ⟨rfl, HB2.out⟩
  have ta1 : decide (4000000000000000000 < a) = false := decide_eq_false qa1
  have hrt := rt_iff.1 HR.out
  have hp := rg_pb hrt.2
  have hsm := rg_sum (by omega) hrt.2
  have X1 := pay_yes (l := l) (a := a) HR.out (by omega)
  have hpp := py_pb hp (a := a) (by omega)
  have hrm := py_rt HR.out (a := a) (by omega)
  have ham := py_am l a
  have hpd := py_pd l a
  have hlf := py_left hp (a := a) (by omega)
  have hl1 := py_len l a
  have hln := HS2.out.1
  have hp1 := pd_le hp
  have hle := py_le hp (a := a) (by omega)
  have HPA := Lib.hid (show Pb l ∧ 0 ≤ a ∧ a ≤ 4000000000000000000 from ⟨hp, by omega, by omega⟩)
  obtain ⟨m1, hm1⟩ : ∃ m, (py l a).1 = m := ⟨_, rfl⟩
  obtain ⟨x1, hx1⟩ : ∃ m, (py l a).2 = m := ⟨_, rfl⟩
  rw [hm1] at hpp hrm ham hpd hlf hl1
  rw [hx1] at hpp hpd hlf hle
  have hp2 := pd_le hpp.1
  have P1 := Lib.hid (show (pay l a).1 = m1 ∧ (pay l a).2 = x1 by rw [X1]; exact ⟨hm1, hx1⟩)
  have HMM := Lib.hid hm1
  have HXR := Lib.hid hx1
  have HRM := Lib.hid hrm
  have HPB1 := Lib.hid (And.intro hpp.1 (And.intro hp hsm))
  have HL := Lib.hid (show m1.length = n ∧ l.length = n by omega)
  obtain ⟨s1, hs1⟩ : ∃ s, am l = s := ⟨_, rfl⟩
  obtain ⟨p1, hpq1⟩ : ∃ s, pd l = s := ⟨_, rfl⟩
  obtain ⟨p2, hpq2⟩ : ∃ s, pd m1 = s := ⟨_, rfl⟩
  rw [hs1] at ham hsm hp1 hlf
  rw [hpq1] at hpd hp1
  rw [hpq2] at hpd hp2 hlf
  rw [ham] at hp2
  have HSUM := Lib.hid (And.intro hs1 (And.intro hpq1 (And.intro hpq2 ham)))
  have HBD := Lib.hid (show 0 ≤ x1 ∧ x1 ≤ a ∧ p2 - p1 = a - x1 ∧ 0 ≤ p1 ∧ p1 ≤ s1 ∧ 0 ≤ p2 ∧ p2 ≤ s1 ∧ s1 ≤ 4000000000000000000 ∧ a ≤ 4000000000000000000 by omega)
  have HLF := Lib.hid hlf
  clear hrt hp hsm X1 hpp hrm ham hpd hlf hl1 hln hp1 hle hm1 hx1 hp2 hs1 hpq1 hpq2 qa0 qa1
  have C := Lib.hid (Q.out.pa A n c l a w2 HS2.out HN.out HI.out)
  unfold PaTc at C
  rw [P1.out.1, P1.out.2] at C
  go_wp2_with fail
  refine C.out.mono ?_
  rintro e w3 ⟨v, rfl, A3, c3, rfl, -, hR3, hb⟩
  have HB3 := Lib.hid (HB2.out.trans (hb.mono HB2.out.size))
  have HS3 := Lib.hid (HS2.out.below hb)
  have HR3 := Lib.hid (show Raws w3 (· < w3.heap.size) A3 n m1 by rw [← HL.out.1]; exact hR3)
  rw [HL.out.1]
  clear hb hR3 HS2 HB2
  have u1 : decide (x1 < 0) = false := decide_eq_false (by have := HBD.out; omega)
  have C := Lib.hid (Q.out.ri A3 n c3 m1 w3 HR3.out HN.out)
  rw [HRM.out] at C
  go_wp2_with fail
  refine C.out.mono ?_
  rintro e w4 ⟨rfl, hb⟩
  have HB4 := Lib.hid (HB3.out.trans (hb.mono HB3.out.size))
  have HS4 := Lib.hid (HS3.out.below hb)
  have HR4 := Lib.hid (HR3.out.below hb)
  clear hb HS3 HB3 HR3
  have C := Lib.hid (rsum A n c l w4 HS4.out (Nat.le_trans HN.out (by omega)) HPB1.out.2.1 (by have := HPB1.out.2.2; omega))
  rw [HSUM.out.1, HSUM.out.2.1] at C
  go_wp2_with fail
  refine C.out.mono ?_
  rintro e w5 ⟨rfl, hb⟩
  have HB5 := Lib.hid (HB4.out.trans (hb.mono HB4.out.size))
  have HS5 := Lib.hid (HS4.out.below hb)
  have HR5 := Lib.hid (HR4.out.below hb)
  clear hb HS4 HB4 HR4
  have C := Lib.hid (rsum A3 n c3 m1 w5 HR5.out (Nat.le_trans HN.out (by omega)) HPB1.out.1 (by rw [HSUM.out.2.2.2]; have := HBD.out; omega))
  rw [HSUM.out.2.2.2, HSUM.out.2.2.1] at C
  go_wp2_with fail
  refine C.out.mono ?_
  rintro e w6 ⟨rfl, hb⟩
  have HB6 := Lib.hid (HB5.out.trans (hb.mono HB5.out.size))
  have HS6 := Lib.hid (HS5.out.below hb)
  have HR6 := Lib.hid (HR5.out.below hb)
  clear hb HS5 HB5 HR5
  go_wp2
  go_loopw [12, 13] (fun vs vi w' => ∃ (k nd : Nat) (sb : Bool), k ≤ n ∧ vs = .bool sb ∧ vi = .int .i64 (k : Int) ∧ w' = w6.drewN nd ∧ Hid (sb = true → (py (l.take k) a).2 = 0)) (fun _ vi _ => n - (intOf vi).toNat)
  case atStart => exact ⟨0, 0, false, Nat.zero_le _, rfl, rfl, rfl, Lib.hid (fun h => by cases h)⟩
  case round =>
    obtain ⟨k, nd, sb, hk, rfl, rfl, rfl, HSB⟩ := hrel
    have hn2 : n ≤ 200 := HN.out
    by_cases hlt : k < n
    · obtain ⟨ad, b, rfl, hb, hx, N⟩ := HS6.out.get hlt
      obtain ⟨ad2, b2, rfl, hb2, hx2, N2⟩ := HR6.out.get hlt
      have hg := py_get (a := a) hx
      rw [HMM.out, hx2] at hg
      injection hg with hg
      have hmo := py_more (a := a) hx
      have hb0 := HPA.out.1 b (List.mem_of_getElem? hx)
      have hr0 := (py_pb (pb_take HPA.out.1 k) HPA.out.2.1).2
      have hqb := pn_bd hb0.2 hr0
      obtain ⟨rm, hrm⟩ : ∃ r, (py (l.take k) a).2 = r := ⟨_, rfl⟩
      obtain ⟨q, hq⟩ : ∃ q, pn b rm = q := ⟨_, rfl⟩
      rw [hrm] at hg hmo hqb HSB
      rw [hq] at hg hmo hqb
      obtain ⟨p', hp'⟩ : ∃ p', b.p + q = p' := ⟨_, rfl⟩
      rw [hp'] at hg
      subst hg
      obtain ⟨c0, c1, c2⟩ := N
      obtain ⟨d0, d1, d2⟩ := N2
      simp only at d0 d1 d2
      have hlt2 : (k : Int) < (n : Int) := by omega
      have v1 : decide (p' < b.p) = false := decide_eq_false (by omega)
      by_cases hs : p' < b.a
      · have v2 : decide (p' < b.a) = true := decide_eq_true hs
        have HN2 := Lib.hid (show (true : Bool) = true → (py (l.take (k + 1)) a).2 = 0 from fun _ => by rw [hmo]; omega)
        cases sb
        · clear hx hx2 hb hb2 hmo hb0 hr0 hqb hrm hq hp' hs
          go_wp2
          go_quiet (fail)
          go_wp2
          go_quiet (fail)
          go_wp2
          go_roundw
          case rel => exact ⟨k + 1, _, true, by omega, rfl, by go_num, rfl, Lib.hid (fun _ => HN2.out trivial)⟩
          case measure => simp [intOf]; omega
        · have hz := HSB.out rfl
          obtain rfl : b.p = p' := by omega
          clear hx hx2 hb hb2 hmo hb0 hr0 hqb hrm hq hp' hs hz
          go_wp2
          go_quiet (fail)
          go_wp2
          go_quiet (fail)
          go_wp2
          go_roundw
          case rel => exact ⟨k + 1, _, true, by omega, rfl, by go_num, rfl, Lib.hid (fun _ => HN2.out trivial)⟩
          case measure => simp [intOf]; omega
      · have v2 : decide (p' < b.a) = false := decide_eq_false hs
        cases sb
        · clear hx hx2 hb hb2 hmo hb0 hr0 hqb hrm hq hp' hs
          go_wp2
          go_quiet (fail)
          go_wp2
          go_quiet (fail)
          go_wp2
          go_roundw
          case rel => exact ⟨k + 1, _, false, by omega, rfl, by go_num, rfl, Lib.hid (fun h => by cases h)⟩
          case measure => simp [intOf]; omega
        · have hz := HSB.out rfl
          have HN2 := Lib.hid (show (true : Bool) = true → (py (l.take (k + 1)) a).2 = 0 from fun _ => by rw [hmo]; omega)
          obtain rfl : b.p = p' := by omega
          clear hx hx2 hb hb2 hmo hb0 hr0 hqb hrm hq hp' hs hz
          go_wp2
          go_quiet (fail)
          go_wp2
          go_quiet (fail)
          go_wp2
          go_roundw
          case rel => exact ⟨k + 1, _, true, by omega, rfl, by go_num, rfl, Lib.hid (fun _ => HN2.out trivial)⟩
          case measure => simp [intOf]; omega
    · have hlt2 : ¬ ((k : Int) < (n : Int)) := by omega
      have hbd := HBD.out
      have e1 : wrap64 (p2 - p1) = p2 - p1 := IntWalk.wrap64_in _ ⟨by omega, by omega⟩
      have e2 : wrap64 (a - x1) = a - x1 := IntWalk.wrap64_in _ ⟨by omega, by omega⟩
      have v3 : decide (p2 - p1 = a - x1) = true := decide_eq_true hbd.2.2.1
      have hdr : Below w6.heap.size w6 (w6.drewN nd) := ⟨rfl, rfl, rfl, Nat.le_refl _, fun _ _ => rfl⟩
      have HB7 := Lib.hid (HB6.out.trans (hdr.mono HB6.out.size))
      have hlf := HLF.out
      clear hdr hbd
      by_cases hz : x1 = 0
      · subst hz
        have e3 : wrap64 a = a := by simpa using e2
        have v5 : p2 - p1 = a := by simpa using of_decide_eq_true v3
        clear hlf
        go_wp2
        · go_ret
          exact ⟨by simp, HB7.out⟩
        all_goals (rename_i h_; exact absurd (by first | omega | (rw [e3]; omega) | (rw [e1, e3]; omega)) h_)
      · have hh := hlf hz
        have v4 : decide (x1 = 0) = false := decide_eq_false hz
        clear hlf
        subst hh
        go_wp2
        · go_ret
          exact ⟨by simp, HB7.out⟩
        all_goals (rename_i h_; exact absurd (by first | omega | (rw [e2]; omega) | (rw [e1, e2]; omega) | (have := of_decide_eq_true v3; omega)) h_)

end Bil
end Go.Proofs.YtncndofhecdgnaaDoor
