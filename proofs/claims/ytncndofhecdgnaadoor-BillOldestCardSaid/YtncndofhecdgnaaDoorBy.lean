/-
  What is open never falls from day to day. Conditions: the program does as the laws ask.
-/
import Derived.Test.YtncndofhecdgnaaDoorBx
namespace Go.Proofs.YtncndofhecdgnaaDoor
open Go.RowKit
namespace Bil
set_option linter.unusedVariables false

set_option maxRecDepth 100000 in
set_option maxHeartbeats 4000000 in
theorem walk_BillOpens (Q : Hid Asks) {w : World} (hT : Day.Tab w) (A : Option Addr) (n c : Nat) (hcap : n ≤ c) (l : List Bi) (hS : Raws w (· < w.heap.size) A n l) (y z a : Int) (hi : In y) (hj : In z) (hk : In a) : Calls Tryd.prog 9 #[.slice A n c, .int .i64 y, .int .i64 z, .int .i64 a] w (Yes w true) := by
  have HCAP := Lib.hid hcap
  clear hcap
  have HS0 := Lib.hid hS
  have HI := Lib.hid hi
  have HJ := Lib.hid hj
  have HKA := Lib.hid hk
  have HB0 := Lib.hid (Below.refl w.heap.size w)
  clear hS hi hj hk
  go_enter Tryd.func9, Tryd.ntmps9
  go_wp2_with fail
  refine (awake_ Q w hT).mono ?_
  rintro e w1 ⟨rfl, hb⟩
  have HB1 := Lib.hid (HB0.out.trans (hb.mono HB0.out.size))
  have HS1 := Lib.hid (HS0.out.below hb)
  clear hb hT HS0 HB0
  by_cases hn : n ≤ 200
  case neg =>
    have t1 : decide ((200 : Int) < (n : Int)) = true := decide_eq_true (by omega)
    clear hn
    go_wp2
    go_ret
    exact ⟨rfl, HB1.out⟩
  have t1 : decide ((200 : Int) < (n : Int)) = false := decide_eq_false (by omega)
  have HN := Lib.hid hn
  clear hn
  have C := Lib.hid (Q.out.ri A n c l w1 HS1.out HN.out)
  obtain ⟨R, hR⟩ : ∃ R, rt l = R := ⟨_, rfl⟩
  have HR := Lib.hid hR
  rw [hR] at C
  clear hR
  go_wp2_with fail
  refine C.out.mono ?_
  rintro e w2 ⟨rfl, hb⟩
  have HB2 := Lib.hid (HB1.out.trans (hb.mono HB1.out.size))
  have HS2 := Lib.hid (HS1.out.below hb)
  clear hb C HS1 HB1
  cases R
  · go_wp2
    go_ret
    exact ⟨rfl, HB2.out⟩
  by_cases qz0 : z < y
  · have tz0 : decide (z < y) = true := decide_eq_true qz0
    clear qz0
    go_wp2
    go_ret
    exact ⟨rfl, HB2.out⟩
  have tz0 : decide (z < y) = false := decide_eq_false qz0
  by_cases qa0 : a < 0
  · have ta0 : decide (a < 0) = true := decide_eq_true qa0
    clear qa0
    go_wp2
    go_ret
    exact ⟨rfl, HB2.out⟩
  have ta0 : decide (a < 0) = false := decide_eq_false qa0
  by_cases qa1 : 4000000000000000000 < a
  · have ta1 : decide (4000000000000000000 < a) = true := decide_eq_true qa1
    clear qa1
    go_wp2
    go_ret
    exact ⟨rfl, HB2.out⟩
  have ta1 : decide (4000000000000000000 < a) = false := decide_eq_false qa1
  have hrt := rt_iff.1 HR.out
  have hp := rg_pb hrt.2
  have hsm := rg_sum (by omega) hrt.2
  have X1 := pay_yes (l := l) (a := a) HR.out (by omega)
  have hop := op_bd hp y
  have X2 := pay_yes (l := l) (a := op y l) HR.out hop.1
  have hpd := pd_le hp
  have h1 := op_later hp (y := y) (z := z) (by omega)
  have h2 := op_paid hp y (a := a) (by omega)
  have h3 := op_bd (py_pb hp (a := a) (by omega)).1 y
  have h4 := op_all (y := y) hrt.2
  have hle := (py_pb hp (a := a) (by omega)).2
  have O1 : opn l y = op y l := by unfold opn; rw [if_pos HR.out]
  have O2 : opn l z = op z l := by unfold opn; rw [if_pos HR.out]
  have O3 : opn (py l a).1 y = op y (py l a).1 := by unfold opn; rw [if_pos (py_rt HR.out (by omega))]
  have O4 : opn (py l (op y l)).1 y = 0 := by unfold opn; rw [if_pos (py_rt HR.out hop.1)]; exact h4.2.1
  have hl1 := py_len l a
  have hl2 := py_len l (op y l)
  have hln := HS2.out.1
  obtain ⟨o1, ho1⟩ : ∃ o, op y l = o := ⟨_, rfl⟩
  obtain ⟨o2, ho2⟩ : ∃ o, op z l = o := ⟨_, rfl⟩
  obtain ⟨m1, hm1⟩ : ∃ m, (py l a).1 = m := ⟨_, rfl⟩
  obtain ⟨x1, hx1⟩ : ∃ m, (py l a).2 = m := ⟨_, rfl⟩
  rw [ho1] at X2 hop h1 h2 h4 O1 O4 hl2
  rw [ho2] at h1 O2
  rw [hm1] at h2 h3 O3 hl1
  rw [hx1] at h2 hle
  obtain ⟨o3, ho3⟩ : ∃ o, op y m1 = o := ⟨_, rfl⟩
  rw [ho3] at h2 h3 O3
  obtain ⟨m2, hm2⟩ : ∃ m, (py l o1).1 = m := ⟨_, rfl⟩
  rw [hm2] at h4 O4 hl2
  have P1 := Lib.hid (show (pay l a).1 = m1 ∧ (pay l a).2 = x1 by rw [X1]; exact ⟨hm1, hx1⟩)
  have P2 := Lib.hid (show (pay l o1).1 = m2 ∧ (pay l o1).2 = 0 by rw [X2]; exact ⟨hm2, h4.1⟩)
  have HEQ := Lib.hid h4.2.2
  have HO := Lib.hid (And.intro O1 (And.intro O2 (And.intro O3 O4)))
  have HL := Lib.hid (show m1.length ≤ 200 ∧ m2.length = n ∧ l.length = n by have := HN.out; omega)
  have HI1 := Lib.hid (show In o1 by unfold In; omega)
  have HBD := Lib.hid (show 0 ≤ o1 ∧ o1 ≤ o2 ∧ o3 ≤ o1 ∧ o1 - o3 ≤ a ∧ 0 ≤ o3 ∧ o1 ≤ 4000000000000000000 by omega)
  clear hrt hp hsm X1 hop X2 hpd h1 h2 h3 h4 hle O1 O2 O3 O4 hl1 hl2 hln ho1 ho2 hm1 hx1 ho3 hm2 qz0 qa0 qa1
  have C := Lib.hid (Q.out.op A n c l y w2 HS2.out HN.out HCAP.out HI.out)
  rw [HO.out.1] at C
  go_wp2_with fail
  refine C.out.mono ?_
  rintro e w3 ⟨rfl, hb⟩
  have HB3 := Lib.hid (HB2.out.trans (hb.mono HB2.out.size))
  have HS3 := Lib.hid (HS2.out.below hb)
  clear hb HS2 HB2
  have C := Lib.hid (Q.out.op A n c l z w3 HS3.out HN.out HCAP.out HJ.out)
  rw [HO.out.2.1] at C
  go_wp2_with fail
  refine C.out.mono ?_
  rintro e w4 ⟨rfl, hb⟩
  have HB4 := Lib.hid (HB3.out.trans (hb.mono HB3.out.size))
  have HS4 := Lib.hid (HS3.out.below hb)
  clear hb HS3 HB3
  have C := Lib.hid (Q.out.pa A n c l a w4 HS4.out HN.out HKA.out)
  unfold PaTc at C
  rw [P1.out.1, P1.out.2] at C
  go_wp2_with fail
  refine C.out.mono ?_
  rintro e w5 ⟨v, rfl, A5, c5, rfl, hc5, hR5, hb⟩
  have HC5 := Lib.hid hc5
  clear hc5
  have HB5 := Lib.hid (HB4.out.trans (hb.mono HB4.out.size))
  have HS5 := Lib.hid (HS4.out.below hb)
  have HR5 := Lib.hid hR5
  clear hb hR5 HS4 HB4
  have C := Lib.hid (Q.out.op A5 m1.length c5 m1 y w5 HR5.out HL.out.1 HC5.out HI.out)
  rw [HO.out.2.2.1] at C
  go_wp2_with fail
  refine C.out.mono ?_
  rintro e w6 ⟨rfl, hb⟩
  have HB6 := Lib.hid (HB5.out.trans (hb.mono HB5.out.size))
  have HS6 := Lib.hid (HS5.out.below hb)
  clear hb HS5 HB5 HR5
  have C := Lib.hid (Q.out.pa A n c l o1 w6 HS6.out HN.out HI1.out)
  unfold PaTc at C
  rw [P2.out.1, P2.out.2] at C
  go_wp2_with fail
  refine C.out.mono ?_
  rintro e w7 ⟨v, rfl, A7, c7, rfl, hc7, hR7, hb⟩
  have HC7 := Lib.hid (show n ≤ c7 by rw [← HL.out.2.1]; exact hc7)
  clear hc7
  have HB7 := Lib.hid (HB6.out.trans (hb.mono HB6.out.size))
  have HS7 := Lib.hid (HS6.out.below hb)
  have HR7 := Lib.hid (show Raws w7 (· < w7.heap.size) A7 n m2 by rw [← HL.out.2.1]; exact hR7)
  rw [HL.out.2.1]
  have hbd := HBD.out
  have u1 : decide (o1 < 0) = false := decide_eq_false (by omega)
  have u2 : decide (o2 < o1) = false := decide_eq_false (by omega)
  have u3 : decide (o1 < o3) = false := decide_eq_false (by omega)
  have u4 : decide (a < o1 - o3) = false := decide_eq_false (by omega)
  have u5 : decide (o3 < 0) = false := decide_eq_false (by omega)
  have ew : wrap64 (o1 - o3) = o1 - o3 := IntWalk.wrap64_in _ ⟨by omega, by omega⟩
  clear hb hR7 HS6 HB6 hbd
  go_wp2
  go_loopw [17] (fun vi w' => ∃ (k nd : Nat), k ≤ n ∧ vi = .int .i64 (k : Int) ∧ w' = w7.drewN nd) (fun vi _ => n - (intOf vi).toNat)
  case atStart => exact ⟨0, 0, Nat.zero_le _, rfl, rfl⟩
  case round =>
    obtain ⟨k, nd, hk, rfl, rfl⟩ := hrel
    have hn2 : n ≤ 200 := HN.out
    by_cases hlt : k < n
    · obtain ⟨ad, b, rfl, hb, hx, N⟩ := HS7.out.get hlt
      obtain ⟨ad2, b2, rfl, hb2, hx2, N2⟩ := HR7.out.get hlt
      obtain ⟨c0, c1, c2⟩ := N
      have hlt2 : (k : Int) < (n : Int) := by omega
      by_cases hd : y < b.d
      · have v1 : decide (y < b.d) = true := decide_eq_true hd
        have e := HEQ.out k b hx hd
        rw [hx2] at e
        injection e with e
        subst e
        obtain ⟨d0, d1, d2⟩ := N2
        clear hx hx2 hb hb2 hd
        go_wp2
        go_quiet (fail)
        go_wp2
        go_roundw
        case rel => exact ⟨k + 1, _, by omega, by go_num, rfl⟩
        case measure => simp [intOf]; omega
      · have v1 : decide (y < b.d) = false := decide_eq_false hd
        clear hx hx2 hb hb2 hd N2
        go_wp2
        go_quiet (fail)
        go_wp2
        go_roundw
        case rel => exact ⟨k + 1, _, by omega, by go_num, rfl⟩
        case measure => simp [intOf]; omega
    · have hlt2 : ¬ ((k : Int) < (n : Int)) := by omega
      have hdr : Below w7.heap.size w7 (w7.drewN nd) := ⟨rfl, rfl, rfl, Nat.le_refl _, fun _ _ => rfl⟩
      have C := Lib.hid (Q.out.op A7 n c7 m2 y (w7.drewN nd) (HR7.out.below hdr) HN.out HC7.out HI.out)
      rw [HO.out.2.2.2] at C
      have HB8 := Lib.hid (HB7.out.trans (hdr.mono HB7.out.size))
      clear hdr
      go_wp2_with fail
      refine C.out.mono ?_
      rintro e w9 ⟨rfl, hb⟩
      have HB9 := Lib.hid (HB8.out.trans (hb.mono HB8.out.size))
      clear hb
      go_wp2
      go_ret
      exact ⟨by simp, HB9.out⟩

end Bil
end Go.Proofs.YtncndofhecdgnaaDoor
