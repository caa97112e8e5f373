/-
  What comes in in two parts pays as in one. Conditions: the program does as the laws ask.
-/
import Derived.Test.YtncndofhecdgnaaDoorBa
namespace Go.Proofs.YtncndofhecdgnaaDoor
open Go.RowKit
namespace Bil
set_option linter.unusedVariables false

theorem pd_up {l : List Bi} (h : Pb l) : ∀ {a : Int}, 0 ≤ a → pd l ≤ pd (py l a).1 := by
  induction l with
  | nil => intro a _; exact Int.le_refl _
  | cons b t ih =>
    intro a ha
    have hn := pn_bd h.head.2 ha
    have := ih h.tail (a := a - pn b a) (by omega)
    rw [py_cons]
    show b.p + pd t ≤ b.p + pn b a + pd (py t (a - pn b a)).1
    omega
theorem pay_len (l : List Bi) (a : Int) : (pay l a).1.length = l.length := by
  unfold pay; split
  · exact py_len l a
  · rfl
theorem pay_yes {l : List Bi} {a : Int} (h : rt l = true) (ha : 0 ≤ a) : pay l a = py l a := by unfold pay; rw [if_pos ⟨h, ha⟩]
set_option maxRecDepth 100000 in
set_option maxHeartbeats 4000000 in
theorem walk_BillTwice (Q : Hid Asks) {w : World} (hT : Day.Tab w) (A : Option Addr) (n c : Nat) (l : List Bi) (hS : Raws w (· < w.heap.size) A n l) (a b : Int) (hi : In a) (hj : In b) : Calls Tryd.prog 8 #[.slice A n c, .int .i64 a, .int .i64 b] w (Yes w true) := by
  have HS0 := Lib.hid hS
  have HI := Lib.hid hi
  have HJ := Lib.hid hj
  have HB0 := Lib.hid (Below.refl w.heap.size w)
  clear hS hi hj
  go_enter Tryd.func8, Tryd.ntmps8
  go_wp2_with fail
  refine (awake_ Q w hT).mono ?_
  rintro e w1 ⟨rfl, hb⟩
  have HB1 := Lib.hid (HB0.out.trans (hb.mono HB0.out.size))
  have HS1 := Lib.hid (HS0.out.below hb)
  clear hb hT HS0 HB0
  by_cases hn : n ≤ 200
  case neg =>
    have t1 : decide ((200 : Int) < (n : Int)) = true := decide_eq_true (by omega)
    clear hn
    go_wp2
    go_ret
    exact ⟨rfl, HB1.out⟩
  have t1 : decide ((200 : Int) < (n : Int)) = false := decide_eq_false (by omega)
  have HN := Lib.hid hn
  clear hn
  have C := Lib.hid (Q.out.ri A n c l w1 HS1.out HN.out)
  obtain ⟨R, hR⟩ : ∃ R, rt l = R := ⟨_, rfl⟩
  have HR := Lib.hid hR
  rw [hR] at C
  clear hR
  go_wp2_with fail
  refine C.out.mono ?_
  rintro e w2 ⟨rfl, hb⟩
  have HB2 := Lib.hid (HB1.out.trans (hb.mono HB1.out.size))
  have HS2 := Lib.hid (HS1.out.below hb)
  clear hb C HS1 HB1
  cases R
  · go_wp2
    go_ret
    exact ⟨rfl, HB2.out⟩
  by_cases qa0 : a < 0
  · have ta0 : decide (a < 0) = true := decide_eq_true qa0
    clear qa0
    go_wp2
    go_ret
    exact ⟨rfl, HB2.out⟩
  have ta0 : decide (a < 0) = false := decide_eq_false qa0
  by_cases qb0 : b < 0
  · have tb0 : decide (b < 0) = true := decide_eq_true qb0
    clear qb0
    go_wp2
    go_ret
    exact ⟨rfl, HB2.out⟩
  have tb0 : decide (b < 0) = false := decide_eq_false qb0
  by_cases qa1 : 4000000000000000000 < a
  · have ta1 : decide (4000000000000000000 < a) = true := decide_eq_true qa1
    clear qa1
    go_wp2
    go_ret
    exact ⟨rfl, HB2.out⟩
  have ta1 : decide (4000000000000000000 < a) = false := decide_eq_false qa1
  by_cases qb1 : 4000000000000000000 < b
  · have tb1 : decide (4000000000000000000 < b) = true := decide_eq_true qb1
    clear qb1
    go_wp2
    go_ret
    exact ⟨rfl, HB2.out⟩
  have tb1 : decide (4000000000000000000 < b) = false := decide_eq_false qb1
  have X := Lib.hid (show pay l a = py l a ∧ pay (py l a).1 b = py (py l a).1 b ∧ pay l (a + b) = py l (a + b) from
    ⟨pay_yes HR.out (by omega), pay_yes (py_rt HR.out (by omega)) (by omega), pay_yes HR.out (by omega)⟩)
  have Y := Lib.hid (py_two (rg_pb (rt_iff.1 HR.out).2) (a := a) (b := b) (by omega) (by omega))
  obtain ⟨ab, hab⟩ : ∃ ab, a + b = ab := ⟨_, rfl⟩
  have HAB := Lib.hid hab
  have ew : wrap64 (a + b) = ab := by rw [← hab]; exact IntWalk.wrap64_in _ ⟨by omega, by omega⟩
  have hI : In ab := by unfold In; omega
  have C := Lib.hid (Q.out.pa A n c l a w2 HS2.out HN.out HI.out)
  have HLN := Lib.hid HS2.out.1
  obtain ⟨m1, hm1⟩ : ∃ m, (py l a).1 = m := ⟨_, rfl⟩
  obtain ⟨x1, hx1⟩ : ∃ x, (py l a).2 = x := ⟨_, rfl⟩
  obtain ⟨m2, hm2⟩ : ∃ m, (py l ab).1 = m := ⟨_, rfl⟩
  have hl1 : m1.length = l.length := by rw [← hm1]; exact py_len l a
  have hl2 : m2.length = l.length := by rw [← hm2]; exact py_len l ab
  have Z := Lib.hid (show (py m1 b).1 = m2 ∧ x1 + (py m1 b).2 = (py l ab).2 by rw [← hm1, ← hx1, ← hm2, ← hab]; exact Y.out)
  have HL1 := Lib.hid (show m1.length ≤ 200 ∧ m2.length ≤ 1000 by have := HLN.out; have := HN.out; omega)
  have HX2 := Lib.hid (show pay m1 b = py m1 b by rw [← hm1]; exact X.out.2.1)
  have HX3 := Lib.hid (show pay l ab = py l ab by rw [← hab]; exact X.out.2.2)
  obtain ⟨x2, hx2⟩ : ∃ x, (py m1 b).2 = x := ⟨_, rfl⟩
  obtain ⟨x3, hx3⟩ : ∃ x, (py l ab).2 = x := ⟨_, rfl⟩
  have hb1 : 0 ≤ x1 ∧ x1 ≤ 4000000000000000000 := by
    rw [← hx1]
    have hp := rg_pb (rt_iff.1 HR.out).2
    have h1 := (py_pb hp (a := a) (by omega)).2
    have h2 := py_pd l a
    have h3 := pd_up hp (a := a) (by omega)
    omega
  have hb2 : 0 ≤ x2 ∧ x2 ≤ 4000000000000000000 := by
    rw [← hx2, ← hm1]
    have hp := rg_pb (rt_iff.1 HR.out).2
    have hp1 := (py_pb hp (a := a) (by omega)).1
    have h1 := (py_pb hp1 (a := b) (by omega)).2
    have h2 := py_pd (py l a).1 b
    have h3 := pd_up hp1 (a := b) (by omega)
    omega
  have hz := Z.out.2
  rw [hx2, hx3] at hz
  have ez : wrap64 (x1 + x2) = x3 := by rw [← hz]; exact IntWalk.wrap64_in _ ⟨by omega, by omega⟩
  have EZ := Lib.hid ez
  have EW := Lib.hid ew
  unfold PaTc at C
  rw [X.out.1, hm1, hx1] at C
  have HM2 := Lib.hid (Z.out.1)
  have HXX := Lib.hid (And.intro hx2 (And.intro hx3 hm2))
  have HIB := Lib.hid hI
  clear hm1 hx1 hm2 hx2 hx3 hab hl1 hl2 hb1 hb2 hz ez X Y Z hI ew qa0 qb0 qa1 qb1
  go_wp2_with fail
  refine C.out.mono ?_
  rintro e w3 ⟨v, rfl, A3, c3, rfl, -, hR3, hb⟩
  have HB3 := Lib.hid (HB2.out.trans (hb.mono HB2.out.size))
  have HS3 := Lib.hid (HS2.out.below hb)
  have C := Lib.hid (Q.out.pa A3 m1.length c3 m1 b w3 hR3 HL1.out.1 HJ.out)
  unfold PaTc at C
  rw [HX2.out, HM2.out, HXX.out.1] at C
  clear hb hR3 HS2 HB2
  go_wp2_with fail
  refine C.out.mono ?_
  rintro e w4 ⟨v, rfl, A4, c4, rfl, -, hR4, hb⟩
  have HB4 := Lib.hid (HB3.out.trans (hb.mono HB3.out.size))
  have HS4 := Lib.hid (HS3.out.below hb)
  have HR4 := Lib.hid hR4
  have C := Lib.hid (Q.out.pa A n c l ab w4 HS4.out HN.out HIB.out)
  unfold PaTc at C
  rw [HX3.out, HXX.out.2.1, HXX.out.2.2] at C
  clear hb hR4 HS3 HB3
  have ew := EW.out
  go_wp2_with fail
  refine C.out.mono ?_
  rintro e w5 ⟨v, rfl, A5, c5, rfl, -, hR5, hb⟩
  have HB5 := Lib.hid (HB4.out.trans (hb.mono HB4.out.size))
  have HS5 := Lib.hid (HS4.out.below hb)
  have HR5 := Lib.hid (HR4.out.below hb)
  have HT5 := Lib.hid hR5
  clear hb hR5 HS4 HB4 HR4 ew
  have C := Lib.hid (rsame A4 A5 m2.length c4 m2.length c5 m2 w5 HR5.out HT5.out HL1.out.2)
  have ez := EZ.out
  go_wp2_with fail
  refine C.out.mono ?_
  rintro e w6 ⟨rfl, hb⟩
  have HB6 := Lib.hid (HB5.out.trans (hb.mono HB5.out.size))
  have HS6 := Lib.hid (HS5.out.below hb)
  clear hb
  go_wp2
  go_ret
  exact ⟨by simp, HB6.out⟩

end Bil
end Go.Proofs.YtncndofhecdgnaaDoor
