/-
  The laws that compare with the document's. Conditions: the program does as the laws ask.
-/
import Derived.Test.YtncndofhecdgnaaDoorBa
import Derived.Test.YtncndofhecdgnaaDoorBu
import Derived.Test.YtncndofhecdgnaaDoorBv
namespace Go.Proofs.YtncndofhecdgnaaDoor
open Go.RowKit
namespace Bil
set_option linter.unusedVariables false

set_option maxRecDepth 100000 in
set_option maxHeartbeats 4000000 in
theorem walk_BillPays (Q : Hid Asks) {w : World} (hT : Day.Tab w) (A : Option Addr) (n c : Nat) (hcap : n ≤ c) (l : List Bi) (hS : Raws w (· < w.heap.size) A n l) (a y : Int) (hi : In a) (hj : In y) : Calls Tryd.prog 4 #[.slice A n c, .int .i64 a, .int .i64 y] w (Yes w true) := by
  have HCAP := Lib.hid hcap
  clear hcap
  have HS0 := Lib.hid hS
  have HI := Lib.hid hi
  have HJ := Lib.hid hj
  have HB0 := Lib.hid (Below.refl w.heap.size w)
  clear hS hi hj
  go_enter Tryd.func4, Tryd.ntmps4
  go_wp2_with fail
  refine (awake_ Q w hT).mono ?_
  rintro e w1 ⟨rfl, hb⟩
  have HB1 := Lib.hid (HB0.out.trans (hb.mono HB0.out.size))
  have HS1 := Lib.hid (HS0.out.below hb)
  clear hb hT HS0 HB0
  by_cases hn : n ≤ 200
  case neg =>
    have t1 : decide ((200 : Int) < (n : Int)) = true := decide_eq_true (by omega)
    clear hn
    go_wp2
    go_ret
    exact ⟨rfl, HB1.out⟩
  have t1 : decide ((200 : Int) < (n : Int)) = false := decide_eq_false (by omega)
  have HN := Lib.hid hn
  clear hn
  have C := Lib.hid (Q.out.pa A n c l a w1 HS1.out HN.out HI.out)
  have C2 := fun w h => Lib.hid (rpay A n c l a w h (Nat.le_trans HN.out (by omega)) HI.out)
  unfold PaTc at C
  unfold PaTo at C2
  obtain ⟨m, hm⟩ : ∃ m, (pay l a).1 = m := ⟨_, rfl⟩
  obtain ⟨x, hx⟩ : ∃ x, (pay l a).2 = x := ⟨_, rfl⟩
  have HML := Lib.hid (show m.length ≤ 200 by
    have h1 := HS1.out.1
    have h2 := HN.out
    rw [← hm]; unfold pay; split
    · rw [py_len]; omega
    · show l.length ≤ 200; omega)
  rw [hm, hx] at C C2
  clear hm hx
  go_wp2_with fail
  refine C.out.mono ?_
  rintro e w2 ⟨v, rfl, A2, c2, rfl, -, hR, hb⟩
  have HB2 := Lib.hid (HB1.out.trans (hb.mono HB1.out.size))
  have HS2 := Lib.hid (HS1.out.below hb)
  have HR2 := Lib.hid hR
  clear hb hR C HS1 HB1
  have C := Lib.hid (C2 w2 HS2.out).out
  clear C2
  go_wp2_with fail
  refine C.out.mono ?_
  rintro e w3 ⟨v, rfl, A3, c3, rfl, hR, hb⟩
  have HB3 := Lib.hid (HB2.out.trans (hb.mono HB2.out.size))
  have HS3 := Lib.hid (HS2.out.below hb)
  have HR3 := Lib.hid (HR2.out.below hb)
  have HT3 := Lib.hid hR
  clear hb hR C HS2 HB2 HR2
  have C := Lib.hid (Q.out.ri A n c l w3 HS3.out HN.out)
  go_wp2_with fail
  refine C.out.mono ?_
  rintro e w4 ⟨rfl, hb⟩
  have HB4 := Lib.hid (HB3.out.trans (hb.mono HB3.out.size))
  have HS4 := Lib.hid (HS3.out.below hb)
  have HR4 := Lib.hid (HR3.out.below hb)
  have HT4 := Lib.hid (HT3.out.below hb)
  clear hb C HS3 HB3 HR3 HT3
  have C := Lib.hid (rright A n c l w4 HS4.out (Nat.le_trans HN.out (by omega)))
  go_wp2_with fail
  refine C.out.mono ?_
  rintro e w5 ⟨rfl, hb⟩
  have HB5 := Lib.hid (HB4.out.trans (hb.mono HB4.out.size))
  have HS5 := Lib.hid (HS4.out.below hb)
  have HR5 := Lib.hid (HR4.out.below hb)
  have HT5 := Lib.hid (HT4.out.below hb)
  clear hb C HS4 HB4 HR4 HT4
  have C := Lib.hid (rsame A2 A3 m.length c2 m.length c3 m w5 HR5.out HT5.out (Nat.le_trans HML.out (by omega)))
  go_wp2_with fail
  refine C.out.mono ?_
  rintro e w6 ⟨rfl, hb⟩
  have HB6 := Lib.hid (HB5.out.trans (hb.mono HB5.out.size))
  have HS6 := Lib.hid (HS5.out.below hb)
  clear hb C HS5 HB5 HR5 HT5
  have C := Lib.hid (Q.out.op A n c l y w6 HS6.out HN.out HCAP.out HJ.out)
  go_wp2_with fail
  refine C.out.mono ?_
  rintro e w7 ⟨rfl, hb⟩
  have HB7 := Lib.hid (HB6.out.trans (hb.mono HB6.out.size))
  have HS7 := Lib.hid (HS6.out.below hb)
  clear hb C HS6 HB6
  have C := Lib.hid (ropen A n c l y w7 HS7.out (Nat.le_trans HN.out (by omega)))
  go_wp2_with fail
  refine C.out.mono ?_
  rintro e w8 ⟨rfl, hb⟩
  have HB8 := Lib.hid (HB7.out.trans (hb.mono HB7.out.size))
  have HS8 := Lib.hid (HS7.out.below hb)
  clear hb C HS7 HB7
  go_wp2
  go_ret
  exact ⟨by simp, HB8.out⟩
set_option maxRecDepth 100000 in
set_option maxHeartbeats 4000000 in
theorem walk_BillTurns (Q : Hid Asks) {w : World} (hT : Day.Tab w) (A : Option Addr) (n c : Nat) (l : List Bi) (hS : Raws w (· < w.heap.size) A n l) (a y : Int) (hi : In a) (hj : In y) : Calls Tryd.prog 5 #[.slice A n c, .int .i64 a, .int .i64 y] w (Yes w true) := by
  have HS0 := Lib.hid hS
  have HI := Lib.hid hi
  have HJ := Lib.hid hj
  have HB0 := Lib.hid (Below.refl w.heap.size w)
  clear hS hi hj
  go_enter Tryd.func5, Tryd.ntmps5
  go_wp2_with fail
  refine (awake_ Q w hT).mono ?_
  rintro e w1 ⟨rfl, hb⟩
  have HB1 := Lib.hid (HB0.out.trans (hb.mono HB0.out.size))
  have HS1 := Lib.hid (HS0.out.below hb)
  clear hb hT HS0 HB0
  by_cases hn : n ≤ 200
  case neg =>
    have t1 : decide ((200 : Int) < (n : Int)) = true := decide_eq_true (by omega)
    clear hn
    go_wp2
    go_ret
    exact ⟨rfl, HB1.out⟩
  have t1 : decide ((200 : Int) < (n : Int)) = false := decide_eq_false (by omega)
  have HN := Lib.hid hn
  clear hn
  have C := Lib.hid (Q.out.tu A n c l a y w1 HS1.out HN.out HI.out HJ.out)
  have C2 := fun w h => Lib.hid (rturned A n c l a y w h (Nat.le_trans HN.out (by omega)) HI.out)
  unfold TuTo at C C2
  obtain ⟨m, hm⟩ : ∃ m, tl l a y = m := ⟨_, rfl⟩
  obtain ⟨x, hx⟩ : ∃ x, tc l a y = x := ⟨_, rfl⟩
  have HML := Lib.hid (show m.length ≤ 200 by
    have h1 := HS1.out.1
    have h2 := HN.out
    rw [← hm]; unfold tl; split
    · rw [tn_len]; omega
    · exact Nat.zero_le _)
  rw [hm, hx] at C C2
  clear hm hx
  go_wp2_with fail
  refine C.out.mono ?_
  rintro e w2 ⟨v, rfl, A2, c2, rfl, hR, hb⟩
  have HB2 := Lib.hid (HB1.out.trans (hb.mono HB1.out.size))
  have HS2 := Lib.hid (HS1.out.below hb)
  have HR2 := Lib.hid hR
  clear hb hR C HS1 HB1
  have C := Lib.hid (C2 w2 HS2.out).out
  clear C2
  go_wp2_with fail
  refine C.out.mono ?_
  rintro e w3 ⟨v, rfl, A3, c3, rfl, hR, hb⟩
  have HB3 := Lib.hid (HB2.out.trans (hb.mono HB2.out.size))
  have HS3 := Lib.hid (HS2.out.below hb)
  have HR3 := Lib.hid (HR2.out.below hb)
  have HT3 := Lib.hid hR
  clear hb hR C HS2 HB2 HR2
  have C := Lib.hid (rsame A2 A3 m.length c2 m.length c3 m w3 HR3.out HT3.out (Nat.le_trans HML.out (by omega)))
  go_wp2_with fail
  refine C.out.mono ?_
  rintro e w4 ⟨rfl, hb⟩
  have HB4 := Lib.hid (HB3.out.trans (hb.mono HB3.out.size))
  have HS4 := Lib.hid (HS3.out.below hb)
  clear hb C HS3 HB3
  go_wp2
  go_ret
  exact ⟨by simp, HB4.out⟩
set_option maxRecDepth 100000 in
set_option maxHeartbeats 4000000 in
theorem walk_BillPlans (Q : Hid Asks) {w : World} (hT : Day.Tab w) (x : Int) (s : Int × Int) (m : Int) (hx : In x) (h1 : In s.1) (h2 : In s.2) (hm : In m) : Calls Tryd.prog 3 #[.int .i64 x, sg s, .int .i64 m] w (Yes w true) := by
  obtain ⟨W, hW⟩ : ∃ W, w.alloc (.cells #[.int .i64 s.1, .int .i64 s.2] 23) = W := ⟨_, rfl⟩
  have HX0 := Lib.hid (show Bx W w.heap.size 23 #[.int .i64 s.1, .int .i64 s.2] from hW ▸ Bx.new w _ _)
  have HB0 := Lib.hid (show Below w.heap.size w W from hW ▸ alloc_ _ _)
  have HT0 := Lib.hid (hT.below HB0.out hT.1)
  have HW := Lib.hid hW
  have HI := Lib.hid (And.intro hx (And.intro h1 (And.intro h2 hm)))
  clear hW hx h1 h2 hm hT
  go_enter Tryd.func3, Tryd.ntmps3
  go_upto_region 1 with fail
  rw [HW.out]
  clear HW
  go_wp2_with fail
  refine (awake_ Q W HT0.out).mono ?_
  rintro e w1 ⟨rfl, hb⟩
  have HB1 := Lib.hid (HB0.out.trans (hb.mono HB0.out.size))
  have HX1 := Lib.hid (HX0.out.keep hb)
  have HT1 := Lib.hid (HT0.out.below hb HT0.out.1)
  clear hb HB0 HX0 HT0
  have x0 := HX1.out.c 0
  have x1 := HX1.out.c 1
  simp at x0 x1
  have C := Lib.hid (Q.out.pl x s m w1 HT1.out HI.out.1 HI.out.2.1 HI.out.2.2.1 HI.out.2.2.2)
  go_wp2_with fail
  refine C.out.mono ?_
  rintro e w2 ⟨l, v, k, rfl, hp, A, c, rfl, hR, hb⟩
  have HB2 := Lib.hid (HB1.out.trans (hb.mono HB1.out.size))
  have HX2 := Lib.hid (HX1.out.keep hb)
  have HR2 := Lib.hid hR
  have HP := Lib.hid hp
  clear hb hR hp C HB1 HX1 HT1 x0 x1
  have x0 := HX2.out.c 0
  have x1 := HX2.out.c 1
  simp at x0 x1
  have C := Lib.hid (rplan x s m w2 HI.out.1 HI.out.2.1 HI.out.2.2.1 HI.out.2.2.2)
  go_wp2_with fail
  refine C.out.mono ?_
  rintro e w3 ⟨l', v, k', rfl, hp, A3, c3, rfl, hR, hb⟩
  obtain ⟨rfl, rfl⟩ := HP.out.one hp
  have HB3 := Lib.hid (HB2.out.trans (hb.mono HB2.out.size))
  have HR3 := Lib.hid (HR2.out.below hb)
  have HS3 := Lib.hid hR
  have HML := Lib.hid (show l.length ≤ 100 by
    have h := HP.out
    cases h with
    | arg h hl hc => rw [hl]; exact Nat.zero_le _
    | day h i hi v hv hl hc => rw [hl]; exact Nat.zero_le _
    | ok h due hd hl hc => rw [hl, pl_len]; have := (asks_iff.1 h).2.1; omega)
  clear hb hR hp C HB2 HX2 HR2 x0 x1
  have C := Lib.hid (rsame A A3 l.length c l.length c3 l w3 HR3.out HS3.out (Nat.le_trans HML.out (by omega)))
  go_wp2_with fail
  refine C.out.mono ?_
  rintro e w4 ⟨rfl, hb⟩
  have HB4 := Lib.hid (HB3.out.trans (hb.mono HB3.out.size))
  clear hb C HB3
  go_wp2
  go_ret
  exact ⟨by simp, HB4.out⟩

end Bil
end Go.Proofs.YtncndofhecdgnaaDoor
