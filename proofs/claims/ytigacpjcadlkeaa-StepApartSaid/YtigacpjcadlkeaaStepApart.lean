/-
  The statement StepApart holds: for every input the call returns true, and each argument reads afterwards as it read before. Conditions: none beside those that the row itself bears.
-/
import Derived.Test.YtigacpjcadlkeaaGiven
import Derived.Test.YtigacpjcadlkeaaQ
import Derived.Deep.DeepCutAuto
namespace Go.Proofs.Ytigacpjcadlkeaa.stepApart
open Go.ChangeShapes Go.WideShapes Go.ChangeAt Go.RowKit St Stp
set_option linter.unusedVariables false

set_option maxRecDepth 100000 in
set_option maxHeartbeats 2000000 in
theorem long (A : Option Addr) (n c : Nat) (V : Option Addr) (m d : Nat) (xs vs : List Int) (a b c3 x y : Int) (ha : 0 ≤ a ∧ a ≤ 4294967295) (hb : 0 ≤ b ∧ b ≤ 4294967295) (hc : 0 ≤ c3 ∧ c3 ≤ 4294967295) (hx : -2147483648 ≤ x ∧ x ≤ 2147483647) (hy : -2147483648 ≤ y ∧ y ≤ 2147483647) (w : World) (G : GivenT w A n c V m d xs vs) (h : ¬ (n ≤ 100 ∧ m ≤ 100)) : Calls Try.prog 8 #[sg A n c V m d, .int .u32 a, .int .u32 b, .int .u32 c3, .int .i32 x, .int .i32 y] w fun e w' => e = .returned (.bool true) ∧ Below w.heap.size w w' := by
  have hn := G.n
  have hm := G.m
  unfold maxLen at hn hm
  have C := fun w => Lib.hid (few A n c V m d w (by omega) (by omega))
  have ef : (decide (n ≤ 100) && decide (m ≤ 100)) = false := by rw [Bool.and_eq_false_iff, decide_eq_false_iff_not, decide_eq_false_iff_not]; omega
  rw [ef] at C
  clear G ef h ha hb hc hx hy
  go_enter Try.func8, Try.ntmps8
  go_wp2_with fail
  refine (awake _).mono ?_
  rintro e w1 ⟨rfl, hb⟩
  obtain ⟨XP, hB⟩ := bx1 hb
  have HB1 := Lib.hid (show Below w.heap.size w w1 from hB)
  have HXF1 := Lib.hid XP
  clear hb XP hB
  have xF0 := HXF1.out.c0
  have xF1 := HXF1.out.c1
  have xlF := HXF1.out.lt
  try simp only at xF0 xF1
  go_wp2_with fail
  refine ((C _).out).mono ?_
  rintro e w2 ⟨rfl, hb⟩
  have hB := hb
  have HB2 := Lib.hid (HB1.out.trans (hB.mono HB1.out.size))
  have HXF2 := Lib.hid (HXF1.out.keep hB)
  clear hb hB HB1 HXF1 xF0 xF1 xlF
  have xF0 := HXF2.out.c0
  have xF1 := HXF2.out.c1
  have xlF := HXF2.out.lt
  try simp only at xF0 xF1
  go_wp2
  go_ret
  exact ⟨rfl, HB2.out⟩

set_option maxRecDepth 100000 in
set_option maxHeartbeats 2000000 in
theorem wrong (A : Option Addr) (n c : Nat) (V : Option Addr) (m d : Nat) (xs vs : List Int) (a b c3 x y : Int) (ha : 0 ≤ a ∧ a ≤ 4294967295) (hb : 0 ≤ b ∧ b ≤ 4294967295) (hc : 0 ≤ c3 ∧ c3 ≤ 4294967295) (hx : -2147483648 ≤ x ∧ x ≤ 2147483647) (hy : -2147483648 ≤ y ∧ y ≤ 2147483647) (w : World) (hS : Sx w w.heap.size A n V m xs vs) (h1 : n ≤ 100) (h2 : m ≤ 100) (hr : rg xs vs = false) : Calls Try.prog 8 #[sg A n c V m d, .int .u32 a, .int .u32 b, .int .u32 c3, .int .i32 x, .int .i32 y] w fun e w' => e = .returned (.bool true) ∧ Below w.heap.size w w' := by
  have C := fun w => Lib.hid (few A n c V m d w (by omega) (by omega))
  have ef : (decide (n ≤ 100) && decide (m ≤ 100)) = true := by simp; omega
  rw [ef] at C
  have HS := Lib.hid hS
  have HR := Lib.hid hr
  clear hS ef hr ha hb hc hx hy
  go_enter Try.func8, Try.ntmps8
  go_wp2_with fail
  refine (awake _).mono ?_
  rintro e w1 ⟨rfl, hb⟩
  obtain ⟨XP, hB⟩ := bx1 hb
  have HB1 := Lib.hid (show Below w.heap.size w w1 from hB)
  have HXF1 := Lib.hid XP
  clear hb XP hB
  have xF0 := HXF1.out.c0
  have xF1 := HXF1.out.c1
  have xlF := HXF1.out.lt
  try simp only at xF0 xF1
  go_wp2_with fail
  refine ((C _).out).mono ?_
  rintro e w2 ⟨rfl, hb⟩
  have hB := hb
  have HB2 := Lib.hid (HB1.out.trans (hB.mono HB1.out.size))
  have HXF2 := Lib.hid (HXF1.out.keep hB)
  clear hb hB HB1 HXF1 xF0 xF1 xlF
  have xF0 := HXF2.out.c0
  have xF1 := HXF2.out.c1
  have xlF := HXF2.out.lt
  try simp only at xF0 xF1
  have HT2 := Lib.hid ((HS.out.below HB2.out (Nat.le_refl _)).wide HB2.out.size)
  go_wp2_with fail
  refine (right A n c V m d xs vs _ HT2.out (by omega)).mono ?_
  rintro e w3 ⟨rfl, hb⟩
  have hB := hb
  have HB3 := Lib.hid (HB2.out.trans (hB.mono HB2.out.size))
  have HXF3 := Lib.hid (HXF2.out.keep hB)
  have HT3 := Lib.hid (HT2.out.keep_ hB)
  rw [HR.out]
  clear hb hB HB2 HXF2 HT2 xF0 xF1 xlF
  have xF0 := HXF3.out.c0
  have xF1 := HXF3.out.c1
  have xlF := HXF3.out.lt
  try simp only at xF0 xF1
  go_wp2
  go_ret
  exact ⟨rfl, HB3.out⟩

set_option maxRecDepth 100000 in
set_option maxHeartbeats 2000000 in
theorem idle (A : Option Addr) (n c : Nat) (V : Option Addr) (d : Nat) (ps : List Pr) (a b c3 x y : Int) (ha : 0 ≤ a ∧ a ≤ 4294967295) (hb : 0 ≤ b ∧ b ≤ 4294967295) (hc : 0 ≤ c3 ∧ c3 ≤ 4294967295) (hx : -2147483648 ≤ x ∧ x ≤ 2147483647) (hy : -2147483648 ≤ y ∧ y ≤ 2147483647) (p q u v : Int) (hpq : spn a b = (p, q)) (huv : spn (q - 1) c3 = (u, v)) (p1 : 1 ≤ p) (p2 : p ≤ q) (p3 : q ≤ 292195) (u1 : 1 ≤ u) (u2 : u ≤ v) (u3 : v ≤ 292195) (w : World) (hS : Sr w w.heap.size A V n ps) (h1 : n ≤ 100) (h : Right ps) (g : u ≠ q) : Calls Try.prog 8 #[sg A n c V n d, .int .u32 a, .int .u32 b, .int .u32 c3, .int .i32 x, .int .i32 y] w fun e w' => e = .returned (.bool true) ∧ Below w.heap.size w w' := by
  have C := fun w => Lib.hid (few A n c V n d w (by omega) (by omega))
  have ef : (decide (n ≤ 100) && decide (n ≤ 100)) = true := by simp; omega
  rw [ef] at C
  have D1 := fun w => Lib.hid (in_r a b w ha hb)
  rw [hpq] at D1
  have D2 := fun w => Lib.hid (in_r (q - 1) c3 w ⟨by omega, by omega⟩ hc)
  rw [huv] at D2
  have HS := Lib.hid hS
  have HP := Lib.hid h
  clear hS ef h ha hb hc hpq huv
  have t1 : (u == q) = false := by simpa using g
  have t2 : (u != q) = true := by simpa using g
  clear g hx hy
  go_enter Try.func8, Try.ntmps8
  go_wp2_with fail
  refine (awake _).mono ?_
  rintro e w1 ⟨rfl, hb⟩
  obtain ⟨XP, hB⟩ := bx1 hb
  have HB1 := Lib.hid (show Below w.heap.size w w1 from hB)
  have HXF1 := Lib.hid XP
  clear hb XP hB
  have xF0 := HXF1.out.c0
  have xF1 := HXF1.out.c1
  have xlF := HXF1.out.lt
  try simp only at xF0 xF1
  go_wp2_with fail
  refine ((C _).out).mono ?_
  rintro e w2 ⟨rfl, hb⟩
  have hB := hb
  have HB2 := Lib.hid (HB1.out.trans (hB.mono HB1.out.size))
  have HXF2 := Lib.hid (HXF1.out.keep hB)
  clear hb hB HB1 HXF1 xF0 xF1 xlF
  have xF0 := HXF2.out.c0
  have xF1 := HXF2.out.c1
  have xlF := HXF2.out.lt
  try simp only at xF0 xF1
  have HT2 := Lib.hid ((HS.out.below HB2.out (Nat.le_refl _)).wide HB2.out.size)
  go_wp2_with fail
  refine (right A n c V n d _ _ _ HT2.out (by omega)).mono ?_
  rintro e w3 ⟨rfl, hb⟩
  have hB := hb
  have HB3 := Lib.hid (HB2.out.trans (hB.mono HB2.out.size))
  have HXF3 := Lib.hid (HXF2.out.keep hB)
  have HT3 := Lib.hid (HT2.out.keep_ hB)
  rw [rg_of HP.out]
  clear hb hB HB2 HXF2 HT2 xF0 xF1 xlF
  have xF0 := HXF3.out.c0
  have xF1 := HXF3.out.c1
  have xlF := HXF3.out.lt
  try simp only at xF0 xF1
  go_wp2_with fail
  refine ((D1 _).out).mono ?_
  rintro e w4 ⟨rfl, hb⟩
  have hB := hb
  have HB4 := Lib.hid (HB3.out.trans (hB.mono HB3.out.size))
  have HXF4 := Lib.hid (HXF3.out.keep hB)
  have HT4 := Lib.hid (HT3.out.keep_ hB)
  clear hb hB HB3 HXF3 HT3 xF0 xF1 xlF
  have xF0 := HXF4.out.c0
  have xF1 := HXF4.out.c1
  have xlF := HXF4.out.lt
  try simp only at xF0 xF1
  go_wp2_with fail
  refine ((D2 _).out).mono ?_
  rintro e w5 ⟨rfl, hb⟩
  obtain ⟨XP, hB⟩ := bx1 hb
  have HB5 := Lib.hid (HB4.out.trans (hB.mono HB4.out.size))
  have HXF5 := Lib.hid (HXF4.out.keep hB)
  have HT5 := Lib.hid (HT4.out.keep_ hB)
  have HXS5 := Lib.hid XP
  clear hb XP hB HB4 HXF4 HT4 xF0 xF1 xlF
  have xF0 := HXF5.out.c0
  have xF1 := HXF5.out.c1
  have xlF := HXF5.out.lt
  try simp only at xF0 xF1
  have xS0 := HXS5.out.c0
  have xS1 := HXS5.out.c1
  have xlS := HXS5.out.lt
  try simp only at xS0 xS1
  go_wp2
  go_ret
  exact ⟨rfl, (HB5.out.alloc HB5.out.size _)⟩

set_option maxRecDepth 100000 in
set_option maxHeartbeats 8000000 in
theorem main (A : Option Addr) (n c : Nat) (V : Option Addr) (d : Nat) (ps : List Pr) (a b c3 x y : Int) (ha : 0 ≤ a ∧ a ≤ 4294967295) (hb : 0 ≤ b ∧ b ≤ 4294967295) (hc : 0 ≤ c3 ∧ c3 ≤ 4294967295) (hx : -2147483648 ≤ x ∧ x ≤ 2147483647) (hy : -2147483648 ≤ y ∧ y ≤ 2147483647) (p q u v : Int) (hpq : spn a b = (p, q)) (huv : spn (q - 1) c3 = (u, v)) (p1 : 1 ≤ p) (p2 : p ≤ q) (p3 : q ≤ 292195) (u1 : 1 ≤ u) (u2 : u ≤ v) (u3 : v ≤ 292195) (w : World) (hS : Sr w w.heap.size A V n ps) (h1 : n ≤ 100) (h : Right ps) (g : u = q) (q1 q2 o1 o2 : List Pr) (LO : Nat) (hq1 : setR ps (p, q) x = q1) (ho1 : setR q1 (q, v) y = o1) (hq2 : setR ps (q, v) y = q2) (ho2 : setR q2 (p, q) x = o1) (ho3 : setR o1 (p, v) x = o2) (ho4 : setR ps (p, v) x = o2) (r1 : Right q1) (r2 : Right q2) (r3 : Right o1) (l1 : q1.length ≤ 200) (l2 : q2.length ≤ 200) (l3 : o1.length = LO) (l4 : LO ≤ 200) (l5 : o2.length ≤ 200) : Calls Try.prog 8 #[sg A n c V n d, .int .u32 a, .int .u32 b, .int .u32 c3, .int .i32 x, .int .i32 y] w fun e w' => e = .returned (.bool true) ∧ Below w.heap.size w w' := by
  have C := fun w => Lib.hid (few A n c V n d w (by omega) (by omega))
  have ef : (decide (n ≤ 100) && decide (n ≤ 100)) = true := by simp; omega
  rw [ef] at C
  have D1 := fun w => Lib.hid (in_r a b w ha hb)
  rw [hpq] at D1
  have D2 := fun w => Lib.hid (in_r (q - 1) c3 w ⟨by omega, by omega⟩ hc)
  rw [huv] at D2
  have HS := Lib.hid hS
  have HP := Lib.hid h
  clear hS ef h ha hb hc hpq huv
  subst g
  have HQ1a := Lib.hid hq1
  have HQ2a := Lib.hid ho1
  have HR1a := Lib.hid r1
  have HL1a := Lib.hid l1
  have HL2a := Lib.hid l3
  have HQ1b := Lib.hid hq2
  have HQ2b := Lib.hid ho2
  have HR1b := Lib.hid r2
  have HL1b := Lib.hid l2
  have HL2b := Lib.hid l3
  have HO3 := Lib.hid ho3
  have HO4 := Lib.hid ho4
  have HR3 := Lib.hid r3
  have wx : IntKind.i64.wrap x = x := IntWalk.i64_in _ (by omega)
  have wy : IntKind.i64.wrap y = y := IntWalk.i64_in _ (by omega)
  obtain ⟨hx1, hx2⟩ := hx
  obtain ⟨hy1, hy2⟩ := hy
  clear hq1 ho1 hq2 ho2 ho3 ho4 r1 r2 r3 l1 l2 l3
  go_enter Try.func8, Try.ntmps8
  go_wp2_with fail
  refine (awake _).mono ?_
  rintro e w1 ⟨rfl, hb⟩
  obtain ⟨XP, hB⟩ := bx1 hb
  have HB1 := Lib.hid (show Below w.heap.size w w1 from hB)
  have HXF1 := Lib.hid XP
  clear hb XP hB
  have xF0 := HXF1.out.c0
  have xF1 := HXF1.out.c1
  have xlF := HXF1.out.lt
  try simp only at xF0 xF1
  go_wp2_with fail
  refine ((C _).out).mono ?_
  rintro e w2 ⟨rfl, hb⟩
  have hB := hb
  have HB2 := Lib.hid (HB1.out.trans (hB.mono HB1.out.size))
  have HXF2 := Lib.hid (HXF1.out.keep hB)
  clear hb hB HB1 HXF1 xF0 xF1 xlF
  have xF0 := HXF2.out.c0
  have xF1 := HXF2.out.c1
  have xlF := HXF2.out.lt
  try simp only at xF0 xF1
  have HT2 := Lib.hid ((HS.out.below HB2.out (Nat.le_refl _)).wide HB2.out.size)
  go_wp2_with fail
  refine (right A n c V n d _ _ _ HT2.out (by omega)).mono ?_
  rintro e w3 ⟨rfl, hb⟩
  have hB := hb
  have HB3 := Lib.hid (HB2.out.trans (hB.mono HB2.out.size))
  have HXF3 := Lib.hid (HXF2.out.keep hB)
  have HT3 := Lib.hid (HT2.out.keep_ hB)
  rw [rg_of HP.out]
  clear hb hB HB2 HXF2 HT2 xF0 xF1 xlF
  have xF0 := HXF3.out.c0
  have xF1 := HXF3.out.c1
  have xlF := HXF3.out.lt
  try simp only at xF0 xF1
  go_wp2_with fail
  refine ((D1 _).out).mono ?_
  rintro e w4 ⟨rfl, hb⟩
  have hB := hb
  have HB4 := Lib.hid (HB3.out.trans (hB.mono HB3.out.size))
  have HXF4 := Lib.hid (HXF3.out.keep hB)
  have HT4 := Lib.hid (HT3.out.keep_ hB)
  clear hb hB HB3 HXF3 HT3 xF0 xF1 xlF
  have xF0 := HXF4.out.c0
  have xF1 := HXF4.out.c1
  have xlF := HXF4.out.lt
  try simp only at xF0 xF1
  go_wp2_with fail
  refine ((D2 _).out).mono ?_
  rintro e w5 ⟨rfl, hb⟩
  obtain ⟨XP, hB⟩ := bx1 hb
  have HB5 := Lib.hid (HB4.out.trans (hB.mono HB4.out.size))
  have HXF5 := Lib.hid (HXF4.out.keep hB)
  have HT5 := Lib.hid (HT4.out.keep_ hB)
  have HXS5 := Lib.hid XP
  clear hb XP hB HB4 HXF4 HT4 xF0 xF1 xlF
  have xF0 := HXF5.out.c0
  have xF1 := HXF5.out.c1
  have xlF := HXF5.out.lt
  try simp only at xF0 xF1
  have xS0 := HXS5.out.c0
  have xS1 := HXS5.out.c1
  have xlS := HXS5.out.lt
  try simp only at xS0 xS1
  go_upto_region 9 with (fail)
  obtain ⟨W6, hW6⟩ : ∃ W6, (w5.alloc (.cells #[.int .i64 u, .int .i64 v] 30)) = W6 := ⟨_, rfl⟩
  have HB6 := Lib.hid (show Below w.heap.size w W6 by rw [← hW6]; exact HB5.out.alloc HB5.out.size _)
  have HXF := Lib.hid (show Bx W6 w.heap.size 24 (.slice A n c) (.slice V n d) by rw [← hW6]; exact HXF5.out.alloc _)
  have HXS := Lib.hid (show Bx W6 w4.heap.size 30 (.int .i64 p) (.int .i64 u) by rw [← hW6]; exact HXS5.out.alloc _)
  have HXT := Lib.hid (show Bx W6 w5.heap.size 30 (.int .i64 u) (.int .i64 v) by rw [← hW6]; exact Bx.new _ _ _ _)
  have HT6 := Lib.hid (show Sr W6 W6.heap.size A V n ps by rw [← hW6]; exact HT5.out.keep_ (al1 _ _))
  rw [hW6]
  clear hW6 xF0 xF1 xlF xS0 xS1 xlS
  have HSIX := Lib.hid (fun (w' : World) (hh : Below W6.heap.size W6 w') => (show (fun w' => w'.cell? ⟨w.heap.size, 0, none⟩ = some (.slice A n c) ∧ w'.cell? ⟨w.heap.size, 1, none⟩ = some (.slice V n d) ∧ w'.cell? ⟨w4.heap.size, 0, none⟩ = some (.int .i64 p) ∧ w'.cell? ⟨w4.heap.size, 1, none⟩ = some (.int .i64 u) ∧ w'.cell? ⟨w5.heap.size, 0, none⟩ = some (.int .i64 u) ∧ w'.cell? ⟨w5.heap.size, 1, none⟩ = some (.int .i64 v)) w' from ⟨(HXF.out.keep hh).c0, (HXF.out.keep hh).c1, (HXS.out.keep hh).c0, (HXS.out.keep hh).c1, (HXT.out.keep hh).c0, (HXT.out.keep hh).c1⟩))
  have HBd := Lib.hid (show Below W6.heap.size W6 W6.drew from (Below.refl _ _).drew)
  have HBa := Lib.hid (show Below W6.heap.size W6 (W6.alloc (.cells #[.slice none 0 0, .slice none 0 0] 24)).drew from ((Below.refl _ W6).alloc (Nat.le_refl _) _).drew)
  have HXa := Lib.hid (show Bx (W6.alloc (.cells #[.slice none 0 0, .slice none 0 0] 24)).drew W6.heap.size 24 (.slice none 0 0) (.slice none 0 0) from Bx.new W6 24 (.slice none 0 0) (.slice none 0 0))
  have HTd := Lib.hid (show Sr W6.drew W6.drew.heap.size A V n ps from ⟨HT6.out.a, HT6.out.v⟩)
  have HTa := Lib.hid (HT6.out.keep_ HBa.out)
  go_upto_region 9 with (fail)
  go_cut [17] (fun sl wx => ∃ (Wz : World) (bO : Nat) (AO VO : Option Addr) (cO dO : Nat), Wz = wx ∧ sl = .pointer (some ⟨bO, 0, none⟩) ∧ Hid (AP W6 Wz bO AO cO VO dO o1 LO))
  case first =>
    go_region_held3 (fun w' => w'.cell? ⟨w.heap.size, 0, none⟩ = some (.slice A n c) ∧ w'.cell? ⟨w.heap.size, 1, none⟩ = some (.slice V n d) ∧ w'.cell? ⟨w4.heap.size, 0, none⟩ = some (.int .i64 p) ∧ w'.cell? ⟨w4.heap.size, 1, none⟩ = some (.int .i64 u) ∧ w'.cell? ⟨w5.heap.size, 0, none⟩ = some (.int .i64 u) ∧ w'.cell? ⟨w5.heap.size, 1, none⟩ = some (.int .i64 v))
      (first | exact HSIX.out _ HBd.out | exact HSIX.out _ HBa.out | exact HSIX.out _ HBr1.out | exact HSIX.out _ (HBr1.out.alloc HBr1.out.size _) | exact HSIX.out _ HBa1.out | exact HSIX.out _ HBr2.out | exact HSIX.out _ HBs2.out | exact HSIX.out _ HBa2.out | exact HSIX.out _ (HBr2.out.alloc HBr2.out.size _) | exact HSIX.out _ ((HBa2.out.setCell (Nat.le_refl _) _).setCell (Nat.le_refl _) _) | exact HSIX.out _ ((HBs2.out.setCell HBr1s.out _).setCell HBr1s.out _) | fail)
      (first
      | (go_at_call 19; ((with_reducible refine (set_p A n c V d ps (p, u) x W6.drew HTd.out h1 HP.out HQ1a.out).mono ?_); rintro e r1 ⟨A1, c1, V1, d1, rfl, hO1, hb1⟩; have HBr1 := Lib.hid (below_drew5 hb1); have HBr1s := Lib.hid HBr1.out.size; have HM1 := Lib.hid (GivesB.mk_ hO1); clear hO1 hb1))
      | (go_at_call 19; ((with_reducible refine (set_p A n c V d ps (p, u) x (W6.alloc (.cells #[.slice none 0 0, .slice none 0 0] 24)).drew HTa.out h1 HP.out HQ1a.out).mono ?_); rintro e a1 ⟨A1, c1, V1, d1, rfl, hO1, hb1⟩; have HBa1 := Lib.hid (HBa.out.trans (hb1.mono HBa.out.size)); have HXa1 := Lib.hid (HXa.out.keep hb1); have HMa1 := Lib.hid (GivesB.mk_ hO1); clear hO1 hb1))
      | (go_at_call 19; ((with_reducible refine (set_q A1 q1.length c1 V1 d1 q1 (u, v) y r1 HM1.out rfl HR1a.out HL1a.out HQ2a.out).mono ?_); rintro e r2 ⟨A2, c2, V2, d2, rfl, hO2, hb2⟩; have HBr2 := Lib.hid (HBr1.out.trans (hb2.mono HBr1.out.size)); have HM2 := Lib.hid (GivesB.mk_ hO2); clear hO2 hb2))
      | (go_at_call 19; ((with_reducible refine (set_q A1 q1.length c1 V1 d1 q1 (u, v) y (r1.alloc (.cells #[.slice none 0 0, .slice none 0 0] 24)) (HM1.out.keep (al1 _ _)) rfl HR1a.out HL1a.out HQ2a.out).mono ?_); rintro e s2_ ⟨A2, c2, V2, d2, rfl, hO2, hb2⟩; have HXb2 := Lib.hid ((Bx.new r1 24 (.slice none 0 0) (.slice none 0 0)).keep hb2); have HBs2 := Lib.hid ((HBr1.out.alloc HBr1.out.size _).trans (hb2.mono (Nat.le_trans HBr1.out.size (al1 _ _).size))); have HM2 := Lib.hid (GivesB.mk_ hO2); have HOw := Lib.hid hO2; have fx0 := HXb2.out.c0; have fx1 := HXb2.out.c1; have ff0 := HXb2.out.f 0; have ff1 := HXb2.out.f 1; clear hO2 hb2))
      | (go_at_call 19; ((with_reducible refine (set_q A1 q1.length c1 V1 d1 q1 (u, v) y a1 HMa1.out rfl HR1a.out HL1a.out HQ2a.out).mono ?_); rintro e a2 ⟨A2, c2, V2, d2, rfl, hO2, hb2⟩; have HXa2 := Lib.hid (HXa1.out.keep hb2); have HBa2 := Lib.hid (HBa1.out.trans (hb2.mono HBa1.out.size)); have HM2 := Lib.hid (GivesB.mk_ hO2); have HOw := Lib.hid hO2; have fx0 := HXa2.out.c0; have fx1 := HXa2.out.c1; have ff0 := HXa2.out.f 0; have ff1 := HXa2.out.f 1; clear hO2 hb2))
      | fail)
    all_goals
      go_wp2_with fail
      go_meet
      first
        | exact ⟨_, _, _, _, _, _, rfl, rfl, Lib.hid (ap_new HBr2.out HM2.out HL2a.out)⟩
        | exact ⟨_, _, _, _, _, _, rfl, rfl, Lib.hid (ap_set HBs2.out HM2.out HXb2.out HBr1s.out ⟨_, HOw.out⟩ HL2a.out)⟩
        | exact ⟨_, _, _, _, _, _, rfl, rfl, Lib.hid (ap_set HBa2.out HM2.out HXa2.out (Nat.le_refl _) ⟨_, HOw.out⟩ HL2a.out)⟩

  case rest =>
    obtain ⟨W9, bO, AO, VO, cO, dO, rfl, rfl, HO⟩ := hcut
    have HB9 := Lib.hid (HB6.out.trans (HO.out.b.mono HB6.out.size))
    have HXF9 := Lib.hid (HXF.out.keep HO.out.b)
    have HXS9 := Lib.hid (HXS.out.keep HO.out.b)
    have HXT9 := Lib.hid (HXT.out.keep HO.out.b)
    have HT9 := Lib.hid (HT6.out.keep_ HO.out.b)
    clear HSIX HBd HBa HXa HTd HTa HXF HXS HXT HT6 HB6
    have HXF := HXF9
    have HXS := HXS9
    have HXT := HXT9
    clear HXF9 HXS9 HXT9
    have HSIX := Lib.hid (fun (w' : World) (hh : Below W9.heap.size W9 w') => (show (fun w' => w'.cell? ⟨w.heap.size, 0, none⟩ = some (.slice A n c) ∧ w'.cell? ⟨w.heap.size, 1, none⟩ = some (.slice V n d) ∧ w'.cell? ⟨w4.heap.size, 0, none⟩ = some (.int .i64 p) ∧ w'.cell? ⟨w4.heap.size, 1, none⟩ = some (.int .i64 u) ∧ w'.cell? ⟨w5.heap.size, 0, none⟩ = some (.int .i64 u) ∧ w'.cell? ⟨w5.heap.size, 1, none⟩ = some (.int .i64 v)) w' from ⟨(HXF.out.keep hh).c0, (HXF.out.keep hh).c1, (HXS.out.keep hh).c0, (HXS.out.keep hh).c1, (HXT.out.keep hh).c0, (HXT.out.keep hh).c1⟩))
    have HBd := Lib.hid (show Below W9.heap.size W9 W9.drew from (Below.refl _ _).drew)
    have HBa := Lib.hid (show Below W9.heap.size W9 (W9.alloc (.cells #[.slice none 0 0, .slice none 0 0] 24)).drew from ((Below.refl _ W9).alloc (Nat.le_refl _) _).drew)
    have HXa := Lib.hid (show Bx (W9.alloc (.cells #[.slice none 0 0, .slice none 0 0] 24)).drew W9.heap.size 24 (.slice none 0 0) (.slice none 0 0) from Bx.new W9 24 (.slice none 0 0) (.slice none 0 0))
    have HTd := Lib.hid (show Sr W9.drew W9.drew.heap.size A V n ps from ⟨HT9.out.a, HT9.out.v⟩)
    have HTa := Lib.hid (HT9.out.keep_ HBa.out)
    go_upto_region 10 with (fail)
    go_cut [18] (fun sl wx => ∃ (Wz : World) (bO : Nat) (AO VO : Option Addr) (cO dO : Nat), Wz = wx ∧ sl = .pointer (some ⟨bO, 0, none⟩) ∧ Hid (AP W9 Wz bO AO cO VO dO o1 LO))
    case first =>
      go_region_held3 (fun w' => w'.cell? ⟨w.heap.size, 0, none⟩ = some (.slice A n c) ∧ w'.cell? ⟨w.heap.size, 1, none⟩ = some (.slice V n d) ∧ w'.cell? ⟨w4.heap.size, 0, none⟩ = some (.int .i64 p) ∧ w'.cell? ⟨w4.heap.size, 1, none⟩ = some (.int .i64 u) ∧ w'.cell? ⟨w5.heap.size, 0, none⟩ = some (.int .i64 u) ∧ w'.cell? ⟨w5.heap.size, 1, none⟩ = some (.int .i64 v))
        (first | exact HSIX.out _ HBd.out | exact HSIX.out _ HBa.out | exact HSIX.out _ HBr1.out | exact HSIX.out _ (HBr1.out.alloc HBr1.out.size _) | exact HSIX.out _ HBa1.out | exact HSIX.out _ HBr2.out | exact HSIX.out _ HBs2.out | exact HSIX.out _ HBa2.out | exact HSIX.out _ (HBr2.out.alloc HBr2.out.size _) | exact HSIX.out _ ((HBa2.out.setCell (Nat.le_refl _) _).setCell (Nat.le_refl _) _) | exact HSIX.out _ ((HBs2.out.setCell HBr1s.out _).setCell HBr1s.out _) | fail)
        (first
        | (go_at_call 19; ((with_reducible refine (set_p A n c V d ps (u, v) y W9.drew HTd.out h1 HP.out HQ1b.out).mono ?_); rintro e r1 ⟨A1, c1, V1, d1, rfl, hO1, hb1⟩; have HBr1 := Lib.hid (below_drew5 hb1); have HBr1s := Lib.hid HBr1.out.size; have HM1 := Lib.hid (GivesB.mk_ hO1); clear hO1 hb1))
        | (go_at_call 19; ((with_reducible refine (set_p A n c V d ps (u, v) y (W9.alloc (.cells #[.slice none 0 0, .slice none 0 0] 24)).drew HTa.out h1 HP.out HQ1b.out).mono ?_); rintro e a1 ⟨A1, c1, V1, d1, rfl, hO1, hb1⟩; have HBa1 := Lib.hid (HBa.out.trans (hb1.mono HBa.out.size)); have HXa1 := Lib.hid (HXa.out.keep hb1); have HMa1 := Lib.hid (GivesB.mk_ hO1); clear hO1 hb1))
        | (go_at_call 19; ((with_reducible refine (set_q A1 q2.length c1 V1 d1 q2 (p, u) x r1 HM1.out rfl HR1b.out HL1b.out HQ2b.out).mono ?_); rintro e r2 ⟨A2, c2, V2, d2, rfl, hO2, hb2⟩; have HBr2 := Lib.hid (HBr1.out.trans (hb2.mono HBr1.out.size)); have HM2 := Lib.hid (GivesB.mk_ hO2); clear hO2 hb2))
        | (go_at_call 19; ((with_reducible refine (set_q A1 q2.length c1 V1 d1 q2 (p, u) x (r1.alloc (.cells #[.slice none 0 0, .slice none 0 0] 24)) (HM1.out.keep (al1 _ _)) rfl HR1b.out HL1b.out HQ2b.out).mono ?_); rintro e s2_ ⟨A2, c2, V2, d2, rfl, hO2, hb2⟩; have HXb2 := Lib.hid ((Bx.new r1 24 (.slice none 0 0) (.slice none 0 0)).keep hb2); have HBs2 := Lib.hid ((HBr1.out.alloc HBr1.out.size _).trans (hb2.mono (Nat.le_trans HBr1.out.size (al1 _ _).size))); have HM2 := Lib.hid (GivesB.mk_ hO2); have HOw := Lib.hid hO2; have fx0 := HXb2.out.c0; have fx1 := HXb2.out.c1; have ff0 := HXb2.out.f 0; have ff1 := HXb2.out.f 1; clear hO2 hb2))
        | (go_at_call 19; ((with_reducible refine (set_q A1 q2.length c1 V1 d1 q2 (p, u) x a1 HMa1.out rfl HR1b.out HL1b.out HQ2b.out).mono ?_); rintro e a2 ⟨A2, c2, V2, d2, rfl, hO2, hb2⟩; have HXa2 := Lib.hid (HXa1.out.keep hb2); have HBa2 := Lib.hid (HBa1.out.trans (hb2.mono HBa1.out.size)); have HM2 := Lib.hid (GivesB.mk_ hO2); have HOw := Lib.hid hO2; have fx0 := HXa2.out.c0; have fx1 := HXa2.out.c1; have ff0 := HXa2.out.f 0; have ff1 := HXa2.out.f 1; clear hO2 hb2))
        | fail)
      all_goals
        go_wp2_with fail
        go_meet
        first
          | exact ⟨_, _, _, _, _, _, rfl, rfl, Lib.hid (ap_new HBr2.out HM2.out HL2b.out)⟩
          | exact ⟨_, _, _, _, _, _, rfl, rfl, Lib.hid (ap_set HBs2.out HM2.out HXb2.out HBr1s.out ⟨_, HOw.out⟩ HL2b.out)⟩
          | exact ⟨_, _, _, _, _, _, rfl, rfl, Lib.hid (ap_set HBa2.out HM2.out HXa2.out (Nat.le_refl _) ⟨_, HOw.out⟩ HL2b.out)⟩

    case rest =>
      obtain ⟨W10, bP, AP_, VP, cP, dP, rfl, rfl, HP2⟩ := hcut
      have HB10 := Lib.hid (HB9.out.trans (HP2.out.b.mono HB9.out.size))
      have HXF10 := Lib.hid (HXF.out.keep HP2.out.b)
      have HXS10 := Lib.hid (HXS.out.keep HP2.out.b)
      have HXT10 := Lib.hid (HXT.out.keep HP2.out.b)
      have HT10 := Lib.hid (HT9.out.keep_ HP2.out.b)
      have HXO10 := Lib.hid (HO.out.x.keep HP2.out.b)
      have HMO10 := Lib.hid (HO.out.m.keep HP2.out.b)
      have HXP10 := Lib.hid HP2.out.x
      have HMP10 := Lib.hid HP2.out.m
      clear HSIX HBd HBa HXa HTd HTa HXF HXS HXT HT9 HB9 HO HP2
      have x1 := HXS10.out.c0
      have x2 := HXT10.out.c1
      have x3 := HXO10.out.c0
      have x4 := HXO10.out.c1
      have x5 := HXO10.out.lt
      have x3a : (W10.alloc (.cells #[.int .i64 p, .int .i64 v] 30)).cell? ⟨bO, 0, none⟩ = some (.slice AO LO cO) := cal x3
      have x4a : (W10.alloc (.cells #[.int .i64 p, .int .i64 v] 30)).cell? ⟨bO, 1, none⟩ = some (.slice VO LO dO) := cal x4
      go_wp2_with fail
      refine (set_q AO LO cO VO dO o1 (p, v) x (W10.alloc (.cells #[.int .i64 p, .int .i64 v] 30)) (HMO10.out.keep (al1 _ _)) HL2a.out HR3.out l4 HO3.out).mono ?_
      rintro e w12 ⟨AV, cV, VV, dV, rfl, hO, hb⟩
      obtain ⟨XA, hB⟩ := bx1 hb
      obtain ⟨W13, hW13⟩ : ∃ W13, w12.alloc (.cells #[.slice AV o2.length cV, .slice VV o2.length dV] 24) = W13 := ⟨_, rfl⟩
      have hB13 : Below W10.heap.size W10 W13 := by rw [← hW13]; exact hB.alloc hB.size _
      have HB13 := Lib.hid (HB10.out.trans (hB13.mono HB10.out.size))
      have HXF13 := Lib.hid (HXF10.out.keep hB13)
      have HXO13 := Lib.hid (HXO10.out.keep hB13)
      have HXP13 := Lib.hid (HXP10.out.keep hB13)
      have HXA13 := Lib.hid (show Bx W13 W10.heap.size 30 (.int .i64 p) (.int .i64 v) by rw [← hW13]; exact XA.alloc _)
      have HXV13 := Lib.hid (show Bx W13 w12.heap.size 24 (.slice AV o2.length cV) (.slice VV o2.length dV) by rw [← hW13]; exact Bx.new _ _ _ _)
      have HMV13 := Lib.hid (show Mk W13 AV VV o2 by rw [← hW13]; exact (GivesB.mk_ hO).keep (al1 _ _))
      have HMO13 := Lib.hid (HMO10.out.keep hB13)
      have HMP13 := Lib.hid (HMP10.out.keep hB13)
      have HT13 := Lib.hid (HT10.out.keep_ hB13)
      clear hO hb XA hB hB13 HXF10 HXS10 HXT10 HT10 HXO10 HMO10 HXP10 HMP10 HB10 x1 x2 x3 x4 x5 x3a x4a
      go_upto_region 13 with (fail)
      try rw [hW13]
      clear hW13
      have HTEN := Lib.hid (fun (w' : World) (hh : Below W13.heap.size W13 w') => (show (fun w' => w'.cell? ⟨bO, 0, none⟩ = some (.slice AO LO cO) ∧ w'.cell? ⟨bO, 1, none⟩ = some (.slice VO LO dO) ∧ w'.cell? ⟨bP, 0, none⟩ = some (.slice AP_ LO cP) ∧ w'.cell? ⟨bP, 1, none⟩ = some (.slice VP LO dP) ∧ w'.cell? ⟨w12.heap.size, 0, none⟩ = some (.slice AV o2.length cV) ∧ w'.cell? ⟨w12.heap.size, 1, none⟩ = some (.slice VV o2.length dV) ∧ w'.cell? ⟨w.heap.size, 0, none⟩ = some (.slice A n c) ∧ w'.cell? ⟨w.heap.size, 1, none⟩ = some (.slice V n d) ∧ w'.cell? ⟨W10.heap.size, 0, none⟩ = some (.int .i64 p) ∧ w'.cell? ⟨W10.heap.size, 1, none⟩ = some (.int .i64 v)) w' from ⟨(HXO13.out.keep hh).c0, (HXO13.out.keep hh).c1, (HXP13.out.keep hh).c0, (HXP13.out.keep hh).c1, (HXV13.out.keep hh).c0, (HXV13.out.keep hh).c1, (HXF13.out.keep hh).c0, (HXF13.out.keep hh).c1, (HXA13.out.keep hh).c0, (HXA13.out.keep hh).c1⟩))
      have HBd := Lib.hid (show Below W13.heap.size W13 W13.drew from (Below.refl _ _).drew)
      go_region_held3 (fun w' => w'.cell? ⟨bO, 0, none⟩ = some (.slice AO LO cO) ∧ w'.cell? ⟨bO, 1, none⟩ = some (.slice VO LO dO) ∧ w'.cell? ⟨bP, 0, none⟩ = some (.slice AP_ LO cP) ∧ w'.cell? ⟨bP, 1, none⟩ = some (.slice VP LO dP) ∧ w'.cell? ⟨w12.heap.size, 0, none⟩ = some (.slice AV o2.length cV) ∧ w'.cell? ⟨w12.heap.size, 1, none⟩ = some (.slice VV o2.length dV) ∧ w'.cell? ⟨w.heap.size, 0, none⟩ = some (.slice A n c) ∧ w'.cell? ⟨w.heap.size, 1, none⟩ = some (.slice V n d) ∧ w'.cell? ⟨W10.heap.size, 0, none⟩ = some (.int .i64 p) ∧ w'.cell? ⟨W10.heap.size, 1, none⟩ = some (.int .i64 v))
        (first | exact HTEN.out _ HBd.out | exact HTEN.out _ HBr1.out | exact HTEN.out _ HBr2.out | exact HTEN.out _ HBr3.out | fail)
        (first
        | (go_at_call 18; ((with_reducible refine (same_r AO LO cO VO dO AP_ LO cP VP dP o1 W13.drew HMO13.out HMP13.out HL2a.out HL2a.out l4 rfl).mono ?_); rintro e r1 ⟨rfl, hb1⟩; have HBr1 := Lib.hid (below_drew5 hb1); have HTr1 := Lib.hid (HT13.out.keep_ HBr1.out); clear hb1))
        | (go_at_call 19; ((with_reducible refine (set_p A n c V d ps (p, v) x r1 HTr1.out h1 HP.out HO4.out).mono ?_); rintro e r2 ⟨A4, c4, V4, d4, rfl, hO4, hb2⟩; have HBr2 := Lib.hid (HBr1.out.trans (hb2.mono HBr1.out.size)); have HM4 := Lib.hid (GivesB.mk_ hO4); have HMVr := Lib.hid (HMV13.out.keep HBr2.out); clear hO4 hb2))
        | (go_at_call 18; ((with_reducible refine (same_r AV o2.length cV VV dV A4 o2.length c4 V4 d4 o2 r2 HMVr.out HM4.out rfl rfl l5 rfl).mono ?_); rintro e r3 ⟨rfl, hb3⟩; have HBr3 := Lib.hid (HBr2.out.trans (hb3.mono HBr2.out.size)); clear hb3))
        | fail)
      all_goals
        go_wp2
        go_ret
        exact ⟨rfl, HB13.out.trans (HBr3.out.mono HB13.out.size)⟩

theorem walk (A : Option Addr) (n c : Nat) (V : Option Addr) (m d : Nat) (xs vs : List Int) {w : World} (G : GivenT w A n c V m d xs vs) (a : Int) (ha : 0 ≤ a ∧ a ≤ 4294967295) (b : Int) (hb : 0 ≤ b ∧ b ≤ 4294967295) (c3 : Int) (hc : 0 ≤ c3 ∧ c3 ≤ 4294967295) (x : Int) (hx : -2147483648 ≤ x ∧ x ≤ 2147483647) (y : Int) (hy : -2147483648 ≤ y ∧ y ≤ 2147483647) (w0 : World) (hw : w = w0) :
    Calls Try.prog 8 #[sg A n c V m d, .int .u32 a, .int .u32 b, .int .u32 c3, .int .i32 x, .int .i32 y] w0 fun e w' => e = .returned (.bool true) ∧ Below w0.heap.size w0 w' := by
  subst hw
  by_cases hf : n ≤ 100 ∧ m ≤ 100
  · cases hr : rg xs vs
    · exact wrong A n c V m d xs vs a b c3 x y ha hb hc hx hy w G.s hf.1 hf.2 hr
    · obtain ⟨ps, hp, rfl, rfl⟩ := rg_pairs hr
      obtain rfl : n = m := by rw [← G.s.a.1, ← G.s.v.1]; simp
      have hS : Sr w w.heap.size A V n ps := G.s
      obtain ⟨⟨p, q⟩, hpq⟩ : ∃ s, spn a b = s := ⟨_, rfl⟩
      obtain ⟨⟨u, v⟩, huv⟩ : ∃ s, spn (q - 1) c3 = s := ⟨_, rfl⟩
      have b1 := spn_bd (a := a) (b := b)
      have b2 := spn_bd (a := q - 1) (b := c3)
      rw [hpq] at b1
      rw [huv] at b2
      simp only at b1 b2
      by_cases g : u = q
      · have hfx := fits_i32 hx
        have hfy := fits_i32 hy
        have hl := hS.len
        have e1 := setR_swap hp (p := p) (q := q) (r := v) (u := x) (v := y) b1.1 b1.2.1 (by omega) b2.2.2 hfx hfy
        have e2 := setR_over hp (p := p) (q := q) (r := v) (u := x) (v := y) b1.1 b1.2.1 (by omega) b2.2.2 hfx hfy
        have k1 := setR_len ps (p, q) x
        have k2 := setR_len ps (q, v) y
        have k3 := setR_len (setR ps (p, q) x) (q, v) y
        have k4 := setR_len ps (p, v) x
        exact main A n c V d ps a b c3 x y ha hb hc hx hy p q u v hpq huv b1.1 b1.2.1 b1.2.2 b2.1 b2.2.1 b2.2.2 w hS hf.1 hp g _ _ _ _ _ rfl rfl rfl e1.symm e2 rfl (setR_right hp _ _) (setR_right hp _ _) (setR_right (setR_right hp _ _) _ _) (by omega) (by omega) rfl (by omega) (by omega)
      · exact idle A n c V d ps a b c3 x y ha hb hc hx hy p q u v hpq huv b1.1 b1.2.1 b1.2.2 b2.1 b2.2.1 b2.2.2 w hS hf.1 hp g
  · exact long A n c V m d xs vs a b c3 x y ha hb hc hx hy w G hf


set_option maxRecDepth 100000 in
theorem lifted (os : Os) (started : os.Started) (H : Type) (enc : TypeId × Value → H) :
    ReturnsInHanded {} Try.checked os 8 .any (Rows.stepApartSpec.pre6 enc Try.prog Try.f8 Rows.stepApartRow.domain false) (Rows.stepApartSpec.post enc Try.prog Try.f8 false true false false) := by
  refine returnsInHanded_of_change (C := Try.checked) Stp.own started (by kernel_rfl) Try.func8
    (ChangeSpec.witness6 (enc := enc) (C := Try.checked) false ⟨#[], #[.agg #[.slice none 0 0, .slice none 0 0], .int .u32 0, .int .u32 0, .int .u32 0, .int .i32 0, .int .i32 0], []⟩ 8 (by kernel_rfl) (by kernel_rfl) (by kernel_rfl) (by kernel_rfl)) ?_
  intro W base args ds gs before hval0 hW hcnd _
  have hval : ∀ (j : Nat) t v, Try.f8.params[j]? = some t → args[j]? = some v → Value.okWide Try.prog W .any base t v := hval0
  have hW' := hW
  obtain ⟨p, q, hA0, hV, rfl, hfz, hnd⟩ := hW
  have hA : DataW.TrodAll enc Try.prog W 0 (fun _ => true) true Try.f8.params.toList args.toList ds p := hA0
  rw [Try.params8] at hA hval
  obtain ⟨v0, vs0, d0, ds0, p0, q0, hargs, rfl, rfl, h0, r0⟩ := trodAll_cons hA
  obtain ⟨v1, vs1, d1, ds1, p1, q1, rfl, rfl, rfl, h1, r1⟩ := trodAll_cons r0
  obtain ⟨v2, vs2, d2, ds2, p2, q2, rfl, rfl, rfl, h2, r2⟩ := trodAll_cons r1
  obtain ⟨v3, vs3, d3, ds3, p3, q3, rfl, rfl, rfl, h3, r3⟩ := trodAll_cons r2
  obtain ⟨v4, vs4, d4, ds4, p4, q4, rfl, rfl, rfl, h4, r4⟩ := trodAll_cons r3
  obtain ⟨v5, vs5, d5, ds5, p5, q5, rfl, rfl, rfl, h5, r5⟩ := trodAll_cons r4
  obtain ⟨rfl, rfl, rfl⟩ := trodAll_nil r5
  obtain rfl : args = #[v0, v1, v2, v3, v4, v5] := by cases args; simp_all
  obtain ⟨rfl, rfl⟩ := trodVars_none hV
  have k0 := h0
  have lt0 : ∀ x ∈ p0, x.block < W.heap.size := by obtain ⟨m, hm⟩ := k0; exact DataW.trod_lt m _ _ _ hm
  obtain ⟨A0, n0, c0, V0, m0, e0, xs0, ys0, rfl, g0⟩ := Stp.open_step (hval 0 24 v0 rfl rfl) h0
  obtain ⟨a1, rfl, rfl, rfl, w1⟩ := open_int Try.underlying43 (hval 1 43 v1 rfl rfl) h1
  obtain ⟨a2, rfl, rfl, rfl, w2⟩ := open_int Try.underlying43 (hval 2 43 v2 rfl rfl) h2
  obtain ⟨a3, rfl, rfl, rfl, w3⟩ := open_int Try.underlying43 (hval 3 43 v3 rfl rfl) h3
  obtain ⟨a4, rfl, rfl, rfl, w4⟩ := open_int Try.underlying21 (hval 4 21 v4 rfl rfl) h4
  obtain ⟨a5, rfl, rfl, rfl, w5⟩ := open_int Try.underlying21 (hval 5 21 v5 rfl rfl) h5
  clear hA0 hval0
  refine (walk A0 n0 c0 V0 m0 e0 xs0 ys0 g0 a1 (Stp.u32_of w1) a2 (Stp.u32_of w2) a3 (Stp.u32_of w3) a4 (Stp.i32_of w4) a5 (Stp.i32_of w5) W rfl).mono fun e W' ⟨he, bel⟩ => ?_
  subst he
  exact ⟨_, rfl, _, _, _, [], _, [], hW', trodAll_mk1 (shut_bool Try.underlying4 _), (trodAll_cons_mk (Below.trod Stp.laidOut (by kernel_rfl) (of_decide_eq_true (by kernel_rfl)) k0 bel lt0) (trodAll_cons_mk (shut_int Try.underlying43 w1) (trodAll_cons_mk (shut_int Try.underlying43 w2) (trodAll_cons_mk (shut_int Try.underlying43 w3) (trodAll_cons_mk (shut_int Try.underlying21 w4) (trodAll_cons_mk (shut_int Try.underlying21 w5) trodAll_mk0)))))), rfl, bel.frame _, fun h => by cases h⟩

theorem over : Rows.stepApartRow.holds Try.pinned (OpenSpec.ofChange Rows.stepApartSpec) :=
  OpenClaim.holds_of_wide 8 Try.f8 rfl rfl rfl rfl rfl rfl rfl ⟨rfl, rfl, rfl, rfl, rfl⟩ rfl rfl rfl rfl rfl (by kernel_rfl) Try.func8 (by kernel_rfl)
    (of_decide_eq_true (by kernel_rfl)) (by unfold Func.isWrapper; first | (rw [if_pos (by decide +kernel)]; kernel_rfl) | (rw [if_neg (by decide +kernel)]; exact ⟨rfl, rfl⟩))
    (fun os started H enc _ => lifted os started H enc)

theorem proved : Rows.StepApartSaid := over
end Go.Proofs.Ytigacpjcadlkeaa.stepApart
