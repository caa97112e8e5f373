/-
  The statement StepCuts holds: for every input the call returns true, and each argument reads afterwards as it read before. Conditions: none beside those that the row itself bears.
-/
import Derived.Test.YtigacpjcadlkeaaGiven
namespace Go.Proofs.Ytigacpjcadlkeaa.stepCuts
open Go.ChangeShapes Go.WideShapes Go.ChangeAt Go.RowKit St Stp
set_option linter.unusedVariables false

set_option maxRecDepth 100000 in
set_option maxHeartbeats 2000000 in
theorem long (A : Option Addr) (n c : Nat) (V : Option Addr) (m d : Nat) (xs vs : List Int) (a b c3 : Int) (ha : 0 ≤ a ∧ a ≤ 4294967295) (hb : 0 ≤ b ∧ b ≤ 4294967295) (hc : 0 ≤ c3 ∧ c3 ≤ 4294967295) (w : World) (G : GivenT w A n c V m d xs vs) (h : ¬ (n ≤ 100 ∧ m ≤ 100)) : Calls Try.prog 9 #[sg A n c V m d, .int .u32 a, .int .u32 b, .int .u32 c3] w fun e w' => e = .returned (.bool true) ∧ Below w.heap.size w w' := by
  have hn := G.n
  have hm := G.m
  unfold maxLen at hn hm
  have C := fun w => Lib.hid (few A n c V m d w (by omega) (by omega))
  have ef : (decide (n ≤ 100) && decide (m ≤ 100)) = false := by rw [Bool.and_eq_false_iff, decide_eq_false_iff_not, decide_eq_false_iff_not]; omega
  rw [ef] at C
  clear G ef h ha hb hc
  go_enter Try.func9, Try.ntmps9
  go_wp2_with fail
  refine (awake _).mono ?_
  rintro e w1 ⟨rfl, hb⟩
  obtain ⟨XP, hB⟩ := bx1 hb
  have HB1 := Lib.hid (show Below w.heap.size w w1 from hB)
  have HXF1 := Lib.hid XP
  clear hb XP hB
  have xF0 := HXF1.out.c0
  have xF1 := HXF1.out.c1
  have xlF := HXF1.out.lt
  try simp only at xF0 xF1
  go_wp2_with fail
  refine ((C _).out).mono ?_
  rintro e w2 ⟨rfl, hb⟩
  have hB := hb
  have HB2 := Lib.hid (HB1.out.trans (hB.mono HB1.out.size))
  have HXF2 := Lib.hid (HXF1.out.keep hB)
  clear hb hB HB1 HXF1 xF0 xF1 xlF
  have xF0 := HXF2.out.c0
  have xF1 := HXF2.out.c1
  have xlF := HXF2.out.lt
  try simp only at xF0 xF1
  go_wp2
  go_ret
  exact ⟨rfl, HB2.out⟩

set_option maxRecDepth 100000 in
set_option maxHeartbeats 2000000 in
theorem wrong (A : Option Addr) (n c : Nat) (V : Option Addr) (m d : Nat) (xs vs : List Int) (a b c3 : Int) (ha : 0 ≤ a ∧ a ≤ 4294967295) (hb : 0 ≤ b ∧ b ≤ 4294967295) (hc : 0 ≤ c3 ∧ c3 ≤ 4294967295) (w : World) (hS : Sx w w.heap.size A n V m xs vs) (h1 : n ≤ 100) (h2 : m ≤ 100) (hr : rg xs vs = false) : Calls Try.prog 9 #[sg A n c V m d, .int .u32 a, .int .u32 b, .int .u32 c3] w fun e w' => e = .returned (.bool true) ∧ Below w.heap.size w w' := by
  have C := fun w => Lib.hid (few A n c V m d w (by omega) (by omega))
  have ef : (decide (n ≤ 100) && decide (m ≤ 100)) = true := by simp; omega
  rw [ef] at C
  have HS := Lib.hid hS
  have HR := Lib.hid hr
  clear hS ef hr ha hb hc
  go_enter Try.func9, Try.ntmps9
  go_wp2_with fail
  refine (awake _).mono ?_
  rintro e w1 ⟨rfl, hb⟩
  obtain ⟨XP, hB⟩ := bx1 hb
  have HB1 := Lib.hid (show Below w.heap.size w w1 from hB)
  have HXF1 := Lib.hid XP
  clear hb XP hB
  have xF0 := HXF1.out.c0
  have xF1 := HXF1.out.c1
  have xlF := HXF1.out.lt
  try simp only at xF0 xF1
  go_wp2_with fail
  refine ((C _).out).mono ?_
  rintro e w2 ⟨rfl, hb⟩
  have hB := hb
  have HB2 := Lib.hid (HB1.out.trans (hB.mono HB1.out.size))
  have HXF2 := Lib.hid (HXF1.out.keep hB)
  clear hb hB HB1 HXF1 xF0 xF1 xlF
  have xF0 := HXF2.out.c0
  have xF1 := HXF2.out.c1
  have xlF := HXF2.out.lt
  try simp only at xF0 xF1
  go_wp2_with fail
  refine (right A n c V m d xs vs _ ((HS.out.below HB2.out (Nat.le_refl _)).wide HB2.out.size) (by omega)).mono ?_
  rintro e w3 ⟨rfl, hb⟩
  have hB := hb
  have HB3 := Lib.hid (HB2.out.trans (hB.mono HB2.out.size))
  have HXF3 := Lib.hid (HXF2.out.keep hB)
  rw [HR.out]
  clear hb hB HB2 HXF2 xF0 xF1 xlF
  have xF0 := HXF3.out.c0
  have xF1 := HXF3.out.c1
  have xlF := HXF3.out.lt
  try simp only at xF0 xF1
  go_wp2
  go_ret
  exact ⟨rfl, HB3.out⟩

set_option maxRecDepth 100000 in
set_option maxHeartbeats 2000000 in
theorem idle1 (A : Option Addr) (n c : Nat) (V : Option Addr) (d : Nat) (ps : List Pr) (a b c3 : Int) (ha : 0 ≤ a ∧ a ≤ 4294967295) (hb : 0 ≤ b ∧ b ≤ 4294967295) (hc : 0 ≤ c3 ∧ c3 ≤ 4294967295) (p q u v : Int) (hpq : spn a b = (p, q)) (huv : spn (q - 1) c3 = (u, v)) (p1 : 1 ≤ p) (p2 : p ≤ q) (p3 : q ≤ 292195) (u1 : 1 ≤ u) (u2 : u ≤ v) (u3 : v ≤ 292195) (w : World) (hS : Sr w w.heap.size A V n ps) (h1 : n ≤ 100) (h : Right ps) (g : u ≠ q) : Calls Try.prog 9 #[sg A n c V n d, .int .u32 a, .int .u32 b, .int .u32 c3] w fun e w' => e = .returned (.bool true) ∧ Below w.heap.size w w' := by
  have C := fun w => Lib.hid (few A n c V n d w (by omega) (by omega))
  have ef : (decide (n ≤ 100) && decide (n ≤ 100)) = true := by simp; omega
  rw [ef] at C
  have D1 := fun w => Lib.hid (in_r a b w ha hb)
  rw [hpq] at D1
  have D2 := fun w => Lib.hid (in_r (q - 1) c3 w ⟨by omega, by omega⟩ hc)
  rw [huv] at D2
  have HS := Lib.hid hS
  have HP := Lib.hid h
  clear hS ef h ha hb hc hpq huv
  have t1 : (u == q) = false := by simpa using g
  have t2 : (u != q) = true := by simpa using g
  clear g
  go_enter Try.func9, Try.ntmps9
  go_wp2_with fail
  refine (awake _).mono ?_
  rintro e w1 ⟨rfl, hb⟩
  obtain ⟨XP, hB⟩ := bx1 hb
  have HB1 := Lib.hid (show Below w.heap.size w w1 from hB)
  have HXF1 := Lib.hid XP
  clear hb XP hB
  have xF0 := HXF1.out.c0
  have xF1 := HXF1.out.c1
  have xlF := HXF1.out.lt
  try simp only at xF0 xF1
  go_wp2_with fail
  refine ((C _).out).mono ?_
  rintro e w2 ⟨rfl, hb⟩
  have hB := hb
  have HB2 := Lib.hid (HB1.out.trans (hB.mono HB1.out.size))
  have HXF2 := Lib.hid (HXF1.out.keep hB)
  clear hb hB HB1 HXF1 xF0 xF1 xlF
  have xF0 := HXF2.out.c0
  have xF1 := HXF2.out.c1
  have xlF := HXF2.out.lt
  try simp only at xF0 xF1
  have HT2 := Lib.hid ((HS.out.below HB2.out (Nat.le_refl _)).wide HB2.out.size)
  go_wp2_with fail
  refine (right A n c V n d _ _ _ HT2.out (by omega)).mono ?_
  rintro e w3 ⟨rfl, hb⟩
  have hB := hb
  have HB3 := Lib.hid (HB2.out.trans (hB.mono HB2.out.size))
  have HXF3 := Lib.hid (HXF2.out.keep hB)
  have HT3 := Lib.hid (HT2.out.keep_ hB)
  rw [rg_of HP.out]
  clear hb hB HB2 HXF2 HT2 xF0 xF1 xlF
  have xF0 := HXF3.out.c0
  have xF1 := HXF3.out.c1
  have xlF := HXF3.out.lt
  try simp only at xF0 xF1
  go_wp2_with fail
  refine ((D1 _).out).mono ?_
  rintro e w4 ⟨rfl, hb⟩
  have hB := hb
  have HB4 := Lib.hid (HB3.out.trans (hB.mono HB3.out.size))
  have HXF4 := Lib.hid (HXF3.out.keep hB)
  have HT4 := Lib.hid (HT3.out.keep_ hB)
  clear hb hB HB3 HXF3 HT3 xF0 xF1 xlF
  have xF0 := HXF4.out.c0
  have xF1 := HXF4.out.c1
  have xlF := HXF4.out.lt
  try simp only at xF0 xF1
  go_wp2_with fail
  refine ((D2 _).out).mono ?_
  rintro e w5 ⟨rfl, hb⟩
  obtain ⟨XP, hB⟩ := bx1 hb
  have HB5 := Lib.hid (HB4.out.trans (hB.mono HB4.out.size))
  have HXF5 := Lib.hid (HXF4.out.keep hB)
  have HT5 := Lib.hid (HT4.out.keep_ hB)
  have HXS5 := Lib.hid XP
  clear hb XP hB HB4 HXF4 HT4 xF0 xF1 xlF
  have xF0 := HXF5.out.c0
  have xF1 := HXF5.out.c1
  have xlF := HXF5.out.lt
  try simp only at xF0 xF1
  have xS0 := HXS5.out.c0
  have xS1 := HXS5.out.c1
  have xlS := HXS5.out.lt
  try simp only at xS0 xS1
  go_wp2
  go_ret
  exact ⟨rfl, (HB5.out.alloc HB5.out.size _)⟩

set_option maxRecDepth 100000 in
set_option maxHeartbeats 2000000 in
theorem idle2 (A : Option Addr) (n c : Nat) (V : Option Addr) (d : Nat) (ps : List Pr) (a b c3 : Int) (ha : 0 ≤ a ∧ a ≤ 4294967295) (hb : 0 ≤ b ∧ b ≤ 4294967295) (hc : 0 ≤ c3 ∧ c3 ≤ 4294967295) (p q u v : Int) (hpq : spn a b = (p, q)) (huv : spn (q - 1) c3 = (u, v)) (p1 : 1 ≤ p) (p2 : p ≤ q) (p3 : q ≤ 292195) (u1 : 1 ≤ u) (u2 : u ≤ v) (u3 : v ≤ 292195) (w : World) (hS : Sr w w.heap.size A V n ps) (h1 : n ≤ 100) (h : Right ps) (g1 : u = q) (g : p = q) : Calls Try.prog 9 #[sg A n c V n d, .int .u32 a, .int .u32 b, .int .u32 c3] w fun e w' => e = .returned (.bool true) ∧ Below w.heap.size w w' := by
  have C := fun w => Lib.hid (few A n c V n d w (by omega) (by omega))
  have ef : (decide (n ≤ 100) && decide (n ≤ 100)) = true := by simp; omega
  rw [ef] at C
  have D1 := fun w => Lib.hid (in_r a b w ha hb)
  rw [hpq] at D1
  have D2 := fun w => Lib.hid (in_r (q - 1) c3 w ⟨by omega, by omega⟩ hc)
  rw [huv] at D2
  have HS := Lib.hid hS
  have HP := Lib.hid h
  clear hS ef h ha hb hc hpq huv
  subst g1
  subst g
  go_enter Try.func9, Try.ntmps9
  go_wp2_with fail
  refine (awake _).mono ?_
  rintro e w1 ⟨rfl, hb⟩
  obtain ⟨XP, hB⟩ := bx1 hb
  have HB1 := Lib.hid (show Below w.heap.size w w1 from hB)
  have HXF1 := Lib.hid XP
  clear hb XP hB
  have xF0 := HXF1.out.c0
  have xF1 := HXF1.out.c1
  have xlF := HXF1.out.lt
  try simp only at xF0 xF1
  go_wp2_with fail
  refine ((C _).out).mono ?_
  rintro e w2 ⟨rfl, hb⟩
  have hB := hb
  have HB2 := Lib.hid (HB1.out.trans (hB.mono HB1.out.size))
  have HXF2 := Lib.hid (HXF1.out.keep hB)
  clear hb hB HB1 HXF1 xF0 xF1 xlF
  have xF0 := HXF2.out.c0
  have xF1 := HXF2.out.c1
  have xlF := HXF2.out.lt
  try simp only at xF0 xF1
  have HT2 := Lib.hid ((HS.out.below HB2.out (Nat.le_refl _)).wide HB2.out.size)
  go_wp2_with fail
  refine (right A n c V n d _ _ _ HT2.out (by omega)).mono ?_
  rintro e w3 ⟨rfl, hb⟩
  have hB := hb
  have HB3 := Lib.hid (HB2.out.trans (hB.mono HB2.out.size))
  have HXF3 := Lib.hid (HXF2.out.keep hB)
  have HT3 := Lib.hid (HT2.out.keep_ hB)
  rw [rg_of HP.out]
  clear hb hB HB2 HXF2 HT2 xF0 xF1 xlF
  have xF0 := HXF3.out.c0
  have xF1 := HXF3.out.c1
  have xlF := HXF3.out.lt
  try simp only at xF0 xF1
  go_wp2_with fail
  refine ((D1 _).out).mono ?_
  rintro e w4 ⟨rfl, hb⟩
  have hB := hb
  have HB4 := Lib.hid (HB3.out.trans (hB.mono HB3.out.size))
  have HXF4 := Lib.hid (HXF3.out.keep hB)
  have HT4 := Lib.hid (HT3.out.keep_ hB)
  clear hb hB HB3 HXF3 HT3 xF0 xF1 xlF
  have xF0 := HXF4.out.c0
  have xF1 := HXF4.out.c1
  have xlF := HXF4.out.lt
  try simp only at xF0 xF1
  go_wp2_with fail
  refine ((D2 _).out).mono ?_
  rintro e w5 ⟨rfl, hb⟩
  obtain ⟨XP, hB⟩ := bx1 hb
  have HB5 := Lib.hid (HB4.out.trans (hB.mono HB4.out.size))
  have HXF5 := Lib.hid (HXF4.out.keep hB)
  have HT5 := Lib.hid (HT4.out.keep_ hB)
  have HXS5 := Lib.hid XP
  clear hb XP hB HB4 HXF4 HT4 xF0 xF1 xlF
  have xF0 := HXF5.out.c0
  have xF1 := HXF5.out.c1
  have xlF := HXF5.out.lt
  try simp only at xF0 xF1
  have xS0 := HXS5.out.c0
  have xS1 := HXS5.out.c1
  have xlS := HXS5.out.lt
  try simp only at xS0 xS1
  go_wp2
  go_ret
  exact ⟨rfl, (HB5.out.alloc HB5.out.size _)⟩

set_option maxRecDepth 100000 in
set_option maxHeartbeats 2000000 in
theorem idle3 (A : Option Addr) (n c : Nat) (V : Option Addr) (d : Nat) (ps : List Pr) (a b c3 : Int) (ha : 0 ≤ a ∧ a ≤ 4294967295) (hb : 0 ≤ b ∧ b ≤ 4294967295) (hc : 0 ≤ c3 ∧ c3 ≤ 4294967295) (p q u v : Int) (hpq : spn a b = (p, q)) (huv : spn (q - 1) c3 = (u, v)) (p1 : 1 ≤ p) (p2 : p ≤ q) (p3 : q ≤ 292195) (u1 : 1 ≤ u) (u2 : u ≤ v) (u3 : v ≤ 292195) (w : World) (hS : Sr w w.heap.size A V n ps) (h1 : n ≤ 100) (h : Right ps) (g1 : u = q) (g2 : p ≠ q) (g : q = v) : Calls Try.prog 9 #[sg A n c V n d, .int .u32 a, .int .u32 b, .int .u32 c3] w fun e w' => e = .returned (.bool true) ∧ Below w.heap.size w w' := by
  have C := fun w => Lib.hid (few A n c V n d w (by omega) (by omega))
  have ef : (decide (n ≤ 100) && decide (n ≤ 100)) = true := by simp; omega
  rw [ef] at C
  have D1 := fun w => Lib.hid (in_r a b w ha hb)
  rw [hpq] at D1
  have D2 := fun w => Lib.hid (in_r (q - 1) c3 w ⟨by omega, by omega⟩ hc)
  rw [huv] at D2
  have HS := Lib.hid hS
  have HP := Lib.hid h
  clear hS ef h ha hb hc hpq huv
  subst g1
  subst g
  have t1 : (p == u) = false := by simpa using g2
  clear g2
  go_enter Try.func9, Try.ntmps9
  go_wp2_with fail
  refine (awake _).mono ?_
  rintro e w1 ⟨rfl, hb⟩
  obtain ⟨XP, hB⟩ := bx1 hb
  have HB1 := Lib.hid (show Below w.heap.size w w1 from hB)
  have HXF1 := Lib.hid XP
  clear hb XP hB
  have xF0 := HXF1.out.c0
  have xF1 := HXF1.out.c1
  have xlF := HXF1.out.lt
  try simp only at xF0 xF1
  go_wp2_with fail
  refine ((C _).out).mono ?_
  rintro e w2 ⟨rfl, hb⟩
  have hB := hb
  have HB2 := Lib.hid (HB1.out.trans (hB.mono HB1.out.size))
  have HXF2 := Lib.hid (HXF1.out.keep hB)
  clear hb hB HB1 HXF1 xF0 xF1 xlF
  have xF0 := HXF2.out.c0
  have xF1 := HXF2.out.c1
  have xlF := HXF2.out.lt
  try simp only at xF0 xF1
  have HT2 := Lib.hid ((HS.out.below HB2.out (Nat.le_refl _)).wide HB2.out.size)
  go_wp2_with fail
  refine (right A n c V n d _ _ _ HT2.out (by omega)).mono ?_
  rintro e w3 ⟨rfl, hb⟩
  have hB := hb
  have HB3 := Lib.hid (HB2.out.trans (hB.mono HB2.out.size))
  have HXF3 := Lib.hid (HXF2.out.keep hB)
  have HT3 := Lib.hid (HT2.out.keep_ hB)
  rw [rg_of HP.out]
  clear hb hB HB2 HXF2 HT2 xF0 xF1 xlF
  have xF0 := HXF3.out.c0
  have xF1 := HXF3.out.c1
  have xlF := HXF3.out.lt
  try simp only at xF0 xF1
  go_wp2_with fail
  refine ((D1 _).out).mono ?_
  rintro e w4 ⟨rfl, hb⟩
  have hB := hb
  have HB4 := Lib.hid (HB3.out.trans (hB.mono HB3.out.size))
  have HXF4 := Lib.hid (HXF3.out.keep hB)
  have HT4 := Lib.hid (HT3.out.keep_ hB)
  clear hb hB HB3 HXF3 HT3 xF0 xF1 xlF
  have xF0 := HXF4.out.c0
  have xF1 := HXF4.out.c1
  have xlF := HXF4.out.lt
  try simp only at xF0 xF1
  go_wp2_with fail
  refine ((D2 _).out).mono ?_
  rintro e w5 ⟨rfl, hb⟩
  obtain ⟨XP, hB⟩ := bx1 hb
  have HB5 := Lib.hid (HB4.out.trans (hB.mono HB4.out.size))
  have HXF5 := Lib.hid (HXF4.out.keep hB)
  have HT5 := Lib.hid (HT4.out.keep_ hB)
  have HXS5 := Lib.hid XP
  clear hb XP hB HB4 HXF4 HT4 xF0 xF1 xlF
  have xF0 := HXF5.out.c0
  have xF1 := HXF5.out.c1
  have xlF := HXF5.out.lt
  try simp only at xF0 xF1
  have xS0 := HXS5.out.c0
  have xS1 := HXS5.out.c1
  have xlS := HXS5.out.lt
  try simp only at xS0 xS1
  go_wp2
  go_ret
  exact ⟨rfl, (HB5.out.alloc HB5.out.size _)⟩

set_option maxRecDepth 100000 in
set_option maxHeartbeats 4000000 in
theorem great (A : Option Addr) (n c : Nat) (V : Option Addr) (d : Nat) (ps : List Pr) (a b c3 : Int) (ha : 0 ≤ a ∧ a ≤ 4294967295) (hb : 0 ≤ b ∧ b ≤ 4294967295) (hc : 0 ≤ c3 ∧ c3 ≤ 4294967295) (p q u v : Int) (hpq : spn a b = (p, q)) (huv : spn (q - 1) c3 = (u, v)) (p1 : 1 ≤ p) (p2 : p ≤ q) (p3 : q ≤ 292195) (u1 : 1 ≤ u) (u2 : u ≤ v) (u3 : v ≤ 292195) (w : World) (hS : Sr w w.heap.size A V n ps) (h1 : n ≤ 100) (h : Right ps) (g1 : u = q) (g2 : p < q) (g3 : q < v) (x1 x2 x3 e1 e2 e3 : Int) (n1 : sv (PL ps (p, v)) = x1) (f1 : se (PL ps (p, v)) = e1) (n2 : sv (PL ps (p, q)) = x2) (f2 : se (PL ps (p, q)) = e2) (n3 : sv (PL ps (q, v)) = x3) (f3 : se (PL ps (q, v)) = e3) (he : e1 = 5) : Calls Try.prog 9 #[sg A n c V n d, .int .u32 a, .int .u32 b, .int .u32 c3] w fun e w' => e = .returned (.bool true) ∧ Below w.heap.size w w' := by
  have C := fun w => Lib.hid (few A n c V n d w (by omega) (by omega))
  have ef : (decide (n ≤ 100) && decide (n ≤ 100)) = true := by simp; omega
  rw [ef] at C
  have D1 := fun w => Lib.hid (in_r a b w ha hb)
  rw [hpq] at D1
  have D2 := fun w => Lib.hid (in_r (q - 1) c3 w ⟨by omega, by omega⟩ hc)
  rw [huv] at D2
  have HS := Lib.hid hS
  have HP := Lib.hid h
  clear hS ef h ha hb hc hpq huv
  subst g1
  have t1 : (p == u) = false := by rw [beq_eq_false_iff_ne]; omega
  have t2 : (u == v) = false := by rw [beq_eq_false_iff_ne]; omega
  have HN1 := Lib.hid n1
  have HE1 := Lib.hid f1
  have HN2 := Lib.hid n2
  have HE2 := Lib.hid f2
  have HN3 := Lib.hid n3
  have HE3 := Lib.hid f3
  clear n1 n2 n3 f1 f2 f3
  subst he
  go_enter Try.func9, Try.ntmps9
  go_wp2_with fail
  refine (awake _).mono ?_
  rintro e w1 ⟨rfl, hb⟩
  obtain ⟨XP, hB⟩ := bx1 hb
  have HB1 := Lib.hid (show Below w.heap.size w w1 from hB)
  have HXF1 := Lib.hid XP
  clear hb XP hB
  have xF0 := HXF1.out.c0
  have xF1 := HXF1.out.c1
  have xlF := HXF1.out.lt
  try simp only at xF0 xF1
  go_wp2_with fail
  refine ((C _).out).mono ?_
  rintro e w2 ⟨rfl, hb⟩
  have hB := hb
  have HB2 := Lib.hid (HB1.out.trans (hB.mono HB1.out.size))
  have HXF2 := Lib.hid (HXF1.out.keep hB)
  clear hb hB HB1 HXF1 xF0 xF1 xlF
  have xF0 := HXF2.out.c0
  have xF1 := HXF2.out.c1
  have xlF := HXF2.out.lt
  try simp only at xF0 xF1
  have HT2 := Lib.hid ((HS.out.below HB2.out (Nat.le_refl _)).wide HB2.out.size)
  go_wp2_with fail
  refine (right A n c V n d _ _ _ HT2.out (by omega)).mono ?_
  rintro e w3 ⟨rfl, hb⟩
  have hB := hb
  have HB3 := Lib.hid (HB2.out.trans (hB.mono HB2.out.size))
  have HXF3 := Lib.hid (HXF2.out.keep hB)
  have HT3 := Lib.hid (HT2.out.keep_ hB)
  rw [rg_of HP.out]
  clear hb hB HB2 HXF2 HT2 xF0 xF1 xlF
  have xF0 := HXF3.out.c0
  have xF1 := HXF3.out.c1
  have xlF := HXF3.out.lt
  try simp only at xF0 xF1
  go_wp2_with fail
  refine ((D1 _).out).mono ?_
  rintro e w4 ⟨rfl, hb⟩
  have hB := hb
  have HB4 := Lib.hid (HB3.out.trans (hB.mono HB3.out.size))
  have HXF4 := Lib.hid (HXF3.out.keep hB)
  have HT4 := Lib.hid (HT3.out.keep_ hB)
  clear hb hB HB3 HXF3 HT3 xF0 xF1 xlF
  have xF0 := HXF4.out.c0
  have xF1 := HXF4.out.c1
  have xlF := HXF4.out.lt
  try simp only at xF0 xF1
  go_wp2_with fail
  refine ((D2 _).out).mono ?_
  rintro e w5 ⟨rfl, hb⟩
  obtain ⟨XP, hB⟩ := bx1 hb
  have HB5 := Lib.hid (HB4.out.trans (hB.mono HB4.out.size))
  have HXF5 := Lib.hid (HXF4.out.keep hB)
  have HT5 := Lib.hid (HT4.out.keep_ hB)
  have HXS5 := Lib.hid XP
  clear hb XP hB HB4 HXF4 HT4 xF0 xF1 xlF
  have xF0 := HXF5.out.c0
  have xF1 := HXF5.out.c1
  have xlF := HXF5.out.lt
  try simp only at xF0 xF1
  have xS0 := HXS5.out.c0
  have xS1 := HXS5.out.c1
  have xlS := HXS5.out.lt
  try simp only at xS0 xS1
  go_wp2_with fail
  refine (sum_yes A n c V d ps (p, v) _ (HT5.out.keep_ (al1 _ _)) (by omega) HP.out (full_t (by omega) (by omega) (by omega))).mono ?_
  rintro e w6 ⟨rfl, hb⟩
  obtain ⟨XP, hB⟩ := bx1 hb
  have HB6 := Lib.hid (HB5.out.trans (hB.mono HB5.out.size))
  have HXF6 := Lib.hid (HXF5.out.keep hB)
  have HXS6 := Lib.hid (HXS5.out.keep hB)
  have HT6 := Lib.hid (HT5.out.keep_ hB)
  have HXT6 := Lib.hid XP
  simp only [show sv (pieces (val 0 ps) (cuts (p, v) ps) v) = x1 from HN1.out, show se (pieces (val 0 ps) (cuts (p, v) ps) v) = 5 from HE1.out]
  clear hb XP hB HB5 HXF5 HXS5 HT5 xF0 xF1 xlF xS0 xS1 xlS
  have xF0 := HXF6.out.c0
  have xF1 := HXF6.out.c1
  have xlF := HXF6.out.lt
  try simp only at xF0 xF1
  have xS0 := HXS6.out.c0
  have xS1 := HXS6.out.c1
  have xlS := HXS6.out.lt
  try simp only at xS0 xS1
  have xT0 := HXT6.out.c0
  have xT1 := HXT6.out.c1
  have xlT := HXT6.out.lt
  try simp only at xT0 xT1
  go_wp2_with fail
  refine (sum_yes A n c V d ps (p, u) _ HT6.out (by omega) HP.out (full_t (by omega) (by omega) (by omega))).mono ?_
  rintro e w7 ⟨rfl, hb⟩
  have hB := hb
  have HB7 := Lib.hid (HB6.out.trans (hB.mono HB6.out.size))
  have HXF7 := Lib.hid (HXF6.out.keep hB)
  have HXS7 := Lib.hid (HXS6.out.keep hB)
  have HXT7 := Lib.hid (HXT6.out.keep hB)
  have HT7 := Lib.hid (HT6.out.keep_ hB)
  simp only [show sv (pieces (val 0 ps) (cuts (p, u) ps) u) = x2 from HN2.out, show se (pieces (val 0 ps) (cuts (p, u) ps) u) = e2 from HE2.out]
  clear hb hB HB6 HXF6 HXS6 HXT6 HT6 xF0 xF1 xlF xS0 xS1 xlS xT0 xT1 xlT
  have xF0 := HXF7.out.c0
  have xF1 := HXF7.out.c1
  have xlF := HXF7.out.lt
  try simp only at xF0 xF1
  have xS0 := HXS7.out.c0
  have xS1 := HXS7.out.c1
  have xlS := HXS7.out.lt
  try simp only at xS0 xS1
  have xT0 := HXT7.out.c0
  have xT1 := HXT7.out.c1
  have xlT := HXT7.out.lt
  try simp only at xT0 xT1
  go_wp2_with fail
  refine (sum_yes A n c V d ps (u, v) _ HT7.out (by omega) HP.out (full_t (by omega) (by omega) (by omega))).mono ?_
  rintro e w8 ⟨rfl, hb⟩
  have hB := hb
  have HB8 := Lib.hid (HB7.out.trans (hB.mono HB7.out.size))
  have HXF8 := Lib.hid (HXF7.out.keep hB)
  have HXS8 := Lib.hid (HXS7.out.keep hB)
  have HXT8 := Lib.hid (HXT7.out.keep hB)
  have HT8 := Lib.hid (HT7.out.keep_ hB)
  simp only [show sv (pieces (val 0 ps) (cuts (u, v) ps) v) = x3 from HN3.out, show se (pieces (val 0 ps) (cuts (u, v) ps) v) = e3 from HE3.out]
  clear hb hB HB7 HXF7 HXS7 HXT7 HT7 xF0 xF1 xlF xS0 xS1 xlS xT0 xT1 xlT
  have xF0 := HXF8.out.c0
  have xF1 := HXF8.out.c1
  have xlF := HXF8.out.lt
  try simp only at xF0 xF1
  have xS0 := HXS8.out.c0
  have xS1 := HXS8.out.c1
  have xlS := HXS8.out.lt
  try simp only at xS0 xS1
  have xT0 := HXT8.out.c0
  have xT1 := HXT8.out.c1
  have xlT := HXT8.out.lt
  try simp only at xT0 xT1
  go_wp2
  go_ret
  exact ⟨rfl, HB8.out⟩

set_option maxRecDepth 100000 in
set_option maxHeartbeats 4000000 in
theorem fine (A : Option Addr) (n c : Nat) (V : Option Addr) (d : Nat) (ps : List Pr) (a b c3 : Int) (ha : 0 ≤ a ∧ a ≤ 4294967295) (hb : 0 ≤ b ∧ b ≤ 4294967295) (hc : 0 ≤ c3 ∧ c3 ≤ 4294967295) (p q u v : Int) (hpq : spn a b = (p, q)) (huv : spn (q - 1) c3 = (u, v)) (p1 : 1 ≤ p) (p2 : p ≤ q) (p3 : q ≤ 292195) (u1 : 1 ≤ u) (u2 : u ≤ v) (u3 : v ≤ 292195) (w : World) (hS : Sr w w.heap.size A V n ps) (h1 : n ≤ 100) (h : Right ps) (g1 : u = q) (g2 : p < q) (g3 : q < v) (x1 x2 x3 e1 e2 e3 : Int) (n1 : sv (PL ps (p, v)) = x1) (f1 : se (PL ps (p, v)) = e1) (n2 : sv (PL ps (p, q)) = x2) (f2 : se (PL ps (p, q)) = e2) (n3 : sv (PL ps (q, v)) = x3) (f3 : se (PL ps (q, v)) = e3) (he : e1 = 0) (he2 : e2 = 0) (he3 : e3 = 0) (hx : x2 + x3 = x1) (b1 : -4000000000000000000 ≤ x2) (b2 : x2 ≤ 4000000000000000000) (b3 : -4000000000000000000 ≤ x3) (b4 : x3 ≤ 4000000000000000000) : Calls Try.prog 9 #[sg A n c V n d, .int .u32 a, .int .u32 b, .int .u32 c3] w fun e w' => e = .returned (.bool true) ∧ Below w.heap.size w w' := by
  have C := fun w => Lib.hid (few A n c V n d w (by omega) (by omega))
  have ef : (decide (n ≤ 100) && decide (n ≤ 100)) = true := by simp; omega
  rw [ef] at C
  have D1 := fun w => Lib.hid (in_r a b w ha hb)
  rw [hpq] at D1
  have D2 := fun w => Lib.hid (in_r (q - 1) c3 w ⟨by omega, by omega⟩ hc)
  rw [huv] at D2
  have HS := Lib.hid hS
  have HP := Lib.hid h
  clear hS ef h ha hb hc hpq huv
  subst g1
  have t1 : (p == u) = false := by rw [beq_eq_false_iff_ne]; omega
  have t2 : (u == v) = false := by rw [beq_eq_false_iff_ne]; omega
  have HN1 := Lib.hid n1
  have HE1 := Lib.hid f1
  have HN2 := Lib.hid n2
  have HE2 := Lib.hid f2
  have HN3 := Lib.hid n3
  have HE3 := Lib.hid f3
  clear n1 n2 n3 f1 f2 f3
  subst he he2 he3
  go_enter Try.func9, Try.ntmps9
  go_wp2_with fail
  refine (awake _).mono ?_
  rintro e w1 ⟨rfl, hb⟩
  obtain ⟨XP, hB⟩ := bx1 hb
  have HB1 := Lib.hid (show Below w.heap.size w w1 from hB)
  have HXF1 := Lib.hid XP
  clear hb XP hB
  have xF0 := HXF1.out.c0
  have xF1 := HXF1.out.c1
  have xlF := HXF1.out.lt
  try simp only at xF0 xF1
  go_wp2_with fail
  refine ((C _).out).mono ?_
  rintro e w2 ⟨rfl, hb⟩
  have hB := hb
  have HB2 := Lib.hid (HB1.out.trans (hB.mono HB1.out.size))
  have HXF2 := Lib.hid (HXF1.out.keep hB)
  clear hb hB HB1 HXF1 xF0 xF1 xlF
  have xF0 := HXF2.out.c0
  have xF1 := HXF2.out.c1
  have xlF := HXF2.out.lt
  try simp only at xF0 xF1
  have HT2 := Lib.hid ((HS.out.below HB2.out (Nat.le_refl _)).wide HB2.out.size)
  go_wp2_with fail
  refine (right A n c V n d _ _ _ HT2.out (by omega)).mono ?_
  rintro e w3 ⟨rfl, hb⟩
  have hB := hb
  have HB3 := Lib.hid (HB2.out.trans (hB.mono HB2.out.size))
  have HXF3 := Lib.hid (HXF2.out.keep hB)
  have HT3 := Lib.hid (HT2.out.keep_ hB)
  rw [rg_of HP.out]
  clear hb hB HB2 HXF2 HT2 xF0 xF1 xlF
  have xF0 := HXF3.out.c0
  have xF1 := HXF3.out.c1
  have xlF := HXF3.out.lt
  try simp only at xF0 xF1
  go_wp2_with fail
  refine ((D1 _).out).mono ?_
  rintro e w4 ⟨rfl, hb⟩
  have hB := hb
  have HB4 := Lib.hid (HB3.out.trans (hB.mono HB3.out.size))
  have HXF4 := Lib.hid (HXF3.out.keep hB)
  have HT4 := Lib.hid (HT3.out.keep_ hB)
  clear hb hB HB3 HXF3 HT3 xF0 xF1 xlF
  have xF0 := HXF4.out.c0
  have xF1 := HXF4.out.c1
  have xlF := HXF4.out.lt
  try simp only at xF0 xF1
  go_wp2_with fail
  refine ((D2 _).out).mono ?_
  rintro e w5 ⟨rfl, hb⟩
  obtain ⟨XP, hB⟩ := bx1 hb
  have HB5 := Lib.hid (HB4.out.trans (hB.mono HB4.out.size))
  have HXF5 := Lib.hid (HXF4.out.keep hB)
  have HT5 := Lib.hid (HT4.out.keep_ hB)
  have HXS5 := Lib.hid XP
  clear hb XP hB HB4 HXF4 HT4 xF0 xF1 xlF
  have xF0 := HXF5.out.c0
  have xF1 := HXF5.out.c1
  have xlF := HXF5.out.lt
  try simp only at xF0 xF1
  have xS0 := HXS5.out.c0
  have xS1 := HXS5.out.c1
  have xlS := HXS5.out.lt
  try simp only at xS0 xS1
  go_wp2_with fail
  refine (sum_yes A n c V d ps (p, v) _ (HT5.out.keep_ (al1 _ _)) (by omega) HP.out (full_t (by omega) (by omega) (by omega))).mono ?_
  rintro e w6 ⟨rfl, hb⟩
  obtain ⟨XP, hB⟩ := bx1 hb
  have HB6 := Lib.hid (HB5.out.trans (hB.mono HB5.out.size))
  have HXF6 := Lib.hid (HXF5.out.keep hB)
  have HXS6 := Lib.hid (HXS5.out.keep hB)
  have HT6 := Lib.hid (HT5.out.keep_ hB)
  have HXT6 := Lib.hid XP
  simp only [show sv (pieces (val 0 ps) (cuts (p, v) ps) v) = x1 from HN1.out, show se (pieces (val 0 ps) (cuts (p, v) ps) v) = 0 from HE1.out]
  clear hb XP hB HB5 HXF5 HXS5 HT5 xF0 xF1 xlF xS0 xS1 xlS
  have xF0 := HXF6.out.c0
  have xF1 := HXF6.out.c1
  have xlF := HXF6.out.lt
  try simp only at xF0 xF1
  have xS0 := HXS6.out.c0
  have xS1 := HXS6.out.c1
  have xlS := HXS6.out.lt
  try simp only at xS0 xS1
  have xT0 := HXT6.out.c0
  have xT1 := HXT6.out.c1
  have xlT := HXT6.out.lt
  try simp only at xT0 xT1
  go_wp2_with fail
  refine (sum_yes A n c V d ps (p, u) _ HT6.out (by omega) HP.out (full_t (by omega) (by omega) (by omega))).mono ?_
  rintro e w7 ⟨rfl, hb⟩
  have hB := hb
  have HB7 := Lib.hid (HB6.out.trans (hB.mono HB6.out.size))
  have HXF7 := Lib.hid (HXF6.out.keep hB)
  have HXS7 := Lib.hid (HXS6.out.keep hB)
  have HXT7 := Lib.hid (HXT6.out.keep hB)
  have HT7 := Lib.hid (HT6.out.keep_ hB)
  simp only [show sv (pieces (val 0 ps) (cuts (p, u) ps) u) = x2 from HN2.out, show se (pieces (val 0 ps) (cuts (p, u) ps) u) = 0 from HE2.out]
  clear hb hB HB6 HXF6 HXS6 HXT6 HT6 xF0 xF1 xlF xS0 xS1 xlS xT0 xT1 xlT
  have xF0 := HXF7.out.c0
  have xF1 := HXF7.out.c1
  have xlF := HXF7.out.lt
  try simp only at xF0 xF1
  have xS0 := HXS7.out.c0
  have xS1 := HXS7.out.c1
  have xlS := HXS7.out.lt
  try simp only at xS0 xS1
  have xT0 := HXT7.out.c0
  have xT1 := HXT7.out.c1
  have xlT := HXT7.out.lt
  try simp only at xT0 xT1
  go_wp2_with fail
  refine (sum_yes A n c V d ps (u, v) _ HT7.out (by omega) HP.out (full_t (by omega) (by omega) (by omega))).mono ?_
  rintro e w8 ⟨rfl, hb⟩
  have hB := hb
  have HB8 := Lib.hid (HB7.out.trans (hB.mono HB7.out.size))
  have HXF8 := Lib.hid (HXF7.out.keep hB)
  have HXS8 := Lib.hid (HXS7.out.keep hB)
  have HXT8 := Lib.hid (HXT7.out.keep hB)
  have HT8 := Lib.hid (HT7.out.keep_ hB)
  simp only [show sv (pieces (val 0 ps) (cuts (u, v) ps) v) = x3 from HN3.out, show se (pieces (val 0 ps) (cuts (u, v) ps) v) = 0 from HE3.out]
  clear hb hB HB7 HXF7 HXS7 HXT7 HT7 xF0 xF1 xlF xS0 xS1 xlS xT0 xT1 xlT
  have xF0 := HXF8.out.c0
  have xF1 := HXF8.out.c1
  have xlF := HXF8.out.lt
  try simp only at xF0 xF1
  have xS0 := HXS8.out.c0
  have xS1 := HXS8.out.c1
  have xlS := HXS8.out.lt
  try simp only at xS0 xS1
  have xT0 := HXT8.out.c0
  have xT1 := HXT8.out.c1
  have xlT := HXT8.out.lt
  try simp only at xT0 xT1
  go_wp2
  go_ret
  exact ⟨rfl, HB8.out⟩

theorem walk (A : Option Addr) (n c : Nat) (V : Option Addr) (m d : Nat) (xs vs : List Int) {w : World} (G : GivenT w A n c V m d xs vs) (a : Int) (ha : 0 ≤ a ∧ a ≤ 4294967295) (b : Int) (hb : 0 ≤ b ∧ b ≤ 4294967295) (c3 : Int) (hc : 0 ≤ c3 ∧ c3 ≤ 4294967295) (w0 : World) (hw : w = w0) :
    Calls Try.prog 9 #[sg A n c V m d, .int .u32 a, .int .u32 b, .int .u32 c3] w0 fun e w' => e = .returned (.bool true) ∧ Below w0.heap.size w0 w' := by
  subst hw
  by_cases hf : n ≤ 100 ∧ m ≤ 100
  · cases hr : rg xs vs
    · exact wrong A n c V m d xs vs a b c3 ha hb hc w G.s hf.1 hf.2 hr
    · obtain ⟨ps, hp, rfl, rfl⟩ := rg_pairs hr
      obtain rfl : n = m := by rw [← G.s.a.1, ← G.s.v.1]; simp
      have hS : Sr w w.heap.size A V n ps := G.s
      obtain ⟨⟨p, q⟩, hpq⟩ : ∃ s, spn a b = s := ⟨_, rfl⟩
      obtain ⟨⟨u, v⟩, huv⟩ : ∃ s, spn (q - 1) c3 = s := ⟨_, rfl⟩
      have b1 := spn_bd (a := a) (b := b)
      have b2 := spn_bd (a := q - 1) (b := c3)
      rw [hpq] at b1
      rw [huv] at b2
      simp only at b1 b2
      by_cases g1 : u = q
      · by_cases g2 : p = q
        · exact idle2 A n c V d ps a b c3 ha hb hc p q u v hpq huv b1.1 b1.2.1 b1.2.2 b2.1 b2.2.1 b2.2.2 w hS hf.1 hp g1 g2
        · by_cases g3 : q = v
          · exact idle3 A n c V d ps a b c3 ha hb hc p q u v hpq huv b1.1 b1.2.1 b1.2.2 b2.1 b2.2.1 b2.2.2 w hS hf.1 hp g1 g2 g3
          · have k1 : p < q := by omega
            have k2 : q < v := by omega
            have v2 := sv_bd (PL_pos hp.1 (s := (p, q)) k1)
            have v3 := sv_bd (PL_pos hp.1 (s := (q, v)) k2)
            rcases cut_says hp.1 k1 k2 with e | ⟨e, e2, e3, hx⟩
            · exact great A n c V d ps a b c3 ha hb hc p q u v hpq huv b1.1 b1.2.1 b1.2.2 b2.1 b2.2.1 b2.2.2 w hS hf.1 hp g1 k1 k2 _ _ _ _ _ _ rfl rfl rfl rfl rfl rfl e
            · exact fine A n c V d ps a b c3 ha hb hc p q u v hpq huv b1.1 b1.2.1 b1.2.2 b2.1 b2.2.1 b2.2.2 w hS hf.1 hp g1 k1 k2 _ _ _ _ _ _ rfl rfl rfl rfl rfl rfl e e2 e3 hx v2.1 v2.2 v3.1 v3.2
      · exact idle1 A n c V d ps a b c3 ha hb hc p q u v hpq huv b1.1 b1.2.1 b1.2.2 b2.1 b2.2.1 b2.2.2 w hS hf.1 hp g1
  · exact long A n c V m d xs vs a b c3 ha hb hc w G hf


set_option maxRecDepth 100000 in
theorem lifted (os : Os) (started : os.Started) (H : Type) (enc : TypeId × Value → H) :
    ReturnsInHanded {} Try.checked os 9 .any (Rows.stepCutsSpec.pre6 enc Try.prog Try.f9 Rows.stepCutsRow.domain false) (Rows.stepCutsSpec.post enc Try.prog Try.f9 false true false false) := by
  refine returnsInHanded_of_change (C := Try.checked) Stp.own started (by kernel_rfl) Try.func9
    (ChangeSpec.witness6 (enc := enc) (C := Try.checked) false ⟨#[], #[.agg #[.slice none 0 0, .slice none 0 0], .int .u32 0, .int .u32 0, .int .u32 0], []⟩ 8 (by kernel_rfl) (by kernel_rfl) (by kernel_rfl) (by kernel_rfl)) ?_
  intro W base args ds gs before hval0 hW hcnd _
  have hval : ∀ (j : Nat) t v, Try.f9.params[j]? = some t → args[j]? = some v → Value.okWide Try.prog W .any base t v := hval0
  have hW' := hW
  obtain ⟨p, q, hA0, hV, rfl, hfz, hnd⟩ := hW
  have hA : DataW.TrodAll enc Try.prog W 0 (fun _ => true) true Try.f9.params.toList args.toList ds p := hA0
  rw [Try.params9] at hA hval
  obtain ⟨v0, vs0, d0, ds0, p0, q0, hargs, rfl, rfl, h0, r0⟩ := trodAll_cons hA
  obtain ⟨v1, vs1, d1, ds1, p1, q1, rfl, rfl, rfl, h1, r1⟩ := trodAll_cons r0
  obtain ⟨v2, vs2, d2, ds2, p2, q2, rfl, rfl, rfl, h2, r2⟩ := trodAll_cons r1
  obtain ⟨v3, vs3, d3, ds3, p3, q3, rfl, rfl, rfl, h3, r3⟩ := trodAll_cons r2
  obtain ⟨rfl, rfl, rfl⟩ := trodAll_nil r3
  obtain rfl : args = #[v0, v1, v2, v3] := by cases args; simp_all
  obtain ⟨rfl, rfl⟩ := trodVars_none hV
  have k0 := h0
  have lt0 : ∀ x ∈ p0, x.block < W.heap.size := by obtain ⟨m, hm⟩ := k0; exact DataW.trod_lt m _ _ _ hm
  obtain ⟨A0, n0, c0, V0, m0, e0, xs0, ys0, rfl, g0⟩ := Stp.open_step (hval 0 24 v0 rfl rfl) h0
  obtain ⟨a1, rfl, rfl, rfl, w1⟩ := open_int Try.underlying43 (hval 1 43 v1 rfl rfl) h1
  obtain ⟨a2, rfl, rfl, rfl, w2⟩ := open_int Try.underlying43 (hval 2 43 v2 rfl rfl) h2
  obtain ⟨a3, rfl, rfl, rfl, w3⟩ := open_int Try.underlying43 (hval 3 43 v3 rfl rfl) h3
  clear hA0 hval0
  refine (walk A0 n0 c0 V0 m0 e0 xs0 ys0 g0 a1 (Stp.u32_of w1) a2 (Stp.u32_of w2) a3 (Stp.u32_of w3) W rfl).mono fun e W' ⟨he, bel⟩ => ?_
  subst he
  exact ⟨_, rfl, _, _, _, [], _, [], hW', trodAll_mk1 (shut_bool Try.underlying4 _), (trodAll_cons_mk (Below.trod Stp.laidOut (by kernel_rfl) (of_decide_eq_true (by kernel_rfl)) k0 bel lt0) (trodAll_cons_mk (shut_int Try.underlying43 w1) (trodAll_cons_mk (shut_int Try.underlying43 w2) (trodAll_cons_mk (shut_int Try.underlying43 w3) trodAll_mk0)))), rfl, bel.frame _, fun h => by cases h⟩

theorem over : Rows.stepCutsRow.holds Try.pinned (OpenSpec.ofChange Rows.stepCutsSpec) :=
  OpenClaim.holds_of_wide 9 Try.f9 rfl rfl rfl rfl rfl rfl rfl ⟨rfl, rfl, rfl, rfl, rfl⟩ rfl rfl rfl rfl rfl (by kernel_rfl) Try.func9 (by kernel_rfl)
    (of_decide_eq_true (by kernel_rfl)) (by unfold Func.isWrapper; first | (rw [if_pos (by decide +kernel)]; kernel_rfl) | (rw [if_neg (by decide +kernel)]; exact ⟨rfl, rfl⟩))
    (fun os started H enc _ => lifted os started H enc)

theorem proved : Rows.StepCutsSaid := over
end Go.Proofs.Ytigacpjcadlkeaa.stepCuts
