/-
  The statement StepHolds holds: for every input the call returns true, and each argument reads afterwards as it read before. Conditions: none beside those that the row itself bears.
-/
import Derived.Test.YtigacpjcadlkeaaGiven
import Derived.Test.YtigacpjcadlkeaaQ
namespace Go.Proofs.Ytigacpjcadlkeaa.stepHolds
open Go.ChangeShapes Go.WideShapes Go.ChangeAt Go.RowKit St Stp
set_option linter.unusedVariables false

set_option maxRecDepth 100000 in
set_option maxHeartbeats 2000000 in
theorem long (A : Option Addr) (n c : Nat) (V : Option Addr) (m d : Nat) (xs vs : List Int) (a b x y : Int) (ha : 0 ≤ a ∧ a ≤ 4294967295) (hb : 0 ≤ b ∧ b ≤ 4294967295) (hx : -2147483648 ≤ x ∧ x ≤ 2147483647) (hy : 0 ≤ y ∧ y ≤ 4294967295) (w : World) (G : GivenT w A n c V m d xs vs) (h : ¬ (n ≤ 100 ∧ m ≤ 100)) : Calls Try.prog 7 #[sg A n c V m d, .int .u32 a, .int .u32 b, .int .i32 x, .int .u32 y] w fun e w' => e = .returned (.bool true) ∧ Below w.heap.size w w' := by
  have hn := G.n
  have hm := G.m
  unfold maxLen at hn hm
  have C := fun w => Lib.hid (few A n c V m d w (by omega) (by omega))
  have ef : (decide (n ≤ 100) && decide (m ≤ 100)) = false := by rw [Bool.and_eq_false_iff, decide_eq_false_iff_not, decide_eq_false_iff_not]; omega
  rw [ef] at C
  obtain ⟨⟨p, q⟩, hpq⟩ : ∃ s, spn a b = s := ⟨_, rfl⟩
  have D1 := fun w => Lib.hid (in_r a b w ha hb)
  rw [hpq] at D1
  clear G ef h ha hb hx hy hpq
  go_enter Try.func7, Try.ntmps7
  go_wp2_with fail
  refine (awake _).mono ?_
  rintro e w1 ⟨rfl, hb⟩
  obtain ⟨XP, hB⟩ := bx1 hb
  have HB1 := Lib.hid (show Below w.heap.size w w1 from hB)
  have HXF1 := Lib.hid XP
  clear hb XP hB
  have xF0 := HXF1.out.c0
  have xF1 := HXF1.out.c1
  have xlF := HXF1.out.lt
  try simp only at xF0 xF1
  go_wp2_with fail
  refine ((C _).out).mono ?_
  rintro e w2 ⟨rfl, hb⟩
  have hB := hb
  have HB2 := Lib.hid (HB1.out.trans (hB.mono HB1.out.size))
  have HXF2 := Lib.hid (HXF1.out.keep hB)
  clear hb hB HB1 HXF1 xF0 xF1 xlF
  have xF0 := HXF2.out.c0
  have xF1 := HXF2.out.c1
  have xlF := HXF2.out.lt
  try simp only at xF0 xF1
  go_wp2_with fail
  refine ((D1 _).out).mono ?_
  rintro e w3 ⟨rfl, hb⟩
  have hB := hb
  have HB3 := Lib.hid (HB2.out.trans (hB.mono HB2.out.size))
  have HXF3 := Lib.hid (HXF2.out.keep hB)
  clear hb hB HB2 HXF2 xF0 xF1 xlF
  have xF0 := HXF3.out.c0
  have xF1 := HXF3.out.c1
  have xlF := HXF3.out.lt
  try simp only at xF0 xF1
  go_wp2
  go_ret
  exact ⟨rfl, (HB3.out.alloc HB3.out.size _)⟩

set_option maxRecDepth 100000 in
set_option maxHeartbeats 2000000 in
theorem wrong (A : Option Addr) (n c : Nat) (V : Option Addr) (m d : Nat) (xs vs : List Int) (a b x y : Int) (ha : 0 ≤ a ∧ a ≤ 4294967295) (hb : 0 ≤ b ∧ b ≤ 4294967295) (hx : -2147483648 ≤ x ∧ x ≤ 2147483647) (hy : 0 ≤ y ∧ y ≤ 4294967295) (w : World) (hS : Sx w w.heap.size A n V m xs vs) (h1 : n ≤ 100) (h2 : m ≤ 100) (hr : rg xs vs = false) : Calls Try.prog 7 #[sg A n c V m d, .int .u32 a, .int .u32 b, .int .i32 x, .int .u32 y] w fun e w' => e = .returned (.bool true) ∧ Below w.heap.size w w' := by
  have C := fun w => Lib.hid (few A n c V m d w (by omega) (by omega))
  have ef : (decide (n ≤ 100) && decide (m ≤ 100)) = true := by simp; omega
  rw [ef] at C
  obtain ⟨⟨p, q⟩, hpq⟩ : ∃ s, spn a b = s := ⟨_, rfl⟩
  have D1 := fun w => Lib.hid (in_r a b w ha hb)
  rw [hpq] at D1
  have HS := Lib.hid hS
  have HR := Lib.hid hr
  clear hS ef hr ha hb hx hy hpq
  go_enter Try.func7, Try.ntmps7
  go_wp2_with fail
  refine (awake _).mono ?_
  rintro e w1 ⟨rfl, hb⟩
  obtain ⟨XP, hB⟩ := bx1 hb
  have HB1 := Lib.hid (show Below w.heap.size w w1 from hB)
  have HXF1 := Lib.hid XP
  clear hb XP hB
  have xF0 := HXF1.out.c0
  have xF1 := HXF1.out.c1
  have xlF := HXF1.out.lt
  try simp only at xF0 xF1
  go_wp2_with fail
  refine ((C _).out).mono ?_
  rintro e w2 ⟨rfl, hb⟩
  have hB := hb
  have HB2 := Lib.hid (HB1.out.trans (hB.mono HB1.out.size))
  have HXF2 := Lib.hid (HXF1.out.keep hB)
  clear hb hB HB1 HXF1 xF0 xF1 xlF
  have xF0 := HXF2.out.c0
  have xF1 := HXF2.out.c1
  have xlF := HXF2.out.lt
  try simp only at xF0 xF1
  go_wp2_with fail
  refine ((D1 _).out).mono ?_
  rintro e w3 ⟨rfl, hb⟩
  have hB := hb
  have HB3 := Lib.hid (HB2.out.trans (hB.mono HB2.out.size))
  have HXF3 := Lib.hid (HXF2.out.keep hB)
  clear hb hB HB2 HXF2 xF0 xF1 xlF
  have xF0 := HXF3.out.c0
  have xF1 := HXF3.out.c1
  have xlF := HXF3.out.lt
  try simp only at xF0 xF1
  have HT3 := Lib.hid ((HS.out.below HB3.out (Nat.le_refl _)).wide HB3.out.size)
  go_wp2_with fail
  refine (right A n c V m d xs vs _ (HT3.out.keep_ (al1 _ _)) (by omega)).mono ?_
  rintro e w4 ⟨rfl, hb⟩
  obtain ⟨XP, hB⟩ := bx1 hb
  have HB4 := Lib.hid (HB3.out.trans (hB.mono HB3.out.size))
  have HXF4 := Lib.hid (HXF3.out.keep hB)
  have HT4 := Lib.hid (HT3.out.keep_ hB)
  have HXS4 := Lib.hid XP
  rw [HR.out]
  clear hb XP hB HB3 HXF3 HT3 xF0 xF1 xlF
  have xF0 := HXF4.out.c0
  have xF1 := HXF4.out.c1
  have xlF := HXF4.out.lt
  try simp only at xF0 xF1
  have xS0 := HXS4.out.c0
  have xS1 := HXS4.out.c1
  have xlS := HXS4.out.lt
  try simp only at xS0 xS1
  go_wp2
  go_ret
  exact ⟨rfl, HB4.out⟩

set_option maxRecDepth 100000 in
set_option maxHeartbeats 2000000 in
theorem empty (A : Option Addr) (n c : Nat) (V : Option Addr) (d : Nat) (ps : List Pr) (a b x y : Int) (ha : 0 ≤ a ∧ a ≤ 4294967295) (hb : 0 ≤ b ∧ b ≤ 4294967295) (hx : -2147483648 ≤ x ∧ x ≤ 2147483647) (hy : 0 ≤ y ∧ y ≤ 4294967295) (p q : Int) (hpq : spn a b = (p, q)) (p1 : 1 ≤ p) (p2 : p ≤ q) (p3 : q ≤ 292195) (w : World) (hS : Sr w w.heap.size A V n ps) (h1 : n ≤ 100) (h : Right ps) (g : p = q) : Calls Try.prog 7 #[sg A n c V n d, .int .u32 a, .int .u32 b, .int .i32 x, .int .u32 y] w fun e w' => e = .returned (.bool true) ∧ Below w.heap.size w w' := by
  have C := fun w => Lib.hid (few A n c V n d w (by omega) (by omega))
  have ef : (decide (n ≤ 100) && decide (n ≤ 100)) = true := by simp; omega
  rw [ef] at C
  have D1 := fun w => Lib.hid (in_r a b w ha hb)
  rw [hpq] at D1
  have HS := Lib.hid hS
  have HP := Lib.hid h
  subst g
  clear hS ef h ha hb hx hy hpq
  go_enter Try.func7, Try.ntmps7
  go_wp2_with fail
  refine (awake _).mono ?_
  rintro e w1 ⟨rfl, hb⟩
  obtain ⟨XP, hB⟩ := bx1 hb
  have HB1 := Lib.hid (show Below w.heap.size w w1 from hB)
  have HXF1 := Lib.hid XP
  clear hb XP hB
  have xF0 := HXF1.out.c0
  have xF1 := HXF1.out.c1
  have xlF := HXF1.out.lt
  try simp only at xF0 xF1
  go_wp2_with fail
  refine ((C _).out).mono ?_
  rintro e w2 ⟨rfl, hb⟩
  have hB := hb
  have HB2 := Lib.hid (HB1.out.trans (hB.mono HB1.out.size))
  have HXF2 := Lib.hid (HXF1.out.keep hB)
  clear hb hB HB1 HXF1 xF0 xF1 xlF
  have xF0 := HXF2.out.c0
  have xF1 := HXF2.out.c1
  have xlF := HXF2.out.lt
  try simp only at xF0 xF1
  go_wp2_with fail
  refine ((D1 _).out).mono ?_
  rintro e w3 ⟨rfl, hb⟩
  have hB := hb
  have HB3 := Lib.hid (HB2.out.trans (hB.mono HB2.out.size))
  have HXF3 := Lib.hid (HXF2.out.keep hB)
  clear hb hB HB2 HXF2 xF0 xF1 xlF
  have xF0 := HXF3.out.c0
  have xF1 := HXF3.out.c1
  have xlF := HXF3.out.lt
  try simp only at xF0 xF1
  have HT3 := Lib.hid ((HS.out.below HB3.out (Nat.le_refl _)).wide HB3.out.size)
  go_wp2_with fail
  refine (right A n c V n d _ _ _ (HT3.out.keep_ (al1 _ _)) (by omega)).mono ?_
  rintro e w4 ⟨rfl, hb⟩
  obtain ⟨XP, hB⟩ := bx1 hb
  have HB4 := Lib.hid (HB3.out.trans (hB.mono HB3.out.size))
  have HXF4 := Lib.hid (HXF3.out.keep hB)
  have HT4 := Lib.hid (HT3.out.keep_ hB)
  have HXS4 := Lib.hid XP
  rw [rg_of HP.out]
  clear hb XP hB HB3 HXF3 HT3 xF0 xF1 xlF
  have xF0 := HXF4.out.c0
  have xF1 := HXF4.out.c1
  have xlF := HXF4.out.lt
  try simp only at xF0 xF1
  have xS0 := HXS4.out.c0
  have xS1 := HXS4.out.c1
  have xlS := HXS4.out.lt
  try simp only at xS0 xS1
  go_wp2
  go_ret
  exact ⟨rfl, HB4.out⟩

set_option maxRecDepth 100000 in
set_option maxHeartbeats 8000000 in
theorem inside (A : Option Addr) (n c : Nat) (V : Option Addr) (d : Nat) (ps : List Pr) (a b x y : Int) (ha : 0 ≤ a ∧ a ≤ 4294967295) (hb : 0 ≤ b ∧ b ≤ 4294967295) (hx : -2147483648 ≤ x ∧ x ≤ 2147483647) (hy : 0 ≤ y ∧ y ≤ 4294967295) (p q : Int) (hpq : spn a b = (p, q)) (p1 : 1 ≤ p) (p2 : p ≤ q) (p3 : q ≤ 292195) (w : World) (hS : Sr w w.heap.size A V n ps) (h1 : n ≤ 100) (h : Right ps) (g : p < q) (qs : List Pr) (L : Nat) (D W0 W1 Q1 : Int) (hq : setR ps (p, q) x = qs) (hl : qs.length = L) (hD : 1 + y % 292194 = D) (hw : val 0 ps D = W0) (hv1 : val 0 qs D = W1) (hv2 : val 0 qs p = x) (hQ1 : q - 1 = Q1) (hv3 : val 0 qs Q1 = x) (hqr : Right qs) (htw : setR qs (p, q) x = qs) (hL : L ≤ 200) (i1 : p ≤ D) (i2 : D < q) (hW : x = W1) : Calls Try.prog 7 #[sg A n c V n d, .int .u32 a, .int .u32 b, .int .i32 x, .int .u32 y] w fun e w' => e = .returned (.bool true) ∧ Below w.heap.size w w' := by
  have C := fun w => Lib.hid (few A n c V n d w (by omega) (by omega))
  have ef : (decide (n ≤ 100) && decide (n ≤ 100)) = true := by simp; omega
  rw [ef] at C
  have D1 := fun w => Lib.hid (in_r a b w ha hb)
  rw [hpq] at D1
  have HS := Lib.hid hS
  have HP := Lib.hid h
  have HQ := Lib.hid hq
  have HL := Lib.hid hl
  have HQL := Lib.hid hl
  have HW := Lib.hid hw
  have HQR := Lib.hid hqr
  have HTW := Lib.hid htw
  have HV1 := Lib.hid hv1
  have HV2 := Lib.hid hv2
  have HV3 := Lib.hid hv3
  have t0 : (p == q) = false := by rw [beq_eq_false_iff_ne]; omega
  have wx : IntKind.i64.wrap x = x := IntWalk.i64_in _ (by omega)
  have wQ : IntKind.i64.wrap Q1 = Q1 := IntWalk.i64_in _ (by omega)
  obtain ⟨hx1, hx2⟩ := hx
  obtain ⟨hy1, hy2⟩ := hy
  clear hS ef h ha hb hpq hq hl hw hqr htw hv1 hv2 hv3
  have d1 : decide (p ≤ D) = true := by simpa using i1
  have d2 : decide (D < q) = true := by simpa using i2
  subst hW
  clear i1 i2
  go_enter Try.func7, Try.ntmps7
  go_wp2_with fail
  refine (awake _).mono ?_
  rintro e w1 ⟨rfl, hb⟩
  obtain ⟨XP, hB⟩ := bx1 hb
  have HB1 := Lib.hid (show Below w.heap.size w w1 from hB)
  have HXF1 := Lib.hid XP
  clear hb XP hB
  have xF0 := HXF1.out.c0
  have xF1 := HXF1.out.c1
  have xlF := HXF1.out.lt
  try simp only at xF0 xF1
  go_wp2_with fail
  refine ((C _).out).mono ?_
  rintro e w2 ⟨rfl, hb⟩
  have hB := hb
  have HB2 := Lib.hid (HB1.out.trans (hB.mono HB1.out.size))
  have HXF2 := Lib.hid (HXF1.out.keep hB)
  clear hb hB HB1 HXF1 xF0 xF1 xlF
  have xF0 := HXF2.out.c0
  have xF1 := HXF2.out.c1
  have xlF := HXF2.out.lt
  try simp only at xF0 xF1
  go_wp2_with fail
  refine ((D1 _).out).mono ?_
  rintro e w3 ⟨rfl, hb⟩
  have hB := hb
  have HB3 := Lib.hid (HB2.out.trans (hB.mono HB2.out.size))
  have HXF3 := Lib.hid (HXF2.out.keep hB)
  clear hb hB HB2 HXF2 xF0 xF1 xlF
  have xF0 := HXF3.out.c0
  have xF1 := HXF3.out.c1
  have xlF := HXF3.out.lt
  try simp only at xF0 xF1
  have HT3 := Lib.hid ((HS.out.below HB3.out (Nat.le_refl _)).wide HB3.out.size)
  go_wp2_with fail
  refine (right A n c V n d _ _ _ (HT3.out.keep_ (al1 _ _)) (by omega)).mono ?_
  rintro e w4 ⟨rfl, hb⟩
  obtain ⟨XP, hB⟩ := bx1 hb
  have HB4 := Lib.hid (HB3.out.trans (hB.mono HB3.out.size))
  have HXF4 := Lib.hid (HXF3.out.keep hB)
  have HT4 := Lib.hid (HT3.out.keep_ hB)
  have HXS4 := Lib.hid XP
  rw [rg_of HP.out]
  clear hb XP hB HB3 HXF3 HT3 xF0 xF1 xlF
  have xF0 := HXF4.out.c0
  have xF1 := HXF4.out.c1
  have xlF := HXF4.out.lt
  try simp only at xF0 xF1
  have xS0 := HXS4.out.c0
  have xS1 := HXS4.out.c1
  have xlS := HXS4.out.lt
  try simp only at xS0 xS1
  go_wp2_with fail
  refine (set_ A n c V d ps (p, q) x _ HT4.out (by omega) HP.out).mono ?_
  rintro e w5 ⟨AG, cG, VG, dG, rfl, hO, hb⟩
  have hB := hb
  have HB5 := Lib.hid (HB4.out.trans (hB.mono HB4.out.size))
  have HXF5 := Lib.hid (HXF4.out.keep hB)
  have HXS5 := Lib.hid (HXS4.out.keep hB)
  have HT5 := Lib.hid (HT4.out.keep_ hB)
  have HG5 := Lib.hid (GivesB.mk_ hO)
  clear hO
  rw [HQ.out] at HG5
  rw [HQ.out]
  rw [HL.out]
  clear hb hB HB4 HXF4 HXS4 HT4 xF0 xF1 xlF xS0 xS1 xlS
  have xF0 := HXF5.out.c0
  have xF1 := HXF5.out.c1
  have xlF := HXF5.out.lt
  try simp only at xF0 xF1
  have xS0 := HXS5.out.c0
  have xS1 := HXS5.out.c1
  have xlS := HXS5.out.lt
  try simp only at xS0 xS1
  go_wp2_with fail
  refine (at_yes A n c V d ps D _ (HT5.out.keep_ (al1 _ _)) (by omega) HP.out).mono ?_
  rintro e w6 ⟨rfl, hb⟩
  obtain ⟨XP, hB⟩ := bx1 hb
  have HB6 := Lib.hid (HB5.out.trans (hB.mono HB5.out.size))
  have HXF6 := Lib.hid (HXF5.out.keep hB)
  have HXS6 := Lib.hid (HXS5.out.keep hB)
  have HT6 := Lib.hid (HT5.out.keep_ hB)
  have HG6 := Lib.hid (HG5.out.keep hB)
  have HXG6 := Lib.hid XP
  rw [HW.out]
  clear hb XP hB HB5 HXF5 HXS5 HT5 HG5 xF0 xF1 xlF xS0 xS1 xlS
  have xF0 := HXF6.out.c0
  have xF1 := HXF6.out.c1
  have xlF := HXF6.out.lt
  try simp only at xF0 xF1
  have xS0 := HXS6.out.c0
  have xS1 := HXS6.out.c1
  have xlS := HXS6.out.lt
  try simp only at xS0 xS1
  have xG0 := HXG6.out.c0
  have xG1 := HXG6.out.c1
  have xlG := HXG6.out.lt
  try simp only at xG0 xG1
  go_wp2
  go_region_held3 (fun w' => w'.cell? ⟨w5.heap.size, 0, none⟩ = some (.slice AG L cG) ∧ w'.cell? ⟨w5.heap.size, 1, none⟩ = some (.slice VG L dG) ∧ w'.cell? ⟨w3.heap.size, 0, none⟩ = some (.int .i64 p) ∧ w'.cell? ⟨w3.heap.size, 1, none⟩ = some (.int .i64 q))
      (first | exact ⟨xG0, xG1, xS0, xS1⟩ | (with_reducible exact ⟨g10, g11, s10, s11⟩) | (with_reducible exact ⟨g20, g21, s20, s21⟩) | (with_reducible exact ⟨g30, g31, s30, s31⟩) | (with_reducible exact ⟨g40, g41, s40, s41⟩) | (with_reducible exact ⟨g50, g51, s50, s51⟩) | (with_reducible exact ⟨g60, g61, s60, s61⟩) | fail)
      (first
      | (go_at_call 14; ((with_reducible refine (right_q AG L cG VG dG qs w6.drew HG6.out HQL.out HQR.out hL rfl).mono ?_); rintro e r1 ⟨rfl, hbr⟩; have HBr1 := Lib.hid (below_drew5 hbr); have HGr1 := Lib.hid (HXG6.out.keep HBr1.out); have HSr1 := Lib.hid (HXS6.out.keep HBr1.out); have g10 := HGr1.out.c0; have g11 := HGr1.out.c1; have s10 := HSr1.out.c0; have s11 := HSr1.out.c1; have HMr1 := Lib.hid (HG6.out.keep HBr1.out); clear hbr))
      | (go_at_call 16; ((with_reducible refine (at_q AG L cG VG dG qs D _ r1 HMr1.out HQL.out HQR.out hL HV1.out).mono ?_); rintro e r2 ⟨rfl, hbr⟩; have HBr2 := Lib.hid (HBr1.out.trans (hbr.mono HBr1.out.size)); have HGr2 := Lib.hid (HXG6.out.keep HBr2.out); have HSr2 := Lib.hid (HXS6.out.keep HBr2.out); have g20 := HGr2.out.c0; have g21 := HGr2.out.c1; have s20 := HSr2.out.c0; have s21 := HSr2.out.c1; have HMr2 := Lib.hid (HG6.out.keep HBr2.out); clear hbr))
      | (go_at_call 16; ((with_reducible refine (at_q AG L cG VG dG qs p _ r2 HMr2.out HQL.out HQR.out hL HV2.out).mono ?_); rintro e r3 ⟨rfl, hbr⟩; have HBr3 := Lib.hid (HBr2.out.trans (hbr.mono HBr2.out.size)); have HGr3 := Lib.hid (HXG6.out.keep HBr3.out); have HSr3 := Lib.hid (HXS6.out.keep HBr3.out); have g30 := HGr3.out.c0; have g31 := HGr3.out.c1; have s30 := HSr3.out.c0; have s31 := HSr3.out.c1; have HMr3 := Lib.hid (HG6.out.keep HBr3.out); clear hbr))
      | (go_at_call 16; ((with_reducible refine (at_q AG L cG VG dG qs Q1 _ r3 HMr3.out HQL.out HQR.out hL HV3.out).mono ?_); rintro e r4 ⟨rfl, hbr⟩; have HBr4 := Lib.hid (HBr3.out.trans (hbr.mono HBr3.out.size)); have HGr4 := Lib.hid (HXG6.out.keep HBr4.out); have HSr4 := Lib.hid (HXS6.out.keep HBr4.out); have g40 := HGr4.out.c0; have g41 := HGr4.out.c1; have s40 := HSr4.out.c0; have s41 := HSr4.out.c1; have HMr4 := Lib.hid (HG6.out.keep HBr4.out); clear hbr))
      | (go_at_call 19; ((with_reducible refine (set_q AG L cG VG dG qs (p, q) x r4 HMr4.out HQL.out HQR.out hL HTW.out).mono ?_); rintro e r5 ⟨AH, cH, VH, dH, rfl, hOr, hbr⟩; have HO5 := Lib.hid (GivesB.mk_ hOr); have HBr5 := Lib.hid (HBr4.out.trans (hbr.mono HBr4.out.size)); have HGr5 := Lib.hid (HXG6.out.keep HBr5.out); have HSr5 := Lib.hid (HXS6.out.keep HBr5.out); have g50 := HGr5.out.c0; have g51 := HGr5.out.c1; have s50 := HSr5.out.c0; have s51 := HSr5.out.c1; have HMr5 := Lib.hid (HG6.out.keep HBr5.out); clear hbr hOr))
      | (go_at_call 18; ((with_reducible refine (same_q AH cH VH dH AG L cG VG dG qs r5 HO5.out HMr5.out HQL.out hL).mono ?_); rintro e r6 ⟨rfl, hbr⟩; have HBr6 := Lib.hid (HBr5.out.trans (hbr.mono HBr5.out.size)); have HGr6 := Lib.hid (HXG6.out.keep HBr6.out); have HSr6 := Lib.hid (HXS6.out.keep HBr6.out); have g60 := HGr6.out.c0; have g61 := HGr6.out.c1; have s60 := HSr6.out.c0; have s61 := HSr6.out.c1; have HMr6 := Lib.hid (HG6.out.keep HBr6.out); skip; clear hbr))
      | fail)
  all_goals
    go_wp2
    go_ret
    exact ⟨rfl, HB6.out.trans (HBr6.out.mono HB6.out.size)⟩

set_option maxRecDepth 100000 in
set_option maxHeartbeats 8000000 in
theorem ahead (A : Option Addr) (n c : Nat) (V : Option Addr) (d : Nat) (ps : List Pr) (a b x y : Int) (ha : 0 ≤ a ∧ a ≤ 4294967295) (hb : 0 ≤ b ∧ b ≤ 4294967295) (hx : -2147483648 ≤ x ∧ x ≤ 2147483647) (hy : 0 ≤ y ∧ y ≤ 4294967295) (p q : Int) (hpq : spn a b = (p, q)) (p1 : 1 ≤ p) (p2 : p ≤ q) (p3 : q ≤ 292195) (w : World) (hS : Sr w w.heap.size A V n ps) (h1 : n ≤ 100) (h : Right ps) (g : p < q) (qs : List Pr) (L : Nat) (D W0 W1 Q1 : Int) (hq : setR ps (p, q) x = qs) (hl : qs.length = L) (hD : 1 + y % 292194 = D) (hw : val 0 ps D = W0) (hv1 : val 0 qs D = W1) (hv2 : val 0 qs p = x) (hQ1 : q - 1 = Q1) (hv3 : val 0 qs Q1 = x) (hqr : Right qs) (htw : setR qs (p, q) x = qs) (hL : L ≤ 200) (i1 : D < p) (hW : W0 = W1) : Calls Try.prog 7 #[sg A n c V n d, .int .u32 a, .int .u32 b, .int .i32 x, .int .u32 y] w fun e w' => e = .returned (.bool true) ∧ Below w.heap.size w w' := by
  have C := fun w => Lib.hid (few A n c V n d w (by omega) (by omega))
  have ef : (decide (n ≤ 100) && decide (n ≤ 100)) = true := by simp; omega
  rw [ef] at C
  have D1 := fun w => Lib.hid (in_r a b w ha hb)
  rw [hpq] at D1
  have HS := Lib.hid hS
  have HP := Lib.hid h
  have HQ := Lib.hid hq
  have HL := Lib.hid hl
  have HQL := Lib.hid hl
  have HW := Lib.hid hw
  have HQR := Lib.hid hqr
  have HTW := Lib.hid htw
  have HV1 := Lib.hid hv1
  have HV2 := Lib.hid hv2
  have HV3 := Lib.hid hv3
  have t0 : (p == q) = false := by rw [beq_eq_false_iff_ne]; omega
  have wx : IntKind.i64.wrap x = x := IntWalk.i64_in _ (by omega)
  have wQ : IntKind.i64.wrap Q1 = Q1 := IntWalk.i64_in _ (by omega)
  obtain ⟨hx1, hx2⟩ := hx
  obtain ⟨hy1, hy2⟩ := hy
  clear hS ef h ha hb hpq hq hl hw hqr htw hv1 hv2 hv3
  have d1 : decide (p ≤ D) = false := by rw [decide_eq_false_iff_not]; omega
  subst hW
  clear i1
  go_enter Try.func7, Try.ntmps7
  go_wp2_with fail
  refine (awake _).mono ?_
  rintro e w1 ⟨rfl, hb⟩
  obtain ⟨XP, hB⟩ := bx1 hb
  have HB1 := Lib.hid (show Below w.heap.size w w1 from hB)
  have HXF1 := Lib.hid XP
  clear hb XP hB
  have xF0 := HXF1.out.c0
  have xF1 := HXF1.out.c1
  have xlF := HXF1.out.lt
  try simp only at xF0 xF1
  go_wp2_with fail
  refine ((C _).out).mono ?_
  rintro e w2 ⟨rfl, hb⟩
  have hB := hb
  have HB2 := Lib.hid (HB1.out.trans (hB.mono HB1.out.size))
  have HXF2 := Lib.hid (HXF1.out.keep hB)
  clear hb hB HB1 HXF1 xF0 xF1 xlF
  have xF0 := HXF2.out.c0
  have xF1 := HXF2.out.c1
  have xlF := HXF2.out.lt
  try simp only at xF0 xF1
  go_wp2_with fail
  refine ((D1 _).out).mono ?_
  rintro e w3 ⟨rfl, hb⟩
  have hB := hb
  have HB3 := Lib.hid (HB2.out.trans (hB.mono HB2.out.size))
  have HXF3 := Lib.hid (HXF2.out.keep hB)
  clear hb hB HB2 HXF2 xF0 xF1 xlF
  have xF0 := HXF3.out.c0
  have xF1 := HXF3.out.c1
  have xlF := HXF3.out.lt
  try simp only at xF0 xF1
  have HT3 := Lib.hid ((HS.out.below HB3.out (Nat.le_refl _)).wide HB3.out.size)
  go_wp2_with fail
  refine (right A n c V n d _ _ _ (HT3.out.keep_ (al1 _ _)) (by omega)).mono ?_
  rintro e w4 ⟨rfl, hb⟩
  obtain ⟨XP, hB⟩ := bx1 hb
  have HB4 := Lib.hid (HB3.out.trans (hB.mono HB3.out.size))
  have HXF4 := Lib.hid (HXF3.out.keep hB)
  have HT4 := Lib.hid (HT3.out.keep_ hB)
  have HXS4 := Lib.hid XP
  rw [rg_of HP.out]
  clear hb XP hB HB3 HXF3 HT3 xF0 xF1 xlF
  have xF0 := HXF4.out.c0
  have xF1 := HXF4.out.c1
  have xlF := HXF4.out.lt
  try simp only at xF0 xF1
  have xS0 := HXS4.out.c0
  have xS1 := HXS4.out.c1
  have xlS := HXS4.out.lt
  try simp only at xS0 xS1
  go_wp2_with fail
  refine (set_ A n c V d ps (p, q) x _ HT4.out (by omega) HP.out).mono ?_
  rintro e w5 ⟨AG, cG, VG, dG, rfl, hO, hb⟩
  have hB := hb
  have HB5 := Lib.hid (HB4.out.trans (hB.mono HB4.out.size))
  have HXF5 := Lib.hid (HXF4.out.keep hB)
  have HXS5 := Lib.hid (HXS4.out.keep hB)
  have HT5 := Lib.hid (HT4.out.keep_ hB)
  have HG5 := Lib.hid (GivesB.mk_ hO)
  clear hO
  rw [HQ.out] at HG5
  rw [HQ.out]
  rw [HL.out]
  clear hb hB HB4 HXF4 HXS4 HT4 xF0 xF1 xlF xS0 xS1 xlS
  have xF0 := HXF5.out.c0
  have xF1 := HXF5.out.c1
  have xlF := HXF5.out.lt
  try simp only at xF0 xF1
  have xS0 := HXS5.out.c0
  have xS1 := HXS5.out.c1
  have xlS := HXS5.out.lt
  try simp only at xS0 xS1
  go_wp2_with fail
  refine (at_yes A n c V d ps D _ (HT5.out.keep_ (al1 _ _)) (by omega) HP.out).mono ?_
  rintro e w6 ⟨rfl, hb⟩
  obtain ⟨XP, hB⟩ := bx1 hb
  have HB6 := Lib.hid (HB5.out.trans (hB.mono HB5.out.size))
  have HXF6 := Lib.hid (HXF5.out.keep hB)
  have HXS6 := Lib.hid (HXS5.out.keep hB)
  have HT6 := Lib.hid (HT5.out.keep_ hB)
  have HG6 := Lib.hid (HG5.out.keep hB)
  have HXG6 := Lib.hid XP
  rw [HW.out]
  clear hb XP hB HB5 HXF5 HXS5 HT5 HG5 xF0 xF1 xlF xS0 xS1 xlS
  have xF0 := HXF6.out.c0
  have xF1 := HXF6.out.c1
  have xlF := HXF6.out.lt
  try simp only at xF0 xF1
  have xS0 := HXS6.out.c0
  have xS1 := HXS6.out.c1
  have xlS := HXS6.out.lt
  try simp only at xS0 xS1
  have xG0 := HXG6.out.c0
  have xG1 := HXG6.out.c1
  have xlG := HXG6.out.lt
  try simp only at xG0 xG1
  go_wp2
  go_region_held3 (fun w' => w'.cell? ⟨w5.heap.size, 0, none⟩ = some (.slice AG L cG) ∧ w'.cell? ⟨w5.heap.size, 1, none⟩ = some (.slice VG L dG) ∧ w'.cell? ⟨w3.heap.size, 0, none⟩ = some (.int .i64 p) ∧ w'.cell? ⟨w3.heap.size, 1, none⟩ = some (.int .i64 q))
      (first | exact ⟨xG0, xG1, xS0, xS1⟩ | (with_reducible exact ⟨g10, g11, s10, s11⟩) | (with_reducible exact ⟨g20, g21, s20, s21⟩) | (with_reducible exact ⟨g30, g31, s30, s31⟩) | (with_reducible exact ⟨g40, g41, s40, s41⟩) | (with_reducible exact ⟨g50, g51, s50, s51⟩) | (with_reducible exact ⟨g60, g61, s60, s61⟩) | fail)
      (first
      | (go_at_call 14; ((with_reducible refine (right_q AG L cG VG dG qs w6.drew HG6.out HQL.out HQR.out hL rfl).mono ?_); rintro e r1 ⟨rfl, hbr⟩; have HBr1 := Lib.hid (below_drew5 hbr); have HGr1 := Lib.hid (HXG6.out.keep HBr1.out); have HSr1 := Lib.hid (HXS6.out.keep HBr1.out); have g10 := HGr1.out.c0; have g11 := HGr1.out.c1; have s10 := HSr1.out.c0; have s11 := HSr1.out.c1; have HMr1 := Lib.hid (HG6.out.keep HBr1.out); clear hbr))
      | (go_at_call 16; ((with_reducible refine (at_q AG L cG VG dG qs D _ r1 HMr1.out HQL.out HQR.out hL HV1.out).mono ?_); rintro e r2 ⟨rfl, hbr⟩; have HBr2 := Lib.hid (HBr1.out.trans (hbr.mono HBr1.out.size)); have HGr2 := Lib.hid (HXG6.out.keep HBr2.out); have HSr2 := Lib.hid (HXS6.out.keep HBr2.out); have g20 := HGr2.out.c0; have g21 := HGr2.out.c1; have s20 := HSr2.out.c0; have s21 := HSr2.out.c1; have HMr2 := Lib.hid (HG6.out.keep HBr2.out); clear hbr))
      | (go_at_call 16; ((with_reducible refine (at_q AG L cG VG dG qs p _ r2 HMr2.out HQL.out HQR.out hL HV2.out).mono ?_); rintro e r3 ⟨rfl, hbr⟩; have HBr3 := Lib.hid (HBr2.out.trans (hbr.mono HBr2.out.size)); have HGr3 := Lib.hid (HXG6.out.keep HBr3.out); have HSr3 := Lib.hid (HXS6.out.keep HBr3.out); have g30 := HGr3.out.c0; have g31 := HGr3.out.c1; have s30 := HSr3.out.c0; have s31 := HSr3.out.c1; have HMr3 := Lib.hid (HG6.out.keep HBr3.out); clear hbr))
      | (go_at_call 16; ((with_reducible refine (at_q AG L cG VG dG qs Q1 _ r3 HMr3.out HQL.out HQR.out hL HV3.out).mono ?_); rintro e r4 ⟨rfl, hbr⟩; have HBr4 := Lib.hid (HBr3.out.trans (hbr.mono HBr3.out.size)); have HGr4 := Lib.hid (HXG6.out.keep HBr4.out); have HSr4 := Lib.hid (HXS6.out.keep HBr4.out); have g40 := HGr4.out.c0; have g41 := HGr4.out.c1; have s40 := HSr4.out.c0; have s41 := HSr4.out.c1; have HMr4 := Lib.hid (HG6.out.keep HBr4.out); clear hbr))
      | (go_at_call 19; ((with_reducible refine (set_q AG L cG VG dG qs (p, q) x r4 HMr4.out HQL.out HQR.out hL HTW.out).mono ?_); rintro e r5 ⟨AH, cH, VH, dH, rfl, hOr, hbr⟩; have HO5 := Lib.hid (GivesB.mk_ hOr); have HBr5 := Lib.hid (HBr4.out.trans (hbr.mono HBr4.out.size)); have HGr5 := Lib.hid (HXG6.out.keep HBr5.out); have HSr5 := Lib.hid (HXS6.out.keep HBr5.out); have g50 := HGr5.out.c0; have g51 := HGr5.out.c1; have s50 := HSr5.out.c0; have s51 := HSr5.out.c1; have HMr5 := Lib.hid (HG6.out.keep HBr5.out); clear hbr hOr))
      | (go_at_call 18; ((with_reducible refine (same_q AH cH VH dH AG L cG VG dG qs r5 HO5.out HMr5.out HQL.out hL).mono ?_); rintro e r6 ⟨rfl, hbr⟩; have HBr6 := Lib.hid (HBr5.out.trans (hbr.mono HBr5.out.size)); have HGr6 := Lib.hid (HXG6.out.keep HBr6.out); have HSr6 := Lib.hid (HXS6.out.keep HBr6.out); have g60 := HGr6.out.c0; have g61 := HGr6.out.c1; have s60 := HSr6.out.c0; have s61 := HSr6.out.c1; have HMr6 := Lib.hid (HG6.out.keep HBr6.out); skip; clear hbr))
      | fail)
  all_goals
    go_wp2
    go_ret
    exact ⟨rfl, HB6.out.trans (HBr6.out.mono HB6.out.size)⟩

set_option maxRecDepth 100000 in
set_option maxHeartbeats 8000000 in
theorem behind (A : Option Addr) (n c : Nat) (V : Option Addr) (d : Nat) (ps : List Pr) (a b x y : Int) (ha : 0 ≤ a ∧ a ≤ 4294967295) (hb : 0 ≤ b ∧ b ≤ 4294967295) (hx : -2147483648 ≤ x ∧ x ≤ 2147483647) (hy : 0 ≤ y ∧ y ≤ 4294967295) (p q : Int) (hpq : spn a b = (p, q)) (p1 : 1 ≤ p) (p2 : p ≤ q) (p3 : q ≤ 292195) (w : World) (hS : Sr w w.heap.size A V n ps) (h1 : n ≤ 100) (h : Right ps) (g : p < q) (qs : List Pr) (L : Nat) (D W0 W1 Q1 : Int) (hq : setR ps (p, q) x = qs) (hl : qs.length = L) (hD : 1 + y % 292194 = D) (hw : val 0 ps D = W0) (hv1 : val 0 qs D = W1) (hv2 : val 0 qs p = x) (hQ1 : q - 1 = Q1) (hv3 : val 0 qs Q1 = x) (hqr : Right qs) (htw : setR qs (p, q) x = qs) (hL : L ≤ 200) (i1 : p ≤ D) (i2 : q ≤ D) (hW : W0 = W1) : Calls Try.prog 7 #[sg A n c V n d, .int .u32 a, .int .u32 b, .int .i32 x, .int .u32 y] w fun e w' => e = .returned (.bool true) ∧ Below w.heap.size w w' := by
  have C := fun w => Lib.hid (few A n c V n d w (by omega) (by omega))
  have ef : (decide (n ≤ 100) && decide (n ≤ 100)) = true := by simp; omega
  rw [ef] at C
  have D1 := fun w => Lib.hid (in_r a b w ha hb)
  rw [hpq] at D1
  have HS := Lib.hid hS
  have HP := Lib.hid h
  have HQ := Lib.hid hq
  have HL := Lib.hid hl
  have HQL := Lib.hid hl
  have HW := Lib.hid hw
  have HQR := Lib.hid hqr
  have HTW := Lib.hid htw
  have HV1 := Lib.hid hv1
  have HV2 := Lib.hid hv2
  have HV3 := Lib.hid hv3
  have t0 : (p == q) = false := by rw [beq_eq_false_iff_ne]; omega
  have wx : IntKind.i64.wrap x = x := IntWalk.i64_in _ (by omega)
  have wQ : IntKind.i64.wrap Q1 = Q1 := IntWalk.i64_in _ (by omega)
  obtain ⟨hx1, hx2⟩ := hx
  obtain ⟨hy1, hy2⟩ := hy
  clear hS ef h ha hb hpq hq hl hw hqr htw hv1 hv2 hv3
  have d1 : decide (p ≤ D) = true := by simpa using i1
  have d2 : decide (D < q) = false := by rw [decide_eq_false_iff_not]; omega
  subst hW
  clear i1 i2
  go_enter Try.func7, Try.ntmps7
  go_wp2_with fail
  refine (awake _).mono ?_
  rintro e w1 ⟨rfl, hb⟩
  obtain ⟨XP, hB⟩ := bx1 hb
  have HB1 := Lib.hid (show Below w.heap.size w w1 from hB)
  have HXF1 := Lib.hid XP
  clear hb XP hB
  have xF0 := HXF1.out.c0
  have xF1 := HXF1.out.c1
  have xlF := HXF1.out.lt
  try simp only at xF0 xF1
  go_wp2_with fail
  refine ((C _).out).mono ?_
  rintro e w2 ⟨rfl, hb⟩
  have hB := hb
  have HB2 := Lib.hid (HB1.out.trans (hB.mono HB1.out.size))
  have HXF2 := Lib.hid (HXF1.out.keep hB)
  clear hb hB HB1 HXF1 xF0 xF1 xlF
  have xF0 := HXF2.out.c0
  have xF1 := HXF2.out.c1
  have xlF := HXF2.out.lt
  try simp only at xF0 xF1
  go_wp2_with fail
  refine ((D1 _).out).mono ?_
  rintro e w3 ⟨rfl, hb⟩
  have hB := hb
  have HB3 := Lib.hid (HB2.out.trans (hB.mono HB2.out.size))
  have HXF3 := Lib.hid (HXF2.out.keep hB)
  clear hb hB HB2 HXF2 xF0 xF1 xlF
  have xF0 := HXF3.out.c0
  have xF1 := HXF3.out.c1
  have xlF := HXF3.out.lt
  try simp only at xF0 xF1
  have HT3 := Lib.hid ((HS.out.below HB3.out (Nat.le_refl _)).wide HB3.out.size)
  go_wp2_with fail
  refine (right A n c V n d _ _ _ (HT3.out.keep_ (al1 _ _)) (by omega)).mono ?_
  rintro e w4 ⟨rfl, hb⟩
  obtain ⟨XP, hB⟩ := bx1 hb
  have HB4 := Lib.hid (HB3.out.trans (hB.mono HB3.out.size))
  have HXF4 := Lib.hid (HXF3.out.keep hB)
  have HT4 := Lib.hid (HT3.out.keep_ hB)
  have HXS4 := Lib.hid XP
  rw [rg_of HP.out]
  clear hb XP hB HB3 HXF3 HT3 xF0 xF1 xlF
  have xF0 := HXF4.out.c0
  have xF1 := HXF4.out.c1
  have xlF := HXF4.out.lt
  try simp only at xF0 xF1
  have xS0 := HXS4.out.c0
  have xS1 := HXS4.out.c1
  have xlS := HXS4.out.lt
  try simp only at xS0 xS1
  go_wp2_with fail
  refine (set_ A n c V d ps (p, q) x _ HT4.out (by omega) HP.out).mono ?_
  rintro e w5 ⟨AG, cG, VG, dG, rfl, hO, hb⟩
  have hB := hb
  have HB5 := Lib.hid (HB4.out.trans (hB.mono HB4.out.size))
  have HXF5 := Lib.hid (HXF4.out.keep hB)
  have HXS5 := Lib.hid (HXS4.out.keep hB)
  have HT5 := Lib.hid (HT4.out.keep_ hB)
  have HG5 := Lib.hid (GivesB.mk_ hO)
  clear hO
  rw [HQ.out] at HG5
  rw [HQ.out]
  rw [HL.out]
  clear hb hB HB4 HXF4 HXS4 HT4 xF0 xF1 xlF xS0 xS1 xlS
  have xF0 := HXF5.out.c0
  have xF1 := HXF5.out.c1
  have xlF := HXF5.out.lt
  try simp only at xF0 xF1
  have xS0 := HXS5.out.c0
  have xS1 := HXS5.out.c1
  have xlS := HXS5.out.lt
  try simp only at xS0 xS1
  go_wp2_with fail
  refine (at_yes A n c V d ps D _ (HT5.out.keep_ (al1 _ _)) (by omega) HP.out).mono ?_
  rintro e w6 ⟨rfl, hb⟩
  obtain ⟨XP, hB⟩ := bx1 hb
  have HB6 := Lib.hid (HB5.out.trans (hB.mono HB5.out.size))
  have HXF6 := Lib.hid (HXF5.out.keep hB)
  have HXS6 := Lib.hid (HXS5.out.keep hB)
  have HT6 := Lib.hid (HT5.out.keep_ hB)
  have HG6 := Lib.hid (HG5.out.keep hB)
  have HXG6 := Lib.hid XP
  rw [HW.out]
  clear hb XP hB HB5 HXF5 HXS5 HT5 HG5 xF0 xF1 xlF xS0 xS1 xlS
  have xF0 := HXF6.out.c0
  have xF1 := HXF6.out.c1
  have xlF := HXF6.out.lt
  try simp only at xF0 xF1
  have xS0 := HXS6.out.c0
  have xS1 := HXS6.out.c1
  have xlS := HXS6.out.lt
  try simp only at xS0 xS1
  have xG0 := HXG6.out.c0
  have xG1 := HXG6.out.c1
  have xlG := HXG6.out.lt
  try simp only at xG0 xG1
  go_wp2
  go_region_held3 (fun w' => w'.cell? ⟨w5.heap.size, 0, none⟩ = some (.slice AG L cG) ∧ w'.cell? ⟨w5.heap.size, 1, none⟩ = some (.slice VG L dG) ∧ w'.cell? ⟨w3.heap.size, 0, none⟩ = some (.int .i64 p) ∧ w'.cell? ⟨w3.heap.size, 1, none⟩ = some (.int .i64 q))
      (first | exact ⟨xG0, xG1, xS0, xS1⟩ | (with_reducible exact ⟨g10, g11, s10, s11⟩) | (with_reducible exact ⟨g20, g21, s20, s21⟩) | (with_reducible exact ⟨g30, g31, s30, s31⟩) | (with_reducible exact ⟨g40, g41, s40, s41⟩) | (with_reducible exact ⟨g50, g51, s50, s51⟩) | (with_reducible exact ⟨g60, g61, s60, s61⟩) | fail)
      (first
      | (go_at_call 14; ((with_reducible refine (right_q AG L cG VG dG qs w6.drew HG6.out HQL.out HQR.out hL rfl).mono ?_); rintro e r1 ⟨rfl, hbr⟩; have HBr1 := Lib.hid (below_drew5 hbr); have HGr1 := Lib.hid (HXG6.out.keep HBr1.out); have HSr1 := Lib.hid (HXS6.out.keep HBr1.out); have g10 := HGr1.out.c0; have g11 := HGr1.out.c1; have s10 := HSr1.out.c0; have s11 := HSr1.out.c1; have HMr1 := Lib.hid (HG6.out.keep HBr1.out); clear hbr))
      | (go_at_call 16; ((with_reducible refine (at_q AG L cG VG dG qs D _ r1 HMr1.out HQL.out HQR.out hL HV1.out).mono ?_); rintro e r2 ⟨rfl, hbr⟩; have HBr2 := Lib.hid (HBr1.out.trans (hbr.mono HBr1.out.size)); have HGr2 := Lib.hid (HXG6.out.keep HBr2.out); have HSr2 := Lib.hid (HXS6.out.keep HBr2.out); have g20 := HGr2.out.c0; have g21 := HGr2.out.c1; have s20 := HSr2.out.c0; have s21 := HSr2.out.c1; have HMr2 := Lib.hid (HG6.out.keep HBr2.out); clear hbr))
      | (go_at_call 16; ((with_reducible refine (at_q AG L cG VG dG qs p _ r2 HMr2.out HQL.out HQR.out hL HV2.out).mono ?_); rintro e r3 ⟨rfl, hbr⟩; have HBr3 := Lib.hid (HBr2.out.trans (hbr.mono HBr2.out.size)); have HGr3 := Lib.hid (HXG6.out.keep HBr3.out); have HSr3 := Lib.hid (HXS6.out.keep HBr3.out); have g30 := HGr3.out.c0; have g31 := HGr3.out.c1; have s30 := HSr3.out.c0; have s31 := HSr3.out.c1; have HMr3 := Lib.hid (HG6.out.keep HBr3.out); clear hbr))
      | (go_at_call 16; ((with_reducible refine (at_q AG L cG VG dG qs Q1 _ r3 HMr3.out HQL.out HQR.out hL HV3.out).mono ?_); rintro e r4 ⟨rfl, hbr⟩; have HBr4 := Lib.hid (HBr3.out.trans (hbr.mono HBr3.out.size)); have HGr4 := Lib.hid (HXG6.out.keep HBr4.out); have HSr4 := Lib.hid (HXS6.out.keep HBr4.out); have g40 := HGr4.out.c0; have g41 := HGr4.out.c1; have s40 := HSr4.out.c0; have s41 := HSr4.out.c1; have HMr4 := Lib.hid (HG6.out.keep HBr4.out); clear hbr))
      | (go_at_call 19; ((with_reducible refine (set_q AG L cG VG dG qs (p, q) x r4 HMr4.out HQL.out HQR.out hL HTW.out).mono ?_); rintro e r5 ⟨AH, cH, VH, dH, rfl, hOr, hbr⟩; have HO5 := Lib.hid (GivesB.mk_ hOr); have HBr5 := Lib.hid (HBr4.out.trans (hbr.mono HBr4.out.size)); have HGr5 := Lib.hid (HXG6.out.keep HBr5.out); have HSr5 := Lib.hid (HXS6.out.keep HBr5.out); have g50 := HGr5.out.c0; have g51 := HGr5.out.c1; have s50 := HSr5.out.c0; have s51 := HSr5.out.c1; have HMr5 := Lib.hid (HG6.out.keep HBr5.out); clear hbr hOr))
      | (go_at_call 18; ((with_reducible refine (same_q AH cH VH dH AG L cG VG dG qs r5 HO5.out HMr5.out HQL.out hL).mono ?_); rintro e r6 ⟨rfl, hbr⟩; have HBr6 := Lib.hid (HBr5.out.trans (hbr.mono HBr5.out.size)); have HGr6 := Lib.hid (HXG6.out.keep HBr6.out); have HSr6 := Lib.hid (HXS6.out.keep HBr6.out); have g60 := HGr6.out.c0; have g61 := HGr6.out.c1; have s60 := HSr6.out.c0; have s61 := HSr6.out.c1; have HMr6 := Lib.hid (HG6.out.keep HBr6.out); skip; clear hbr))
      | fail)
  all_goals
    go_wp2
    go_ret
    exact ⟨rfl, HB6.out.trans (HBr6.out.mono HB6.out.size)⟩

theorem walk (A : Option Addr) (n c : Nat) (V : Option Addr) (m d : Nat) (xs vs : List Int) {w : World} (G : GivenT w A n c V m d xs vs) (a : Int) (ha : 0 ≤ a ∧ a ≤ 4294967295) (b : Int) (hb : 0 ≤ b ∧ b ≤ 4294967295) (x : Int) (hx : -2147483648 ≤ x ∧ x ≤ 2147483647) (y : Int) (hy : 0 ≤ y ∧ y ≤ 4294967295) (w0 : World) (hw : w = w0) :
    Calls Try.prog 7 #[sg A n c V m d, .int .u32 a, .int .u32 b, .int .i32 x, .int .u32 y] w0 fun e w' => e = .returned (.bool true) ∧ Below w0.heap.size w0 w' := by
  subst hw
  by_cases hf : n ≤ 100 ∧ m ≤ 100
  · cases hr : rg xs vs
    · exact wrong A n c V m d xs vs a b x y ha hb hx hy w G.s hf.1 hf.2 hr
    · obtain ⟨ps, hp, rfl, rfl⟩ := rg_pairs hr
      obtain rfl : n = m := by rw [← G.s.a.1, ← G.s.v.1]; simp
      have hS : Sr w w.heap.size A V n ps := G.s
      obtain ⟨⟨p, q⟩, hpq⟩ : ∃ s, spn a b = s := ⟨_, rfl⟩
      have b1 := spn_bd (a := a) (b := b)
      rw [hpq] at b1
      simp only at b1
      by_cases g : p = q
      · exact empty A n c V d ps a b x y ha hb hx hy p q hpq b1.1 b1.2.1 b1.2.2 w hS hf.1 hp g
      · have hfx := fits_i32 hx
        have sv' := fun D h1 h2 => setR_val hp (s := (p, q)) (v := x) b1.1 b1.2.1 b1.2.2 hfx D h1 h2
        have v2 : val 0 (setR ps (p, q) x) p = x := by rw [sv' p (by omega) (by omega), if_pos (inn_t (by omega) (by omega))]
        have v3 : val 0 (setR ps (p, q) x) (q - 1) = x := by rw [sv' (q - 1) (by omega) (by omega), if_pos (inn_t (by omega) (by omega))]
        have hqr := setR_right hp (p, q) x
        have htw := setR_twice hp (s := (p, q)) b1.1 b1.2.1 b1.2.2 hfx
        have hlen : (setR ps (p, q) x).length ≤ 200 := by have h1 := setR_len ps (p, q) x; have h2 := hS.len; omega
        have sD := sv' (1 + y % 292194) (by omega) (by omega)
        by_cases i1 : p ≤ 1 + y % 292194
        · by_cases i2 : 1 + y % 292194 < q
          · exact inside A n c V d ps a b x y ha hb hx hy p q hpq b1.1 b1.2.1 b1.2.2 w hS hf.1 hp (by omega) _ _ _ _ _ _ rfl rfl rfl rfl rfl v2 rfl v3 hqr htw hlen i1 i2 (by rw [sD, if_pos (inn_t i1 i2)])
          · exact behind A n c V d ps a b x y ha hb hx hy p q hpq b1.1 b1.2.1 b1.2.2 w hS hf.1 hp (by omega) _ _ _ _ _ _ rfl rfl rfl rfl rfl v2 rfl v3 hqr htw hlen i1 (by omega) (by rw [sD, if_neg (by rw [inn_iff]; simp only; omega)])
        · exact ahead A n c V d ps a b x y ha hb hx hy p q hpq b1.1 b1.2.1 b1.2.2 w hS hf.1 hp (by omega) _ _ _ _ _ _ rfl rfl rfl rfl rfl v2 rfl v3 hqr htw hlen (by omega) (by rw [sD, if_neg (by rw [inn_iff]; simp only; omega)])
  · exact long A n c V m d xs vs a b x y ha hb hx hy w G hf


set_option maxRecDepth 100000 in
theorem lifted (os : Os) (started : os.Started) (H : Type) (enc : TypeId × Value → H) :
    ReturnsInHanded {} Try.checked os 7 .any (Rows.stepHoldsSpec.pre6 enc Try.prog Try.f7 Rows.stepHoldsRow.domain false) (Rows.stepHoldsSpec.post enc Try.prog Try.f7 false true false false) := by
  refine returnsInHanded_of_change (C := Try.checked) Stp.own started (by kernel_rfl) Try.func7
    (ChangeSpec.witness6 (enc := enc) (C := Try.checked) false ⟨#[], #[.agg #[.slice none 0 0, .slice none 0 0], .int .u32 0, .int .u32 0, .int .i32 0, .int .u32 0], []⟩ 8 (by kernel_rfl) (by kernel_rfl) (by kernel_rfl) (by kernel_rfl)) ?_
  intro W base args ds gs before hval0 hW hcnd _
  have hval : ∀ (j : Nat) t v, Try.f7.params[j]? = some t → args[j]? = some v → Value.okWide Try.prog W .any base t v := hval0
  have hW' := hW
  obtain ⟨p, q, hA0, hV, rfl, hfz, hnd⟩ := hW
  have hA : DataW.TrodAll enc Try.prog W 0 (fun _ => true) true Try.f7.params.toList args.toList ds p := hA0
  rw [Try.params7] at hA hval
  obtain ⟨v0, vs0, d0, ds0, p0, q0, hargs, rfl, rfl, h0, r0⟩ := trodAll_cons hA
  obtain ⟨v1, vs1, d1, ds1, p1, q1, rfl, rfl, rfl, h1, r1⟩ := trodAll_cons r0
  obtain ⟨v2, vs2, d2, ds2, p2, q2, rfl, rfl, rfl, h2, r2⟩ := trodAll_cons r1
  obtain ⟨v3, vs3, d3, ds3, p3, q3, rfl, rfl, rfl, h3, r3⟩ := trodAll_cons r2
  obtain ⟨v4, vs4, d4, ds4, p4, q4, rfl, rfl, rfl, h4, r4⟩ := trodAll_cons r3
  obtain ⟨rfl, rfl, rfl⟩ := trodAll_nil r4
  obtain rfl : args = #[v0, v1, v2, v3, v4] := by cases args; simp_all
  obtain ⟨rfl, rfl⟩ := trodVars_none hV
  have k0 := h0
  have lt0 : ∀ x ∈ p0, x.block < W.heap.size := by obtain ⟨m, hm⟩ := k0; exact DataW.trod_lt m _ _ _ hm
  obtain ⟨A0, n0, c0, V0, m0, e0, xs0, ys0, rfl, g0⟩ := Stp.open_step (hval 0 24 v0 rfl rfl) h0
  obtain ⟨a1, rfl, rfl, rfl, w1⟩ := open_int Try.underlying43 (hval 1 43 v1 rfl rfl) h1
  obtain ⟨a2, rfl, rfl, rfl, w2⟩ := open_int Try.underlying43 (hval 2 43 v2 rfl rfl) h2
  obtain ⟨a3, rfl, rfl, rfl, w3⟩ := open_int Try.underlying21 (hval 3 21 v3 rfl rfl) h3
  obtain ⟨a4, rfl, rfl, rfl, w4⟩ := open_int Try.underlying43 (hval 4 43 v4 rfl rfl) h4
  clear hA0 hval0
  refine (walk A0 n0 c0 V0 m0 e0 xs0 ys0 g0 a1 (Stp.u32_of w1) a2 (Stp.u32_of w2) a3 (Stp.i32_of w3) a4 (Stp.u32_of w4) W rfl).mono fun e W' ⟨he, bel⟩ => ?_
  subst he
  exact ⟨_, rfl, _, _, _, [], _, [], hW', trodAll_mk1 (shut_bool Try.underlying4 _), (trodAll_cons_mk (Below.trod Stp.laidOut (by kernel_rfl) (of_decide_eq_true (by kernel_rfl)) k0 bel lt0) (trodAll_cons_mk (shut_int Try.underlying43 w1) (trodAll_cons_mk (shut_int Try.underlying43 w2) (trodAll_cons_mk (shut_int Try.underlying21 w3) (trodAll_cons_mk (shut_int Try.underlying43 w4) trodAll_mk0))))), rfl, bel.frame _, fun h => by cases h⟩

theorem over : Rows.stepHoldsRow.holds Try.pinned (OpenSpec.ofChange Rows.stepHoldsSpec) :=
  OpenClaim.holds_of_wide 7 Try.f7 rfl rfl rfl rfl rfl rfl rfl ⟨rfl, rfl, rfl, rfl, rfl⟩ rfl rfl rfl rfl rfl (by kernel_rfl) Try.func7 (by kernel_rfl)
    (of_decide_eq_true (by kernel_rfl)) (by unfold Func.isWrapper; first | (rw [if_pos (by decide +kernel)]; kernel_rfl) | (rw [if_neg (by decide +kernel)]; exact ⟨rfl, rfl⟩))
    (fun os started H enc _ => lifted os started H enc)

theorem proved : Rows.StepHoldsSaid := over
end Go.Proofs.Ytigacpjcadlkeaa.stepHolds
