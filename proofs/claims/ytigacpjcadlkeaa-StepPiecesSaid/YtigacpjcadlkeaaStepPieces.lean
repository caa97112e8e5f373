/-
  The statement StepPieces holds: for every input the call returns true, and each argument reads afterwards as it read before. Conditions: none beside those that the row itself bears.
-/
import Derived.Test.YtigacpjcadlkeaaGiven
import Derived.Test.YtigacpjcadlkeaaQ
namespace Go.Proofs.Ytigacpjcadlkeaa.stepPieces
open Go.ChangeShapes Go.WideShapes Go.ChangeAt Go.RowKit St Stp
set_option linter.unusedVariables false

set_option maxRecDepth 100000 in
set_option maxHeartbeats 2000000 in
theorem long (A : Option Addr) (n c : Nat) (V : Option Addr) (m d : Nat) (xs vs : List Int) (a b y : Int) (ha : 0 ≤ a ∧ a ≤ 4294967295) (hb : 0 ≤ b ∧ b ≤ 4294967295) (hy : 0 ≤ y ∧ y ≤ 4294967295) (w : World) (G : GivenT w A n c V m d xs vs) (h : ¬ (n ≤ 100 ∧ m ≤ 100)) : Calls Try.prog 11 #[sg A n c V m d, .int .u32 a, .int .u32 b, .int .u32 y] w fun e w' => e = .returned (.bool true) ∧ Below w.heap.size w w' := by
  have hn := G.n
  have hm := G.m
  unfold maxLen at hn hm
  have C := fun w => Lib.hid (few A n c V m d w (by omega) (by omega))
  have ef : (decide (n ≤ 100) && decide (m ≤ 100)) = false := by rw [Bool.and_eq_false_iff, decide_eq_false_iff_not, decide_eq_false_iff_not]; omega
  rw [ef] at C
  obtain ⟨⟨p, q⟩, hpq⟩ : ∃ s, spn a b = s := ⟨_, rfl⟩
  have D1 := fun w => Lib.hid (in_r a b w ha hb)
  rw [hpq] at D1
  clear G ef h ha hb hy hpq
  go_enter Try.func11, Try.ntmps11
  go_wp2_with fail
  refine (awake _).mono ?_
  rintro e w1 ⟨rfl, hb⟩
  obtain ⟨XP, hB⟩ := bx1 hb
  have HB1 := Lib.hid (show Below w.heap.size w w1 from hB)
  have HXF1 := Lib.hid XP
  clear hb XP hB
  have xF0 := HXF1.out.c0
  have xF1 := HXF1.out.c1
  have xlF := HXF1.out.lt
  try simp only at xF0 xF1
  go_wp2_with fail
  refine ((C _).out).mono ?_
  rintro e w2 ⟨rfl, hb⟩
  have hB := hb
  have HB2 := Lib.hid (HB1.out.trans (hB.mono HB1.out.size))
  have HXF2 := Lib.hid (HXF1.out.keep hB)
  clear hb hB HB1 HXF1 xF0 xF1 xlF
  have xF0 := HXF2.out.c0
  have xF1 := HXF2.out.c1
  have xlF := HXF2.out.lt
  try simp only at xF0 xF1
  go_wp2_with fail
  refine ((D1 _).out).mono ?_
  rintro e w3 ⟨rfl, hb⟩
  have hB := hb
  have HB3 := Lib.hid (HB2.out.trans (hB.mono HB2.out.size))
  have HXF3 := Lib.hid (HXF2.out.keep hB)
  clear hb hB HB2 HXF2 xF0 xF1 xlF
  have xF0 := HXF3.out.c0
  have xF1 := HXF3.out.c1
  have xlF := HXF3.out.lt
  try simp only at xF0 xF1
  go_wp2
  go_ret
  exact ⟨rfl, (HB3.out.alloc HB3.out.size _)⟩

set_option maxRecDepth 100000 in
set_option maxHeartbeats 2000000 in
theorem wrong (A : Option Addr) (n c : Nat) (V : Option Addr) (m d : Nat) (xs vs : List Int) (a b y : Int) (ha : 0 ≤ a ∧ a ≤ 4294967295) (hb : 0 ≤ b ∧ b ≤ 4294967295) (hy : 0 ≤ y ∧ y ≤ 4294967295) (w : World) (hS : Sx w w.heap.size A n V m xs vs) (h1 : n ≤ 100) (h2 : m ≤ 100) (hr : rg xs vs = false) : Calls Try.prog 11 #[sg A n c V m d, .int .u32 a, .int .u32 b, .int .u32 y] w fun e w' => e = .returned (.bool true) ∧ Below w.heap.size w w' := by
  have C := fun w => Lib.hid (few A n c V m d w (by omega) (by omega))
  have ef : (decide (n ≤ 100) && decide (m ≤ 100)) = true := by simp; omega
  rw [ef] at C
  obtain ⟨⟨p, q⟩, hpq⟩ : ∃ s, spn a b = s := ⟨_, rfl⟩
  have D1 := fun w => Lib.hid (in_r a b w ha hb)
  rw [hpq] at D1
  have HS := Lib.hid hS
  have HR := Lib.hid hr
  clear hS ef hr ha hb hy hpq
  go_enter Try.func11, Try.ntmps11
  go_wp2_with fail
  refine (awake _).mono ?_
  rintro e w1 ⟨rfl, hb⟩
  obtain ⟨XP, hB⟩ := bx1 hb
  have HB1 := Lib.hid (show Below w.heap.size w w1 from hB)
  have HXF1 := Lib.hid XP
  clear hb XP hB
  have xF0 := HXF1.out.c0
  have xF1 := HXF1.out.c1
  have xlF := HXF1.out.lt
  try simp only at xF0 xF1
  go_wp2_with fail
  refine ((C _).out).mono ?_
  rintro e w2 ⟨rfl, hb⟩
  have hB := hb
  have HB2 := Lib.hid (HB1.out.trans (hB.mono HB1.out.size))
  have HXF2 := Lib.hid (HXF1.out.keep hB)
  clear hb hB HB1 HXF1 xF0 xF1 xlF
  have xF0 := HXF2.out.c0
  have xF1 := HXF2.out.c1
  have xlF := HXF2.out.lt
  try simp only at xF0 xF1
  go_wp2_with fail
  refine ((D1 _).out).mono ?_
  rintro e w3 ⟨rfl, hb⟩
  have hB := hb
  have HB3 := Lib.hid (HB2.out.trans (hB.mono HB2.out.size))
  have HXF3 := Lib.hid (HXF2.out.keep hB)
  clear hb hB HB2 HXF2 xF0 xF1 xlF
  have xF0 := HXF3.out.c0
  have xF1 := HXF3.out.c1
  have xlF := HXF3.out.lt
  try simp only at xF0 xF1
  have HT3 := Lib.hid ((HS.out.below HB3.out (Nat.le_refl _)).wide HB3.out.size)
  go_wp2_with fail
  refine (right A n c V m d xs vs _ (HT3.out.keep_ (al1 _ _)) (by omega)).mono ?_
  rintro e w4 ⟨rfl, hb⟩
  obtain ⟨XP, hB⟩ := bx1 hb
  have HB4 := Lib.hid (HB3.out.trans (hB.mono HB3.out.size))
  have HXF4 := Lib.hid (HXF3.out.keep hB)
  have HT4 := Lib.hid (HT3.out.keep_ hB)
  have HXS4 := Lib.hid XP
  rw [HR.out]
  clear hb XP hB HB3 HXF3 HT3 xF0 xF1 xlF
  have xF0 := HXF4.out.c0
  have xF1 := HXF4.out.c1
  have xlF := HXF4.out.lt
  try simp only at xF0 xF1
  have xS0 := HXS4.out.c0
  have xS1 := HXS4.out.c1
  have xlS := HXS4.out.lt
  try simp only at xS0 xS1
  go_wp2
  go_ret
  exact ⟨rfl, HB4.out⟩

set_option maxRecDepth 100000 in
set_option maxHeartbeats 2000000 in
theorem empty (A : Option Addr) (n c : Nat) (V : Option Addr) (d : Nat) (ps : List Pr) (a b y : Int) (ha : 0 ≤ a ∧ a ≤ 4294967295) (hb : 0 ≤ b ∧ b ≤ 4294967295) (hy : 0 ≤ y ∧ y ≤ 4294967295) (p q : Int) (hpq : spn a b = (p, q)) (p1 : 1 ≤ p) (p2 : p ≤ q) (p3 : q ≤ 292195) (w : World) (hS : Sr w w.heap.size A V n ps) (h1 : n ≤ 100) (h : Right ps) (g : p = q) : Calls Try.prog 11 #[sg A n c V n d, .int .u32 a, .int .u32 b, .int .u32 y] w fun e w' => e = .returned (.bool true) ∧ Below w.heap.size w w' := by
  have C := fun w => Lib.hid (few A n c V n d w (by omega) (by omega))
  have ef : (decide (n ≤ 100) && decide (n ≤ 100)) = true := by simp; omega
  rw [ef] at C
  have D1 := fun w => Lib.hid (in_r a b w ha hb)
  rw [hpq] at D1
  have HS := Lib.hid hS
  have HP := Lib.hid h
  subst g
  clear hS ef h ha hb hy hpq
  go_enter Try.func11, Try.ntmps11
  go_wp2_with fail
  refine (awake _).mono ?_
  rintro e w1 ⟨rfl, hb⟩
  obtain ⟨XP, hB⟩ := bx1 hb
  have HB1 := Lib.hid (show Below w.heap.size w w1 from hB)
  have HXF1 := Lib.hid XP
  clear hb XP hB
  have xF0 := HXF1.out.c0
  have xF1 := HXF1.out.c1
  have xlF := HXF1.out.lt
  try simp only at xF0 xF1
  go_wp2_with fail
  refine ((C _).out).mono ?_
  rintro e w2 ⟨rfl, hb⟩
  have hB := hb
  have HB2 := Lib.hid (HB1.out.trans (hB.mono HB1.out.size))
  have HXF2 := Lib.hid (HXF1.out.keep hB)
  clear hb hB HB1 HXF1 xF0 xF1 xlF
  have xF0 := HXF2.out.c0
  have xF1 := HXF2.out.c1
  have xlF := HXF2.out.lt
  try simp only at xF0 xF1
  go_wp2_with fail
  refine ((D1 _).out).mono ?_
  rintro e w3 ⟨rfl, hb⟩
  have hB := hb
  have HB3 := Lib.hid (HB2.out.trans (hB.mono HB2.out.size))
  have HXF3 := Lib.hid (HXF2.out.keep hB)
  clear hb hB HB2 HXF2 xF0 xF1 xlF
  have xF0 := HXF3.out.c0
  have xF1 := HXF3.out.c1
  have xlF := HXF3.out.lt
  try simp only at xF0 xF1
  have HT3 := Lib.hid ((HS.out.below HB3.out (Nat.le_refl _)).wide HB3.out.size)
  go_wp2_with fail
  refine (right A n c V n d _ _ _ (HT3.out.keep_ (al1 _ _)) (by omega)).mono ?_
  rintro e w4 ⟨rfl, hb⟩
  obtain ⟨XP, hB⟩ := bx1 hb
  have HB4 := Lib.hid (HB3.out.trans (hB.mono HB3.out.size))
  have HXF4 := Lib.hid (HXF3.out.keep hB)
  have HT4 := Lib.hid (HT3.out.keep_ hB)
  have HXS4 := Lib.hid XP
  rw [rg_of HP.out]
  clear hb XP hB HB3 HXF3 HT3 xF0 xF1 xlF
  have xF0 := HXF4.out.c0
  have xF1 := HXF4.out.c1
  have xlF := HXF4.out.lt
  try simp only at xF0 xF1
  have xS0 := HXS4.out.c0
  have xS1 := HXS4.out.c1
  have xlS := HXS4.out.lt
  try simp only at xS0 xS1
  go_wp2
  go_ret
  exact ⟨rfl, HB4.out⟩

set_option maxRecDepth 100000 in
set_option maxHeartbeats 8000000 in
theorem fine (A : Option Addr) (n c : Nat) (V : Option Addr) (d : Nat) (ps : List Pr) (a b y : Int) (ha : 0 ≤ a ∧ a ≤ 4294967295) (hb : 0 ≤ b ∧ b ≤ 4294967295) (hy : 0 ≤ y ∧ y ≤ 4294967295) (p q : Int) (hpq : spn a b = (p, q)) (p1 : 1 ≤ p) (p2 : p ≤ q) (p3 : q ≤ 292195) (w : World) (hS : Sr w w.heap.size A V n ps) (h1 : n ≤ 100) (h : Right ps) (g : p < q) (N : Nat) (L : List (Pr × Int)) (zs : List Pr) (vs : List Int) (SV D : Int) (hL0 : PL ps (p, q) = L) (hz : fr (cuts (p, q) ps) q = zs) (hv : (cuts (p, q) ps).map (val 0 ps) = vs) (hN : (cuts (p, q) ps).length = N) (hN0 : 0 < N) (hN1 : N ≤ 1000000) (hsv : sv L = SV) (hse : se L = 0) (hsz : sizes L ≤ 4000000000000000000) (hss : sums L = SV)
    (hat : ∀ (k : Nat) (x y v : Int), zs[k]? = some (x, y) → vs[k]? = some v → At1 (val 0 ps) p q zs vs k x y v) (hfb : ∀ x ∈ zs, p ≤ x.1 ∧ x.1 < x.2 ∧ x.2 ≤ q) (hvf : ∀ v ∈ vs, St.fits v = true) (hg : ∀ (k : Nat) (x y v : Int), zs[k]? = some (x, y) → vs[k]? = some v → L[k]? = some ((x, y), v)) (hl : ∀ x ∈ L, x.1.1 < x.1.2) (hen : ∀ a, Nx p zs N a → a = q) (hlen : L.length = N)
    (hD : p + y.tmod (q - p) = D) (hd1 : p ≤ D) (hd2 : D < q) : Calls Try.prog 11 #[sg A n c V n d, .int .u32 a, .int .u32 b, .int .u32 y] w fun e w' => e = .returned (.bool true) ∧ Below w.heap.size w w' := by
  have C := fun w => Lib.hid (few A n c V n d w (by omega) (by omega))
  have ef : (decide (n ≤ 100) && decide (n ≤ 100)) = true := by simp; omega
  rw [ef] at C
  have D1 := fun w => Lib.hid (in_r a b w ha hb)
  rw [hpq] at D1
  have HS := Lib.hid hS
  have HP := Lib.hid h
  have HZ := Lib.hid hz
  have HV := Lib.hid hv
  have HN := Lib.hid hN
  have HSV := Lib.hid (show sv (pieces (val 0 ps) (cuts (p, q) ps) q) = SV by rw [← hL0] at hsv; exact hsv)
  have HSE := Lib.hid (show se (pieces (val 0 ps) (cuts (p, q) ps) q) = 0 by rw [← hL0] at hse; exact hse)
  have HAT := Lib.hid hat
  have HFB := Lib.hid hfb
  have HVF := Lib.hid hvf
  have HG := Lib.hid hg
  have HL := Lib.hid hl
  have HEN := Lib.hid hen
  have HLen := Lib.hid hlen
  have HSZ := Lib.hid hsz
  have HSS := Lib.hid hss
  have HFU := Lib.hid (full_t (a := p) (b := q) p1 g p3)
  have t0 : (p == q) = false := by rw [beq_eq_false_iff_ne]; omega
  have tN : ((N : Int) == 0) = false := by rw [beq_eq_false_iff_ne]; omega
  have tN2 : (N == 0) = false := by rw [beq_eq_false_iff_ne]; omega
  obtain ⟨R, hR⟩ : ∃ R, q - p = R := ⟨_, rfl⟩
  have hR1 : 1 ≤ R := by omega
  have hR2 : R ≤ 292195 := by omega
  obtain ⟨M, hM⟩ : ∃ M, y.tmod R = M := ⟨_, rfl⟩
  have hM2 : p + M = D := by rw [← hM, ← hR]; exact hD
  have wR : IntKind.i64.wrap R = R := IntWalk.i64_in _ (by omega)
  have wD : IntKind.i64.wrap D = D := IntWalk.i64_in _ (by omega)
  have wy : IntKind.i64.wrap y = y := IntWalk.i64_in _ (by omega)
  have tR : (R == 0) = false := by rw [beq_eq_false_iff_ne]; omega
  have hRn : R ≠ 0 := by omega
  obtain ⟨hy1, hy2⟩ := hy
  clear hS ef h ha hb hpq hz hv hN hsv hse hat hfb hvf hg hl hen hlen hD hL0 hsz hss
  go_enter Try.func11, Try.ntmps11
  go_wp2_with fail
  refine (awake _).mono ?_
  rintro e w1 ⟨rfl, hb⟩
  obtain ⟨XP, hB⟩ := bx1 hb
  have HB1 := Lib.hid (show Below w.heap.size w w1 from hB)
  have HXF1 := Lib.hid XP
  clear hb XP hB
  have xF0 := HXF1.out.c0
  have xF1 := HXF1.out.c1
  have xlF := HXF1.out.lt
  try simp only at xF0 xF1
  go_wp2_with fail
  refine ((C _).out).mono ?_
  rintro e w2 ⟨rfl, hb⟩
  have hB := hb
  have HB2 := Lib.hid (HB1.out.trans (hB.mono HB1.out.size))
  have HXF2 := Lib.hid (HXF1.out.keep hB)
  clear hb hB HB1 HXF1 xF0 xF1 xlF
  have xF0 := HXF2.out.c0
  have xF1 := HXF2.out.c1
  have xlF := HXF2.out.lt
  try simp only at xF0 xF1
  go_wp2_with fail
  refine ((D1 _).out).mono ?_
  rintro e w3 ⟨rfl, hb⟩
  have hB := hb
  have HB3 := Lib.hid (HB2.out.trans (hB.mono HB2.out.size))
  have HXF3 := Lib.hid (HXF2.out.keep hB)
  clear hb hB HB2 HXF2 xF0 xF1 xlF
  have xF0 := HXF3.out.c0
  have xF1 := HXF3.out.c1
  have xlF := HXF3.out.lt
  try simp only at xF0 xF1
  have HT3 := Lib.hid ((HS.out.below HB3.out (Nat.le_refl _)).wide HB3.out.size)
  go_wp2_with fail
  refine (right A n c V n d _ _ _ (HT3.out.keep_ (al1 _ _)) (by omega)).mono ?_
  rintro e w4 ⟨rfl, hb⟩
  obtain ⟨XP, hB⟩ := bx1 hb
  have HB4 := Lib.hid (HB3.out.trans (hB.mono HB3.out.size))
  have HXF4 := Lib.hid (HXF3.out.keep hB)
  have HT4 := Lib.hid (HT3.out.keep_ hB)
  have HXS4 := Lib.hid XP
  rw [rg_of HP.out]
  clear hb XP hB HB3 HXF3 HT3 xF0 xF1 xlF
  have xF0 := HXF4.out.c0
  have xF1 := HXF4.out.c1
  have xlF := HXF4.out.lt
  try simp only at xF0 xF1
  have xS0 := HXS4.out.c0
  have xS1 := HXS4.out.c1
  have xlS := HXS4.out.lt
  try simp only at xS0 xS1
  go_wp2_with fail
  refine (pieces_l A n c V d ps (p, q) _ HT4.out (by omega) HP.out HFU.out HZ.out HV.out HN.out).mono ?_
  rintro e w5 ⟨AL, cL, AV, cV, rfl, hSp, hIn, hb⟩
  have hB := hb
  have HB5 := Lib.hid (HB4.out.trans (hB.mono HB4.out.size))
  have HXF5 := Lib.hid (HXF4.out.keep hB)
  have HXS5 := Lib.hid (HXS4.out.keep hB)
  have HT5 := Lib.hid (HT4.out.keep_ hB)
  have HU5 := Lib.hid (SpI.mk hSp hIn)
  clear hSp hIn
  clear hb hB HB4 HXF4 HXS4 HT4 xF0 xF1 xlF xS0 xS1 xlS
  have xF0 := HXF5.out.c0
  have xF1 := HXF5.out.c1
  have xlF := HXF5.out.lt
  try simp only at xF0 xF1
  have xS0 := HXS5.out.c0
  have xS1 := HXS5.out.c1
  have xlS := HXS5.out.lt
  try simp only at xS0 xS1
  go_wp2_with fail
  refine (sum_l A n c V d ps (p, q) _ HT5.out (by omega) HP.out HFU.out HSV.out HSE.out).mono ?_
  rintro e w6 ⟨rfl, hb⟩
  have hB := hb
  have HB6 := Lib.hid (HB5.out.trans (hB.mono HB5.out.size))
  have HXF6 := Lib.hid (HXF5.out.keep hB)
  have HXS6 := Lib.hid (HXS5.out.keep hB)
  have HT6 := Lib.hid (HT5.out.keep_ hB)
  have HU6 := Lib.hid (HU5.out.keep hB)
  clear hb hB HB5 HXF5 HXS5 HT5 HU5 xF0 xF1 xlF xS0 xS1 xlS
  have xF0 := HXF6.out.c0
  have xF1 := HXF6.out.c1
  have xlF := HXF6.out.lt
  try simp only at xF0 xF1
  have xS0 := HXS6.out.c0
  have xS1 := HXS6.out.c1
  have xlS := HXS6.out.lt
  try simp only at xS0 xS1
  go_wp2
  go_quiet (fail)
  go_wp2
  go_loopw [17, 18, 19] (fun sa ss i w' => ∃ (k : Nat) (at_ sum : Int), k ≤ N ∧ i = .int .i64 (k : Int) ∧ sa = .int .i64 at_ ∧ ss = .int .i64 sum ∧ Hid (Nx p zs k at_) ∧ Hid (sum = sums (L.take k)) ∧ -4000000000000000000 ≤ sum ∧ sum ≤ 4000000000000000000 ∧ Hid (Below w6.heap.size w6 w')) (fun _ _ i _ => N - (intOf i).toNat)
  case atStart => exact ⟨0, p, 0, Nat.zero_le _, rfl, rfl, rfl, Lib.hid (Nx.start _ _), Lib.hid rfl, by omega, by omega, Lib.hid (below_drewN (Below.refl _ _) _)⟩
  case round =>
    obtain ⟨k, at_, sum, hk, rfl, rfl, rfl, HNXk, HSU, hs1, hs2, HW⟩ := hrel
    obtain ⟨WR, hWR⟩ : ∃ WR, wr = WR := ⟨_, rfl⟩
    subst hWR
    by_cases hlt : k < N
    · have HUr := Lib.hid (HU6.out.keep HW.out)
      obtain ⟨ad, xx, yy, rfl, _, hz, hc0, hc1⟩ := HUr.out.s.get hlt
      obtain ⟨av, va, rfl, _, hv, hcv⟩ := HUr.out.v.get hlt
      have hA := HAT.out k xx yy va hz hv
      obtain rfl : xx = at_ := HNXk.out.eq hA
      have HNX := Lib.hid (Nx.next (d := p) hz)
      obtain ⟨f1, f2, f3⟩ := HFB.out _ (List.mem_of_getElem? hz)
      obtain ⟨v1, v2⟩ := (fits_iff va).1 (HVF.out va (List.mem_of_getElem? hv))
      simp only at f1 f2 f3
      have HA := Lib.hid hA
      have hlk := HG.out k xx yy va hz hv
      have HHV := Lib.hid hv
      have hlt2 : (k : Int) < (N : Int) := by omega
      have ty : decide (yy ≤ xx) = false := by rw [decide_eq_false_iff_not]; omega
      clear hA hz hv
      obtain ⟨DD, hDD⟩ : ∃ DD, yy - xx = DD := ⟨_, rfl⟩
      obtain ⟨PP, hPP⟩ : ∃ PP, DD * va = PP := ⟨_, rfl⟩
      obtain ⟨sum', hsm⟩ : ∃ s', sum + PP = s' := ⟨_, rfl⟩
      have hpb := prod_bd HL.out HSZ.out hlk
      rw [hDD, hPP] at hpb
      have hst := sums_take_bd HL.out HSZ.out (k + 1)
      have hsn : sums (L.take (k + 1)) = sum' := by rw [take_more hlk, sums_snoc]; simp only; rw [hDD, hPP, ← HSU.out]; exact hsm
      rw [hsn] at hst
      have HSN := Lib.hid hsn.symm
      obtain ⟨hs3, hs4⟩ := hst
      obtain ⟨hp1, hp2⟩ := hpb
      have wDD : IntKind.i64.wrap DD = DD := IntWalk.i64_in _ (by omega)
      have wPP : IntKind.i64.wrap PP = PP := IntWalk.i64_in _ (by omega)
      have wS : IntKind.i64.wrap sum' = sum' := IntWalk.i64_in _ (by omega)
      clear hsn
      clear hlk
      by_cases hk0 : k = 0
      · have t0 : decide ((0 : Int) < (k : Int)) = false := by rw [decide_eq_false_iff_not]; omega
        have t02 : decide (0 < k) = false := by rw [decide_eq_false_iff_not]; omega
        clear hk0
        by_cases d1 : D < xx
        · have e1 : decide (xx ≤ D) = false := by rw [decide_eq_false_iff_not]; omega
          go_wp2
          obtain ⟨WR, hWR⟩ : ∃ WR, wr = WR := ⟨_, rfl⟩
          subst hWR
          go_quiet (fail)
          have BQ := Lib.hid (below_drewN HW.out nq)
          go_wp2
          go_quiet (fail)
          go_wp2
          go_roundw
          case rel => first | exact ⟨k + 1, yy, sum', by omega, by go_num, rfl, rfl, HNX, HSN, hs3, hs4, Lib.hid (below_drewN BQ.out _)⟩ | exact ⟨k + 1, yy, sum', by omega, by go_num, rfl, rfl, HNX, HSN, hs3, hs4, Lib.hid (below_drewN HW.out _)⟩
          case measure => simp [intOf]; omega
        · by_cases d2 : yy ≤ D
          · have e1 : decide (xx ≤ D) = true := by simp; omega
            have e2 : decide (D < yy) = false := by rw [decide_eq_false_iff_not]; omega
            go_wp2
            obtain ⟨WR, hWR⟩ : ∃ WR, wr = WR := ⟨_, rfl⟩
            subst hWR
            go_quiet (fail)
            have BQ := Lib.hid (below_drewN HW.out nq)
            go_wp2
            go_quiet (fail)
            go_wp2
            go_roundw
            case rel => first | exact ⟨k + 1, yy, sum', by omega, by go_num, rfl, rfl, HNX, HSN, hs3, hs4, Lib.hid (below_drewN BQ.out _)⟩ | exact ⟨k + 1, yy, sum', by omega, by go_num, rfl, rfl, HNX, HSN, hs3, hs4, Lib.hid (below_drewN HW.out _)⟩
            case measure => simp [intOf]; omega
          · have e1 : decide (xx ≤ D) = true := by simp; omega
            have e2 : decide (D < yy) = true := by simp; omega
            go_wp2
            obtain ⟨WR, hWR⟩ : ∃ WR, wr = WR := ⟨_, rfl⟩
            subst hWR
            have HDV := Lib.hid (show val 0 ps D = va from HA.out.g D (by omega) (by omega))
            have HWX := Lib.hid (HXF6.out.below HW.out (by omega))
            have HTX := Lib.hid (HT6.out.keep_ HW.out)
            have DA := fun p_ : Ext wr => Lib.hid (at_v A n c V d ps D va p_.W (HTX.out.keep_ p_.b) (by omega) HP.out HDV.out)
            have X0' : ∀ p_ : Ext wr, p_.W.cell? ⟨w.heap.size, 0, none⟩ = some (.slice A n c) := fun p_ => (HWX.out.ext p_).1
            have X1' : ∀ p_ : Ext wr, p_.W.cell? ⟨w.heap.size, 1, none⟩ = some (.slice V n d) := fun p_ => (HWX.out.ext p_).2
            have HUX := Lib.hid (HU6.out.keep HW.out)
            have c0' : ∀ p_ : Ext wr, p_.W.cell? (ad.add (k * 2)) = some (.int .i64 xx) := fun p_ => (p_.b.cell (World.block_lt_of_cell? _ _ hc0)).trans hc0
            have c1' : ∀ p_ : Ext wr, p_.W.cell? ⟨(ad.add (k * 2)).block, (ad.add (k * 2)).off + 1, none⟩ = some (.int .i64 yy) := fun p_ => (p_.b.cell (World.block_lt_of_cell? _ _ hc1)).trans hc1
            have cv' : ∀ p_ : Ext wr, p_.W.cell? (av.add k) = some (.int .i64 va) := fun p_ => (p_.b.cell (World.block_lt_of_cell? _ _ hcv)).trans hcv
            have ne : Nonempty (Ext wr) := ⟨⟨wr, Below.refl _ _⟩⟩
            clear hc0 hc1 hcv
            refine quietE (by kernel_rfl) (by kernel_rfl) ?_
            repeat (quiet_step (first | (go_at_call 16; exact ext_of (DA _).out)))
            refine wpQuiet_nil ?_
            rintro _ ⟨p_, rfl⟩
            have BQ := Lib.hid (HW.out.trans (p_.b.mono HW.out.size))
            have hc0 := c0' p_
            have hc1 := c1' p_
            have hcv := cv' p_
            clear c0' c1' cv' X0' X1' ne DA
            go_wp2
            go_quiet (fail)
            go_wp2
            go_roundw
            case rel => first | exact ⟨k + 1, yy, sum', by omega, by go_num, rfl, rfl, HNX, HSN, hs3, hs4, Lib.hid (below_drewN BQ.out _)⟩ | exact ⟨k + 1, yy, sum', by omega, by go_num, rfl, rfl, HNX, HSN, hs3, hs4, Lib.hid (below_drewN HW.out _)⟩
            case measure => simp [intOf]; omega
      · obtain ⟨j, hj⟩ : ∃ j, k = j + 1 := ⟨k - 1, by omega⟩
        obtain ⟨_, vb, hvb, hne⟩ := HA.out.s j hj
        have qv := HUr.out.v.cell (k := j) hvb
        have t0 : decide ((0 : Int) < (k : Int)) = true := by simp; omega
        have t02 : decide (0 < k) = true := by simp; omega
        have tn : (va == vb) = false := by rw [beq_eq_false_iff_ne]; exact hne
        have ej : (k : Int) - 1 = (j : Int) := by omega
        have wj : IntKind.i64.wrap (j : Int) = (j : Int) := IntWalk.i64_in _ (by omega)
        have hjN : j < N := by omega
        have hjN2 : (j : Int) < (N : Int) := by omega
        have hj0 : (0 : Int) ≤ (j : Int) := by omega
        have ik1 : (k : Int) ≤ 1000000 := by omega
        clear hj hvb hne hk0
        by_cases d1 : D < xx
        · have e1 : decide (xx ≤ D) = false := by rw [decide_eq_false_iff_not]; omega
          go_wp2
          go_quiet (fail)
          go_wp2
          obtain ⟨WR, hWR⟩ : ∃ WR, wr.drewN nq = WR := ⟨_, rfl⟩
          have HW2 := Lib.hid (show Below w6.heap.size w6 WR by rw [← hWR]; exact below_drewN HW.out _)
          clear HW
          have HW := HW2
          clear HW2
          replace hc0 : WR.cell? (ad.add (k * 2)) = some (.int .i64 xx) := by rw [← hWR]; exact hc0
          replace hc1 : WR.cell? ⟨(ad.add (k * 2)).block, (ad.add (k * 2)).off + 1, none⟩ = some (.int .i64 yy) := by rw [← hWR]; exact hc1
          replace hcv : WR.cell? (av.add k) = some (.int .i64 va) := by rw [← hWR]; exact hcv
          try rw [hWR]
          clear hWR qv
          go_quiet (fail)
          have BQ := Lib.hid (below_drewN HW.out nq)
          go_wp2
          go_quiet (fail)
          go_wp2
          go_roundw
          case rel => first | exact ⟨k + 1, yy, sum', by omega, by go_num, rfl, rfl, HNX, HSN, hs3, hs4, Lib.hid (below_drewN BQ.out _)⟩ | exact ⟨k + 1, yy, sum', by omega, by go_num, rfl, rfl, HNX, HSN, hs3, hs4, Lib.hid (below_drewN HW.out _)⟩
          case measure => simp [intOf]; omega
        · by_cases d2 : yy ≤ D
          · have e1 : decide (xx ≤ D) = true := by simp; omega
            have e2 : decide (D < yy) = false := by rw [decide_eq_false_iff_not]; omega
            go_wp2
            go_quiet (fail)
            go_wp2
            obtain ⟨WR, hWR⟩ : ∃ WR, wr.drewN nq = WR := ⟨_, rfl⟩
            have HW2 := Lib.hid (show Below w6.heap.size w6 WR by rw [← hWR]; exact below_drewN HW.out _)
            clear HW
            have HW := HW2
            clear HW2
            replace hc0 : WR.cell? (ad.add (k * 2)) = some (.int .i64 xx) := by rw [← hWR]; exact hc0
            replace hc1 : WR.cell? ⟨(ad.add (k * 2)).block, (ad.add (k * 2)).off + 1, none⟩ = some (.int .i64 yy) := by rw [← hWR]; exact hc1
            replace hcv : WR.cell? (av.add k) = some (.int .i64 va) := by rw [← hWR]; exact hcv
            try rw [hWR]
            clear hWR qv
            go_quiet (fail)
            have BQ := Lib.hid (below_drewN HW.out nq)
            go_wp2
            go_quiet (fail)
            go_wp2
            go_roundw
            case rel => first | exact ⟨k + 1, yy, sum', by omega, by go_num, rfl, rfl, HNX, HSN, hs3, hs4, Lib.hid (below_drewN BQ.out _)⟩ | exact ⟨k + 1, yy, sum', by omega, by go_num, rfl, rfl, HNX, HSN, hs3, hs4, Lib.hid (below_drewN HW.out _)⟩
            case measure => simp [intOf]; omega
          · have e1 : decide (xx ≤ D) = true := by simp; omega
            have e2 : decide (D < yy) = true := by simp; omega
            go_wp2
            go_quiet (fail)
            go_wp2
            obtain ⟨WR, hWR⟩ : ∃ WR, wr.drewN nq = WR := ⟨_, rfl⟩
            have HW2 := Lib.hid (show Below w6.heap.size w6 WR by rw [← hWR]; exact below_drewN HW.out _)
            clear HW
            have HW := HW2
            clear HW2
            replace hc0 : WR.cell? (ad.add (k * 2)) = some (.int .i64 xx) := by rw [← hWR]; exact hc0
            replace hc1 : WR.cell? ⟨(ad.add (k * 2)).block, (ad.add (k * 2)).off + 1, none⟩ = some (.int .i64 yy) := by rw [← hWR]; exact hc1
            replace hcv : WR.cell? (av.add k) = some (.int .i64 va) := by rw [← hWR]; exact hcv
            try rw [hWR]
            clear hWR qv
            have HDV := Lib.hid (show val 0 ps D = va from HA.out.g D (by omega) (by omega))
            have HWX := Lib.hid (HXF6.out.below HW.out (by omega))
            have HTX := Lib.hid (HT6.out.keep_ HW.out)
            have DA := fun p_ : Ext WR => Lib.hid (at_v A n c V d ps D va p_.W (HTX.out.keep_ p_.b) (by omega) HP.out HDV.out)
            have X0' : ∀ p_ : Ext WR, p_.W.cell? ⟨w.heap.size, 0, none⟩ = some (.slice A n c) := fun p_ => (HWX.out.ext p_).1
            have X1' : ∀ p_ : Ext WR, p_.W.cell? ⟨w.heap.size, 1, none⟩ = some (.slice V n d) := fun p_ => (HWX.out.ext p_).2
            have HUX := Lib.hid (HU6.out.keep HW.out)
            have c0' : ∀ p_ : Ext WR, p_.W.cell? (ad.add (k * 2)) = some (.int .i64 xx) := fun p_ => (p_.b.cell (World.block_lt_of_cell? _ _ hc0)).trans hc0
            have c1' : ∀ p_ : Ext WR, p_.W.cell? ⟨(ad.add (k * 2)).block, (ad.add (k * 2)).off + 1, none⟩ = some (.int .i64 yy) := fun p_ => (p_.b.cell (World.block_lt_of_cell? _ _ hc1)).trans hc1
            have cv' : ∀ p_ : Ext WR, p_.W.cell? (av.add k) = some (.int .i64 va) := fun p_ => (p_.b.cell (World.block_lt_of_cell? _ _ hcv)).trans hcv
            have ne : Nonempty (Ext WR) := ⟨⟨WR, Below.refl _ _⟩⟩
            clear hc0 hc1 hcv
            refine quietE (by kernel_rfl) (by kernel_rfl) ?_
            repeat (quiet_step (first | (go_at_call 16; exact ext_of (DA _).out)))
            refine wpQuiet_nil ?_
            rintro _ ⟨p_, rfl⟩
            have BQ := Lib.hid (HW.out.trans (p_.b.mono HW.out.size))
            have hc0 := c0' p_
            have hc1 := c1' p_
            have hcv := cv' p_
            clear c0' c1' cv' X0' X1' ne DA
            go_wp2
            go_quiet (fail)
            go_wp2
            go_roundw
            case rel => first | exact ⟨k + 1, yy, sum', by omega, by go_num, rfl, rfl, HNX, HSN, hs3, hs4, Lib.hid (below_drewN BQ.out _)⟩ | exact ⟨k + 1, yy, sum', by omega, by go_num, rfl, rfl, HNX, HSN, hs3, hs4, Lib.hid (below_drewN HW.out _)⟩
            case measure => simp [intOf]; omega
    · obtain rfl : N = k := by omega
      have hE := HEN.out at_ HNXk.out
      have te : (at_ == q) = true := by simpa using hE
      clear hE
      have hfin : sum = SV := by rw [HSU.out, List.take_of_length_le (by rw [HLen.out]; exact Nat.le_refl _)]; exact HSS.out
      have tf : (sum == SV) = true := by simpa using hfin
      clear hfin
      have x1 := Bx.c1 (HXS6.out.below HW.out xlS)
      clear xS0 xS1 xF0 xF1
      go_wp2
      go_ret
      exact ⟨rfl, HB6.out.trans (HW.out.mono HB6.out.size)⟩

set_option maxRecDepth 100000 in
set_option maxHeartbeats 8000000 in
theorem great (A : Option Addr) (n c : Nat) (V : Option Addr) (d : Nat) (ps : List Pr) (a b y : Int) (ha : 0 ≤ a ∧ a ≤ 4294967295) (hb : 0 ≤ b ∧ b ≤ 4294967295) (hy : 0 ≤ y ∧ y ≤ 4294967295) (p q : Int) (hpq : spn a b = (p, q)) (p1 : 1 ≤ p) (p2 : p ≤ q) (p3 : q ≤ 292195) (w : World) (hS : Sr w w.heap.size A V n ps) (h1 : n ≤ 100) (h : Right ps) (g : p < q) (N : Nat) (L : List (Pr × Int)) (zs : List Pr) (vs : List Int) (SV D : Int) (hL0 : PL ps (p, q) = L) (hz : fr (cuts (p, q) ps) q = zs) (hv : (cuts (p, q) ps).map (val 0 ps) = vs) (hN : (cuts (p, q) ps).length = N) (hN0 : 0 < N) (hN1 : N ≤ 1000000) (hsv : sv L = SV) (hse : se L = 5)
    (hat : ∀ (k : Nat) (x y v : Int), zs[k]? = some (x, y) → vs[k]? = some v → At1 (val 0 ps) p q zs vs k x y v) (hfb : ∀ x ∈ zs, p ≤ x.1 ∧ x.1 < x.2 ∧ x.2 ≤ q) (hvf : ∀ v ∈ vs, St.fits v = true) (hg : ∀ (k : Nat) (x y v : Int), zs[k]? = some (x, y) → vs[k]? = some v → L[k]? = some ((x, y), v)) (hl : ∀ x ∈ L, x.1.1 < x.1.2) (hen : ∀ a, Nx p zs N a → a = q) (hlen : L.length = N)
    (hD : p + y.tmod (q - p) = D) (hd1 : p ≤ D) (hd2 : D < q) : Calls Try.prog 11 #[sg A n c V n d, .int .u32 a, .int .u32 b, .int .u32 y] w fun e w' => e = .returned (.bool true) ∧ Below w.heap.size w w' := by
  have C := fun w => Lib.hid (few A n c V n d w (by omega) (by omega))
  have ef : (decide (n ≤ 100) && decide (n ≤ 100)) = true := by simp; omega
  rw [ef] at C
  have D1 := fun w => Lib.hid (in_r a b w ha hb)
  rw [hpq] at D1
  have HS := Lib.hid hS
  have HP := Lib.hid h
  have HZ := Lib.hid hz
  have HV := Lib.hid hv
  have HN := Lib.hid hN
  have HSV := Lib.hid (show sv (pieces (val 0 ps) (cuts (p, q) ps) q) = SV by rw [← hL0] at hsv; exact hsv)
  have HSE := Lib.hid (show se (pieces (val 0 ps) (cuts (p, q) ps) q) = 5 by rw [← hL0] at hse; exact hse)
  have HAT := Lib.hid hat
  have HFB := Lib.hid hfb
  have HVF := Lib.hid hvf
  have HG := Lib.hid hg
  have HL := Lib.hid hl
  have HEN := Lib.hid hen
  have HLen := Lib.hid hlen
  have HFU := Lib.hid (full_t (a := p) (b := q) p1 g p3)
  have t0 : (p == q) = false := by rw [beq_eq_false_iff_ne]; omega
  have tN : ((N : Int) == 0) = false := by rw [beq_eq_false_iff_ne]; omega
  have tN2 : (N == 0) = false := by rw [beq_eq_false_iff_ne]; omega
  obtain ⟨R, hR⟩ : ∃ R, q - p = R := ⟨_, rfl⟩
  have hR1 : 1 ≤ R := by omega
  have hR2 : R ≤ 292195 := by omega
  obtain ⟨M, hM⟩ : ∃ M, y.tmod R = M := ⟨_, rfl⟩
  have hM2 : p + M = D := by rw [← hM, ← hR]; exact hD
  have wR : IntKind.i64.wrap R = R := IntWalk.i64_in _ (by omega)
  have wD : IntKind.i64.wrap D = D := IntWalk.i64_in _ (by omega)
  have wy : IntKind.i64.wrap y = y := IntWalk.i64_in _ (by omega)
  have tR : (R == 0) = false := by rw [beq_eq_false_iff_ne]; omega
  have hRn : R ≠ 0 := by omega
  obtain ⟨hy1, hy2⟩ := hy
  clear hS ef h ha hb hpq hz hv hN hsv hse hat hfb hvf hg hl hen hlen hD hL0 
  go_enter Try.func11, Try.ntmps11
  go_wp2_with fail
  refine (awake _).mono ?_
  rintro e w1 ⟨rfl, hb⟩
  obtain ⟨XP, hB⟩ := bx1 hb
  have HB1 := Lib.hid (show Below w.heap.size w w1 from hB)
  have HXF1 := Lib.hid XP
  clear hb XP hB
  have xF0 := HXF1.out.c0
  have xF1 := HXF1.out.c1
  have xlF := HXF1.out.lt
  try simp only at xF0 xF1
  go_wp2_with fail
  refine ((C _).out).mono ?_
  rintro e w2 ⟨rfl, hb⟩
  have hB := hb
  have HB2 := Lib.hid (HB1.out.trans (hB.mono HB1.out.size))
  have HXF2 := Lib.hid (HXF1.out.keep hB)
  clear hb hB HB1 HXF1 xF0 xF1 xlF
  have xF0 := HXF2.out.c0
  have xF1 := HXF2.out.c1
  have xlF := HXF2.out.lt
  try simp only at xF0 xF1
  go_wp2_with fail
  refine ((D1 _).out).mono ?_
  rintro e w3 ⟨rfl, hb⟩
  have hB := hb
  have HB3 := Lib.hid (HB2.out.trans (hB.mono HB2.out.size))
  have HXF3 := Lib.hid (HXF2.out.keep hB)
  clear hb hB HB2 HXF2 xF0 xF1 xlF
  have xF0 := HXF3.out.c0
  have xF1 := HXF3.out.c1
  have xlF := HXF3.out.lt
  try simp only at xF0 xF1
  have HT3 := Lib.hid ((HS.out.below HB3.out (Nat.le_refl _)).wide HB3.out.size)
  go_wp2_with fail
  refine (right A n c V n d _ _ _ (HT3.out.keep_ (al1 _ _)) (by omega)).mono ?_
  rintro e w4 ⟨rfl, hb⟩
  obtain ⟨XP, hB⟩ := bx1 hb
  have HB4 := Lib.hid (HB3.out.trans (hB.mono HB3.out.size))
  have HXF4 := Lib.hid (HXF3.out.keep hB)
  have HT4 := Lib.hid (HT3.out.keep_ hB)
  have HXS4 := Lib.hid XP
  rw [rg_of HP.out]
  clear hb XP hB HB3 HXF3 HT3 xF0 xF1 xlF
  have xF0 := HXF4.out.c0
  have xF1 := HXF4.out.c1
  have xlF := HXF4.out.lt
  try simp only at xF0 xF1
  have xS0 := HXS4.out.c0
  have xS1 := HXS4.out.c1
  have xlS := HXS4.out.lt
  try simp only at xS0 xS1
  go_wp2_with fail
  refine (pieces_l A n c V d ps (p, q) _ HT4.out (by omega) HP.out HFU.out HZ.out HV.out HN.out).mono ?_
  rintro e w5 ⟨AL, cL, AV, cV, rfl, hSp, hIn, hb⟩
  have hB := hb
  have HB5 := Lib.hid (HB4.out.trans (hB.mono HB4.out.size))
  have HXF5 := Lib.hid (HXF4.out.keep hB)
  have HXS5 := Lib.hid (HXS4.out.keep hB)
  have HT5 := Lib.hid (HT4.out.keep_ hB)
  have HU5 := Lib.hid (SpI.mk hSp hIn)
  clear hSp hIn
  clear hb hB HB4 HXF4 HXS4 HT4 xF0 xF1 xlF xS0 xS1 xlS
  have xF0 := HXF5.out.c0
  have xF1 := HXF5.out.c1
  have xlF := HXF5.out.lt
  try simp only at xF0 xF1
  have xS0 := HXS5.out.c0
  have xS1 := HXS5.out.c1
  have xlS := HXS5.out.lt
  try simp only at xS0 xS1
  go_wp2_with fail
  refine (sum_l A n c V d ps (p, q) _ HT5.out (by omega) HP.out HFU.out HSV.out HSE.out).mono ?_
  rintro e w6 ⟨rfl, hb⟩
  have hB := hb
  have HB6 := Lib.hid (HB5.out.trans (hB.mono HB5.out.size))
  have HXF6 := Lib.hid (HXF5.out.keep hB)
  have HXS6 := Lib.hid (HXS5.out.keep hB)
  have HT6 := Lib.hid (HT5.out.keep_ hB)
  have HU6 := Lib.hid (HU5.out.keep hB)
  clear hb hB HB5 HXF5 HXS5 HT5 HU5 xF0 xF1 xlF xS0 xS1 xlS
  have xF0 := HXF6.out.c0
  have xF1 := HXF6.out.c1
  have xlF := HXF6.out.lt
  try simp only at xF0 xF1
  have xS0 := HXS6.out.c0
  have xS1 := HXS6.out.c1
  have xlS := HXS6.out.lt
  try simp only at xS0 xS1
  go_wp2
  go_quiet (fail)
  go_wp2
  go_loopw [17, 18, 19] (fun sa ss i w' => ∃ (k : Nat) (at_ sum : Int), k ≤ N ∧ i = .int .i64 (k : Int) ∧ sa = .int .i64 at_ ∧ ss = .int .i64 sum ∧ Hid (Nx p zs k at_) ∧ sum = 0 ∧ Hid (Below w6.heap.size w6 w')) (fun _ _ i _ => N - (intOf i).toNat)
  case atStart => exact ⟨0, p, 0, Nat.zero_le _, rfl, rfl, rfl, Lib.hid (Nx.start _ _), rfl, Lib.hid (below_drewN (Below.refl _ _) _)⟩
  case round =>
    obtain ⟨k, at_, sum, hk, rfl, rfl, rfl, HNXk, rfl, HW⟩ := hrel
    obtain ⟨WR, hWR⟩ : ∃ WR, wr = WR := ⟨_, rfl⟩
    subst hWR
    by_cases hlt : k < N
    · have HUr := Lib.hid (HU6.out.keep HW.out)
      obtain ⟨ad, xx, yy, rfl, _, hz, hc0, hc1⟩ := HUr.out.s.get hlt
      obtain ⟨av, va, rfl, _, hv, hcv⟩ := HUr.out.v.get hlt
      have hA := HAT.out k xx yy va hz hv
      obtain rfl : xx = at_ := HNXk.out.eq hA
      have HNX := Lib.hid (Nx.next (d := p) hz)
      obtain ⟨f1, f2, f3⟩ := HFB.out _ (List.mem_of_getElem? hz)
      obtain ⟨v1, v2⟩ := (fits_iff va).1 (HVF.out va (List.mem_of_getElem? hv))
      simp only at f1 f2 f3
      have HA := Lib.hid hA
      have hlk := HG.out k xx yy va hz hv
      have HHV := Lib.hid hv
      have hlt2 : (k : Int) < (N : Int) := by omega
      have ty : decide (yy ≤ xx) = false := by rw [decide_eq_false_iff_not]; omega
      clear hA hz hv
      clear hlk
      by_cases hk0 : k = 0
      · have t0 : decide ((0 : Int) < (k : Int)) = false := by rw [decide_eq_false_iff_not]; omega
        have t02 : decide (0 < k) = false := by rw [decide_eq_false_iff_not]; omega
        clear hk0
        by_cases d1 : D < xx
        · have e1 : decide (xx ≤ D) = false := by rw [decide_eq_false_iff_not]; omega
          go_wp2
          obtain ⟨WR, hWR⟩ : ∃ WR, wr = WR := ⟨_, rfl⟩
          subst hWR
          go_quiet (fail)
          have BQ := Lib.hid (below_drewN HW.out nq)
          go_wp2
          go_roundw
          case rel => exact ⟨k + 1, yy, 0, by omega, by go_num, rfl, rfl, HNX, rfl, BQ⟩
          case measure => simp [intOf]; omega
        · by_cases d2 : yy ≤ D
          · have e1 : decide (xx ≤ D) = true := by simp; omega
            have e2 : decide (D < yy) = false := by rw [decide_eq_false_iff_not]; omega
            go_wp2
            obtain ⟨WR, hWR⟩ : ∃ WR, wr = WR := ⟨_, rfl⟩
            subst hWR
            go_quiet (fail)
            have BQ := Lib.hid (below_drewN HW.out nq)
            go_wp2
            go_roundw
            case rel => exact ⟨k + 1, yy, 0, by omega, by go_num, rfl, rfl, HNX, rfl, BQ⟩
            case measure => simp [intOf]; omega
          · have e1 : decide (xx ≤ D) = true := by simp; omega
            have e2 : decide (D < yy) = true := by simp; omega
            go_wp2
            obtain ⟨WR, hWR⟩ : ∃ WR, wr = WR := ⟨_, rfl⟩
            subst hWR
            have HDV := Lib.hid (show val 0 ps D = va from HA.out.g D (by omega) (by omega))
            have HWX := Lib.hid (HXF6.out.below HW.out (by omega))
            have HTX := Lib.hid (HT6.out.keep_ HW.out)
            have DA := fun p_ : Ext wr => Lib.hid (at_v A n c V d ps D va p_.W (HTX.out.keep_ p_.b) (by omega) HP.out HDV.out)
            have X0' : ∀ p_ : Ext wr, p_.W.cell? ⟨w.heap.size, 0, none⟩ = some (.slice A n c) := fun p_ => (HWX.out.ext p_).1
            have X1' : ∀ p_ : Ext wr, p_.W.cell? ⟨w.heap.size, 1, none⟩ = some (.slice V n d) := fun p_ => (HWX.out.ext p_).2
            have HUX := Lib.hid (HU6.out.keep HW.out)
            have c0' : ∀ p_ : Ext wr, p_.W.cell? (ad.add (k * 2)) = some (.int .i64 xx) := fun p_ => (p_.b.cell (World.block_lt_of_cell? _ _ hc0)).trans hc0
            have c1' : ∀ p_ : Ext wr, p_.W.cell? ⟨(ad.add (k * 2)).block, (ad.add (k * 2)).off + 1, none⟩ = some (.int .i64 yy) := fun p_ => (p_.b.cell (World.block_lt_of_cell? _ _ hc1)).trans hc1
            have cv' : ∀ p_ : Ext wr, p_.W.cell? (av.add k) = some (.int .i64 va) := fun p_ => (p_.b.cell (World.block_lt_of_cell? _ _ hcv)).trans hcv
            have ne : Nonempty (Ext wr) := ⟨⟨wr, Below.refl _ _⟩⟩
            clear hc0 hc1 hcv
            refine quietE (by kernel_rfl) (by kernel_rfl) ?_
            repeat (quiet_step (first | (go_at_call 16; exact ext_of (DA _).out)))
            refine wpQuiet_nil ?_
            rintro _ ⟨p_, rfl⟩
            have BQ := Lib.hid (HW.out.trans (p_.b.mono HW.out.size))
            have hc0 := c0' p_
            have hc1 := c1' p_
            have hcv := cv' p_
            clear c0' c1' cv' X0' X1' ne DA
            go_wp2
            go_roundw
            case rel => exact ⟨k + 1, yy, 0, by omega, by go_num, rfl, rfl, HNX, rfl, BQ⟩
            case measure => simp [intOf]; omega
      · obtain ⟨j, hj⟩ : ∃ j, k = j + 1 := ⟨k - 1, by omega⟩
        obtain ⟨_, vb, hvb, hne⟩ := HA.out.s j hj
        have qv := HUr.out.v.cell (k := j) hvb
        have t0 : decide ((0 : Int) < (k : Int)) = true := by simp; omega
        have t02 : decide (0 < k) = true := by simp; omega
        have tn : (va == vb) = false := by rw [beq_eq_false_iff_ne]; exact hne
        have ej : (k : Int) - 1 = (j : Int) := by omega
        have wj : IntKind.i64.wrap (j : Int) = (j : Int) := IntWalk.i64_in _ (by omega)
        have hjN : j < N := by omega
        have hjN2 : (j : Int) < (N : Int) := by omega
        have hj0 : (0 : Int) ≤ (j : Int) := by omega
        have ik1 : (k : Int) ≤ 1000000 := by omega
        clear hj hvb hne hk0
        by_cases d1 : D < xx
        · have e1 : decide (xx ≤ D) = false := by rw [decide_eq_false_iff_not]; omega
          go_wp2
          go_quiet (fail)
          go_wp2
          obtain ⟨WR, hWR⟩ : ∃ WR, wr.drewN nq = WR := ⟨_, rfl⟩
          have HW2 := Lib.hid (show Below w6.heap.size w6 WR by rw [← hWR]; exact below_drewN HW.out _)
          clear HW
          have HW := HW2
          clear HW2
          replace hc0 : WR.cell? (ad.add (k * 2)) = some (.int .i64 xx) := by rw [← hWR]; exact hc0
          replace hc1 : WR.cell? ⟨(ad.add (k * 2)).block, (ad.add (k * 2)).off + 1, none⟩ = some (.int .i64 yy) := by rw [← hWR]; exact hc1
          replace hcv : WR.cell? (av.add k) = some (.int .i64 va) := by rw [← hWR]; exact hcv
          try rw [hWR]
          clear hWR qv
          go_quiet (fail)
          have BQ := Lib.hid (below_drewN HW.out nq)
          go_wp2
          go_roundw
          case rel => exact ⟨k + 1, yy, 0, by omega, by go_num, rfl, rfl, HNX, rfl, BQ⟩
          case measure => simp [intOf]; omega
        · by_cases d2 : yy ≤ D
          · have e1 : decide (xx ≤ D) = true := by simp; omega
            have e2 : decide (D < yy) = false := by rw [decide_eq_false_iff_not]; omega
            go_wp2
            go_quiet (fail)
            go_wp2
            obtain ⟨WR, hWR⟩ : ∃ WR, wr.drewN nq = WR := ⟨_, rfl⟩
            have HW2 := Lib.hid (show Below w6.heap.size w6 WR by rw [← hWR]; exact below_drewN HW.out _)
            clear HW
            have HW := HW2
            clear HW2
            replace hc0 : WR.cell? (ad.add (k * 2)) = some (.int .i64 xx) := by rw [← hWR]; exact hc0
            replace hc1 : WR.cell? ⟨(ad.add (k * 2)).block, (ad.add (k * 2)).off + 1, none⟩ = some (.int .i64 yy) := by rw [← hWR]; exact hc1
            replace hcv : WR.cell? (av.add k) = some (.int .i64 va) := by rw [← hWR]; exact hcv
            try rw [hWR]
            clear hWR qv
            go_quiet (fail)
            have BQ := Lib.hid (below_drewN HW.out nq)
            go_wp2
            go_roundw
            case rel => exact ⟨k + 1, yy, 0, by omega, by go_num, rfl, rfl, HNX, rfl, BQ⟩
            case measure => simp [intOf]; omega
          · have e1 : decide (xx ≤ D) = true := by simp; omega
            have e2 : decide (D < yy) = true := by simp; omega
            go_wp2
            go_quiet (fail)
            go_wp2
            obtain ⟨WR, hWR⟩ : ∃ WR, wr.drewN nq = WR := ⟨_, rfl⟩
            have HW2 := Lib.hid (show Below w6.heap.size w6 WR by rw [← hWR]; exact below_drewN HW.out _)
            clear HW
            have HW := HW2
            clear HW2
            replace hc0 : WR.cell? (ad.add (k * 2)) = some (.int .i64 xx) := by rw [← hWR]; exact hc0
            replace hc1 : WR.cell? ⟨(ad.add (k * 2)).block, (ad.add (k * 2)).off + 1, none⟩ = some (.int .i64 yy) := by rw [← hWR]; exact hc1
            replace hcv : WR.cell? (av.add k) = some (.int .i64 va) := by rw [← hWR]; exact hcv
            try rw [hWR]
            clear hWR qv
            have HDV := Lib.hid (show val 0 ps D = va from HA.out.g D (by omega) (by omega))
            have HWX := Lib.hid (HXF6.out.below HW.out (by omega))
            have HTX := Lib.hid (HT6.out.keep_ HW.out)
            have DA := fun p_ : Ext WR => Lib.hid (at_v A n c V d ps D va p_.W (HTX.out.keep_ p_.b) (by omega) HP.out HDV.out)
            have X0' : ∀ p_ : Ext WR, p_.W.cell? ⟨w.heap.size, 0, none⟩ = some (.slice A n c) := fun p_ => (HWX.out.ext p_).1
            have X1' : ∀ p_ : Ext WR, p_.W.cell? ⟨w.heap.size, 1, none⟩ = some (.slice V n d) := fun p_ => (HWX.out.ext p_).2
            have HUX := Lib.hid (HU6.out.keep HW.out)
            have c0' : ∀ p_ : Ext WR, p_.W.cell? (ad.add (k * 2)) = some (.int .i64 xx) := fun p_ => (p_.b.cell (World.block_lt_of_cell? _ _ hc0)).trans hc0
            have c1' : ∀ p_ : Ext WR, p_.W.cell? ⟨(ad.add (k * 2)).block, (ad.add (k * 2)).off + 1, none⟩ = some (.int .i64 yy) := fun p_ => (p_.b.cell (World.block_lt_of_cell? _ _ hc1)).trans hc1
            have cv' : ∀ p_ : Ext WR, p_.W.cell? (av.add k) = some (.int .i64 va) := fun p_ => (p_.b.cell (World.block_lt_of_cell? _ _ hcv)).trans hcv
            have ne : Nonempty (Ext WR) := ⟨⟨WR, Below.refl _ _⟩⟩
            clear hc0 hc1 hcv
            refine quietE (by kernel_rfl) (by kernel_rfl) ?_
            repeat (quiet_step (first | (go_at_call 16; exact ext_of (DA _).out)))
            refine wpQuiet_nil ?_
            rintro _ ⟨p_, rfl⟩
            have BQ := Lib.hid (HW.out.trans (p_.b.mono HW.out.size))
            have hc0 := c0' p_
            have hc1 := c1' p_
            have hcv := cv' p_
            clear c0' c1' cv' X0' X1' ne DA
            go_wp2
            go_roundw
            case rel => exact ⟨k + 1, yy, 0, by omega, by go_num, rfl, rfl, HNX, rfl, BQ⟩
            case measure => simp [intOf]; omega
    · obtain rfl : N = k := by omega
      have hE := HEN.out at_ HNXk.out
      have te : (at_ == q) = true := by simpa using hE
      clear hE
      have x1 := Bx.c1 (HXS6.out.below HW.out xlS)
      clear xS0 xS1 xF0 xF1
      go_wp2
      go_ret
      exact ⟨rfl, HB6.out.trans (HW.out.mono HB6.out.size)⟩

theorem walk (A : Option Addr) (n c : Nat) (V : Option Addr) (m d : Nat) (xs vs : List Int) {w : World} (G : GivenT w A n c V m d xs vs) (a : Int) (ha : 0 ≤ a ∧ a ≤ 4294967295) (b : Int) (hb : 0 ≤ b ∧ b ≤ 4294967295) (y : Int) (hy : 0 ≤ y ∧ y ≤ 4294967295) (w0 : World) (hw : w = w0) :
    Calls Try.prog 11 #[sg A n c V m d, .int .u32 a, .int .u32 b, .int .u32 y] w0 fun e w' => e = .returned (.bool true) ∧ Below w0.heap.size w0 w' := by
  subst hw
  by_cases hf : n ≤ 100 ∧ m ≤ 100
  · cases hr : rg xs vs
    · exact wrong A n c V m d xs vs a b y ha hb hy w G.s hf.1 hf.2 hr
    · obtain ⟨ps, hp, rfl, rfl⟩ := rg_pairs hr
      obtain rfl : n = m := by rw [← G.s.a.1, ← G.s.v.1]; simp
      have hS : Sr w w.heap.size A V n ps := G.s
      obtain ⟨⟨p, q⟩, hpq⟩ : ∃ s, spn a b = s := ⟨_, rfl⟩
      have b1 := spn_bd (a := a) (b := b)
      rw [hpq] at b1
      simp only at b1
      by_cases g : p = q
      · exact empty A n c V d ps a b y ha hb hy p q hpq b1.1 b1.2.1 b1.2.2 w hS hf.1 hp g
      · have gl : p < q := by omega
        have hseg := cuts_seg hp.1 (s := (p, q)) gl
        have hcl : (cuts (p, q) ps).length ≤ 1000000 := by
          have h1 := List.length_filter_le (fun a => decide (p < a) && decide (a < q)) (ps.map (·.1))
          have h2 := hS.len
          simp [cuts] at h1 ⊢
          omega
        have hat := fun k x y v h1 h2 => fr_at (g := val 0 ps) (t := q) _ p hseg k x y v h1 h2
        have hm1 : 0 ≤ y.tmod (q - p) := Int.tmod_nonneg _ (by omega)
        have hm2 : y.tmod (q - p) < q - p := Int.tmod_lt_of_pos _ (by omega)
        have hen : ∀ a, Nx p (fr (cuts (p, q) ps) q) (cuts (p, q) ps).length a → a = q := by
          intro a hn
          obtain ⟨j, hj⟩ : ∃ j, (cuts (p, q) ps).length = j + 1 := ⟨_, rfl⟩
          obtain ⟨x, hx⟩ := hn.s j hj
          have hv : ∃ v, ((cuts (p, q) ps).map (val 0 ps))[j]? = some v := ⟨_, List.getElem?_eq_getElem (by simp; omega)⟩
          obtain ⟨v, hv⟩ := hv
          exact (hat j x a v hx hv).e (by rw [fr_len]; exact hj.symm)
        have hvf : ∀ v ∈ (cuts (p, q) ps).map (val 0 ps), St.fits v = true := by intro v hv; obtain ⟨x, _, rfl⟩ := List.mem_map.1 hv; exact val_fits hp.2 x
        rcases se_or (PL ps (p, q)) with ⟨e1, e2, e3⟩ | ⟨e1, _, _⟩
        · exact fine A n c V d ps a b y ha hb hy p q hpq b1.1 b1.2.1 b1.2.2 w hS hf.1 hp gl _ _ _ _ _ _ rfl rfl rfl rfl (by simp [cuts]) hcl rfl e1 e2 e3.symm hat (fr_bounds _ _ hseg) hvf (fun k x y v h1 h2 => pieces_get h1 h2) (PL_pos hp.1 (s := (p, q)) gl) hen (pieces_len _ _ _) rfl (by omega) (by omega)
        · exact great A n c V d ps a b y ha hb hy p q hpq b1.1 b1.2.1 b1.2.2 w hS hf.1 hp gl _ _ _ _ _ _ rfl rfl rfl rfl (by simp [cuts]) hcl rfl e1 hat (fr_bounds _ _ hseg) hvf (fun k x y v h1 h2 => pieces_get h1 h2) (PL_pos hp.1 (s := (p, q)) gl) hen (pieces_len _ _ _) rfl (by omega) (by omega)
  · exact long A n c V m d xs vs a b y ha hb hy w G hf


set_option maxRecDepth 100000 in
theorem lifted (os : Os) (started : os.Started) (H : Type) (enc : TypeId × Value → H) :
    ReturnsInHanded {} Try.checked os 11 .any (Rows.stepPiecesSpec.pre6 enc Try.prog Try.f11 Rows.stepPiecesRow.domain false) (Rows.stepPiecesSpec.post enc Try.prog Try.f11 false true false false) := by
  refine returnsInHanded_of_change (C := Try.checked) Stp.own started (by kernel_rfl) Try.func11
    (ChangeSpec.witness6 (enc := enc) (C := Try.checked) false ⟨#[], #[.agg #[.slice none 0 0, .slice none 0 0], .int .u32 0, .int .u32 0, .int .u32 0], []⟩ 8 (by kernel_rfl) (by kernel_rfl) (by kernel_rfl) (by kernel_rfl)) ?_
  intro W base args ds gs before hval0 hW hcnd _
  have hval : ∀ (j : Nat) t v, Try.f11.params[j]? = some t → args[j]? = some v → Value.okWide Try.prog W .any base t v := hval0
  have hW' := hW
  obtain ⟨p, q, hA0, hV, rfl, hfz, hnd⟩ := hW
  have hA : DataW.TrodAll enc Try.prog W 0 (fun _ => true) true Try.f11.params.toList args.toList ds p := hA0
  rw [Try.params11] at hA hval
  obtain ⟨v0, vs0, d0, ds0, p0, q0, hargs, rfl, rfl, h0, r0⟩ := trodAll_cons hA
  obtain ⟨v1, vs1, d1, ds1, p1, q1, rfl, rfl, rfl, h1, r1⟩ := trodAll_cons r0
  obtain ⟨v2, vs2, d2, ds2, p2, q2, rfl, rfl, rfl, h2, r2⟩ := trodAll_cons r1
  obtain ⟨v3, vs3, d3, ds3, p3, q3, rfl, rfl, rfl, h3, r3⟩ := trodAll_cons r2
  obtain ⟨rfl, rfl, rfl⟩ := trodAll_nil r3
  obtain rfl : args = #[v0, v1, v2, v3] := by cases args; simp_all
  obtain ⟨rfl, rfl⟩ := trodVars_none hV
  have k0 := h0
  have lt0 : ∀ x ∈ p0, x.block < W.heap.size := by obtain ⟨m, hm⟩ := k0; exact DataW.trod_lt m _ _ _ hm
  obtain ⟨A0, n0, c0, V0, m0, e0, xs0, ys0, rfl, g0⟩ := Stp.open_step (hval 0 24 v0 rfl rfl) h0
  obtain ⟨a1, rfl, rfl, rfl, w1⟩ := open_int Try.underlying43 (hval 1 43 v1 rfl rfl) h1
  obtain ⟨a2, rfl, rfl, rfl, w2⟩ := open_int Try.underlying43 (hval 2 43 v2 rfl rfl) h2
  obtain ⟨a3, rfl, rfl, rfl, w3⟩ := open_int Try.underlying43 (hval 3 43 v3 rfl rfl) h3
  clear hA0 hval0
  refine (walk A0 n0 c0 V0 m0 e0 xs0 ys0 g0 a1 (Stp.u32_of w1) a2 (Stp.u32_of w2) a3 (Stp.u32_of w3) W rfl).mono fun e W' ⟨he, bel⟩ => ?_
  subst he
  exact ⟨_, rfl, _, _, _, [], _, [], hW', trodAll_mk1 (shut_bool Try.underlying4 _), (trodAll_cons_mk (Below.trod Stp.laidOut (by kernel_rfl) (of_decide_eq_true (by kernel_rfl)) k0 bel lt0) (trodAll_cons_mk (shut_int Try.underlying43 w1) (trodAll_cons_mk (shut_int Try.underlying43 w2) (trodAll_cons_mk (shut_int Try.underlying43 w3) trodAll_mk0)))), rfl, bel.frame _, fun h => by cases h⟩

theorem over : Rows.stepPiecesRow.holds Try.pinned (OpenSpec.ofChange Rows.stepPiecesSpec) :=
  OpenClaim.holds_of_wide 11 Try.f11 rfl rfl rfl rfl rfl rfl rfl ⟨rfl, rfl, rfl, rfl, rfl⟩ rfl rfl rfl rfl rfl (by kernel_rfl) Try.func11 (by kernel_rfl)
    (of_decide_eq_true (by kernel_rfl)) (by unfold Func.isWrapper; first | (rw [if_pos (by decide +kernel)]; kernel_rfl) | (rw [if_neg (by decide +kernel)]; exact ⟨rfl, rfl⟩))
    (fun os started H enc _ => lifted os started H enc)

theorem proved : Rows.StepPiecesSaid := over
end Go.Proofs.Ytigacpjcadlkeaa.stepPieces
