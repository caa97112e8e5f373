/-
  The statement StepSums holds: for every input the call returns true, and each argument reads afterwards as it read before. Conditions: none beside those that the row itself bears.
-/
import Derived.Test.YtigacpjcadlkeaaGiven
import Derived.Test.YtigacpjcadlkeaaRSum
import Derived.Test.YtigacpjcadlkeaaQ
namespace Go.Proofs.Ytigacpjcadlkeaa.stepSums
open Go.ChangeShapes Go.WideShapes Go.ChangeAt Go.RowKit St Stp
set_option linter.unusedVariables false

theorem sum_none (A : Option Addr) (n c : Nat) (V : Option Addr) (m d : Nat) (xs vs : List Int) (s : Pr) (w : World) (hS : Sx w w.heap.size A n V m xs vs) (hn : n ≤ 1000) (h : rg xs vs = false ∨ (rg xs vs = true ∧ full s = false)) :
    Calls Try.prog 23 #[sg A n c V m d, ag s] w (GivesN w 0 1) := by
  rcases h with h | ⟨h1, h2⟩
  · exact sum_no1 A n c V m d xs vs s w hS hn h
  · exact sum_no2 A n c V m d xs vs s w hS hn h1 h2
theorem rsum_none (A : Option Addr) (n c : Nat) (V : Option Addr) (m d : Nat) (xs vs : List Int) (s : Pr) (w : World) (hS : Sx w w.heap.size A n V m xs vs) (hn : n ≤ 1000) (h : rg xs vs = false ∨ (rg xs vs = true ∧ full s = false)) :
    Calls Try.prog 24 #[sg A n c V m d, ag s] w (GivesN w 0 1) := by
  rcases h with h | ⟨h1, h2⟩
  · exact rsum_no1 A n c V m d xs vs s w hS hn h
  · exact rsum_no2 A n c V m d xs vs s w hS hn h1 h2
theorem pieces_none (A : Option Addr) (n c : Nat) (V : Option Addr) (m d : Nat) (xs vs : List Int) (s : Pr) (w : World) (hS : Sx w w.heap.size A n V m xs vs) (hn : n ≤ 1000) (h : rg xs vs = false ∨ (rg xs vs = true ∧ full s = false)) :
    Calls Try.prog 25 #[sg A n c V m d, ag s] w (fun e w' => e = .returned (.tuple #[.slice none 0 0, .slice none 0 0]) ∧ Below w.heap.size w w') := by
  rcases h with h | ⟨h1, h2⟩
  · exact pieces_no1 A n c V m d xs vs s w hS hn h
  · exact pieces_no2 A n c V m d xs vs s w hS hn h1 h2
theorem rpieces_none (A : Option Addr) (n c : Nat) (V : Option Addr) (m d : Nat) (xs vs : List Int) (s : Pr) (w : World) (hS : Sx w w.heap.size A n V m xs vs) (hn : n ≤ 1000) (h : rg xs vs = false ∨ (rg xs vs = true ∧ full s = false)) :
    Calls Try.prog 26 #[sg A n c V m d, ag s] w (fun e w' => e = .returned (.tuple #[.slice none 0 0, .slice none 0 0]) ∧ Below w.heap.size w w') := by
  rcases h with h | ⟨h1, h2⟩
  · exact rpieces_no1 A n c V m d xs vs s w hS hn h
  · exact rpieces_no2 A n c V m d xs vs s w hS hn h1 h2

theorem rpieces_l (A : Option Addr) (n c : Nat) (V : Option Addr) (d : Nat) (ps : List Pr) (s : Pr) (w : World) (hS : Sr w w.heap.size A V n ps) (hn : n ≤ 100) (h : Right ps) (hs : full s = true) {zs : List Pr} {vs : List Int} {N : Nat} (hz : fr (cuts s ps) s.2 = zs) (hv : (cuts s ps).map (val 0 ps) = vs) (hN : (cuts s ps).length = N) :
    Calls Try.prog 26 #[sg A n c V n d, ag s] w (GivesL w N zs vs) := by
  subst hz hv hN
  exact rpieces_yes A n c V d ps s w hS (by omega) h hs
theorem rsum_l (A : Option Addr) (n c : Nat) (V : Option Addr) (d : Nat) (ps : List Pr) (s : Pr) (w : World) (hS : Sr w w.heap.size A V n ps) (hn : n ≤ 100) (h : Right ps) (hs : full s = true) {x e : Int} (hx : sv (pieces (val 0 ps) (cuts s ps) s.2) = x) (he : se (pieces (val 0 ps) (cuts s ps) s.2) = e) :
    Calls Try.prog 24 #[sg A n c V n d, ag s] w (GivesN w x e) := by
  subst hx he
  exact rsum_yes A n c V d ps s w hS (by omega) h hs

set_option maxRecDepth 100000 in
set_option maxHeartbeats 2000000 in
theorem long (A : Option Addr) (n c : Nat) (V : Option Addr) (m d : Nat) (xs vs : List Int) (s : Pr) (w : World) (G : GivenT w A n c V m d xs vs) (h : ¬ (n ≤ 100 ∧ m ≤ 100)) : Calls Try.prog 6 #[sg A n c V m d, ag s] w fun e w' => e = .returned (.bool true) ∧ Below w.heap.size w w' := by
  have hn := G.n
  have hm := G.m
  unfold maxLen at hn hm
  have C := fun w => Lib.hid (few A n c V m d w (by omega) (by omega))
  have ef : (decide (n ≤ 100) && decide (m ≤ 100)) = false := by rw [Bool.and_eq_false_iff, decide_eq_false_iff_not, decide_eq_false_iff_not]; omega
  rw [ef] at C
  have S0 : PB w (pieW w A n c V m d s) A n c V m d s := PB.new
  have HS0 := Lib.hid S0
  clear G ef h S0
  obtain ⟨p, q⟩ := s
  go_enter Try.func6, Try.ntmps6
  go_wp2_with fail
  refine (awake _).mono ?_
  rintro e w1 ⟨rfl, hb⟩
  have HS1 := Lib.hid (HS0.out.keep hb)
  clear hb HS0
  have f0 := HS1.out.f.c0
  have f1 := HS1.out.f.c1
  have s0 := HS1.out.s.c0
  have s1 := HS1.out.s.c1
  try simp only at s0 s1
  go_wp2_with fail
  refine ((C _).out).mono ?_
  rintro e w2 ⟨rfl, hb⟩
  have HS2 := Lib.hid (HS1.out.keep hb)
  clear hb HS1 f0 f1 s0 s1
  have f0 := HS2.out.f.c0
  have f1 := HS2.out.f.c1
  have s0 := HS2.out.s.c0
  have s1 := HS2.out.s.c1
  try simp only at s0 s1
  go_wp2
  go_ret
  exact ⟨rfl, HS2.out.b⟩

set_option maxRecDepth 100000 in
set_option maxHeartbeats 4000000 in
theorem none_ (A : Option Addr) (n c : Nat) (V : Option Addr) (m d : Nat) (xs vs : List Int) (s : Pr) (w : World) (hS : Sx w w.heap.size A n V m xs vs) (h1 : n ≤ 100) (h2 : m ≤ 100) (hr : rg xs vs = false ∨ (rg xs vs = true ∧ full s = false)) : Calls Try.prog 6 #[sg A n c V m d, ag s] w fun e w' => e = .returned (.bool true) ∧ Below w.heap.size w w' := by
  have C := fun w => Lib.hid (few A n c V m d w (by omega) (by omega))
  have ef : (decide (n ≤ 100) && decide (m ≤ 100)) = true := by simp; omega
  rw [ef] at C
  have HG := Lib.hid hS
  have HR := Lib.hid hr
  have S0 : PB w (pieW w A n c V m d s) A n c V m d s := PB.new
  have HS0 := Lib.hid S0
  clear hS ef hr S0
  obtain ⟨p, q⟩ := s
  go_enter Try.func6, Try.ntmps6
  go_wp2_with fail
  refine (awake _).mono ?_
  rintro e w1 ⟨rfl, hb⟩
  have HS1 := Lib.hid (HS0.out.keep hb)
  clear hb HS0
  have f0 := HS1.out.f.c0
  have f1 := HS1.out.f.c1
  have s0 := HS1.out.s.c0
  have s1 := HS1.out.s.c1
  try simp only at s0 s1
  go_wp2_with fail
  refine ((C _).out).mono ?_
  rintro e w2 ⟨rfl, hb⟩
  have HS2 := Lib.hid (HS1.out.keep hb)
  clear hb HS1 f0 f1 s0 s1
  have f0 := HS2.out.f.c0
  have f1 := HS2.out.f.c1
  have s0 := HS2.out.s.c0
  have s1 := HS2.out.s.c1
  try simp only at s0 s1
  go_wp2_with fail
  refine (sum_none A n c V m d xs vs (p, q) _ ((HG.out.below HS2.out.b (Nat.le_refl _)).wide HS2.out.b.size) (by omega) HR.out).mono ?_
  rintro e w3 ⟨rfl, hb⟩
  have HS3 := Lib.hid (HS2.out.keep hb)
  clear hb HS2 f0 f1 s0 s1
  have f0 := HS3.out.f.c0
  have f1 := HS3.out.f.c1
  have s0 := HS3.out.s.c0
  have s1 := HS3.out.s.c1
  try simp only at s0 s1
  go_wp2_with fail
  refine (rsum_none A n c V m d xs vs (p, q) _ ((HG.out.below HS3.out.b (Nat.le_refl _)).wide HS3.out.b.size) (by omega) HR.out).mono ?_
  rintro e w4 ⟨rfl, hb⟩
  have HS4 := Lib.hid (HS3.out.keep hb)
  clear hb HS3 f0 f1 s0 s1
  have f0 := HS4.out.f.c0
  have f1 := HS4.out.f.c1
  have s0 := HS4.out.s.c0
  have s1 := HS4.out.s.c1
  try simp only at s0 s1
  go_wp2_with fail
  refine (pieces_none A n c V m d xs vs (p, q) _ ((HG.out.below HS4.out.b (Nat.le_refl _)).wide HS4.out.b.size) (by omega) HR.out).mono ?_
  rintro e w5 ⟨rfl, hb⟩
  have HS5 := Lib.hid (HS4.out.keep hb)
  clear hb HS4 f0 f1 s0 s1
  have f0 := HS5.out.f.c0
  have f1 := HS5.out.f.c1
  have s0 := HS5.out.s.c0
  have s1 := HS5.out.s.c1
  try simp only at s0 s1
  go_wp2_with fail
  refine (rpieces_none A n c V m d xs vs (p, q) _ ((HG.out.below HS5.out.b (Nat.le_refl _)).wide HS5.out.b.size) (by omega) HR.out).mono ?_
  rintro e w6 ⟨rfl, hb⟩
  have HS6 := Lib.hid (HS5.out.keep hb)
  clear hb HS5 f0 f1 s0 s1
  have f0 := HS6.out.f.c0
  have f1 := HS6.out.f.c1
  have s0 := HS6.out.s.c0
  have s1 := HS6.out.s.c1
  try simp only at s0 s1
  go_wp2
  go_loopw [15] (fun i w' => i = .int .i64 0 ∧ w' = w6) (fun _ _ => 0)
  case atStart => exact ⟨rfl, rfl⟩
  case round =>
    obtain ⟨rfl, rfl⟩ := hrel
    go_wp2
    go_ret
    exact ⟨rfl, HS6.out.b⟩

set_option maxRecDepth 100000 in
set_option maxHeartbeats 4000000 in
theorem yes (A : Option Addr) (n c : Nat) (V : Option Addr) (d : Nat) (ps : List Pr) (s : Pr) (w : World) (hS : Sr w w.heap.size A V n ps) (h1 : n ≤ 100) (h : Right ps) (hs : full s = true) : Calls Try.prog 6 #[sg A n c V n d, ag s] w fun e w' => e = .returned (.bool true) ∧ Below w.heap.size w w' := by
  have C := fun w => Lib.hid (few A n c V n d w (by omega) (by omega))
  have ef : (decide (n ≤ 100) && decide (n ≤ 100)) = true := by simp; omega
  rw [ef] at C
  have HG := Lib.hid hS
  have HP := Lib.hid h
  have HF := Lib.hid hs
  obtain ⟨x, hx⟩ : ∃ x, sv (pieces (val 0 ps) (cuts s ps) s.2) = x := ⟨_, rfl⟩
  obtain ⟨er, he⟩ : ∃ x, se (pieces (val 0 ps) (cuts s ps) s.2) = x := ⟨_, rfl⟩
  obtain ⟨zs, hz⟩ : ∃ x, fr (cuts s ps) s.2 = x := ⟨_, rfl⟩
  obtain ⟨us, hv⟩ : ∃ x, (cuts s ps).map (val 0 ps) = x := ⟨_, rfl⟩
  obtain ⟨N, hN⟩ : ∃ x, (cuts s ps).length = x := ⟨_, rfl⟩
  have HX := Lib.hid hx
  have HE := Lib.hid he
  have HZ := Lib.hid hz
  have HV := Lib.hid hv
  have HN := Lib.hid hN
  have hcl : N ≤ 1000 := by
    have h1 := List.length_filter_le (fun a => decide (s.1 < a) && decide (a < s.2)) (ps.map (·.1))
    have h2 := hS.len
    rw [← hN]
    simp [cuts] at h1 ⊢
    omega
  have S0 : PB w (pieW w A n c V n d s) A n c V n d s := PB.new
  have HS0 := Lib.hid S0
  clear hS ef h hs S0 hx he hz hv hN
  obtain ⟨p, q⟩ := s
  go_enter Try.func6, Try.ntmps6
  go_wp2_with fail
  refine (awake _).mono ?_
  rintro e w1 ⟨rfl, hb⟩
  have HS1 := Lib.hid (HS0.out.keep hb)
  clear hb HS0
  have f0 := HS1.out.f.c0
  have f1 := HS1.out.f.c1
  have s0 := HS1.out.s.c0
  have s1 := HS1.out.s.c1
  try simp only at s0 s1
  go_wp2_with fail
  refine ((C _).out).mono ?_
  rintro e w2 ⟨rfl, hb⟩
  have HS2 := Lib.hid (HS1.out.keep hb)
  clear hb HS1 f0 f1 s0 s1
  have f0 := HS2.out.f.c0
  have f1 := HS2.out.f.c1
  have s0 := HS2.out.s.c0
  have s1 := HS2.out.s.c1
  try simp only at s0 s1
  go_wp2_with fail
  refine (sum_l A n c V d ps (p, q) _ ((HG.out.below HS2.out.b (Nat.le_refl _)).wide HS2.out.b.size) (by omega) HP.out HF.out HX.out HE.out).mono ?_
  rintro e w3 ⟨rfl, hb⟩
  have HS3 := Lib.hid (HS2.out.keep hb)
  clear hb HS2 f0 f1 s0 s1
  have f0 := HS3.out.f.c0
  have f1 := HS3.out.f.c1
  have s0 := HS3.out.s.c0
  have s1 := HS3.out.s.c1
  try simp only at s0 s1
  go_wp2_with fail
  refine (rsum_l A n c V d ps (p, q) _ ((HG.out.below HS3.out.b (Nat.le_refl _)).wide HS3.out.b.size) (by omega) HP.out HF.out HX.out HE.out).mono ?_
  rintro e w4 ⟨rfl, hb⟩
  have HS4 := Lib.hid (HS3.out.keep hb)
  clear hb HS3 f0 f1 s0 s1
  have f0 := HS4.out.f.c0
  have f1 := HS4.out.f.c1
  have s0 := HS4.out.s.c0
  have s1 := HS4.out.s.c1
  try simp only at s0 s1
  go_wp2_with fail
  refine (pieces_l A n c V d ps (p, q) _ ((HG.out.below HS4.out.b (Nat.le_refl _)).wide HS4.out.b.size) (by omega) HP.out HF.out HZ.out HV.out HN.out).mono ?_
  rintro e w5 ⟨AL, cL, AV, cV, rfl, hSp, hIn, hb⟩
  have HS5 := Lib.hid (HS4.out.keep hb)
  have HU5 := Lib.hid (SpI.mk hSp hIn)
  clear hSp hIn
  clear hb HS4 f0 f1 s0 s1
  have f0 := HS5.out.f.c0
  have f1 := HS5.out.f.c1
  have s0 := HS5.out.s.c0
  have s1 := HS5.out.s.c1
  try simp only at s0 s1
  go_wp2_with fail
  refine (rpieces_l A n c V d ps (p, q) _ ((HG.out.below HS5.out.b (Nat.le_refl _)).wide HS5.out.b.size) (by omega) HP.out HF.out HZ.out HV.out HN.out).mono ?_
  rintro e w6 ⟨AL2, cL2, AV2, cV2, rfl, hSp, hIn, hb⟩
  have HS6 := Lib.hid (HS5.out.keep hb)
  have HU6 := Lib.hid (HU5.out.keep hb)
  have HU2 := Lib.hid (SpI.mk hSp hIn)
  clear hSp hIn
  clear hb HS5 HU5 f0 f1 s0 s1
  have f0 := HS6.out.f.c0
  have f1 := HS6.out.f.c1
  have s0 := HS6.out.s.c0
  have s1 := HS6.out.s.c1
  try simp only at s0 s1
  go_wp2
  go_loopw [15] (fun i w' => ∃ k nd : Nat, k ≤ N ∧ i = .int .i64 (k : Int) ∧ w' = w6.drewN nd) (fun i _ => N - (intOf i).toNat)
  case atStart => exact ⟨0, 0, Nat.zero_le _, rfl, rfl⟩
  case round =>
    obtain ⟨k, nd, hk, rfl, rfl⟩ := hrel
    by_cases hlt : k < N
    · obtain ⟨ad, xx, yy, rfl, _, hz, hc0, hc1⟩ := HU6.out.s.get hlt
      obtain ⟨av, va, rfl, _, hv, hcv⟩ := HU6.out.v.get hlt
      obtain ⟨ad2, x2, y2, rfl, _, hz2, hd0, hd1⟩ := HU2.out.s.get hlt
      obtain ⟨av2, v2, rfl, _, hv2, hdv⟩ := HU2.out.v.get hlt
      rw [hz] at hz2
      rw [hv] at hv2
      injection hz2 with hz2
      injection hv2 with hv2
      injection hz2 with hx2 hy2
      subst hx2 hy2 hv2
      have hlt2 : (k : Int) < (N : Int) := by omega
      clear hz hv
      go_wp2
      go_quiet (fail)
      go_wp2
      go_roundw
      case rel => exact ⟨k + 1, _, by omega, by go_num, rfl⟩
      case measure => simp [intOf]; omega
    · go_wp2
      go_ret
      exact ⟨rfl, below_drewN HS6.out.b _⟩

theorem walk (A : Option Addr) (n c : Nat) (V : Option Addr) (m d : Nat) (xs vs : List Int) {w : World} (G : GivenT w A n c V m d xs vs) (s : Pr) (w0 : World) (hw : w = w0) :
    Calls Try.prog 6 #[sg A n c V m d, ag s] w0 fun e w' => e = .returned (.bool true) ∧ Below w0.heap.size w0 w' := by
  subst hw
  by_cases hf : n ≤ 100 ∧ m ≤ 100
  · cases hr : rg xs vs
    · exact none_ A n c V m d xs vs s w G.s hf.1 hf.2 (.inl hr)
    · cases hs : full s
      · exact none_ A n c V m d xs vs s w G.s hf.1 hf.2 (.inr ⟨hr, hs⟩)
      · obtain ⟨ps, hp, rfl, rfl⟩ := rg_pairs hr
        obtain rfl : n = m := by rw [← G.s.a.1, ← G.s.v.1]; simp
        exact yes A n c V d ps s w G.s hf.1 hp hs
  · exact long A n c V m d xs vs s w G hf

set_option maxRecDepth 100000 in
theorem lifted (os : Os) (started : os.Started) (H : Type) (enc : TypeId × Value → H) :
    ReturnsInHanded {} Try.checked os 6 .any (Rows.stepSumsSpec.pre6 enc Try.prog Try.f6 Rows.stepSumsRow.domain false) (Rows.stepSumsSpec.post enc Try.prog Try.f6 false true false false) := by
  refine returnsInHanded_of_change (C := Try.checked) Stp.own started (by kernel_rfl) Try.func6
    (ChangeSpec.witness6 (enc := enc) (C := Try.checked) false ⟨#[], #[.agg #[.slice none 0 0, .slice none 0 0], .agg #[.int .i64 0, .int .i64 0]], []⟩ 8 (by kernel_rfl) (by kernel_rfl) (by kernel_rfl) (by kernel_rfl)) ?_
  intro W base args ds gs before hval0 hW hcnd _
  have hval : ∀ (j : Nat) t v, Try.f6.params[j]? = some t → args[j]? = some v → Value.okWide Try.prog W .any base t v := hval0
  have hW' := hW
  obtain ⟨p, q, hA0, hV, rfl, hfz, hnd⟩ := hW
  have hA : DataW.TrodAll enc Try.prog W 0 (fun _ => true) true Try.f6.params.toList args.toList ds p := hA0
  rw [Try.params6] at hA hval
  obtain ⟨v0, vs0, d0, ds0, p0, q0, hargs, rfl, rfl, h0, r0⟩ := trodAll_cons hA
  obtain ⟨v1, vs1, d1, ds1, p1, q1, rfl, rfl, rfl, h1, r1⟩ := trodAll_cons r0
  obtain ⟨rfl, rfl, rfl⟩ := trodAll_nil r1
  obtain rfl : args = #[v0, v1] := by cases args; simp_all
  obtain ⟨rfl, rfl⟩ := trodVars_none hV
  have k0 := h0
  have lt0 : ∀ x ∈ p0, x.block < W.heap.size := by obtain ⟨m, hm⟩ := k0; exact DataW.trod_lt m _ _ _ hm
  obtain ⟨A0, n0, c0, V0, m0, e0, xs0, ys0, rfl, g0⟩ := Stp.open_step (hval 0 24 v0 rfl rfl) h0
  have k1 := h1
  have lt1 : ∀ x ∈ p1, x.block < W.heap.size := by obtain ⟨m, hm⟩ := k1; exact DataW.trod_lt m _ _ _ hm
  obtain ⟨x1, rfl⟩ := Stp.open_span (hval 1 30 v1 rfl rfl) h1
  clear hA0 hval0
  refine (walk A0 n0 c0 V0 m0 e0 xs0 ys0 g0 x1 W rfl).mono fun e W' ⟨he, bel⟩ => ?_
  subst he
  exact ⟨_, rfl, _, _, _, [], _, [], hW', trodAll_mk1 (shut_bool Try.underlying4 _), (trodAll_cons_mk (Below.trod Stp.laidOut (by kernel_rfl) (of_decide_eq_true (by kernel_rfl)) k0 bel lt0) (trodAll_cons_mk (Below.trod Stp.laidOut (by kernel_rfl) (of_decide_eq_true (by kernel_rfl)) k1 bel lt1) trodAll_mk0)), rfl, bel.frame _, fun h => by cases h⟩

theorem over : Rows.stepSumsRow.holds Try.pinned (OpenSpec.ofChange Rows.stepSumsSpec) :=
  OpenClaim.holds_of_wide 6 Try.f6 rfl rfl rfl rfl rfl rfl rfl ⟨rfl, rfl, rfl, rfl, rfl⟩ rfl rfl rfl rfl rfl (by kernel_rfl) Try.func6 (by kernel_rfl)
    (of_decide_eq_true (by kernel_rfl)) (by unfold Func.isWrapper; first | (rw [if_pos (by decide +kernel)]; kernel_rfl) | (rw [if_neg (by decide +kernel)]; exact ⟨rfl, rfl⟩))
    (fun os started H enc _ => lifted os started H enc)

theorem proved : Rows.StepSumsSaid := over
end Go.Proofs.Ytigacpjcadlkeaa.stepSums
