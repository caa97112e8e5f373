/-
  The statement StepSets holds: for every input the call returns true, and each argument reads afterwards as it read before. Conditions: none beside those that the row itself bears.
-/
import Derived.Test.YtigacpjcadlkeaaGiven
import Derived.Test.YtigacpjcadlkeaaRSet
import Derived.Test.YtigacpjcadlkeaaQ
namespace Go.Proofs.Ytigacpjcadlkeaa.stepSets
open Go.ChangeShapes Go.WideShapes Go.ChangeAt Go.RowKit St Stp
set_option linter.unusedVariables false

theorem rset_ (A : Option Addr) (n c : Nat) (V : Option Addr) (d : Nat) (ps : List Pr) (s : Pr) (v : Int) (w : World) (hS : Sr w w.heap.size A V n ps) (hn : n ≤ 400) (h : Right ps) :
    Calls Try.prog 20 #[sg A n c V n d, ag s, .int .i64 v] w (GivesB w (setR ps s v)) := by
  cases hs : full s
  · rw [setR, if_neg (by simp [hs])]
    exact rset_far1 A n c V d ps s v w hS hn h hs
  · rcases Int.lt_or_le v (-4000000000000000000) with g1 | g1
    · rw [setR, if_neg (by rw [fits_iff]; omega)]
      exact rset_far2 A n c V d ps s v w hS hn h hs g1
    · rcases Int.lt_or_le 4000000000000000000 v with g2 | g2
      · rw [setR, if_neg (by rw [fits_iff]; omega)]
        exact rset_far3 A n c V d ps s v w hS hn h hs g2
      · exact rset_yes A n c V d ps s v w hS hn h hs g1 g2

set_option maxRecDepth 100000 in
set_option maxHeartbeats 2000000 in
theorem long (A : Option Addr) (n c : Nat) (V : Option Addr) (m d : Nat) (xs vs : List Int) (s : Pr) (v : Int) (w : World) (G : GivenT w A n c V m d xs vs) (h : ¬ (n ≤ 100 ∧ m ≤ 100)) : Calls Try.prog 4 #[sg A n c V m d, ag s, .int .i64 v] w fun e w' => e = .returned (.bool true) ∧ Below w.heap.size w w' := by
  have hn := G.n
  have hm := G.m
  unfold maxLen at hn hm
  have C := fun w => Lib.hid (few A n c V m d w (by omega) (by omega))
  have ef : (decide (n ≤ 100) && decide (m ≤ 100)) = false := by rw [Bool.and_eq_false_iff, decide_eq_false_iff_not, decide_eq_false_iff_not]; omega
  rw [ef] at C
  have S0 : PB w (pieW w A n c V m d s) A n c V m d s := PB.new
  have HS0 := Lib.hid S0
  clear G ef h S0
  obtain ⟨p, q⟩ := s
  go_enter Try.func4, Try.ntmps4
  go_wp2_with fail
  refine (awake _).mono ?_
  rintro e w1 ⟨rfl, hb⟩
  have HS1 := Lib.hid (HS0.out.keep hb)
  clear hb HS0
  have f0 := HS1.out.f.c0
  have f1 := HS1.out.f.c1
  have s0 := HS1.out.s.c0
  have s1 := HS1.out.s.c1
  try simp only at s0 s1
  go_wp2_with fail
  refine ((C _).out).mono ?_
  rintro e w2 ⟨rfl, hb⟩
  have HS2 := Lib.hid (HS1.out.keep hb)
  clear hb HS1 f0 f1 s0 s1
  have f0 := HS2.out.f.c0
  have f1 := HS2.out.f.c1
  have s0 := HS2.out.s.c0
  have s1 := HS2.out.s.c1
  try simp only at s0 s1
  go_wp2
  go_ret
  exact ⟨rfl, HS2.out.b⟩

/-- What a call gives that makes a step, by letters. -/
def GivesM (w : World) (L : Nat) (rs : List Pr) (e : Ending) (w' : World) : Prop := ∃ A c V d, e = .returned (sg A L c V L d) ∧ Mk w' A V rs ∧ Below w.heap.size w w'
theorem gm_of {w : World} {rs : List Pr} {e : Ending} {w' : World} {L : Nat} (hL : rs.length = L) (h : GivesB w rs e w') : GivesM w L rs e w' := by
  subst hL
  obtain ⟨A, c, V, d, h1, h2, h3⟩ := h
  exact ⟨A, c, V, d, h1, GivesB.mk_ h2, h3⟩

set_option maxRecDepth 100000 in
set_option maxHeartbeats 4000000 in
theorem short (A : Option Addr) (n c : Nat) (V : Option Addr) (m d : Nat) (s : Pr) (v : Int) (w : World) (h1 : n ≤ 100) (h2 : m ≤ 100) (rs : List Pr) (L : Nat) (hL : rs.length = L) (hL2 : L ≤ 200)
    (hA : ∀ W, Below w.heap.size w W → Calls Try.prog 19 #[sg A n c V m d, ag s, .int .i64 v] W (GivesM W L rs))
    (hB : ∀ W, Below w.heap.size w W → Calls Try.prog 20 #[sg A n c V m d, ag s, .int .i64 v] W (GivesM W L rs)) : Calls Try.prog 4 #[sg A n c V m d, ag s, .int .i64 v] w fun e w' => e = .returned (.bool true) ∧ Below w.heap.size w w' := by
  have C := fun w => Lib.hid (few A n c V m d w (by omega) (by omega))
  have ef : (decide (n ≤ 100) && decide (m ≤ 100)) = true := by simp; omega
  rw [ef] at C
  have HA := Lib.hid hA
  have HB := Lib.hid hB
  have HL := Lib.hid hL
  have S0 : PB w (pieW w A n c V m d s) A n c V m d s := PB.new
  have HS0 := Lib.hid S0
  clear ef hA hB hL S0
  obtain ⟨p, q⟩ := s
  go_enter Try.func4, Try.ntmps4
  go_wp2_with fail
  refine (awake _).mono ?_
  rintro e w1 ⟨rfl, hb⟩
  have HS1 := Lib.hid (HS0.out.keep hb)
  clear hb HS0
  have f0 := HS1.out.f.c0
  have f1 := HS1.out.f.c1
  have s0 := HS1.out.s.c0
  have s1 := HS1.out.s.c1
  try simp only at s0 s1
  go_wp2_with fail
  refine ((C _).out).mono ?_
  rintro e w2 ⟨rfl, hb⟩
  have HS2 := Lib.hid (HS1.out.keep hb)
  clear hb HS1 f0 f1 s0 s1
  have f0 := HS2.out.f.c0
  have f1 := HS2.out.f.c1
  have s0 := HS2.out.s.c0
  have s1 := HS2.out.s.c1
  try simp only at s0 s1
  go_wp2
  refine wp_region_held (S := fun w' => w'.cell? ⟨w.heap.size, 0, none⟩ = some (.slice A n c) ∧ w'.cell? ⟨w.heap.size, 1, none⟩ = some (.slice V m d) ∧ w'.cell? ⟨w.heap.size + 1, 0, none⟩ = some (.int .i64 p) ∧ w'.cell? ⟨w.heap.size + 1, 1, none⟩ = some (.int .i64 q)) (by kernel_rfl) ?_
  change wpAnyH _ _ _ _ _ _ _ _ (World.drew _)
  have HB0 := Lib.hid (show Below w2.heap.size w2 w2.drew from (Below.refl _ _).drew)
  have HSU := Lib.hid (show w2.drew.cell? ⟨w.heap.size, 0, none⟩ = some (.slice A n c) ∧ w2.drew.cell? ⟨w.heap.size, 1, none⟩ = some (.slice V m d) ∧ w2.drew.cell? ⟨w.heap.size + 1, 0, none⟩ = some (.int .i64 p) ∧ w2.drew.cell? ⟨w.heap.size + 1, 1, none⟩ = some (.int .i64 q) from ⟨(HS2.out.f.keep HB0.out).c0, (HS2.out.f.keep HB0.out).c1, (HS2.out.s.keep HB0.out).c0, (HS2.out.s.keep HB0.out).c1⟩)
  refine wpAnyH_take (i := 0) (v := .bool true) rfl (by kernel_rfl) (by kernel_rfl) (by kernel_rfl) (fun _ _ _ h => h) (Or.inl ⟨by rfl, by intro w_ hS_; obtain ⟨q0_, q1_, q2_, q3_⟩ := hS_; go_simp⟩) HSU.out ?_
  refine wpAnyH_take (i := 1) (v := .bool true) rfl (by kernel_rfl) (by kernel_rfl) (by kernel_rfl) (fun _ _ _ h => h) (Or.inl ⟨by rfl, by intro w_ hS_; obtain ⟨q0_, q1_, q2_, q3_⟩ := hS_; go_simp⟩) HSU.out ?_
  refine wpAnyH_take (i := 2) (v := sg A n c V m d) rfl (by kernel_rfl) (by kernel_rfl) (by kernel_rfl) (fun _ _ _ h => h) (Or.inl ⟨by rfl, by intro w_ hS_; obtain ⟨q0_, q1_, q2_, q3_⟩ := hS_; go_simp⟩) HSU.out ?_
  refine wpAnyH_take (i := 3) (v := ag (p, q)) rfl (by kernel_rfl) (by kernel_rfl) (by kernel_rfl) (fun _ _ _ h => h) (Or.inl ⟨by rfl, by intro w_ hS_; obtain ⟨q0_, q1_, q2_, q3_⟩ := hS_; go_simp⟩) HSU.out ?_
  refine wpAnyH_take (i := 4) (v := .int .i64 v) rfl (by kernel_rfl) (by kernel_rfl) (by kernel_rfl) (fun _ _ _ h => h) (Or.inl ⟨by rfl, by intro w_ hS_; obtain ⟨q0_, q1_, q2_, q3_⟩ := hS_; go_simp⟩) HSU.out ?_
  refine wpAnyH_take (i := 6) (v := sg A n c V m d) rfl (by kernel_rfl) (by kernel_rfl) (by kernel_rfl) (fun _ _ _ h => h) (Or.inl ⟨by rfl, by intro w_ hS_; obtain ⟨q0_, q1_, q2_, q3_⟩ := hS_; go_simp⟩) HSU.out ?_
  refine wpAnyH_take (i := 7) (v := ag (p, q)) rfl (by kernel_rfl) (by kernel_rfl) (by kernel_rfl) (fun _ _ _ h => h) (Or.inl ⟨by rfl, by intro w_ hS_; obtain ⟨q0_, q1_, q2_, q3_⟩ := hS_; go_simp⟩) HSU.out ?_
  refine wpAnyH_take (i := 8) (v := .int .i64 v) rfl (by kernel_rfl) (by kernel_rfl) (by kernel_rfl) (fun _ _ _ h => h) (Or.inl ⟨by rfl, by intro w_ hS_; obtain ⟨q0_, q1_, q2_, q3_⟩ := hS_; go_simp⟩) HSU.out ?_
  try simp only [Act.put, List.setIfInBounds_toArray]
  refine wpAnyH_ready (rs := [5]) (by kernel_rfl) (by simp) ?_
  refine (AllReadyH.cons rfl (fun K hK => ?_) AllReadyH.nil)
  · go_simp
    refine (HA.out w2.drew (HS2.out.b.trans (HB0.out.mono HS2.out.b.size))).mono ?_
    rintro e W3 ⟨AA, cA, VA, dA, rfl, hM, hb⟩
    have HMA1 := Lib.hid hM
    have HBW3 := Lib.hid (HB0.out.trans (hb.mono HB0.out.size))
    clear hM hb
    try go_simp
    refine hK.out _ _ ⟨(HS2.out.f.keep HBW3.out).c0, (HS2.out.f.keep HBW3.out).c1, (HS2.out.s.keep HBW3.out).c0, (HS2.out.s.keep HBW3.out).c1⟩ (fun _ => ?_)
    clear hK K
    refine wpAnyH_ready (rs := [9]) (by kernel_rfl) (by simp) ?_
    refine (AllReadyH.cons rfl (fun K hK => ?_) AllReadyH.nil)
    · go_simp
      refine (HB.out W3 (HS2.out.b.trans (HBW3.out.mono HS2.out.b.size))).mono ?_
      rintro e W4 ⟨AB, cB, VB, dB, rfl, hM, hb⟩
      have HMB2 := Lib.hid hM
      have HMA2 := Lib.hid (HMA1.out.keep hb)
      have HBW4 := Lib.hid (HBW3.out.trans (hb.mono HBW3.out.size))
      clear hM hb
      try go_simp
      refine hK.out _ _ ⟨(HS2.out.f.keep HBW4.out).c0, (HS2.out.f.keep HBW4.out).c1, (HS2.out.s.keep HBW4.out).c0, (HS2.out.s.keep HBW4.out).c1⟩ (fun _ => ?_)
      clear hK K
      refine wpAnyH_ready (rs := [10]) (by kernel_rfl) (by simp) ?_
      refine (AllReadyH.cons rfl (fun K hK => ?_) AllReadyH.nil)
      · go_simp
        refine (same_r AA L cA VA dA AB L cB VB dB rs W4 HMA2.out HMB2.out HL.out HL.out (by omega) rfl).mono ?_
        rintro e W5 ⟨rfl, hb⟩
        have HBW5 := Lib.hid (HBW4.out.trans (hb.mono HBW4.out.size))
        clear hb
        try go_simp
        refine hK.out _ _ ⟨(HS2.out.f.keep HBW5.out).c0, (HS2.out.f.keep HBW5.out).c1, (HS2.out.s.keep HBW5.out).c0, (HS2.out.s.keep HBW5.out).c1⟩ (fun _ => ?_)
        clear hK K
        refine wpAnyH_ready (rs := [11]) (by kernel_rfl) (by simp) ?_
        refine (AllReadyH.cons rfl (fun K hK => ?_) AllReadyH.nil)
        · go_simp
          refine hK.out _ _ ⟨(HS2.out.f.keep HBW5.out).c0, (HS2.out.f.keep HBW5.out).c1, (HS2.out.s.keep HBW5.out).c0, (HS2.out.s.keep HBW5.out).c1⟩ (fun _ => ?_)
          clear hK K
          refine wpAnyH_ready (rs := [12]) (by kernel_rfl) (by simp) ?_
          refine (AllReadyH.cons rfl (fun K hK => ?_) AllReadyH.nil)
          · go_simp
            refine hK.out _ _ ⟨(HS2.out.f.keep HBW5.out).c0, (HS2.out.f.keep HBW5.out).c1, (HS2.out.s.keep HBW5.out).c0, (HS2.out.s.keep HBW5.out).c1⟩ (fun _ => ?_)
            clear hK K
            refine wpAnyH_done (by kernel_rfl) ?_ _
            go_wp2
            go_ret
            exact ⟨rfl, HS2.out.b.trans (HBW5.out.mono HS2.out.b.size)⟩


theorem walk (A : Option Addr) (n c : Nat) (V : Option Addr) (m d : Nat) (xs vs : List Int) {w : World} (G : GivenT w A n c V m d xs vs) (s : Pr) (v : Int) (hv : -9223372036854775808 ≤ v ∧ v ≤ 9223372036854775807) (w0 : World) (hw : w = w0) :
    Calls Try.prog 4 #[sg A n c V m d, ag s, .int .i64 v] w0 fun e w' => e = .returned (.bool true) ∧ Below w0.heap.size w0 w' := by
  subst hw
  by_cases hf : n ≤ 100 ∧ m ≤ 100
  · cases hr : rg xs vs
    · exact short A n c V m d s v w hf.1 hf.2 [] 0 rfl (by omega)
        (fun W hb => (set_no A n c V m d xs vs s v W ((G.s.below hb (Nat.le_refl _)).wide hb.size) (by omega) hr).mono fun e w' h => gm_of rfl h)
        (fun W hb => (rset_no A n c V m d xs vs s v W ((G.s.below hb (Nat.le_refl _)).wide hb.size) (by omega) hr).mono fun e w' h => gm_of rfl h)
    · obtain ⟨ps, hp, rfl, rfl⟩ := rg_pairs hr
      obtain rfl : n = m := by rw [← G.s.a.1, ← G.s.v.1]; simp
      have hS : Sr w w.heap.size A V n ps := G.s
      exact short A n c V n d s v w hf.1 hf.2 (setR ps s v) _ rfl (by have := setR_len ps s v; have := hS.len; omega)
        (fun W hb => (set_ A n c V d ps s v W ((hS.below hb (Nat.le_refl _)).wide hb.size) (by omega) hp).mono fun e w' h => gm_of rfl h)
        (fun W hb => (rset_ A n c V d ps s v W ((hS.below hb (Nat.le_refl _)).wide hb.size) (by omega) hp).mono fun e w' h => gm_of rfl h)
  · exact long A n c V m d xs vs s v w G hf

set_option maxRecDepth 100000 in
theorem lifted (os : Os) (started : os.Started) (H : Type) (enc : TypeId × Value → H) :
    ReturnsInHanded {} Try.checked os 4 .any (Rows.stepSetsSpec.pre6 enc Try.prog Try.f4 Rows.stepSetsRow.domain false) (Rows.stepSetsSpec.post enc Try.prog Try.f4 false true false false) := by
  refine returnsInHanded_of_change (C := Try.checked) Stp.own started (by kernel_rfl) Try.func4
    (ChangeSpec.witness6 (enc := enc) (C := Try.checked) false ⟨#[], #[.agg #[.slice none 0 0, .slice none 0 0], .agg #[.int .i64 0, .int .i64 0], .int .i64 0], []⟩ 8 (by kernel_rfl) (by kernel_rfl) (by kernel_rfl) (by kernel_rfl)) ?_
  intro W base args ds gs before hval0 hW hcnd _
  have hval : ∀ (j : Nat) t v, Try.f4.params[j]? = some t → args[j]? = some v → Value.okWide Try.prog W .any base t v := hval0
  have hW' := hW
  obtain ⟨p, q, hA0, hV, rfl, hfz, hnd⟩ := hW
  have hA : DataW.TrodAll enc Try.prog W 0 (fun _ => true) true Try.f4.params.toList args.toList ds p := hA0
  rw [Try.params4] at hA hval
  obtain ⟨v0, vs0, d0, ds0, p0, q0, hargs, rfl, rfl, h0, r0⟩ := trodAll_cons hA
  obtain ⟨v1, vs1, d1, ds1, p1, q1, rfl, rfl, rfl, h1, r1⟩ := trodAll_cons r0
  obtain ⟨v2, vs2, d2, ds2, p2, q2, rfl, rfl, rfl, h2, r2⟩ := trodAll_cons r1
  obtain ⟨rfl, rfl, rfl⟩ := trodAll_nil r2
  obtain rfl : args = #[v0, v1, v2] := by cases args; simp_all
  obtain ⟨rfl, rfl⟩ := trodVars_none hV
  have k0 := h0
  have lt0 : ∀ x ∈ p0, x.block < W.heap.size := by obtain ⟨m, hm⟩ := k0; exact DataW.trod_lt m _ _ _ hm
  obtain ⟨A0, n0, c0, V0, m0, e0, xs0, ys0, rfl, g0⟩ := Stp.open_step (hval 0 24 v0 rfl rfl) h0
  have k1 := h1
  have lt1 : ∀ x ∈ p1, x.block < W.heap.size := by obtain ⟨m, hm⟩ := k1; exact DataW.trod_lt m _ _ _ hm
  obtain ⟨x1, rfl⟩ := Stp.open_span (hval 1 30 v1 rfl rfl) h1
  obtain ⟨a2, rfl, rfl, rfl, w2⟩ := open_int Try.underlying3 (hval 2 3 v2 rfl rfl) h2
  clear hA0 hval0
  refine (walk A0 n0 c0 V0 m0 e0 xs0 ys0 g0 x1 a2 (Stp.i64_of w2) W rfl).mono fun e W' ⟨he, bel⟩ => ?_
  subst he
  exact ⟨_, rfl, _, _, _, [], _, [], hW', trodAll_mk1 (shut_bool Try.underlying4 _), (trodAll_cons_mk (Below.trod Stp.laidOut (by kernel_rfl) (of_decide_eq_true (by kernel_rfl)) k0 bel lt0) (trodAll_cons_mk (Below.trod Stp.laidOut (by kernel_rfl) (of_decide_eq_true (by kernel_rfl)) k1 bel lt1) (trodAll_cons_mk (shut_int Try.underlying3 w2) trodAll_mk0))), rfl, bel.frame _, fun h => by cases h⟩

theorem over : Rows.stepSetsRow.holds Try.pinned (OpenSpec.ofChange Rows.stepSetsSpec) :=
  OpenClaim.holds_of_wide 4 Try.f4 rfl rfl rfl rfl rfl rfl rfl ⟨rfl, rfl, rfl, rfl, rfl⟩ rfl rfl rfl rfl rfl (by kernel_rfl) Try.func4 (by kernel_rfl)
    (of_decide_eq_true (by kernel_rfl)) (by unfold Func.isWrapper; first | (rw [if_pos (by decide +kernel)]; kernel_rfl) | (rw [if_neg (by decide +kernel)]; exact ⟨rfl, rfl⟩))
    (fun os started H enc _ => lifted os started H enc)

theorem proved : Rows.StepSetsSaid := over
end Go.Proofs.Ytigacpjcadlkeaa.stepSets
