/-
  The statement QuoteOne holds: for every input the call returns true, and each argument reads afterwards as it read before. Conditions: none beside those that the row itself bears.
-/
import Derived.Test.YtinhhphnbbdoeaaGiven
namespace Go.Proofs.Ytinhhphnbbdoeaa.quoteOne
open Go.ChangeShapes Go.WideShapes Go.ChangeAt Go.RowKit Ba Tf Cv Qm Qo
set_option linter.unusedVariables false


set_option maxRecDepth 100000 in
set_option maxHeartbeats 4000000 in
theorem way_no (r : Rw) (x : Ri) (c : Co) (w : World) (CF : ∀ W : World, Hid (Calls Try.prog 9 #[vg r, .slice none 0 0] W (Yes W false))) (CA : ∀ W : World, Hid (Calls Try.prog 10 #[] W (Yes W true))) : Calls Try.prog 3 #[vg r, rg x, cg c] w (Yes w true) := by
  obtain ⟨W, hW⟩ : ∃ W, (((w.alloc (.cells (vc r) 26)).alloc (.cells (rc x) 28)).alloc (.cells (cc c) 30)) = W := ⟨_, rfl⟩
  have HB0 := Lib.hid (show B3 w W r x c by rw [← hW]; exact B3.start w r x c)
  have HW := Lib.hid hW
  clear hW
  go_enter Try.func3, Try.ntmps3
  go_wp2_with fail
  rw [HW.out]
  clear HW
  refine (CF _).out.mono ?_
  rintro e w1 ⟨rfl, hb1⟩
  have HB1 := Lib.hid (HB0.out.next hb1)
  clear hb1 HB0 CF
  go_wp2_with fail
  refine (CA _).out.mono ?_
  rintro e w2 ⟨rfl, hb2⟩
  have HB2 := Lib.hid (HB1.out.next hb2)
  clear hb2 HB1 CA
  go_wp2
  go_ret
  exact ⟨rfl, HB2.out.b⟩

set_option maxRecDepth 100000 in
set_option maxHeartbeats 4000000 in
theorem way_yes (r : Rw) (x : Ri) (c : Co) (w : World) (m e0 : Int) (CF : ∀ W : World, Hid (Calls Try.prog 9 #[vg r, .slice none 0 0] W (Yes W true))) (CA : ∀ W : World, Hid (Calls Try.prog 10 #[] W (Yes W true))) (C1 : ∀ W : World, Below w.heap.size w W → Hid (Calls Try.prog 11 #[vg r, rg x, cg c] W (Tells W (m, e0)))) (C2 : ∀ W : World, Below w.heap.size w W → Hid (Calls Try.prog 12 #[vg r, rg x, cg c] W (Tells W (m, e0)))) : Calls Try.prog 3 #[vg r, rg x, cg c] w (Yes w true) := by
  obtain ⟨W, hW⟩ : ∃ W, (((w.alloc (.cells (vc r) 26)).alloc (.cells (rc x) 28)).alloc (.cells (cc c) 30)) = W := ⟨_, rfl⟩
  have HB0 := Lib.hid (show B3 w W r x c by rw [← hW]; exact B3.start w r x c)
  have HW := Lib.hid hW
  clear hW
  go_enter Try.func3, Try.ntmps3
  go_wp2_with fail
  rw [HW.out]
  clear HW
  refine (CF _).out.mono ?_
  rintro e w1 ⟨rfl, hb1⟩
  have HB1 := Lib.hid (HB0.out.next hb1)
  clear hb1 HB0 CF
  have x0 := HB1.out.v.c 0
  have x1 := HB1.out.v.c 1
  have x2 := HB1.out.v.c 2
  have x3 := HB1.out.v.c 3
  have x4 := HB1.out.v.c 4
  have x5 := HB1.out.v.c 5
  have x6 := HB1.out.v.c 6
  have x7 := HB1.out.v.c 7
  have x8 := HB1.out.v.c 8
  have y0 := HB1.out.r.c 0
  have y1 := HB1.out.r.c 1
  have y2 := HB1.out.r.c 2
  have y3 := HB1.out.r.c 3
  have z0 := HB1.out.c.c 0
  have z1 := HB1.out.c.c 1
  have z2 := HB1.out.c.c 2
  have z3 := HB1.out.c.c 3
  have z4 := HB1.out.c.c 4
  simp at x0 x1 x2 x3 x4 x5 x6 x7 x8 y0 y1 y2 y3 z0 z1 z2 z3 z4
  go_wp2_with fail
  refine (C1 _ HB1.out.b).out.mono ?_
  rintro e w2 ⟨rfl, hb2⟩
  have HB2 := Lib.hid (HB1.out.next hb2)
  clear hb2 HB1 x0 x1 x2 x3 x4 x5 x6 x7 x8 y0 y1 y2 y3 z0 z1 z2 z3 z4
  have x0 := HB2.out.v.c 0
  have x1 := HB2.out.v.c 1
  have x2 := HB2.out.v.c 2
  have x3 := HB2.out.v.c 3
  have x4 := HB2.out.v.c 4
  have x5 := HB2.out.v.c 5
  have x6 := HB2.out.v.c 6
  have x7 := HB2.out.v.c 7
  have x8 := HB2.out.v.c 8
  have y0 := HB2.out.r.c 0
  have y1 := HB2.out.r.c 1
  have y2 := HB2.out.r.c 2
  have y3 := HB2.out.r.c 3
  have z0 := HB2.out.c.c 0
  have z1 := HB2.out.c.c 1
  have z2 := HB2.out.c.c 2
  have z3 := HB2.out.c.c 3
  have z4 := HB2.out.c.c 4
  simp at x0 x1 x2 x3 x4 x5 x6 x7 x8 y0 y1 y2 y3 z0 z1 z2 z3 z4
  go_wp2_with fail
  refine (C2 _ HB2.out.b).out.mono ?_
  rintro e w3 ⟨rfl, hb3⟩
  have HB3 := Lib.hid (HB2.out.next hb3)
  clear hb3 HB2 x0 x1 x2 x3 x4 x5 x6 x7 x8 y0 y1 y2 y3 z0 z1 z2 z3 z4
  go_wp2_with fail
  refine (CA _).out.mono ?_
  rintro e w4 ⟨rfl, hb4⟩
  have HB4 := Lib.hid (HB3.out.next hb4)
  clear hb4 HB3 CA
  go_wp2
  go_ret
  exact ⟨rfl, HB4.out.b⟩

theorem walk {w0 : World} (r : Rw) (g : GivenV w0 r) (x : Ri) (c : Co) : Calls Try.prog 3 #[vg r, rg x, cg c] w0 (Yes w0 true) := by
  have CF := fun W => Lib.hid (few_ r none 0 0 W g.l (by unfold maxLen; omega))
  have CA := fun W => Lib.hid (alive_ W)
  cases h : fw r 0
  · rw [h] at CF
    exact way_no r x c w0 CF CA
  · rw [h] at CF
    exact way_yes r x c w0 _ _ CF CA (fun W hb => Lib.hid (cost r x c W (g.m.below hb) g.l)) (fun W hb => Lib.hid (rcost r x c W (g.m.below hb) g.l))

set_option maxRecDepth 100000 in
theorem lifted (os : Os) (started : os.Started) (H : Type) (enc : TypeId × Value → H) :
    ReturnsInHanded {} Try.checked os 3 .any (Rows.quoteOneSpec.pre6 enc Try.prog Try.f3 Rows.quoteOneRow.domain false) (Rows.quoteOneSpec.post enc Try.prog Try.f3 false true false false) := by
  refine returnsInHanded_of_change_sized (C := Try.checked) Qo.own started (by kernel_rfl) Try.func3
    (ChangeSpec.witness6 (enc := enc) (C := Try.checked) false ⟨#[], #[.agg #[.int .i64 0, .int .i64 0, .int .i64 0, .int .i64 0, .int .i64 0, .slice none 0 0, .slice none 0 0, .slice none 0 0, .int .i64 0], .agg #[.int .i64 0, .int .i64 0, .int .i64 0, .int .i64 0], .agg #[.int .i64 0, .int .i64 0, .int .i64 0, .int .i64 0, .int .i64 0]], []⟩ 8 (by kernel_rfl) (by kernel_rfl) (by kernel_rfl) (by kernel_rfl)) ?_
  intro W base args ds gs before hval0 hW hcnd hsz0 _
  have hval : ∀ (j : Nat) t v, Try.f3.params[j]? = some t → args[j]? = some v → Value.okWide Try.prog W .any base t v := hval0
  have hW' := hW
  have hsz : (DataW.weightsEach Try.prog (Try.f3.params.toList ++ Rows.quoteOneSpec.plain.varTypes Try.prog) (ds ++ gs)).all (· ≤ reachBytes) = true := hsz0
  obtain ⟨p, q, hA0, hV, rfl, hfz, hnd⟩ := hW
  have hA : DataW.TrodAll enc Try.prog W 0 (fun _ => true) true Try.f3.params.toList args.toList ds p := hA0
  rw [Try.params3] at hA hval hsz
  obtain ⟨v0, vs0, d0, ds0, p0, q0, hargs, rfl, rfl, h0, r0⟩ := trodAll_cons hA
  obtain ⟨v1, vs1, d1, ds1, p1, q1, rfl, rfl, rfl, h1, r1⟩ := trodAll_cons r0
  obtain ⟨v2, vs2, d2, ds2, p2, q2, rfl, rfl, rfl, h2, r2⟩ := trodAll_cons r1
  obtain ⟨rfl, rfl, rfl⟩ := trodAll_nil r2
  obtain rfl : args = #[v0, v1, v2] := by cases args; simp_all
  obtain ⟨rfl, rfl⟩ := trodVars_none hV
  have k0 := h0
  have lt0 : ∀ x ∈ p0, x.block < W.heap.size := by obtain ⟨m, hm⟩ := k0; exact DataW.trod_lt m _ _ _ hm
  obtain ⟨z0, rfl, g0⟩ := Qo.open_version (hval 0 26 v0 rfl rfl) h0 (fun k hk => of_decide_eq_true (List.all_eq_true.1 hsz _ (DataW.weights_mem_each (j := 0) rfl rfl k hk)))
  have k1 := h1
  have lt1 : ∀ x ∈ p1, x.block < W.heap.size := by obtain ⟨m, hm⟩ := k1; exact DataW.trod_lt m _ _ _ hm
  obtain ⟨x1, rfl⟩ := Qo.open_risk (hval 1 28 v1 rfl rfl) h1 (fun k hk => of_decide_eq_true (List.all_eq_true.1 hsz _ (DataW.weights_mem_each (j := 1) rfl rfl k hk)))
  have k2 := h2
  have lt2 : ∀ x ∈ p2, x.block < W.heap.size := by obtain ⟨m, hm⟩ := k2; exact DataW.trod_lt m _ _ _ hm
  obtain ⟨c2, rfl⟩ := Qo.open_cover (hval 2 30 v2 rfl rfl) h2 (fun k hk => of_decide_eq_true (List.all_eq_true.1 hsz _ (DataW.weights_mem_each (j := 2) rfl rfl k hk)))
  clear hA0 hval0 hsz hsz0
  refine (walk z0 g0 x1 c2).mono fun e W' ⟨he, bel⟩ => ?_
  subst he
  exact ⟨_, rfl, _, _, _, [], _, [], hW', trodAll_mk1 (shut_bool Try.underlying4 _), (trodAll_cons_mk (Below.trod Qo.laidOut (by kernel_rfl) (of_decide_eq_true (by kernel_rfl)) k0 bel lt0) (trodAll_cons_mk (Below.trod Qo.laidOut (by kernel_rfl) (of_decide_eq_true (by kernel_rfl)) k1 bel lt1) (trodAll_cons_mk (Below.trod Qo.laidOut (by kernel_rfl) (of_decide_eq_true (by kernel_rfl)) k2 bel lt2) trodAll_mk0))), rfl, bel.frame _, fun h => by cases h⟩

theorem over : Rows.quoteOneRow.holds Try.pinned (OpenSpec.ofChange Rows.quoteOneSpec) :=
  OpenClaim.holds_of_wide 3 Try.f3 rfl rfl rfl rfl rfl rfl rfl ⟨rfl, rfl, rfl, rfl, rfl⟩ rfl rfl rfl rfl rfl (by kernel_rfl) Try.func3 (by kernel_rfl)
    (of_decide_eq_true (by kernel_rfl)) (by unfold Func.isWrapper; first | (rw [if_pos (by decide +kernel)]; kernel_rfl) | (rw [if_neg (by decide +kernel)]; exact ⟨rfl, rfl⟩))
    (fun os started H enc _ => lifted os started H enc)

theorem proved : Rows.QuoteOneSaid := over
end Go.Proofs.Ytinhhphnbbdoeaa.quoteOne
