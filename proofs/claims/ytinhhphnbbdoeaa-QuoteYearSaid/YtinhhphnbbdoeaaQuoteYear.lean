/-
  The statement QuoteYear holds: for every input the call returns true, and each argument reads afterwards as it read before. Conditions: none beside those that the row itself bears.
-/
import Derived.Test.YtinhhphnbbdoeaaGiven
namespace Go.Proofs.Ytinhhphnbbdoeaa.quoteYear
open Go.ChangeShapes Go.WideShapes Go.ChangeAt Go.RowKit Ba Tf Cv Qm Qo
set_option linter.unusedVariables false


/-- A version's and a risk's box, one behind the other. -/
structure B2 (w W : World) (r : Rw) (x : Ri) : Prop where
  b : Below w.heap.size w W
  v : Bx W w.heap.size 26 (vc r)
  r : Bx W (w.heap.size + 1) 28 (rc x)
section
variable {w W W' : World} {r : Rw} {x : Ri}
theorem B2.next (h : B2 w W r x) (hb : Below W.heap.size W W') : B2 w W' r x := ⟨h.b.trans (hb.mono h.b.size), h.v.keep hb, h.r.keep hb⟩
theorem B2.start (w : World) (r : Rw) (x : Ri) : B2 w ((w.alloc (.cells (vc r) 26)).alloc (.cells (rc x) 28)) r x := by
  refine ⟨(alloc_ _ _).alloc (by simp) _, (Bx.new _ _ _).alloc _, ?_⟩
  have := Bx.new (w.alloc (.cells (vc r) 26)) 28 (rc x)
  rw [World.size_alloc] at this
  exact this
end
set_option maxRecDepth 100000 in
set_option maxHeartbeats 4000000 in
theorem way_no (r : Rw) (x : Ri) (A : Option Addr) (n d : Nat) (w : World) (CF : ∀ W : World, Hid (Calls Try.prog 9 #[vg r, .slice A n d] W (Yes W false))) (CA : ∀ W : World, Hid (Calls Try.prog 10 #[] W (Yes W true))) : Calls Try.prog 4 #[vg r, rg x, .slice A n d] w (Yes w true) := by
  obtain ⟨W, hW⟩ : ∃ W, ((w.alloc (.cells (vc r) 26)).alloc (.cells (rc x) 28)) = W := ⟨_, rfl⟩
  have HB0 := Lib.hid (show B2 w W r x by rw [← hW]; exact B2.start w r x)
  have HW := Lib.hid hW
  clear hW
  go_enter Try.func4, Try.ntmps4
  go_wp2_with fail
  rw [HW.out]
  clear HW
  refine (CF _).out.mono ?_
  rintro e w1 ⟨rfl, hb1⟩
  have HB1 := Lib.hid (HB0.out.next hb1)
  clear hb1 HB0 CF
  go_wp2_with fail
  refine (CA _).out.mono ?_
  rintro e w2 ⟨rfl, hb2⟩
  have HB2 := Lib.hid (HB1.out.next hb2)
  clear hb2 HB1 CA
  go_wp2
  go_ret
  exact ⟨rfl, HB2.out.b⟩

set_option maxRecDepth 100000 in
set_option maxHeartbeats 4000000 in
theorem way_yes (r : Rw) (x : Ri) (A : Option Addr) (n d : Nat) (w : World) (m e0 : Int) (CF : ∀ W : World, Hid (Calls Try.prog 9 #[vg r, .slice A n d] W (Yes W true))) (CA : ∀ W : World, Hid (Calls Try.prog 10 #[] W (Yes W true))) (C1 : ∀ W : World, Below w.heap.size w W → Hid (Calls Try.prog 13 #[vg r, rg x, .slice A n d] W (Tells W (m, e0)))) (C2 : ∀ W : World, Below w.heap.size w W → Hid (Calls Try.prog 14 #[vg r, rg x, .slice A n d] W (Tells W (m, e0)))) : Calls Try.prog 4 #[vg r, rg x, .slice A n d] w (Yes w true) := by
  obtain ⟨W, hW⟩ : ∃ W, ((w.alloc (.cells (vc r) 26)).alloc (.cells (rc x) 28)) = W := ⟨_, rfl⟩
  have HB0 := Lib.hid (show B2 w W r x by rw [← hW]; exact B2.start w r x)
  have HW := Lib.hid hW
  clear hW
  go_enter Try.func4, Try.ntmps4
  go_wp2_with fail
  rw [HW.out]
  clear HW
  refine (CF _).out.mono ?_
  rintro e w1 ⟨rfl, hb1⟩
  have HB1 := Lib.hid (HB0.out.next hb1)
  clear hb1 HB0 CF
  have x0 := HB1.out.v.c 0
  have x1 := HB1.out.v.c 1
  have x2 := HB1.out.v.c 2
  have x3 := HB1.out.v.c 3
  have x4 := HB1.out.v.c 4
  have x5 := HB1.out.v.c 5
  have x6 := HB1.out.v.c 6
  have x7 := HB1.out.v.c 7
  have x8 := HB1.out.v.c 8
  have y0 := HB1.out.r.c 0
  have y1 := HB1.out.r.c 1
  have y2 := HB1.out.r.c 2
  have y3 := HB1.out.r.c 3
  simp at x0 x1 x2 x3 x4 x5 x6 x7 x8 y0 y1 y2 y3
  go_wp2_with fail
  refine (C1 _ HB1.out.b).out.mono ?_
  rintro e w2 ⟨rfl, hb2⟩
  have HB2 := Lib.hid (HB1.out.next hb2)
  clear hb2 HB1 x0 x1 x2 x3 x4 x5 x6 x7 x8 y0 y1 y2 y3
  have x0 := HB2.out.v.c 0
  have x1 := HB2.out.v.c 1
  have x2 := HB2.out.v.c 2
  have x3 := HB2.out.v.c 3
  have x4 := HB2.out.v.c 4
  have x5 := HB2.out.v.c 5
  have x6 := HB2.out.v.c 6
  have x7 := HB2.out.v.c 7
  have x8 := HB2.out.v.c 8
  have y0 := HB2.out.r.c 0
  have y1 := HB2.out.r.c 1
  have y2 := HB2.out.r.c 2
  have y3 := HB2.out.r.c 3
  simp at x0 x1 x2 x3 x4 x5 x6 x7 x8 y0 y1 y2 y3
  go_wp2_with fail
  refine (C2 _ HB2.out.b).out.mono ?_
  rintro e w3 ⟨rfl, hb3⟩
  have HB3 := Lib.hid (HB2.out.next hb3)
  clear hb3 HB2 x0 x1 x2 x3 x4 x5 x6 x7 x8 y0 y1 y2 y3
  go_wp2_with fail
  refine (CA _).out.mono ?_
  rintro e w4 ⟨rfl, hb4⟩
  have HB4 := Lib.hid (HB3.out.next hb4)
  clear hb4 HB3 CA
  go_wp2
  go_ret
  exact ⟨rfl, HB4.out.b⟩

theorem walk {w0 : World} (r : Rw) (g : GivenV w0 r) (x : Ri) (A : Option Addr) (n d : Nat) (cs : List Co) (gc : GivenC w0 A n d cs) : Calls Try.prog 4 #[vg r, rg x, .slice A n d] w0 (Yes w0 true) := by
  have CF := fun W => Lib.hid (few_ r A n d W g.l gc.m)
  have CA := fun W => Lib.hid (alive_ W)
  cases h : fw r n
  · rw [h] at CF
    exact way_no r x A n d w0 CF CA
  · rw [h] at CF
    have hf := fw_yes h
    exact way_yes r x A n d w0 _ _ CF CA (fun W hb => Lib.hid (year r x A n d cs W (g.m.below hb) g.l (gc.r.below hb) gc.m)) (fun W hb => Lib.hid (ryear r x A n d cs W (g.m.below hb) g.l (gc.r.below hb) (by omega)))

set_option maxRecDepth 100000 in
theorem lifted (os : Os) (started : os.Started) (H : Type) (enc : TypeId × Value → H) :
    ReturnsInHanded {} Try.checked os 4 .any (Rows.quoteYearSpec.pre6 enc Try.prog Try.f4 Rows.quoteYearRow.domain false) (Rows.quoteYearSpec.post enc Try.prog Try.f4 false true false false) := by
  refine returnsInHanded_of_change_sized (C := Try.checked) Qo.own started (by kernel_rfl) Try.func4
    (ChangeSpec.witness6 (enc := enc) (C := Try.checked) false ⟨#[], #[.agg #[.int .i64 0, .int .i64 0, .int .i64 0, .int .i64 0, .int .i64 0, .slice none 0 0, .slice none 0 0, .slice none 0 0, .int .i64 0], .agg #[.int .i64 0, .int .i64 0, .int .i64 0, .int .i64 0], .slice none 0 0], []⟩ 8 (by kernel_rfl) (by kernel_rfl) (by kernel_rfl) (by kernel_rfl)) ?_
  intro W base args ds gs before hval0 hW hcnd hsz0 _
  have hval : ∀ (j : Nat) t v, Try.f4.params[j]? = some t → args[j]? = some v → Value.okWide Try.prog W .any base t v := hval0
  have hW' := hW
  have hsz : (DataW.weightsEach Try.prog (Try.f4.params.toList ++ Rows.quoteYearSpec.plain.varTypes Try.prog) (ds ++ gs)).all (· ≤ reachBytes) = true := hsz0
  obtain ⟨p, q, hA0, hV, rfl, hfz, hnd⟩ := hW
  have hA : DataW.TrodAll enc Try.prog W 0 (fun _ => true) true Try.f4.params.toList args.toList ds p := hA0
  rw [Try.params4] at hA hval hsz
  obtain ⟨v0, vs0, d0, ds0, p0, q0, hargs, rfl, rfl, h0, r0⟩ := trodAll_cons hA
  obtain ⟨v1, vs1, d1, ds1, p1, q1, rfl, rfl, rfl, h1, r1⟩ := trodAll_cons r0
  obtain ⟨v2, vs2, d2, ds2, p2, q2, rfl, rfl, rfl, h2, r2⟩ := trodAll_cons r1
  obtain ⟨rfl, rfl, rfl⟩ := trodAll_nil r2
  obtain rfl : args = #[v0, v1, v2] := by cases args; simp_all
  obtain ⟨rfl, rfl⟩ := trodVars_none hV
  have k0 := h0
  have lt0 : ∀ x ∈ p0, x.block < W.heap.size := by obtain ⟨m, hm⟩ := k0; exact DataW.trod_lt m _ _ _ hm
  obtain ⟨z0, rfl, g0⟩ := Qo.open_version (hval 0 26 v0 rfl rfl) h0 (fun k hk => of_decide_eq_true (List.all_eq_true.1 hsz _ (DataW.weights_mem_each (j := 0) rfl rfl k hk)))
  have k1 := h1
  have lt1 : ∀ x ∈ p1, x.block < W.heap.size := by obtain ⟨m, hm⟩ := k1; exact DataW.trod_lt m _ _ _ hm
  obtain ⟨x1, rfl⟩ := Qo.open_risk (hval 1 28 v1 rfl rfl) h1 (fun k hk => of_decide_eq_true (List.all_eq_true.1 hsz _ (DataW.weights_mem_each (j := 1) rfl rfl k hk)))
  have k2 := h2
  have lt2 : ∀ x ∈ p2, x.block < W.heap.size := by obtain ⟨m, hm⟩ := k2; exact DataW.trod_lt m _ _ _ hm
  obtain ⟨A2, n2, d2, s2, rfl, g2⟩ := Qo.open_covers (hval 2 37 v2 rfl rfl) h2 (fun k hk => of_decide_eq_true (List.all_eq_true.1 hsz _ (DataW.weights_mem_each (j := 2) rfl rfl k hk)))
  clear hA0 hval0 hsz hsz0
  refine (walk z0 g0 x1 A2 n2 d2 s2 g2).mono fun e W' ⟨he, bel⟩ => ?_
  subst he
  exact ⟨_, rfl, _, _, _, [], _, [], hW', trodAll_mk1 (shut_bool Try.underlying4 _), (trodAll_cons_mk (Below.trod Qo.laidOut (by kernel_rfl) (of_decide_eq_true (by kernel_rfl)) k0 bel lt0) (trodAll_cons_mk (Below.trod Qo.laidOut (by kernel_rfl) (of_decide_eq_true (by kernel_rfl)) k1 bel lt1) (trodAll_cons_mk (Below.trod Qo.laidOut (by kernel_rfl) (of_decide_eq_true (by kernel_rfl)) k2 bel lt2) trodAll_mk0))), rfl, bel.frame _, fun h => by cases h⟩

theorem over : Rows.quoteYearRow.holds Try.pinned (OpenSpec.ofChange Rows.quoteYearSpec) :=
  OpenClaim.holds_of_wide 4 Try.f4 rfl rfl rfl rfl rfl rfl rfl ⟨rfl, rfl, rfl, rfl, rfl⟩ rfl rfl rfl rfl rfl (by kernel_rfl) Try.func4 (by kernel_rfl)
    (of_decide_eq_true (by kernel_rfl)) (by unfold Func.isWrapper; first | (rw [if_pos (by decide +kernel)]; kernel_rfl) | (rw [if_neg (by decide +kernel)]; exact ⟨rfl, rfl⟩))
    (fun os started H enc _ => lifted os started H enc)

theorem proved : Rows.QuoteYearSaid := over
end Go.Proofs.Ytinhhphnbbdoeaa.quoteYear
