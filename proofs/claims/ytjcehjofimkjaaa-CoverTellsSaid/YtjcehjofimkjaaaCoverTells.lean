/-
  The statement CoverTells holds: for every input the call returns true, and each argument reads afterwards as it read before. Conditions: none beside those that the row itself bears.
-/
import Derived.Test.YtjcehjofimkjaaaGiven
namespace Go.Proofs.Ytjcehjofimkjaaa.coverTells
open Go.ChangeShapes Go.WideShapes Go.ChangeAt Go.RowKit Cv Cvr
set_option linter.unusedVariables false


set_option maxRecDepth 100000 in
set_option maxHeartbeats 2000000 in
theorem walk (c : Co) (x : Int) (hx : -9223372036854775808 ≤ x ∧ x ≤ 9223372036854775807) (u : Int) (hu : -9223372036854775808 ≤ u ∧ u ≤ 9223372036854775807) {w : World} :
    Calls Try.prog 3 #[cg c, .int .i64 x, .int .i64 u] w (Yes w true) := by
  have C1 := fun w => Lib.hid (right_ c w)
  have C2 := fun w => Lib.hid (rright_ c w)
  have C3 := fun w => Lib.hid (pays c x u w hx hu)
  have C4 := fun w => Lib.hid (rpays c x u w hx hu)
  generalize ok c = r at C1 C2
  generalize pay c x u = y at C3 C4
  obtain ⟨W, hW⟩ : ∃ W, w.alloc (.cells (cc c) 23) = W := ⟨_, rfl⟩
  have HX := Lib.hid (show Bx W w.heap.size 23 (cc c) by rw [← hW]; exact Bx.new _ _ _)
  have HB := Lib.hid (show Below w.heap.size w W by rw [← hW]; exact alloc_ _ _)
  have HW := Lib.hid hW
  clear hW
  go_enter Try.func3, Try.ntmps3
  go_wp2_with fail
  rw [HW.out]
  refine (awake _).mono ?_
  rintro e w1 ⟨rfl, hb1⟩
  have HB1 := Lib.hid (HB.out.trans (hb1.mono HB.out.size))
  have HX1 := Lib.hid (HX.out.keep hb1)
  clear hb1 HX HB
  have X0 : ∀ p : Ext w1, p.W.cell? ⟨w.heap.size, 0, none⟩ = some (.int .i64 c.p) := fun p => HX1.out.ext p 0
  have X1 : ∀ p : Ext w1, p.W.cell? ⟨w.heap.size, 1, none⟩ = some (.int .i64 c.l) := fun p => HX1.out.ext p 1
  have X2 : ∀ p : Ext w1, p.W.cell? ⟨w.heap.size, 2, none⟩ = some (.int .i64 c.g) := fun p => HX1.out.ext p 2
  have X3 : ∀ p : Ext w1, p.W.cell? ⟨w.heap.size, 3, none⟩ = some (.int .i64 c.d) := fun p => HX1.out.ext p 3
  have X4 : ∀ p : Ext w1, p.W.cell? ⟨w.heap.size, 4, none⟩ = some (.int .i64 c.s) := fun p => HX1.out.ext p 4
  have ne : Nonempty (Ext w1) := ⟨⟨w1, Below.refl _ _⟩⟩
  go_wp2
  refine quietE (by kernel_rfl) (by kernel_rfl) ?_
  repeat (quiet_step (first
    | (go_at_call 9; exact ext_of (C1 _).out)
    | (go_at_call 10; exact ext_of (C2 _).out)
    | (go_at_call 11; exact ext_of (C3 _).out)
    | (go_at_call 12; exact ext_of (C4 _).out)))
  refine wpQuiet_nil ?_
  rintro _ ⟨p, rfl⟩
  go_wp2
  go_ret
  exact ⟨rfl, HB1.out.trans (p.b.mono HB1.out.size)⟩

set_option maxRecDepth 100000 in
theorem lifted (os : Os) (started : os.Started) (H : Type) (enc : TypeId × Value → H) :
    ReturnsInHanded {} Try.checked os 3 .any (Rows.coverTellsSpec.pre6 enc Try.prog Try.f3 Rows.coverTellsRow.domain false) (Rows.coverTellsSpec.post enc Try.prog Try.f3 false true false false) := by
  refine returnsInHanded_of_change (C := Try.checked) Cvr.own started (by kernel_rfl) Try.func3
    (ChangeSpec.witness6 (enc := enc) (C := Try.checked) false ⟨#[], #[.agg #[.int .i64 0, .int .i64 0, .int .i64 0, .int .i64 0, .int .i64 0], .int .i64 0, .int .i64 0], []⟩ 8 (by kernel_rfl) (by kernel_rfl) (by kernel_rfl) (by kernel_rfl)) ?_
  intro W base args ds gs before hval0 hW hcnd _
  have hval : ∀ (j : Nat) t v, Try.f3.params[j]? = some t → args[j]? = some v → Value.okWide Try.prog W .any base t v := hval0
  have hW' := hW
  obtain ⟨p, q, hA0, hV, rfl, hfz, hnd⟩ := hW
  have hA : DataW.TrodAll enc Try.prog W 0 (fun _ => true) true Try.f3.params.toList args.toList ds p := hA0
  rw [Try.params3] at hA hval
  obtain ⟨v0, vs0, d0, ds0, p0, q0, hargs, rfl, rfl, h0, r0⟩ := trodAll_cons hA
  obtain ⟨v1, vs1, d1, ds1, p1, q1, rfl, rfl, rfl, h1, r1⟩ := trodAll_cons r0
  obtain ⟨v2, vs2, d2, ds2, p2, q2, rfl, rfl, rfl, h2, r2⟩ := trodAll_cons r1
  obtain ⟨rfl, rfl, rfl⟩ := trodAll_nil r2
  obtain rfl : args = #[v0, v1, v2] := by cases args; simp_all
  obtain ⟨rfl, rfl⟩ := trodVars_none hV
  have k0 := h0
  have lt0 : ∀ x ∈ p0, x.block < W.heap.size := by obtain ⟨m, hm⟩ := k0; exact DataW.trod_lt m _ _ _ hm
  obtain ⟨c0, rfl⟩ := Cvr.open_cover (hval 0 23 v0 rfl rfl) h0
  obtain ⟨a1, rfl, rfl, rfl, w1⟩ := open_int Try.underlying3 (hval 1 3 v1 rfl rfl) h1
  obtain ⟨a2, rfl, rfl, rfl, w2⟩ := open_int Try.underlying3 (hval 2 3 v2 rfl rfl) h2
  clear hA0 hval0
  refine (walk c0 a1 (Cvr.i64_of w1) a2 (Cvr.i64_of w2)).mono fun e W' ⟨he, bel⟩ => ?_
  subst he
  exact ⟨_, rfl, _, _, _, [], _, [], hW', trodAll_mk1 (shut_bool Try.underlying4 _), (trodAll_cons_mk (Below.trod Cvr.laidOut (by kernel_rfl) (of_decide_eq_true (by kernel_rfl)) k0 bel lt0) (trodAll_cons_mk (shut_int Try.underlying3 w1) (trodAll_cons_mk (shut_int Try.underlying3 w2) trodAll_mk0))), rfl, bel.frame _, fun h => by cases h⟩

theorem over : Rows.coverTellsRow.holds Try.pinned (OpenSpec.ofChange Rows.coverTellsSpec) :=
  OpenClaim.holds_of_wide 3 Try.f3 rfl rfl rfl rfl rfl rfl rfl ⟨rfl, rfl, rfl, rfl, rfl⟩ rfl rfl rfl rfl rfl (by kernel_rfl) Try.func3 (by kernel_rfl)
    (of_decide_eq_true (by kernel_rfl)) (by unfold Func.isWrapper; first | (rw [if_pos (by decide +kernel)]; kernel_rfl) | (rw [if_neg (by decide +kernel)]; exact ⟨rfl, rfl⟩))
    (fun os started H enc _ => lifted os started H enc)

theorem proved : Rows.CoverTellsSaid := over
end Go.Proofs.Ytjcehjofimkjaaa.coverTells
