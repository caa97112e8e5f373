/-
  The statement RiskTells holds: for every input the call returns true, and each argument reads afterwards as it read before. Conditions: none beside those that the row itself bears.
-/
import Derived.Test.YtdehfjjdjdgkkaaGiven
namespace Go.Proofs.Ytdehfjjdjdgkkaa.riskTells
open Go.ChangeShapes Go.WideShapes Go.ChangeAt Go.RowKit Ba Rsk
set_option linter.unusedVariables false


set_option maxRecDepth 100000 in
set_option maxHeartbeats 2000000 in
theorem walk (k v a z : Int) {w : World} :
    Calls Try.prog 3 #[rg k v a z] w (Yes w true) := by
  obtain ⟨W, hW⟩ : ∃ W, w.alloc (.cells #[.int .i64 k, .int .i64 v, .int .i64 a, .int .i64 z] 23) = W := ⟨_, rfl⟩
  have HX := Lib.hid (show Bx W w.heap.size 23 #[.int .i64 k, .int .i64 v, .int .i64 a, .int .i64 z] by rw [← hW]; exact Bx.new _ _ _)
  have HB := Lib.hid (show Below w.heap.size w W by rw [← hW]; exact alloc_ _ _)
  have C1 := fun w => Lib.hid (right_ k v a z w)
  have C2 := fun w => Lib.hid (rright_ k v a z w)
  generalize rk k v a z = r at C1 C2
  have HW := Lib.hid hW
  clear hW
  go_enter Try.func3, Try.ntmps3
  go_wp2_with fail
  rw [HW.out]
  refine (awake _).mono ?_
  rintro e w1 ⟨rfl, hb1⟩
  have HB1 := Lib.hid (HB.out.trans (hb1.mono HB.out.size))
  have HX1 := Lib.hid (HX.out.keep hb1)
  clear hb1 HX HB
  have X0 : ∀ p : Ext w1, p.W.cell? ⟨w.heap.size, 0, none⟩ = some (.int .i64 k) := fun p => HX1.out.ext p 0
  have X1 : ∀ p : Ext w1, p.W.cell? ⟨w.heap.size, 1, none⟩ = some (.int .i64 v) := fun p => HX1.out.ext p 1
  have X2 : ∀ p : Ext w1, p.W.cell? ⟨w.heap.size, 2, none⟩ = some (.int .i64 a) := fun p => HX1.out.ext p 2
  have X3 : ∀ p : Ext w1, p.W.cell? ⟨w.heap.size, 3, none⟩ = some (.int .i64 z) := fun p => HX1.out.ext p 3
  have ne : Nonempty (Ext w1) := ⟨⟨w1, Below.refl _ _⟩⟩
  go_wp2
  refine quietE (by kernel_rfl) (by kernel_rfl) ?_
  repeat (quiet_step (first
    | (go_at_call 10; exact ext_of (C1 _).out)
    | (go_at_call 11; exact ext_of (C2 _).out)))
  refine wpQuiet_nil ?_
  rintro _ ⟨p, rfl⟩
  go_wp2
  go_ret
  exact ⟨rfl, HB1.out.trans (p.b.mono HB1.out.size)⟩

set_option maxRecDepth 100000 in
theorem lifted (os : Os) (started : os.Started) (H : Type) (enc : TypeId × Value → H) :
    ReturnsInHanded {} Try.checked os 3 .any (Rows.riskTellsSpec.pre6 enc Try.prog Try.f3 Rows.riskTellsRow.domain false) (Rows.riskTellsSpec.post enc Try.prog Try.f3 false true false false) := by
  refine returnsInHanded_of_change (C := Try.checked) Rsk.own started (by kernel_rfl) Try.func3
    (ChangeSpec.witness6 (enc := enc) (C := Try.checked) false ⟨#[], #[.agg #[.int .i64 0, .int .i64 0, .int .i64 0, .int .i64 0]], []⟩ 8 (by kernel_rfl) (by kernel_rfl) (by kernel_rfl) (by kernel_rfl)) ?_
  intro W base args ds gs before hval0 hW hcnd _
  have hval : ∀ (j : Nat) t v, Try.f3.params[j]? = some t → args[j]? = some v → Value.okWide Try.prog W .any base t v := hval0
  have hW' := hW
  obtain ⟨p, q, hA0, hV, rfl, hfz, hnd⟩ := hW
  have hA : DataW.TrodAll enc Try.prog W 0 (fun _ => true) true Try.f3.params.toList args.toList ds p := hA0
  rw [Try.params3] at hA hval
  obtain ⟨v0, vs0, d0, ds0, p0, q0, hargs, rfl, rfl, h0, r0⟩ := trodAll_cons hA
  obtain ⟨rfl, rfl, rfl⟩ := trodAll_nil r0
  obtain rfl : args = #[v0] := by cases args; simp_all
  obtain ⟨rfl, rfl⟩ := trodVars_none hV
  have k0 := h0
  have lt0 : ∀ x ∈ p0, x.block < W.heap.size := by obtain ⟨m, hm⟩ := k0; exact DataW.trod_lt m _ _ _ hm
  obtain ⟨x0, y0, z0, u0, rfl⟩ := Rsk.open_risk (hval 0 23 v0 rfl rfl) h0
  clear hA0 hval0
  refine (walk x0 y0 z0 u0).mono fun e W' ⟨he, bel⟩ => ?_
  subst he
  exact ⟨_, rfl, _, _, _, [], _, [], hW', trodAll_mk1 (shut_bool Try.underlying4 _), (trodAll_cons_mk (Below.trod Rsk.laidOut (by kernel_rfl) (of_decide_eq_true (by kernel_rfl)) k0 bel lt0) trodAll_mk0), rfl, bel.frame _, fun h => by cases h⟩

theorem over : Rows.riskTellsRow.holds Try.pinned (OpenSpec.ofChange Rows.riskTellsSpec) :=
  OpenClaim.holds_of_wide 3 Try.f3 rfl rfl rfl rfl rfl rfl rfl ⟨rfl, rfl, rfl, rfl, rfl⟩ rfl rfl rfl rfl rfl (by kernel_rfl) Try.func3 (by kernel_rfl)
    (of_decide_eq_true (by kernel_rfl)) (by unfold Func.isWrapper; first | (rw [if_pos (by decide +kernel)]; kernel_rfl) | (rw [if_neg (by decide +kernel)]; exact ⟨rfl, rfl⟩))
    (fun os started H enc _ => lifted os started H enc)

theorem proved : Rows.RiskTellsSaid := over
end Go.Proofs.Ytdehfjjdjdgkkaa.riskTells
