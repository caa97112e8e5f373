/-
  The statement PostRight holds: for every input the call returns true, and each argument reads afterwards as it read before. Conditions: none beside those that the row itself bears.
-/
import Derived.Test.YtcjicnbmpfalmaaGiven
namespace Go.Proofs.Ytcjicnbmpfalmaa.postRight
open Go.ChangeShapes Go.WideShapes Go.ChangeAt Go.RowKit Bk Pst
set_option linter.unusedVariables false


set_option maxRecDepth 100000 in
set_option maxHeartbeats 2000000 in
theorem walk (d f : Int) (L : Option Addr) (m c : Nat) (ls : List Pr) {w : World} (G : GivenE w L m ls) :
    Calls Try.prog 3 #[eg d f L m c] w (Yes w true) := by
  have HG := Lib.hid G
  have hm := G.m
  unfold maxLen at hm
  clear G
  by_cases g1 : 100 < m
  · have t1 : decide (100 < (m : Int)) = true := by simpa using (show 100 < (m : Int) by omega)
    have t1' : decide (100 < m) = true := by simpa using g1
    clear g1
    go_enter Try.func3, Try.ntmps3
    go_wp2_with fail
    refine (alive_ _).mono ?_
    rintro e w1 ⟨rfl, hb1⟩
    have HB := Lib.hid (below_alloc hb1)
    clear hb1
    go_wp2
    go_ret
    exact ⟨rfl, HB.out⟩
  · have t1 : decide (100 < (m : Int)) = false := by simpa using (show ¬ 100 < (m : Int) by omega)
    have t1' : decide (100 < m) = false := by simpa using g1
    obtain ⟨W, hW⟩ : ∃ W, w.alloc (.cells #[.int .i64 d, .int .i64 f, .slice L m c] 24) = W := ⟨_, rfl⟩
    have HX := Lib.hid (show Bx W w.heap.size 24 #[.int .i64 d, .int .i64 f, .slice L m c] by rw [← hW]; exact Bx.new _ _ _)
    have HB := Lib.hid (show Below w.heap.size w W by rw [← hW]; exact alloc_ _ _)
    have C0 := fun (p : Ext W) => Lib.hid (alive_ p.W)
    have C1 := fun (p : Ext W) => Lib.hid (right_ d f L m c ls p.W (HG.out.l.below (HB.out.trans (p.b.mono HB.out.size))) HG.out.m)
    have C2 := fun (p : Ext W) => Lib.hid (rright_ d f L m c ls p.W (HG.out.l.below (HB.out.trans (p.b.mono HB.out.size))) HG.out.m)
    generalize rgt ⟨d, f, ls⟩ = r at C1 C2
    have X0 : ∀ p : Ext W, p.W.cell? ⟨w.heap.size, 0, none⟩ = some (.int .i64 d) := fun p => HX.out.ext p 0
    have X1 : ∀ p : Ext W, p.W.cell? ⟨w.heap.size, 1, none⟩ = some (.int .i64 f) := fun p => HX.out.ext p 1
    have X2 : ∀ p : Ext W, p.W.cell? ⟨w.heap.size, 2, none⟩ = some (.slice L m c) := fun p => HX.out.ext p 2
    have HW := Lib.hid hW
    clear hW g1
    go_enter Try.func3, Try.ntmps3
    go_wp2
    rw [HW.out]
    have ne : Nonempty (Ext W) := ⟨⟨W, Below.refl _ _⟩⟩
    refine quietE (by kernel_rfl) (by kernel_rfl) ?_
    repeat (quiet_step (first
      | (go_at_call 10; exact ext_of (C0 _).out)
      | (go_at_call 11; exact ext_of (C1 _).out)
      | (go_at_call 12; exact ext_of (C2 _).out)))
    refine wpQuiet_nil ?_
    rintro _ ⟨p, rfl⟩
    go_wp2
    go_ret
    exact ⟨rfl, HB.out.trans (p.b.mono HB.out.size)⟩

set_option maxRecDepth 100000 in
theorem lifted (os : Os) (started : os.Started) (H : Type) (enc : TypeId × Value → H) :
    ReturnsInHanded {} Try.checked os 3 .any (Rows.postRightSpec.pre6 enc Try.prog Try.f3 Rows.postRightRow.domain false) (Rows.postRightSpec.post enc Try.prog Try.f3 false true false false) := by
  refine returnsInHanded_of_change (C := Try.checked) Pst.own started (by kernel_rfl) Try.func3
    (ChangeSpec.witness6 (enc := enc) (C := Try.checked) false ⟨#[], #[.agg #[.int .i64 0, .int .i64 0, .slice none 0 0]], []⟩ 8 (by kernel_rfl) (by kernel_rfl) (by kernel_rfl) (by kernel_rfl)) ?_
  intro W base args ds gs before hval0 hW hcnd _
  have hval : ∀ (j : Nat) t v, Try.f3.params[j]? = some t → args[j]? = some v → Value.okWide Try.prog W .any base t v := hval0
  have hW' := hW
  obtain ⟨p, q, hA0, hV, rfl, hfz, hnd⟩ := hW
  have hA : DataW.TrodAll enc Try.prog W 0 (fun _ => true) true Try.f3.params.toList args.toList ds p := hA0
  rw [Try.params3] at hA hval
  obtain ⟨v0, vs0, d0, ds0, p0, q0, hargs, rfl, rfl, h0, r0⟩ := trodAll_cons hA
  obtain ⟨rfl, rfl, rfl⟩ := trodAll_nil r0
  obtain rfl : args = #[v0] := by cases args; simp_all
  obtain ⟨rfl, rfl⟩ := trodVars_none hV
  have k0 := h0
  have lt0 : ∀ x ∈ p0, x.block < W.heap.size := by obtain ⟨m, hm⟩ := k0; exact DataW.trod_lt m _ _ _ hm
  obtain ⟨dd0, ff0, A0, n0, c0, xs0, rfl, g0⟩ := Pst.open_entry (hval 0 24 v0 rfl rfl) h0
  clear hA0 hval0
  refine (walk dd0 ff0 A0 n0 c0 xs0 g0).mono fun e W' ⟨he, bel⟩ => ?_
  subst he
  exact ⟨_, rfl, _, _, _, [], _, [], hW', trodAll_mk1 (shut_bool Try.underlying4 _), (trodAll_cons_mk (Below.trod Pst.laidOut (by kernel_rfl) (of_decide_eq_true (by kernel_rfl)) k0 bel lt0) trodAll_mk0), rfl, bel.frame _, fun h => by cases h⟩

theorem over : Rows.postRightRow.holds Try.pinned (OpenSpec.ofChange Rows.postRightSpec) :=
  OpenClaim.holds_of_wide 3 Try.f3 rfl rfl rfl rfl rfl rfl rfl ⟨rfl, rfl, rfl, rfl, rfl⟩ rfl rfl rfl rfl rfl (by kernel_rfl) Try.func3 (by kernel_rfl)
    (of_decide_eq_true (by kernel_rfl)) (by unfold Func.isWrapper; first | (rw [if_pos (by decide +kernel)]; kernel_rfl) | (rw [if_neg (by decide +kernel)]; exact ⟨rfl, rfl⟩))
    (fun os started H enc _ => lifted os started H enc)

theorem proved : Rows.PostRightSaid := over
end Go.Proofs.Ytcjicnbmpfalmaa.postRight
