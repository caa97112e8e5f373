/-
  The statement SpanOne holds: for every input the call returns true, and each argument reads afterwards as it read before. Conditions: none beside those that the row itself bears.
-/
import Derived.Test.YtbollbbanmdbhaaGiven
namespace Go.Proofs.Ytbollbbanmdbhaa.spanOne
open Go.ChangeShapes Go.WideShapes Go.ChangeAt Go.RowKit Sp Spn
set_option linter.unusedVariables false

set_option maxRecDepth 100000 in
set_option maxHeartbeats 4000000 in
theorem way1 (x : Sp) (d : Int) (w : World) (hi : inn x d = true) : Calls Try.prog 3 #[ag x, .int .i64 d] w fun e w' => e = .returned (.bool true) ∧ Below w.heap.size w w' := by
  have C0 := fun w => Lib.hid (alive w)
  have C1 := fun w => Lib.hid (right x w)
  have C2 := fun w => Lib.hid (rright x w)
  have C3 := fun w => Lib.hid (many x w)
  have C4 := fun w => Lib.hid (rmany x w)
  have C5 := fun w => Lib.hid (inn_ x d w)
  have C6 := fun w => Lib.hid (rinn x d w)
  rw [hi] at C5 C6
  have tm : decide (0 < mn x) = true := inn_has hi
  clear hi
  generalize rt x = r at C1 C2
  generalize mn x = m at C3 C4 tm
  obtain ⟨a1, a2⟩ := x
  go_enter Try.func3, Try.ntmps3
  go_wp2_with fail
  obtain ⟨W, hW⟩ : ∃ W, w.alloc (.cells #[.int .i64 a1, .int .i64 a2] 23) = W := ⟨_, rfl⟩
  have HB := Lib.hid (show Below w.heap.size w W by rw [← hW]; exact (Below.refl _ _).alloc (Nat.le_refl _) _)
  have X := Lib.hid (show Bx W w.heap.size a1 a2 by rw [← hW]; exact Bx.new w a1 a2)
  have X0 := X.out.c0
  have X1 := X.out.c1
  rw [hW]
  clear hW
  have X0' : ∀ p : Ext W, p.W.cell? ⟨w.heap.size, 0, none⟩ = some (.int .i64 a1) := fun p => (X.out.ext p).1
  have X1' : ∀ p : Ext W, p.W.cell? ⟨w.heap.size, 1, none⟩ = some (.int .i64 a2) := fun p => (X.out.ext p).2
  clear X0 X1
  have ne : Nonempty (Ext W) := ⟨⟨W, Below.refl _ _⟩⟩
  refine quietE (by kernel_rfl) (by kernel_rfl) ?_
  repeat (quiet_step (first
    | (go_at_call 11; exact ext_of (C0 _).out)
    | (go_at_call 12; exact ext_of (C1 _).out)
    | (go_at_call 13; exact ext_of (C2 _).out)
    | (go_at_call 14; exact ext_of (C3 _).out)
    | (go_at_call 15; exact ext_of (C4 _).out)
    | (go_at_call 16; exact ext_of (C5 _).out)
    | (go_at_call 17; exact ext_of (C6 _).out)))
  refine wpQuiet_nil ?_
  rintro _ ⟨p, rfl⟩
  go_wp2
  go_ret
  exact ⟨rfl, HB.out.trans (p.b.mono HB.out.size)⟩

set_option maxRecDepth 100000 in
set_option maxHeartbeats 4000000 in
theorem way0 (x : Sp) (d : Int) (w : World) (hi : inn x d = false) : Calls Try.prog 3 #[ag x, .int .i64 d] w fun e w' => e = .returned (.bool true) ∧ Below w.heap.size w w' := by
  have C0 := fun w => Lib.hid (alive w)
  have C1 := fun w => Lib.hid (right x w)
  have C2 := fun w => Lib.hid (rright x w)
  have C3 := fun w => Lib.hid (many x w)
  have C4 := fun w => Lib.hid (rmany x w)
  have C5 := fun w => Lib.hid (inn_ x d w)
  have C6 := fun w => Lib.hid (rinn x d w)
  rw [hi] at C5 C6
  clear hi
  generalize rt x = r at C1 C2
  generalize mn x = m at C3 C4
  obtain ⟨a1, a2⟩ := x
  go_enter Try.func3, Try.ntmps3
  go_wp2_with fail
  obtain ⟨W, hW⟩ : ∃ W, w.alloc (.cells #[.int .i64 a1, .int .i64 a2] 23) = W := ⟨_, rfl⟩
  have HB := Lib.hid (show Below w.heap.size w W by rw [← hW]; exact (Below.refl _ _).alloc (Nat.le_refl _) _)
  have X := Lib.hid (show Bx W w.heap.size a1 a2 by rw [← hW]; exact Bx.new w a1 a2)
  have X0 := X.out.c0
  have X1 := X.out.c1
  rw [hW]
  clear hW
  have X0' : ∀ p : Ext W, p.W.cell? ⟨w.heap.size, 0, none⟩ = some (.int .i64 a1) := fun p => (X.out.ext p).1
  have X1' : ∀ p : Ext W, p.W.cell? ⟨w.heap.size, 1, none⟩ = some (.int .i64 a2) := fun p => (X.out.ext p).2
  clear X0 X1
  have ne : Nonempty (Ext W) := ⟨⟨W, Below.refl _ _⟩⟩
  refine quietE (by kernel_rfl) (by kernel_rfl) ?_
  repeat (quiet_step (first
    | (go_at_call 11; exact ext_of (C0 _).out)
    | (go_at_call 12; exact ext_of (C1 _).out)
    | (go_at_call 13; exact ext_of (C2 _).out)
    | (go_at_call 14; exact ext_of (C3 _).out)
    | (go_at_call 15; exact ext_of (C4 _).out)
    | (go_at_call 16; exact ext_of (C5 _).out)
    | (go_at_call 17; exact ext_of (C6 _).out)))
  refine wpQuiet_nil ?_
  rintro _ ⟨p, rfl⟩
  go_wp2
  go_ret
  exact ⟨rfl, HB.out.trans (p.b.mono HB.out.size)⟩

theorem walk (x : Sp) (d : Int) (_hd : -9223372036854775808 ≤ d ∧ d ≤ 9223372036854775807) (w : World) :
    Calls Try.prog 3 #[ag x, .int .i64 d] w fun e w' => e = .returned (.bool true) ∧ Below w.heap.size w w' := by
  cases hi : inn x d
  · exact way0 x d w hi
  · exact way1 x d w hi


set_option maxRecDepth 100000 in
theorem lifted (os : Os) (started : os.Started) (H : Type) (enc : TypeId × Value → H) :
    ReturnsInHanded {} Try.checked os 3 .any (Rows.spanOneSpec.pre6 enc Try.prog Try.f3 Rows.spanOneRow.domain false) (Rows.spanOneSpec.post enc Try.prog Try.f3 false true false false) := by
  refine returnsInHanded_of_change (C := Try.checked) Spn.own started (by kernel_rfl) Try.func3
    (ChangeSpec.witness6 (enc := enc) (C := Try.checked) false ⟨#[], #[.agg #[.int .i64 0, .int .i64 0], .int .i64 0], []⟩ 8 (by kernel_rfl) (by kernel_rfl) (by kernel_rfl) (by kernel_rfl)) ?_
  intro W base args ds gs before hval0 hW hcnd _
  have hval : ∀ (j : Nat) t v, Try.f3.params[j]? = some t → args[j]? = some v → Value.okWide Try.prog W .any base t v := hval0
  have hW' := hW
  obtain ⟨p, q, hA0, hV, rfl, hfz, hnd⟩ := hW
  have hA : DataW.TrodAll enc Try.prog W 0 (fun _ => true) true Try.f3.params.toList args.toList ds p := hA0
  rw [Try.params3] at hA hval
  obtain ⟨v0, vs0, d0, ds0, p0, q0, hargs, rfl, rfl, h0, r0⟩ := trodAll_cons hA
  obtain ⟨v1, vs1, d1, ds1, p1, q1, rfl, rfl, rfl, h1, r1⟩ := trodAll_cons r0
  obtain ⟨rfl, rfl, rfl⟩ := trodAll_nil r1
  obtain rfl : args = #[v0, v1] := by cases args; simp_all
  obtain ⟨rfl, rfl⟩ := trodVars_none hV
  have k0 := h0
  have lt0 : ∀ x ∈ p0, x.block < W.heap.size := by obtain ⟨m, hm⟩ := k0; exact DataW.trod_lt m _ _ _ hm
  obtain ⟨x0, rfl⟩ := Spn.open_span (hval 0 23 v0 rfl rfl) h0
  obtain ⟨a1, rfl, rfl, rfl, w1⟩ := open_int Try.underlying3 (hval 1 3 v1 rfl rfl) h1
  clear hA0 hval0
  refine (walk x0 a1 (Spn.i64_of w1) W).mono fun e W' ⟨he, bel⟩ => ?_
  subst he
  exact ⟨_, rfl, _, _, _, [], _, [], hW', trodAll_mk1 (shut_bool Try.underlying4 _), (trodAll_cons_mk (Below.trod Spn.laidOut (by kernel_rfl) (of_decide_eq_true (by kernel_rfl)) k0 bel lt0) (trodAll_cons_mk (shut_int Try.underlying3 w1) trodAll_mk0)), rfl, bel.frame _, fun h => by cases h⟩

theorem over : Rows.spanOneRow.holds Try.pinned (OpenSpec.ofChange Rows.spanOneSpec) :=
  OpenClaim.holds_of_wide 3 Try.f3 rfl rfl rfl rfl rfl rfl rfl ⟨rfl, rfl, rfl, rfl, rfl⟩ rfl rfl rfl rfl rfl (by kernel_rfl) Try.func3 (by kernel_rfl)
    (of_decide_eq_true (by kernel_rfl)) (by unfold Func.isWrapper; first | (rw [if_pos (by decide +kernel)]; kernel_rfl) | (rw [if_neg (by decide +kernel)]; exact ⟨rfl, rfl⟩))
    (fun os started H enc _ => lifted os started H enc)

theorem proved : Rows.SpanOneSaid := over
end Go.Proofs.Ytbollbbanmdbhaa.spanOne
