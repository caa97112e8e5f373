/-
  The statement StepTells holds: for every input the call returns true, and each argument reads afterwards as it read before. Conditions: none beside those that the row itself bears.
-/
import Derived.Test.YtigacpjcadlkeaaGiven
namespace Go.Proofs.Ytigacpjcadlkeaa.stepTells
open Go.ChangeShapes Go.WideShapes Go.ChangeAt Go.RowKit St Stp
set_option linter.unusedVariables false

set_option maxRecDepth 100000 in
set_option maxHeartbeats 2000000 in
theorem long (A : Option Addr) (n c : Nat) (V : Option Addr) (m d : Nat) (xs vs : List Int) (x : Int) (w : World) (G : GivenT w A n c V m d xs vs) (h : ¬ (n ≤ 100 ∧ m ≤ 100)) : Calls Try.prog 3 #[sg A n c V m d, .int .i64 x] w fun e w' => e = .returned (.bool true) ∧ Below w.heap.size w w' := by
  have hn := G.n
  have hm := G.m
  unfold maxLen at hn hm
  have C := fun w => Lib.hid (few A n c V m d w (by omega) (by omega))
  have ef : (decide (n ≤ 100) && decide (m ≤ 100)) = false := by rw [Bool.and_eq_false_iff, decide_eq_false_iff_not, decide_eq_false_iff_not]; omega
  rw [ef] at C
  clear G ef h
  go_enter Try.func3, Try.ntmps3
  go_wp2_with fail
  refine (awake _).mono ?_
  rintro e w1 ⟨rfl, hb⟩
  obtain ⟨X1, hB1⟩ := bx1 hb
  have HB1 := Lib.hid hB1
  have x0 := X1.c0
  have x1 := X1.c1
  clear hb hB1 X1
  go_wp2_with fail
  refine (C _).out.mono ?_
  rintro e w2 ⟨rfl, hb⟩
  have HB2 := Lib.hid (HB1.out.trans (hb.mono HB1.out.size))
  clear hb
  go_wp2
  go_ret
  exact ⟨rfl, HB2.out⟩

set_option maxRecDepth 100000 in
set_option maxHeartbeats 4000000 in
theorem short (A : Option Addr) (n c : Nat) (V : Option Addr) (m d : Nat) (xs vs : List Int) (x : Int) (w : World) (G : GivenT w A n c V m d xs vs) (h1 : n ≤ 100) (h2 : m ≤ 100) : Calls Try.prog 3 #[sg A n c V m d, .int .i64 x] w fun e w' => e = .returned (.bool true) ∧ Below w.heap.size w w' := by
  have C := fun w => Lib.hid (few A n c V m d w (by omega) (by omega))
  have ef : (decide (n ≤ 100) && decide (m ≤ 100)) = true := by simp; omega
  rw [ef] at C
  have HG := Lib.hid G.s
  clear G ef
  go_enter Try.func3, Try.ntmps3
  go_wp2_with fail
  refine (awake _).mono ?_
  rintro e w1 ⟨rfl, hb⟩
  obtain ⟨X1, hB1⟩ := bx1 hb
  have HB1 := Lib.hid hB1
  have HX1 := Lib.hid X1
  have x0 := X1.c0
  have x1 := X1.c1
  clear hb hB1 X1
  go_wp2_with fail
  refine (C _).out.mono ?_
  rintro e w2 ⟨rfl, hb⟩
  have HB2 := Lib.hid (HB1.out.trans (hb.mono HB1.out.size))
  have HX2 := Lib.hid (HX1.out.keep hb)
  clear hb x0 x1 HB1 HX1
  have HS2 := Lib.hid ((HG.out.below HB2.out (Nat.le_refl _)).wide HB2.out.size)
  have D1 := fun p : Ext w2 => Lib.hid (right A n c V m d xs vs p.W (HS2.out.keep_ p.b) (by omega))
  have D2 := fun p : Ext w2 => Lib.hid (rright A n c V m d xs vs p.W (HS2.out.keep_ p.b) (by omega))
  have D3 := fun p : Ext w2 => Lib.hid (at_ A n c V m d xs vs x p.W (HS2.out.keep_ p.b) (by omega))
  have D4 := fun p : Ext w2 => Lib.hid (rat A n c V m d xs vs x p.W (HS2.out.keep_ p.b) (by omega))
  have X0' : ∀ p : Ext w2, p.W.cell? ⟨w.heap.size, 0, none⟩ = some (.slice A n c) := fun p => (HX2.out.ext p).1
  have X1' : ∀ p : Ext w2, p.W.cell? ⟨w.heap.size, 1, none⟩ = some (.slice V m d) := fun p => (HX2.out.ext p).2
  have ne : Nonempty (Ext w2) := ⟨⟨w2, Below.refl _ _⟩⟩
  generalize rg xs vs = r at D1 D2
  generalize atv xs vs x = a at D3 D4
  go_wp2
  refine quietE (by kernel_rfl) (by kernel_rfl) ?_
  repeat (quiet_step (first
    | (go_at_call 14; exact ext_of (D1 _).out)
    | (go_at_call 15; exact ext_of (D2 _).out)
    | (go_at_call 16; exact ext_of (D3 _).out)
    | (go_at_call 17; exact ext_of (D4 _).out)))
  refine wpQuiet_nil ?_
  rintro _ ⟨p, rfl⟩
  go_wp2
  go_ret
  exact ⟨rfl, HB2.out.trans (p.b.mono HB2.out.size)⟩

theorem walk (A : Option Addr) (n c : Nat) (V : Option Addr) (m d : Nat) (xs vs : List Int) {w : World} (G : GivenT w A n c V m d xs vs) (x : Int) (hx : -9223372036854775808 ≤ x ∧ x ≤ 9223372036854775807) (w0 : World) (hw : w = w0) :
    Calls Try.prog 3 #[sg A n c V m d, .int .i64 x] w0 fun e w' => e = .returned (.bool true) ∧ Below w0.heap.size w0 w' := by
  subst hw
  by_cases h : n ≤ 100 ∧ m ≤ 100
  · exact short A n c V m d xs vs x w G h.1 h.2
  · exact long A n c V m d xs vs x w G h


set_option maxRecDepth 100000 in
theorem lifted (os : Os) (started : os.Started) (H : Type) (enc : TypeId × Value → H) :
    ReturnsInHanded {} Try.checked os 3 .any (Rows.stepTellsSpec.pre6 enc Try.prog Try.f3 Rows.stepTellsRow.domain false) (Rows.stepTellsSpec.post enc Try.prog Try.f3 false true false false) := by
  refine returnsInHanded_of_change (C := Try.checked) Stp.own started (by kernel_rfl) Try.func3
    (ChangeSpec.witness6 (enc := enc) (C := Try.checked) false ⟨#[], #[.agg #[.slice none 0 0, .slice none 0 0], .int .i64 0], []⟩ 8 (by kernel_rfl) (by kernel_rfl) (by kernel_rfl) (by kernel_rfl)) ?_
  intro W base args ds gs before hval0 hW hcnd _
  have hval : ∀ (j : Nat) t v, Try.f3.params[j]? = some t → args[j]? = some v → Value.okWide Try.prog W .any base t v := hval0
  have hW' := hW
  obtain ⟨p, q, hA0, hV, rfl, hfz, hnd⟩ := hW
  have hA : DataW.TrodAll enc Try.prog W 0 (fun _ => true) true Try.f3.params.toList args.toList ds p := hA0
  rw [Try.params3] at hA hval
  obtain ⟨v0, vs0, d0, ds0, p0, q0, hargs, rfl, rfl, h0, r0⟩ := trodAll_cons hA
  obtain ⟨v1, vs1, d1, ds1, p1, q1, rfl, rfl, rfl, h1, r1⟩ := trodAll_cons r0
  obtain ⟨rfl, rfl, rfl⟩ := trodAll_nil r1
  obtain rfl : args = #[v0, v1] := by cases args; simp_all
  obtain ⟨rfl, rfl⟩ := trodVars_none hV
  have k0 := h0
  have lt0 : ∀ x ∈ p0, x.block < W.heap.size := by obtain ⟨m, hm⟩ := k0; exact DataW.trod_lt m _ _ _ hm
  obtain ⟨A0, n0, c0, V0, m0, e0, xs0, ys0, rfl, g0⟩ := Stp.open_step (hval 0 24 v0 rfl rfl) h0
  obtain ⟨a1, rfl, rfl, rfl, w1⟩ := open_int Try.underlying3 (hval 1 3 v1 rfl rfl) h1
  clear hA0 hval0
  refine (walk A0 n0 c0 V0 m0 e0 xs0 ys0 g0 a1 (Stp.i64_of w1) W rfl).mono fun e W' ⟨he, bel⟩ => ?_
  subst he
  exact ⟨_, rfl, _, _, _, [], _, [], hW', trodAll_mk1 (shut_bool Try.underlying4 _), (trodAll_cons_mk (Below.trod Stp.laidOut (by kernel_rfl) (of_decide_eq_true (by kernel_rfl)) k0 bel lt0) (trodAll_cons_mk (shut_int Try.underlying3 w1) trodAll_mk0)), rfl, bel.frame _, fun h => by cases h⟩

theorem over : Rows.stepTellsRow.holds Try.pinned (OpenSpec.ofChange Rows.stepTellsSpec) :=
  OpenClaim.holds_of_wide 3 Try.f3 rfl rfl rfl rfl rfl rfl rfl ⟨rfl, rfl, rfl, rfl, rfl⟩ rfl rfl rfl rfl rfl (by kernel_rfl) Try.func3 (by kernel_rfl)
    (of_decide_eq_true (by kernel_rfl)) (by unfold Func.isWrapper; first | (rw [if_pos (by decide +kernel)]; kernel_rfl) | (rw [if_neg (by decide +kernel)]; exact ⟨rfl, rfl⟩))
    (fun os started H enc _ => lifted os started H enc)

theorem proved : Rows.StepTellsSaid := over
end Go.Proofs.Ytigacpjcadlkeaa.stepTells
