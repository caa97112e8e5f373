/-
  The statement SpanTwo holds: for every input the call returns true, and each argument reads afterwards as it read before. Conditions: none beside those that the row itself bears.
-/
import Derived.Test.YtbollbbanmdbhaaGiven
namespace Go.Proofs.Ytbollbbanmdbhaa.spanTwo
open Go.ChangeShapes Go.WideShapes Go.ChangeAt Go.RowKit Sp Spn
set_option linter.unusedVariables false

set_option maxRecDepth 100000 in
set_option maxHeartbeats 4000000 in
theorem walk (x y : Sp) (w : World) : Calls Try.prog 4 #[ag x, ag y] w fun e w' => e = .returned (.bool true) ∧ Below w.heap.size w w' := by
  have C0 := fun w => Lib.hid (alive w)
  have C1 := fun w => Lib.hid (cut x y w)
  have C2 := fun w => Lib.hid (rcut x y w)
  have C3 := fun w => Lib.hid (cut y x w)
  have C4 := fun w => Lib.hid (less x y w)
  have C5 := fun w => Lib.hid (rless x y w)
  rw [ct_comm y x] at C3
  have hll := ls_len x y
  generalize ct x y = k at C1 C2 C3
  generalize ls x y = zs at C4 C5 hll
  obtain ⟨k1, k2⟩ := k
  obtain ⟨a1, a2⟩ := x
  obtain ⟨b1, b2⟩ := y
  go_enter Try.func4, Try.ntmps4
  go_wp2_with fail
  obtain ⟨W, hW⟩ : ∃ W, (w.alloc (.cells #[.int .i64 a1, .int .i64 a2] 23)).alloc (.cells #[.int .i64 b1, .int .i64 b2] 23) = W := ⟨_, rfl⟩
  have HB := Lib.hid (show Below w.heap.size w W by rw [← hW]; exact ((Below.refl _ _).alloc (Nat.le_refl _) _).alloc (by simp) _)
  have X := Lib.hid (show Bx W w.heap.size a1 a2 by rw [← hW]; exact (Bx.new w a1 a2).alloc _)
  have Y := Lib.hid (show Bx W (w.heap.size + 1) b1 b2 by rw [← hW]; have := Bx.new (w.alloc (.cells #[.int .i64 a1, .int .i64 a2] 23)) b1 b2; rwa [World.size_alloc] at this)
  have X0 := X.out.c0
  have X1 := X.out.c1
  have Y0 := Y.out.c0
  have Y1 := Y.out.c1
  rw [hW]
  clear hW
  go_region_held3 (fun w' => (w'.cell? ⟨w.heap.size, 0, none⟩ = some (.int .i64 a1) ∧ w'.cell? ⟨w.heap.size, 1, none⟩ = some (.int .i64 a2)) ∧ (w'.cell? ⟨w.heap.size + 1, 0, none⟩ = some (.int .i64 b1) ∧ w'.cell? ⟨w.heap.size + 1, 1, none⟩ = some (.int .i64 b2))) (first | exact ⟨⟨X0, X1⟩, ⟨Y0, Y1⟩⟩)
    (first
    | (go_at_call 11; ((with_reducible refine ((C0 _).out).mono ?_); rintro e wn ⟨rfl, hb⟩; have hbn := Spn.stepW HB.out hb ⟨rfl, rfl, rfl, rfl⟩; have HBn := Lib.hid (Spn.nextW HB.out hb ⟨rfl, rfl, rfl, rfl⟩); clear HB; have HB := HBn; clear HBn; have Xn := Lib.hid (X.out.keep hbn); clear X; have X := Xn; clear Xn; have Yn := Lib.hid (Y.out.keep hbn); clear Y; have Y := Yn; clear Yn; clear hb hbn; clear X0 X1; have X0 := X.out.c0; have X1 := X.out.c1; clear Y0 Y1; have Y0 := Y.out.c0; have Y1 := Y.out.c1))
    | (go_at_call 18; ((with_reducible refine ((C1 _).out).mono ?_); rintro e wn ⟨rfl, hb⟩; have hbn := Spn.stepW HB.out hb ⟨rfl, rfl, rfl, rfl⟩; have HBn := Lib.hid (Spn.nextW HB.out hb ⟨rfl, rfl, rfl, rfl⟩); clear HB; have HB := HBn; clear HBn; have Xn := Lib.hid (X.out.keep hbn); clear X; have X := Xn; clear Xn; have Yn := Lib.hid (Y.out.keep hbn); clear Y; have Y := Yn; clear Yn; clear hb hbn; clear X0 X1; have X0 := X.out.c0; have X1 := X.out.c1; clear Y0 Y1; have Y0 := Y.out.c0; have Y1 := Y.out.c1))
    | (go_at_call 18; ((with_reducible refine ((C3 _).out).mono ?_); rintro e wn ⟨rfl, hb⟩; have hbn := Spn.stepW HB.out hb ⟨rfl, rfl, rfl, rfl⟩; have HBn := Lib.hid (Spn.nextW HB.out hb ⟨rfl, rfl, rfl, rfl⟩); clear HB; have HB := HBn; clear HBn; have Xn := Lib.hid (X.out.keep hbn); clear X; have X := Xn; clear Xn; have Yn := Lib.hid (Y.out.keep hbn); clear Y; have Y := Yn; clear Yn; clear hb hbn; clear X0 X1; have X0 := X.out.c0; have X1 := X.out.c1; clear Y0 Y1; have Y0 := Y.out.c0; have Y1 := Y.out.c1))
    | (go_at_call 19; ((with_reducible refine ((C2 _).out).mono ?_); rintro e wn ⟨rfl, hb⟩; have hbn := Spn.stepW HB.out hb ⟨rfl, rfl, rfl, rfl⟩; have HBn := Lib.hid (Spn.nextW HB.out hb ⟨rfl, rfl, rfl, rfl⟩); clear HB; have HB := HBn; clear HBn; have Xn := Lib.hid (X.out.keep hbn); clear X; have X := Xn; clear Xn; have Yn := Lib.hid (Y.out.keep hbn); clear Y; have Y := Yn; clear Yn; clear hb hbn; clear X0 X1; have X0 := X.out.c0; have X1 := X.out.c1; clear Y0 Y1; have Y0 := Y.out.c0; have Y1 := Y.out.c1))
    | (go_at_call 21; ((with_reducible refine ((C4 _).out).mono ?_); rintro e wn ⟨AL, kL, cL, rfl, hL, hcL, hb⟩; have hbn := Spn.stepW HB.out hb ⟨rfl, rfl, rfl, rfl⟩; have HBn := Lib.hid (Spn.nextW HB.out hb ⟨rfl, rfl, rfl, rfl⟩); clear HB; have HB := HBn; clear HBn; have Xn := Lib.hid (X.out.keep hbn); clear X; have X := Xn; clear Xn; have Yn := Lib.hid (Y.out.keep hbn); clear Y; have Y := Yn; clear Yn; have HL := Lib.hid (RowAt.mk hL); clear hL; clear hb hbn; clear X0 X1; have X0 := X.out.c0; have X1 := X.out.c1; clear Y0 Y1; have Y0 := Y.out.c0; have Y1 := Y.out.c1))
    | (go_at_call 22; ((with_reducible refine ((C5 _).out).mono ?_); rintro e wn ⟨AR, kR, cR, rfl, hR, hcR, hb⟩; have hbn := Spn.stepW HB.out hb ⟨rfl, rfl, rfl, rfl⟩; have HBn := Lib.hid (Spn.nextW HB.out hb ⟨rfl, rfl, rfl, rfl⟩); clear HB; have HB := HBn; clear HBn; have Xn := Lib.hid (X.out.keep hbn); clear X; have X := Xn; clear Xn; have Yn := Lib.hid (Y.out.keep hbn); clear Y; have Y := Yn; clear Yn; have HLn := Lib.hid (HL.out.keep_ hbn); clear HL; have HL := HLn; clear HLn; have HR := Lib.hid (RowAt.mk hR); clear hR; have hk := HL.out.len.symm.trans HR.out.len; subst hk; clear hb hbn; clear X0 X1; have X0 := X.out.c0; have X1 := X.out.c1; clear Y0 Y1; have Y0 := Y.out.c0; have Y1 := Y.out.c1))
    | (go_at_call 20; ((refine (same AL AR kL cL cR wn.heap.size wn.heap.size zs _ HL.out.spans HR.out.spans (by unfold maxLen; have := HL.out.len; omega)).mono ?_); rintro e wn ⟨rfl, hb⟩; have hbn := Spn.stepW HB.out hb ⟨rfl, rfl, rfl, rfl⟩; have HBn := Lib.hid (Spn.nextW HB.out hb ⟨rfl, rfl, rfl, rfl⟩); clear HB; have HB := HBn; clear HBn; have Xn := Lib.hid (X.out.keep hbn); clear X; have X := Xn; clear Xn; have Yn := Lib.hid (Y.out.keep hbn); clear Y; have Y := Yn; clear Yn; clear hb hbn; clear X0 X1; have X0 := X.out.c0; have X1 := X.out.c1; clear Y0 Y1; have Y0 := Y.out.c0; have Y1 := Y.out.c1)))
  all_goals (go_wp2; go_ret; exact ⟨rfl, HB.out⟩)


set_option maxRecDepth 100000 in
theorem lifted (os : Os) (started : os.Started) (H : Type) (enc : TypeId × Value → H) :
    ReturnsInHanded {} Try.checked os 4 .any (Rows.spanTwoSpec.pre6 enc Try.prog Try.f4 Rows.spanTwoRow.domain false) (Rows.spanTwoSpec.post enc Try.prog Try.f4 false true false false) := by
  refine returnsInHanded_of_change (C := Try.checked) Spn.own started (by kernel_rfl) Try.func4
    (ChangeSpec.witness6 (enc := enc) (C := Try.checked) false ⟨#[], #[.agg #[.int .i64 0, .int .i64 0], .agg #[.int .i64 0, .int .i64 0]], []⟩ 8 (by kernel_rfl) (by kernel_rfl) (by kernel_rfl) (by kernel_rfl)) ?_
  intro W base args ds gs before hval0 hW hcnd _
  have hval : ∀ (j : Nat) t v, Try.f4.params[j]? = some t → args[j]? = some v → Value.okWide Try.prog W .any base t v := hval0
  have hW' := hW
  obtain ⟨p, q, hA0, hV, rfl, hfz, hnd⟩ := hW
  have hA : DataW.TrodAll enc Try.prog W 0 (fun _ => true) true Try.f4.params.toList args.toList ds p := hA0
  rw [Try.params4] at hA hval
  obtain ⟨v0, vs0, d0, ds0, p0, q0, hargs, rfl, rfl, h0, r0⟩ := trodAll_cons hA
  obtain ⟨v1, vs1, d1, ds1, p1, q1, rfl, rfl, rfl, h1, r1⟩ := trodAll_cons r0
  obtain ⟨rfl, rfl, rfl⟩ := trodAll_nil r1
  obtain rfl : args = #[v0, v1] := by cases args; simp_all
  obtain ⟨rfl, rfl⟩ := trodVars_none hV
  have k0 := h0
  have lt0 : ∀ x ∈ p0, x.block < W.heap.size := by obtain ⟨m, hm⟩ := k0; exact DataW.trod_lt m _ _ _ hm
  obtain ⟨x0, rfl⟩ := Spn.open_span (hval 0 23 v0 rfl rfl) h0
  have k1 := h1
  have lt1 : ∀ x ∈ p1, x.block < W.heap.size := by obtain ⟨m, hm⟩ := k1; exact DataW.trod_lt m _ _ _ hm
  obtain ⟨x1, rfl⟩ := Spn.open_span (hval 1 23 v1 rfl rfl) h1
  clear hA0 hval0
  refine (walk x0 x1 W).mono fun e W' ⟨he, bel⟩ => ?_
  subst he
  exact ⟨_, rfl, _, _, _, [], _, [], hW', trodAll_mk1 (shut_bool Try.underlying4 _), (trodAll_cons_mk (Below.trod Spn.laidOut (by kernel_rfl) (of_decide_eq_true (by kernel_rfl)) k0 bel lt0) (trodAll_cons_mk (Below.trod Spn.laidOut (by kernel_rfl) (of_decide_eq_true (by kernel_rfl)) k1 bel lt1) trodAll_mk0)), rfl, bel.frame _, fun h => by cases h⟩

theorem over : Rows.spanTwoRow.holds Try.pinned (OpenSpec.ofChange Rows.spanTwoSpec) :=
  OpenClaim.holds_of_wide 4 Try.f4 rfl rfl rfl rfl rfl rfl rfl ⟨rfl, rfl, rfl, rfl, rfl⟩ rfl rfl rfl rfl rfl (by kernel_rfl) Try.func4 (by kernel_rfl)
    (of_decide_eq_true (by kernel_rfl)) (by unfold Func.isWrapper; first | (rw [if_pos (by decide +kernel)]; kernel_rfl) | (rw [if_neg (by decide +kernel)]; exact ⟨rfl, rfl⟩))
    (fun os started H enc _ => lifted os started H enc)

theorem proved : Rows.SpanTwoSaid := over
end Go.Proofs.Ytbollbbanmdbhaa.spanTwo
