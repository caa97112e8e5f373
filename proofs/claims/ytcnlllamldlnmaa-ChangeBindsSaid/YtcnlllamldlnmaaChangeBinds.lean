/-
  The statement ChangeBinds holds: for every input the call returns true, and each argument reads afterwards as it read before. Conditions: none beside those that the row itself bears.
-/
import Derived.Test.YtcnlllamldlnmaaLaws
namespace Go.Proofs.Ytcnlllamldlnmaa.changeBinds
open Go.ChangeShapes Go.WideShapes Go.ChangeAt Go.RowKit Ba Cv Sp Te St Ag Tm
set_option linter.unusedVariables false

set_option maxRecDepth 100000 in
set_option maxHeartbeats 4000000 in
theorem walk {w : World} (id : Int) (_ : -9223372036854775808 ≤ id ∧ id ≤ 9223372036854775807) (bk : Int) (_ : -9223372036854775808 ≤ bk ∧ bk ≤ 9223372036854775807) (s : Sp) (r : Ri) (A : Option Addr) (n c : Nat) (cs : List Co) (g : GivenC w A n c cs) : Calls Try.prog 4 #[.int .i64 id, .int .i64 bk, tg s r A n c] w (Yes w true) := by
  obtain ⟨W, hW⟩ : ∃ W, w.alloc (.cells (tc s r A n c) 30) = W := ⟨_, rfl⟩
  have H0 := Lib.hid (show TX w W s r A n c by rw [← hW]; exact TX.start w s r A n c)
  have HW := Lib.hid hW
  have gm := g.m
  have G := Lib.hid g
  clear hW g
  by_cases h1 : 100 < n
  · have t1 : decide (100 < n) = true := decide_eq_true h1
    have t1' : decide (100 < (n : Int)) = true := decide_eq_true (by omega)
    clear h1
    go_enter Try.func4, Try.ntmps4
    go_wp2_with fail
    rw [HW.out]
    refine (alive11 _).mono ?_
    rintro e w1 ⟨rfl, hb1⟩
    have H1 := Lib.hid (H0.out.next hb1)
    clear hb1
    go_wp2
    go_ret
    exact ⟨rfl, H1.out.b⟩
  have t1 : decide (100 < n) = false := decide_eq_false h1
  have t1' : decide (100 < (n : Int)) = false := decide_eq_false (by omega)
  have HL := Lib.hid (show n ≤ 3000 by omega)
  clear h1 gm
  obtain ⟨kk, hkk⟩ : ∃ kk, bco id bk s r cs = kk := ⟨_, rfl⟩
  obtain ⟨u, hu⟩ : ∃ u, decide (kk = 0) = u := ⟨_, rfl⟩
  have HU := Lib.hid (show hst (bhi id bk s r cs) = u by
    rw [hst_bhi, ← hu, ← hkk]; unfold bco; cases bnd id bk s r cs <;> rfl)
  obtain ⟨v, hv⟩ : ∃ v, bhi id bk s r cs = v := ⟨_, rfl⟩
  rw [hv] at HU
  have CB : ∀ W : World, Below w.heap.size w W → Hid (Calls Try.prog 16 #[.int .i64 id, .int .i64 bk, tg s r A n c] W (Give0 W v kk)) := fun W hb => Lib.hid (by
    have := bind_ id bk s r A n c cs W (G.out.r.below hb) HL.out
    rw [hv, hkk] at this
    exact this.mono fun e w' h => h.give0)
  have CR : ∀ W : World, Below w.heap.size w W → Hid (Calls Try.prog 17 #[.int .i64 id, .int .i64 bk, tg s r A n c] W (Give0 W v kk)) := fun W hb => Lib.hid (by
    have := rbind_ id bk s r A n c cs W (G.out.r.below hb) HL.out
    rwa [hv, hkk] at this)
  clear hkk hv G HL
  go_enter Try.func4, Try.ntmps4
  go_wp2_with fail
  rw [HW.out]
  clear HW
  refine (CB _ H0.out.b).out.mono ?_
  rintro e w1 ⟨a, rfl, R1⟩
  have A1 := Lib.hid (HB.new H0.out.b R1)
  have H1 := Lib.hid (H0.out.next (R1.b.alloc R1.b.size (.cells (hc a) 33)))
  have V1 := Lib.hid R1.v
  clear R1 H0
  have x0 := H1.out.x.c 0
  have x1 := H1.out.x.c 1
  have x2 := H1.out.x.c 2
  have x3 := H1.out.x.c 3
  have x4 := H1.out.x.c 4
  have x5 := H1.out.x.c 5
  have x6 := H1.out.x.c 6
  simp at x0 x1 x2 x3 x4 x5 x6
  go_wp2_with fail
  refine (CR _ H1.out.b).out.mono ?_
  rintro e w2 ⟨b, rfl, R2⟩
  have hb := R2.b.alloc R2.b.size (.cells (hc b) 33)
  have B2 := Lib.hid (HB.new H1.out.b R2)
  have A2 := Lib.hid (A1.out.next hb)
  have V2 := Lib.hid R2.v
  clear R2 H1 A1 hb x0 x1 x2 x3 x4 x5 x6
  go_wp2_with fail
  refine (alive11 _).mono ?_
  rintro e w3 ⟨rfl, hb⟩
  have B3 := Lib.hid (B2.out.next hb)
  have A3 := Lib.hid (A2.out.next hb)
  clear hb A2 B2
  have x0 := A3.out.x.c 0
  have x1 := A3.out.x.c 1
  have x2 := A3.out.x.c 2
  have x3 := A3.out.x.c 3
  have x4 := A3.out.x.c 4
  have x5 := A3.out.x.c 5
  have x6 := A3.out.x.c 6
  have x7 := A3.out.x.c 7
  have x8 := A3.out.x.c 8
  have x9 := A3.out.x.c 9
  simp at x0 x1 x2 x3 x4 x5 x6 x7 x8 x9
  have y0 := B3.out.x.c 0
  have y1 := B3.out.x.c 1
  have y2 := B3.out.x.c 2
  have y3 := B3.out.x.c 3
  have y4 := B3.out.x.c 4
  have y5 := B3.out.x.c 5
  have y6 := B3.out.x.c 6
  have y7 := B3.out.x.c 7
  have y8 := B3.out.x.c 8
  have y9 := B3.out.x.c 9
  simp at y0 y1 y2 y3 y4 y5 y6 y7 y8 y9
  go_wp2_with fail
  refine (same_ a b w3 (V2.out.trans V1.out.symm) A3.out.m B3.out.m A3.out.s.lens.1 A3.out.s.lens.2.1 A3.out.s.lens.2.2).mono ?_
  rintro e w4 ⟨rfl, hb⟩
  have A4 := Lib.hid (A3.out.next hb)
  clear hb A3 B3 x0 x1 x2 x3 x4 x5 x6 x7 x8 x9 y0 y1 y2 y3 y4 y5 y6 y7 y8 y9
  have x0 := A4.out.x.c 0
  have x1 := A4.out.x.c 1
  have x2 := A4.out.x.c 2
  have x3 := A4.out.x.c 3
  have x4 := A4.out.x.c 4
  have x5 := A4.out.x.c 5
  have x6 := A4.out.x.c 6
  have x7 := A4.out.x.c 7
  have x8 := A4.out.x.c 8
  have x9 := A4.out.x.c 9
  simp at x0 x1 x2 x3 x4 x5 x6 x7 x8 x9
  go_wp2_with fail
  have CH4 := history_ a w4 A4.out.m A4.out.s
  rw [V1.out, HU.out] at CH4
  refine CH4.mono ?_
  rintro e w5 ⟨rfl, hb⟩
  have A5 := Lib.hid (A4.out.next hb)
  clear hb A4 CH4 x0 x1 x2 x3 x4 x5 x6 x7 x8 x9
  have hq : (kk == 0) = u := by rw [← hu]; rfl
  go_wp2
  go_ret
  exact ⟨rfl, A5.out.b⟩

set_option maxRecDepth 100000 in
theorem lifted (os : Os) (started : os.Started) (H : Type) (enc : TypeId × Value → H) :
    ReturnsInHanded {} Try.checked os 4 .any (Rows.changeBindsSpec.pre6 enc Try.prog Try.f4 Rows.changeBindsRow.domain false) (Rows.changeBindsSpec.post enc Try.prog Try.f4 false true false false) := by
  refine returnsInHanded_of_change_sized (C := Try.checked) Tm.own started (by kernel_rfl) Try.func4
    (ChangeSpec.witness6 (enc := enc) (C := Try.checked) false ⟨#[], #[.int .i64 0, .int .i64 0, .agg #[.int .i64 0, .int .i64 0, .int .i64 0, .int .i64 0, .int .i64 0, .int .i64 0, .slice none 0 0]], []⟩ 8 (by kernel_rfl) (by kernel_rfl) (by kernel_rfl) (by kernel_rfl)) ?_
  intro W base args ds gs before hval0 hW hcnd hsz0 _
  have hval : ∀ (j : Nat) t v, Try.f4.params[j]? = some t → args[j]? = some v → Value.okWide Try.prog W .any base t v := hval0
  have hW' := hW
  have hsz : (DataW.weightsEach Try.prog (Try.f4.params.toList ++ Rows.changeBindsSpec.plain.varTypes Try.prog) (ds ++ gs)).all (· ≤ reachBytes) = true := hsz0
  obtain ⟨p, q, hA0, hV, rfl, hfz, hnd⟩ := hW
  have hA : DataW.TrodAll enc Try.prog W 0 (fun _ => true) true Try.f4.params.toList args.toList ds p := hA0
  rw [Try.params4] at hA hval hsz
  obtain ⟨v0, vs0, d0, ds0, p0, q0, hargs, rfl, rfl, h0, r0⟩ := trodAll_cons hA
  obtain ⟨v1, vs1, d1, ds1, p1, q1, rfl, rfl, rfl, h1, r1⟩ := trodAll_cons r0
  obtain ⟨v2, vs2, d2, ds2, p2, q2, rfl, rfl, rfl, h2, r2⟩ := trodAll_cons r1
  obtain ⟨rfl, rfl, rfl⟩ := trodAll_nil r2
  obtain rfl : args = #[v0, v1, v2] := by cases args; simp_all
  obtain ⟨rfl, rfl⟩ := trodVars_none hV
  obtain ⟨a0, rfl, rfl, rfl, w0⟩ := open_int Try.underlying3 (hval 0 3 v0 rfl rfl) h0
  obtain ⟨a1, rfl, rfl, rfl, w1⟩ := open_int Try.underlying3 (hval 1 3 v1 rfl rfl) h1
  have k2 := h2
  have lt2 : ∀ x ∈ p2, x.block < W.heap.size := by obtain ⟨m, hm⟩ := k2; exact DataW.trod_lt m _ _ _ hm
  obtain ⟨s2, x2, A2, n2, e2, l2, rfl, g2⟩ := Tm.open_terms (hval 2 30 v2 rfl rfl) h2 (fun k hk => of_decide_eq_true (List.all_eq_true.1 hsz _ (DataW.weights_mem_each (j := 2) rfl rfl k hk)))
  clear hA0 hval0 hsz hsz0
  refine (walk a0 (Tm.i64_of w0) a1 (Tm.i64_of w1) s2 x2 A2 n2 e2 l2 g2).mono fun e W' ⟨he, bel⟩ => ?_
  subst he
  exact ⟨_, rfl, _, _, _, [], _, [], hW', trodAll_mk1 (shut_bool Try.underlying4 _), (trodAll_cons_mk (shut_int Try.underlying3 w0) (trodAll_cons_mk (shut_int Try.underlying3 w1) (trodAll_cons_mk (Below.trod Tm.laidOut (by kernel_rfl) (of_decide_eq_true (by kernel_rfl)) k2 bel lt2) trodAll_mk0))), rfl, bel.frame _, fun h => by cases h⟩

theorem over : Rows.changeBindsRow.holds Try.pinned (OpenSpec.ofChange Rows.changeBindsSpec) :=
  OpenClaim.holds_of_wide 4 Try.f4 rfl rfl rfl rfl rfl rfl rfl ⟨rfl, rfl, rfl, rfl, rfl⟩ rfl rfl rfl rfl rfl (by kernel_rfl) Try.func4 (by kernel_rfl)
    (of_decide_eq_true (by kernel_rfl)) (by unfold Func.isWrapper; first | (rw [if_pos (by decide +kernel)]; kernel_rfl) | (rw [if_neg (by decide +kernel)]; exact ⟨rfl, rfl⟩))
    (fun os started H enc _ => lifted os started H enc)

theorem proved : Rows.ChangeBindsSaid := over
end Go.Proofs.Ytcnlllamldlnmaa.changeBinds
