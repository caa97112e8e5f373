/-
  The statement ChangePuts holds: for every input the call returns true, and each argument reads afterwards as it read before. Conditions: none beside those that the row itself bears.
-/
import Derived.Test.YtcnlllamldlnmaaLaws
namespace Go.Proofs.Ytcnlllamldlnmaa.changePuts
open Go.ChangeShapes Go.WideShapes Go.ChangeAt Go.RowKit Ba Cv Sp Te St Ag Tm
set_option linter.unusedVariables false

/-- The history's box, and two changes'. -/
structure Q3 (w W : World) (h : Hr) (r u : Rw) : Prop where
  b : Below w.heap.size w W
  x : Bx W w.heap.size 33 (hc h)
  y : Bx W (w.heap.size + 1) 26 (vc r)
  z : Bx W (w.heap.size + 2) 26 (vc u)
theorem Q3.next {w W W' : World} {h : Hr} {r u : Rw} (H : Q3 w W h r u) (hb : Below W.heap.size W W') : Q3 w W' h r u := ⟨H.b.trans (hb.mono H.b.size), H.x.keep hb, H.y.keep hb, H.z.keep hb⟩
theorem Q3.start (w : World) (h : Hr) (r u : Rw) : Q3 w (((w.alloc (.cells (hc h) 33)).alloc (.cells (vc r) 26)).alloc (.cells (vc u) 26)) h r u := by
  refine ⟨((alloc_ _ _).alloc (by simp) _).alloc (by simp; omega) _, ((Bx.new _ _ _).alloc _).alloc _, ?_, ?_⟩
  · have := (Bx.new (w.alloc (.cells (hc h) 33)) 26 (vc r)).alloc (.cells (vc u) 26)
    rw [World.size_alloc] at this
    exact this
  · have := Bx.new ((w.alloc (.cells (hc h) 33)).alloc (.cells (vc r) 26)) 26 (vc u)
    rw [World.size_alloc, World.size_alloc] at this
    exact this
set_option maxRecDepth 100000 in
set_option maxHeartbeats 8000000 in
theorem walk {w : World} (h : Hr) (g : GivenH w h) (r : Rw) (g1 : GivenR w r) (u : Rw) (g2 : GivenR w u) : Calls Try.prog 5 #[hg h, vg r, vg u] w (Yes w true) := by
  obtain ⟨W, hW⟩ : ∃ W, ((w.alloc (.cells (hc h) 33)).alloc (.cells (vc r) 26)).alloc (.cells (vc u) 26) = W := ⟨_, rfl⟩
  have H0 := Lib.hid (show Q3 w W h r u by rw [← hW]; exact Q3.start w h r u)
  have HW := Lib.hid hW
  have G := Lib.hid (And.intro g (And.intro g1 g2))
  clear hW g g1 g2
  go_enter Try.func5, Try.ntmps5
  go_wp2_with fail
  rw [HW.out]
  clear HW
  refine (few_ h W (G.out.1.below H0.out.b)).mono ?_
  rintro e w1 ⟨q, rfl, hq, hb1⟩
  have H1 := Lib.hid (H0.out.next hb1)
  clear hb1 H0
  cases q
  · clear hq G
    go_wp2_with fail
    refine (alive11 _).mono ?_
    rintro e w2 ⟨rfl, hb2⟩
    have H2 := Lib.hid (H1.out.next hb2)
    clear hb2
    go_wp2
    go_ret
    exact ⟨rfl, H2.out.b⟩
  · obtain ⟨hm, hn, hk⟩ := hq rfl
    have HSm := Lib.hid (G.out.1.small (by omega) (by omega) fun r hr => Nat.le_trans (hk r hr) (by omega))
    have gm1 := G.out.2.1.m
    have gm2 := G.out.2.2.m
    obtain ⟨s, hs⟩ : ∃ s, r.n + u.n = s := ⟨_, rfl⟩
    have e1 : (r.n : Int) + (u.n : Int) = (s : Int) := by omega
    have hs2 : s ≤ 1000000000000000 := by omega
    clear hq hk hm hn
    have y7 := H1.out.y.c 7
    have z7 := H1.out.z.c 7
    simp at y7 z7
    by_cases h1 : 100 < s
    · have t1 : decide (100 < s) = true := decide_eq_true h1
      have t1' : decide (100 < (s : Int)) = true := decide_eq_true (by omega)
      clear G HSm h1 gm1 gm2 hs
      go_wp2_with fail
      refine (alive11 _).mono ?_
      rintro e w2 ⟨rfl, hb2⟩
      have H2 := Lib.hid (H1.out.next hb2)
      clear hb2
      go_wp2
      go_ret
      exact ⟨rfl, H2.out.b⟩
    · have t1 : decide (100 < s) = false := decide_eq_false h1
      have t1' : decide (100 < (s : Int)) = false := decide_eq_false (by omega)
      have HL := Lib.hid (show r.n ≤ 3000 ∧ u.n ≤ 3000 by omega)
      clear h1 gm1 gm2 hs
      obtain ⟨ka, hka⟩ : ∃ ka, code h.s h.bk h.v.hs r.v = ka := ⟨_, rfl⟩
      obtain ⟨kb, hkb⟩ : ∃ kb, code h.s h.bk h.v.hs u.v = kb := ⟨_, rfl⟩
      obtain ⟨va, hva⟩ : ∃ va, phi h.v r.v = va := ⟨_, rfl⟩
      obtain ⟨vb, hvb⟩ : ∃ vb, phi h.v u.v = vb := ⟨_, rfl⟩
      have C1 : ∀ W : World, Below w.heap.size w W → Hid (Calls Try.prog 19 #[hg h, vg r] W (Give0 W va ka)) := fun W hb => Lib.hid (by
        have := put_ h r W (G.out.1.M.below hb) HSm.out (G.out.2.1.c.below hb) HL.out.1
        rw [hva, hka] at this
        exact this.mono fun e w' h => h.give0)
      have C2 : ∀ W : World, Below w.heap.size w W → Hid (Calls Try.prog 20 #[hg h, vg r] W (Give0 W va ka)) := fun W hb => Lib.hid (by
        have := rput_ h r W (G.out.1.M.below hb) HSm.out (G.out.2.1.c.below hb) HL.out.1
        rw [hva, hka] at this
        exact this)
      have C3 : ∀ W : World, Below w.heap.size w W → Hid (Calls Try.prog 19 #[hg h, vg u] W (Give0 W vb kb)) := fun W hb => Lib.hid (by
        have := put_ h u W (G.out.1.M.below hb) HSm.out (G.out.2.2.c.below hb) HL.out.2
        rw [hvb, hkb] at this
        exact this.mono fun e w' h => h.give0)
      have C4 : ∀ W : World, Below w.heap.size w W → Hid (Calls Try.prog 20 #[hg h, vg u] W (Give0 W vb kb)) := fun W hb => Lib.hid (by
        have := rput_ h u W (G.out.1.M.below hb) HSm.out (G.out.2.2.c.below hb) HL.out.2
        rw [hvb, hkb] at this
        exact this)
      clear hka hkb hva hvb G HSm HL
      have x0 := H1.out.x.c 0
      have x1 := H1.out.x.c 1
      have x2 := H1.out.x.c 2
      have x3 := H1.out.x.c 3
      have x4 := H1.out.x.c 4
      have x5 := H1.out.x.c 5
      have x6 := H1.out.x.c 6
      have x7 := H1.out.x.c 7
      have x8 := H1.out.x.c 8
      have x9 := H1.out.x.c 9
      simp at x0 x1 x2 x3 x4 x5 x6 x7 x8 x9
      have y0 := H1.out.y.c 0
      have y1 := H1.out.y.c 1
      have y2 := H1.out.y.c 2
      have y3 := H1.out.y.c 3
      have y4 := H1.out.y.c 4
      have y5 := H1.out.y.c 5
      have y6 := H1.out.y.c 6
      have y7 := H1.out.y.c 7
      have y8 := H1.out.y.c 8
      simp at y0 y1 y2 y3 y4 y5 y6 y7 y8
      go_wp2_with fail
      refine (C1 _ H1.out.b).out.mono ?_
      rintro e w2 ⟨a, rfl, R⟩
      have hb := R.b.alloc R.b.size (.cells (hc a) 33)
      have A2 := Lib.hid (HB.new H1.out.b R)
      have VA := Lib.hid R.v
      have H2 := Lib.hid (H1.out.next hb)
      clear R hb H1  x0 x1 x2 x3 x4 x5 x6 x7 x8 x9 y0 y1 y2 y3 y4 y5 y6 y7 y8
      have x0 := H2.out.x.c 0
      have x1 := H2.out.x.c 1
      have x2 := H2.out.x.c 2
      have x3 := H2.out.x.c 3
      have x4 := H2.out.x.c 4
      have x5 := H2.out.x.c 5
      have x6 := H2.out.x.c 6
      have x7 := H2.out.x.c 7
      have x8 := H2.out.x.c 8
      have x9 := H2.out.x.c 9
      simp at x0 x1 x2 x3 x4 x5 x6 x7 x8 x9
      have y0 := H2.out.y.c 0
      have y1 := H2.out.y.c 1
      have y2 := H2.out.y.c 2
      have y3 := H2.out.y.c 3
      have y4 := H2.out.y.c 4
      have y5 := H2.out.y.c 5
      have y6 := H2.out.y.c 6
      have y7 := H2.out.y.c 7
      have y8 := H2.out.y.c 8
      simp at y0 y1 y2 y3 y4 y5 y6 y7 y8
      go_wp2_with fail
      refine (C2 _ H2.out.b).out.mono ?_
      rintro e w3 ⟨b, rfl, R⟩
      have hb := R.b.alloc R.b.size (.cells (hc b) 33)
      have B3 := Lib.hid (HB.new H2.out.b R)
      have VB := Lib.hid R.v
      have H3 := Lib.hid (H2.out.next hb)
      have A3 := Lib.hid (A2.out.next hb)
      clear R hb H2 A2 x0 x1 x2 x3 x4 x5 x6 x7 x8 x9 y0 y1 y2 y3 y4 y5 y6 y7 y8
      have x0 := H3.out.x.c 0
      have x1 := H3.out.x.c 1
      have x2 := H3.out.x.c 2
      have x3 := H3.out.x.c 3
      have x4 := H3.out.x.c 4
      have x5 := H3.out.x.c 5
      have x6 := H3.out.x.c 6
      have x7 := H3.out.x.c 7
      have x8 := H3.out.x.c 8
      have x9 := H3.out.x.c 9
      simp at x0 x1 x2 x3 x4 x5 x6 x7 x8 x9
      have y0 := H3.out.z.c 0
      have y1 := H3.out.z.c 1
      have y2 := H3.out.z.c 2
      have y3 := H3.out.z.c 3
      have y4 := H3.out.z.c 4
      have y5 := H3.out.z.c 5
      have y6 := H3.out.z.c 6
      have y7 := H3.out.z.c 7
      have y8 := H3.out.z.c 8
      simp at y0 y1 y2 y3 y4 y5 y6 y7 y8
      go_wp2_with fail
      refine (C3 _ H3.out.b).out.mono ?_
      rintro e w4 ⟨x, rfl, R⟩
      have hb := R.b.alloc R.b.size (.cells (hc x) 33)
      have X4 := Lib.hid (HB.new H3.out.b R)
      have VX := Lib.hid R.v
      have H4 := Lib.hid (H3.out.next hb)
      have A4 := Lib.hid (A3.out.next hb)
      have B4 := Lib.hid (B3.out.next hb)
      clear R hb H3 A3 B3 x0 x1 x2 x3 x4 x5 x6 x7 x8 x9 y0 y1 y2 y3 y4 y5 y6 y7 y8
      have x0 := H4.out.x.c 0
      have x1 := H4.out.x.c 1
      have x2 := H4.out.x.c 2
      have x3 := H4.out.x.c 3
      have x4 := H4.out.x.c 4
      have x5 := H4.out.x.c 5
      have x6 := H4.out.x.c 6
      have x7 := H4.out.x.c 7
      have x8 := H4.out.x.c 8
      have x9 := H4.out.x.c 9
      simp at x0 x1 x2 x3 x4 x5 x6 x7 x8 x9
      have y0 := H4.out.z.c 0
      have y1 := H4.out.z.c 1
      have y2 := H4.out.z.c 2
      have y3 := H4.out.z.c 3
      have y4 := H4.out.z.c 4
      have y5 := H4.out.z.c 5
      have y6 := H4.out.z.c 6
      have y7 := H4.out.z.c 7
      have y8 := H4.out.z.c 8
      simp at y0 y1 y2 y3 y4 y5 y6 y7 y8
      go_wp2_with fail
      refine (C4 _ H4.out.b).out.mono ?_
      rintro e w5 ⟨y, rfl, R⟩
      have hb := R.b.alloc R.b.size (.cells (hc y) 33)
      have Y5 := Lib.hid (HB.new H4.out.b R)
      have VY := Lib.hid R.v
      have H5 := Lib.hid (H4.out.next hb)
      have A5 := Lib.hid (A4.out.next hb)
      have B5 := Lib.hid (B4.out.next hb)
      have X5 := Lib.hid (X4.out.next hb)
      clear R hb H4 A4 B4 X4 x0 x1 x2 x3 x4 x5 x6 x7 x8 x9 y0 y1 y2 y3 y4 y5 y6 y7 y8
      clear H5 C1 C2 C3 C4 y7 z7
      go_wp2_with fail
      refine (alive11 _).mono ?_
      rintro e w6 ⟨rfl, hb⟩
      have A6 := Lib.hid (A5.out.next hb)
      have B6 := Lib.hid (B5.out.next hb)
      have X6 := Lib.hid (X5.out.next hb)
      have Y6 := Lib.hid (Y5.out.next hb)
      clear hb A5 B5 X5 Y5
      have x0 := A6.out.x.c 0
      have x1 := A6.out.x.c 1
      have x2 := A6.out.x.c 2
      have x3 := A6.out.x.c 3
      have x4 := A6.out.x.c 4
      have x5 := A6.out.x.c 5
      have x6 := A6.out.x.c 6
      have x7 := A6.out.x.c 7
      have x8 := A6.out.x.c 8
      have x9 := A6.out.x.c 9
      simp at x0 x1 x2 x3 x4 x5 x6 x7 x8 x9
      have y0 := B6.out.x.c 0
      have y1 := B6.out.x.c 1
      have y2 := B6.out.x.c 2
      have y3 := B6.out.x.c 3
      have y4 := B6.out.x.c 4
      have y5 := B6.out.x.c 5
      have y6 := B6.out.x.c 6
      have y7 := B6.out.x.c 7
      have y8 := B6.out.x.c 8
      have y9 := B6.out.x.c 9
      simp at y0 y1 y2 y3 y4 y5 y6 y7 y8 y9
      go_wp2_with fail
      refine (same_ a b w6 (VB.out.trans VA.out.symm) A6.out.m B6.out.m A6.out.s.lens.1 A6.out.s.lens.2.1 A6.out.s.lens.2.2).mono ?_
      rintro e w7 ⟨rfl, hb⟩
      have X7 := Lib.hid (X6.out.next hb)
      have Y7 := Lib.hid (Y6.out.next hb)
      clear hb A6 B6 X6 Y6 x0 x1 x2 x3 x4 x5 x6 x7 x8 x9 y0 y1 y2 y3 y4 y5 y6 y7 y8 y9
      have x0 := X7.out.x.c 0
      have x1 := X7.out.x.c 1
      have x2 := X7.out.x.c 2
      have x3 := X7.out.x.c 3
      have x4 := X7.out.x.c 4
      have x5 := X7.out.x.c 5
      have x6 := X7.out.x.c 6
      have x7 := X7.out.x.c 7
      have x8 := X7.out.x.c 8
      have x9 := X7.out.x.c 9
      simp at x0 x1 x2 x3 x4 x5 x6 x7 x8 x9
      have y0 := Y7.out.x.c 0
      have y1 := Y7.out.x.c 1
      have y2 := Y7.out.x.c 2
      have y3 := Y7.out.x.c 3
      have y4 := Y7.out.x.c 4
      have y5 := Y7.out.x.c 5
      have y6 := Y7.out.x.c 6
      have y7 := Y7.out.x.c 7
      have y8 := Y7.out.x.c 8
      have y9 := Y7.out.x.c 9
      simp at y0 y1 y2 y3 y4 y5 y6 y7 y8 y9
      go_wp2_with fail
      refine (same_ x y w7 (VY.out.trans VX.out.symm) X7.out.m Y7.out.m X7.out.s.lens.1 X7.out.s.lens.2.1 X7.out.s.lens.2.2).mono ?_
      rintro e w8 ⟨rfl, hb⟩
      have X8 := Lib.hid (X7.out.next hb)
      clear hb X7 Y7 x0 x1 x2 x3 x4 x5 x6 x7 x8 x9 y0 y1 y2 y3 y4 y5 y6 y7 y8 y9
      go_wp2
      go_ret
      exact ⟨rfl, X8.out.b⟩

set_option maxRecDepth 100000 in
theorem lifted (os : Os) (started : os.Started) (H : Type) (enc : TypeId × Value → H) :
    ReturnsInHanded {} Try.checked os 5 .any (Rows.changePutsSpec.pre6 enc Try.prog Try.f5 Rows.changePutsRow.domain false) (Rows.changePutsSpec.post enc Try.prog Try.f5 false true false false) := by
  refine returnsInHanded_of_change_sized (C := Try.checked) Tm.own started (by kernel_rfl) Try.func5
    (ChangeSpec.witness6 (enc := enc) (C := Try.checked) false ⟨#[], #[.agg #[.int .i64 0, .int .i64 0, .int .i64 0, .int .i64 0, .int .i64 0, .int .i64 0, .int .i64 0, .int .i64 0, .slice none 0 0, .slice none 0 0], .agg #[.int .i64 0, .int .i64 0, .int .i64 0, .int .i64 0, .int .i64 0, .int .i64 0, .int .i64 0, .slice none 0 0, .int .i64 0], .agg #[.int .i64 0, .int .i64 0, .int .i64 0, .int .i64 0, .int .i64 0, .int .i64 0, .int .i64 0, .slice none 0 0, .int .i64 0]], []⟩ 8 (by kernel_rfl) (by kernel_rfl) (by kernel_rfl) (by kernel_rfl)) ?_
  intro W base args ds gs before hval0 hW hcnd hsz0 _
  have hval : ∀ (j : Nat) t v, Try.f5.params[j]? = some t → args[j]? = some v → Value.okWide Try.prog W .any base t v := hval0
  have hW' := hW
  have hsz : (DataW.weightsEach Try.prog (Try.f5.params.toList ++ Rows.changePutsSpec.plain.varTypes Try.prog) (ds ++ gs)).all (· ≤ reachBytes) = true := hsz0
  obtain ⟨p, q, hA0, hV, rfl, hfz, hnd⟩ := hW
  have hA : DataW.TrodAll enc Try.prog W 0 (fun _ => true) true Try.f5.params.toList args.toList ds p := hA0
  rw [Try.params5] at hA hval hsz
  obtain ⟨v0, vs0, d0, ds0, p0, q0, hargs, rfl, rfl, h0, r0⟩ := trodAll_cons hA
  obtain ⟨v1, vs1, d1, ds1, p1, q1, rfl, rfl, rfl, h1, r1⟩ := trodAll_cons r0
  obtain ⟨v2, vs2, d2, ds2, p2, q2, rfl, rfl, rfl, h2, r2⟩ := trodAll_cons r1
  obtain ⟨rfl, rfl, rfl⟩ := trodAll_nil r2
  obtain rfl : args = #[v0, v1, v2] := by cases args; simp_all
  obtain ⟨rfl, rfl⟩ := trodVars_none hV
  have k0 := h0
  have lt0 : ∀ x ∈ p0, x.block < W.heap.size := by obtain ⟨m, hm⟩ := k0; exact DataW.trod_lt m _ _ _ hm
  obtain ⟨y0, rfl, g0⟩ := Tm.open_history (hval 0 33 v0 rfl rfl) h0 (fun k hk => of_decide_eq_true (List.all_eq_true.1 hsz _ (DataW.weights_mem_each (j := 0) rfl rfl k hk)))
  have k1 := h1
  have lt1 : ∀ x ∈ p1, x.block < W.heap.size := by obtain ⟨m, hm⟩ := k1; exact DataW.trod_lt m _ _ _ hm
  obtain ⟨x1, rfl, g1⟩ := Tm.open_change (hval 1 26 v1 rfl rfl) h1 (fun k hk => of_decide_eq_true (List.all_eq_true.1 hsz _ (DataW.weights_mem_each (j := 1) rfl rfl k hk)))
  have k2 := h2
  have lt2 : ∀ x ∈ p2, x.block < W.heap.size := by obtain ⟨m, hm⟩ := k2; exact DataW.trod_lt m _ _ _ hm
  obtain ⟨x2, rfl, g2⟩ := Tm.open_change (hval 2 26 v2 rfl rfl) h2 (fun k hk => of_decide_eq_true (List.all_eq_true.1 hsz _ (DataW.weights_mem_each (j := 2) rfl rfl k hk)))
  clear hA0 hval0 hsz hsz0
  refine (walk y0 g0 x1 g1 x2 g2).mono fun e W' ⟨he, bel⟩ => ?_
  subst he
  exact ⟨_, rfl, _, _, _, [], _, [], hW', trodAll_mk1 (shut_bool Try.underlying4 _), (trodAll_cons_mk (Below.trod Tm.laidOut (by kernel_rfl) (of_decide_eq_true (by kernel_rfl)) k0 bel lt0) (trodAll_cons_mk (Below.trod Tm.laidOut (by kernel_rfl) (of_decide_eq_true (by kernel_rfl)) k1 bel lt1) (trodAll_cons_mk (Below.trod Tm.laidOut (by kernel_rfl) (of_decide_eq_true (by kernel_rfl)) k2 bel lt2) trodAll_mk0))), rfl, bel.frame _, fun h => by cases h⟩

theorem over : Rows.changePutsRow.holds Try.pinned (OpenSpec.ofChange Rows.changePutsSpec) :=
  OpenClaim.holds_of_wide 5 Try.f5 rfl rfl rfl rfl rfl rfl rfl ⟨rfl, rfl, rfl, rfl, rfl⟩ rfl rfl rfl rfl rfl (by kernel_rfl) Try.func5 (by kernel_rfl)
    (of_decide_eq_true (by kernel_rfl)) (by unfold Func.isWrapper; first | (rw [if_pos (by decide +kernel)]; kernel_rfl) | (rw [if_neg (by decide +kernel)]; exact ⟨rfl, rfl⟩))
    (fun os started H enc _ => lifted os started H enc)

theorem proved : Rows.ChangePutsSaid := over
end Go.Proofs.Ytcnlllamldlnmaa.changePuts
