/-
  The statement ChangeRight holds: for every input the call returns true, and each argument reads afterwards as it read before. Conditions: none beside those that the row itself bears.
-/
import Derived.Test.YtcnlllamldlnmaaLaws
namespace Go.Proofs.Ytcnlllamldlnmaa.changeRight
open Go.ChangeShapes Go.WideShapes Go.ChangeAt Go.RowKit Ba Cv Sp Te St Ag Tm
set_option linter.unusedVariables false

/-- The change's box, and the history's. -/
structure Q2 (w W : World) (r : Rw) (h : Hr) : Prop where
  b : Below w.heap.size w W
  x : Bx W w.heap.size 26 (vc r)
  y : Bx W (w.heap.size + 1) 33 (hc h)
theorem Q2.next {w W W' : World} {r : Rw} {h : Hr} (H : Q2 w W r h) (hb : Below W.heap.size W W') : Q2 w W' r h := ⟨H.b.trans (hb.mono H.b.size), H.x.keep hb, H.y.keep hb⟩
theorem Q2.start (w : World) (r : Rw) (h : Hr) : Q2 w ((w.alloc (.cells (vc r) 26)).alloc (.cells (hc h) 33)) r h := by
  refine ⟨(alloc_ _ _).alloc (by simp) _, (Bx.new _ _ _).alloc _, ?_⟩
  have := Bx.new (w.alloc (.cells (vc r) 26)) 33 (hc h)
  rw [World.size_alloc] at this
  exact this
set_option maxRecDepth 100000 in
set_option maxHeartbeats 4000000 in
theorem walk {w : World} (r : Rw) (g0 : GivenR w r) (h : Hr) (g : GivenH w h) : Calls Try.prog 3 #[vg r, hg h] w (Yes w true) := by
  obtain ⟨W, hW⟩ : ∃ W, (w.alloc (.cells (vc r) 26)).alloc (.cells (hc h) 33) = W := ⟨_, rfl⟩
  have H0 := Lib.hid (show Q2 w W r h by rw [← hW]; exact Q2.start w r h)
  have HW := Lib.hid hW
  have G := Lib.hid (And.intro g0 g)
  clear hW g g0
  go_enter Try.func3, Try.ntmps3
  go_wp2_with fail
  rw [HW.out]
  clear HW
  refine (few_ h W (G.out.2.below H0.out.b)).mono ?_
  rintro e w1 ⟨q, rfl, hq, hb1⟩
  have H1 := Lib.hid (H0.out.next hb1)
  clear hb1 H0
  have x0 := H1.out.x.c 0
  have x1 := H1.out.x.c 1
  have x2 := H1.out.x.c 2
  have x3 := H1.out.x.c 3
  have x4 := H1.out.x.c 4
  have x5 := H1.out.x.c 5
  have x6 := H1.out.x.c 6
  have x7 := H1.out.x.c 7
  have x8 := H1.out.x.c 8
  simp at x0 x1 x2 x3 x4 x5 x6 x7 x8
  cases q
  · clear hq G
    go_wp2_with fail
    refine (alive11 _).mono ?_
    rintro e w2 ⟨rfl, hb2⟩
    have H2 := Lib.hid (H1.out.next hb2)
    clear hb2
    go_wp2
    go_ret
    exact ⟨rfl, H2.out.b⟩
  · obtain ⟨hm, hn, hk⟩ := hq rfl
    have HSm := Lib.hid (G.out.2.small (by omega) (by omega) fun r hr => Nat.le_trans (hk r hr) (by omega))
    have gm := G.out.1.m
    clear hq hk hm hn
    by_cases h1 : 100 < r.n
    · have t1 : decide (100 < r.n) = true := decide_eq_true h1
      have t1' : decide (100 < (r.n : Int)) = true := decide_eq_true (by omega)
      clear G HSm h1
      go_wp2_with fail
      refine (alive11 _).mono ?_
      rintro e w2 ⟨rfl, hb2⟩
      have H2 := Lib.hid (H1.out.next hb2)
      clear hb2
      go_wp2
      go_ret
      exact ⟨rfl, H2.out.b⟩
    · have t1 : decide (100 < r.n) = false := decide_eq_false h1
      have t1' : decide (100 < (r.n : Int)) = false := decide_eq_false (by omega)
      have HL := Lib.hid (show r.n ≤ maxLen by unfold maxLen; omega)
      clear h1 gm
      go_wp2_with fail
      have CC : ∀ p : Ext w1, Cvs p.W (· < p.W.heap.size) r.A r.n r.v.cs := fun p => (G.out.1.c.below H1.out.b).below p.b
      have CM : ∀ p : Ext w1, HM p.W (· < p.W.heap.size) h := fun p => (G.out.2.M.below H1.out.b).below p.b
      have C0 := fun p : Ext w1 => Lib.hid (alive11 p.W)
      have C1 := fun p : Ext w1 => Lib.hid (right0 r p.W (CC p) HL.out)
      have C2 := fun p : Ext w1 => Lib.hid (rright11 r p.W (CC p) HL.out)
      have C3 := fun p : Ext w1 => Lib.hid (history_ h p.W (CM p) HSm.out)
      have C4 := fun p : Ext w1 => Lib.hid (rhistory_ h p.W (CM p) HSm.out)
      generalize rch r.v = u1 at C1 C2
      generalize hst h.v = u2 at C3 C4
      clear CC CM G HSm HL x0 x1 x2 x3 x4 x5 x6 x7 x8
      have x0 : ∀ p : Ext w1, p.W.cell? ⟨w.heap.size, 0, none⟩ = some (.int .i64 r.v.bk) := fun p => H1.out.x.ext p 0
      have x1 : ∀ p : Ext w1, p.W.cell? ⟨w.heap.size, 1, none⟩ = some (.int .i64 r.v.dy) := fun p => H1.out.x.ext p 1
      have x2 : ∀ p : Ext w1, p.W.cell? ⟨w.heap.size, 2, none⟩ = some (.int .i64 r.v.kd) := fun p => H1.out.x.ext p 2
      have x3 : ∀ p : Ext w1, p.W.cell? ⟨w.heap.size, 3, none⟩ = some (.int .i64 r.v.r.k) := fun p => H1.out.x.ext p 3
      have x4 : ∀ p : Ext w1, p.W.cell? ⟨w.heap.size, 4, none⟩ = some (.int .i64 r.v.r.v) := fun p => H1.out.x.ext p 4
      have x5 : ∀ p : Ext w1, p.W.cell? ⟨w.heap.size, 5, none⟩ = some (.int .i64 r.v.r.a) := fun p => H1.out.x.ext p 5
      have x6 : ∀ p : Ext w1, p.W.cell? ⟨w.heap.size, 6, none⟩ = some (.int .i64 r.v.r.z) := fun p => H1.out.x.ext p 6
      have x7 : ∀ p : Ext w1, p.W.cell? ⟨w.heap.size, 7, none⟩ = some (.slice r.A r.n r.c) := fun p => H1.out.x.ext p 7
      have x8 : ∀ p : Ext w1, p.W.cell? ⟨w.heap.size, 8, none⟩ = some (.int .i64 r.v.wy) := fun p => H1.out.x.ext p 8
      have y0 : ∀ p : Ext w1, p.W.cell? ⟨w.heap.size + 1, 0, none⟩ = some (.int .i64 h.id) := fun p => H1.out.y.ext p 0
      have y1 : ∀ p : Ext w1, p.W.cell? ⟨w.heap.size + 1, 1, none⟩ = some (.int .i64 h.bk) := fun p => H1.out.y.ext p 1
      have y2 : ∀ p : Ext w1, p.W.cell? ⟨w.heap.size + 1, 2, none⟩ = some (.int .i64 h.s.1) := fun p => H1.out.y.ext p 2
      have y3 : ∀ p : Ext w1, p.W.cell? ⟨w.heap.size + 1, 3, none⟩ = some (.int .i64 h.s.2) := fun p => H1.out.y.ext p 3
      have y4 : ∀ p : Ext w1, p.W.cell? ⟨w.heap.size + 1, 4, none⟩ = some (.int .i64 h.r.k) := fun p => H1.out.y.ext p 4
      have y5 : ∀ p : Ext w1, p.W.cell? ⟨w.heap.size + 1, 5, none⟩ = some (.int .i64 h.r.v) := fun p => H1.out.y.ext p 5
      have y6 : ∀ p : Ext w1, p.W.cell? ⟨w.heap.size + 1, 6, none⟩ = some (.int .i64 h.r.a) := fun p => H1.out.y.ext p 6
      have y7 : ∀ p : Ext w1, p.W.cell? ⟨w.heap.size + 1, 7, none⟩ = some (.int .i64 h.r.z) := fun p => H1.out.y.ext p 7
      have y8 : ∀ p : Ext w1, p.W.cell? ⟨w.heap.size + 1, 8, none⟩ = some (.slice h.A h.n h.c) := fun p => H1.out.y.ext p 8
      have y9 : ∀ p : Ext w1, p.W.cell? ⟨w.heap.size + 1, 9, none⟩ = some (.slice h.B h.m h.d) := fun p => H1.out.y.ext p 9
      have ne : Nonempty (Ext w1) := ⟨⟨w1, Below.refl _ _⟩⟩
      refine quietE (by kernel_rfl) (by kernel_rfl) ?_
      repeat (first | go_big_quiet_skip | quiet_step (first
        | (go_at_call 11; with_reducible exact ext_of (C0 _).out)
        | (go_at_call 12; with_reducible exact ext_of (C1 _).out)
        | (go_at_call 13; with_reducible exact ext_of (C2 _).out)
        | (go_at_call 14; with_reducible exact ext_of (C3 _).out)
        | (go_at_call 15; with_reducible exact ext_of (C4 _).out)
        | fail))
      refine wpQuiet_nil ?_
      rintro _ ⟨p, rfl⟩
      have H2 := Lib.hid (H1.out.next p.b)
      generalize p.W = w2 at H2 ⊢
      clear C0 C1 C2 C3 C4 ne H1 x0 x1 x2 x3 x4 x5 x6 x7 x8 y0 y1 y2 y3 y4 y5 y6 y7 y8 y9
      go_wp2
      go_ret
      exact ⟨rfl, H2.out.b⟩

set_option maxRecDepth 100000 in
theorem lifted (os : Os) (started : os.Started) (H : Type) (enc : TypeId × Value → H) :
    ReturnsInHanded {} Try.checked os 3 .any (Rows.changeRightSpec.pre6 enc Try.prog Try.f3 Rows.changeRightRow.domain false) (Rows.changeRightSpec.post enc Try.prog Try.f3 false true false false) := by
  refine returnsInHanded_of_change_sized (C := Try.checked) Tm.own started (by kernel_rfl) Try.func3
    (ChangeSpec.witness6 (enc := enc) (C := Try.checked) false ⟨#[], #[.agg #[.int .i64 0, .int .i64 0, .int .i64 0, .int .i64 0, .int .i64 0, .int .i64 0, .int .i64 0, .slice none 0 0, .int .i64 0], .agg #[.int .i64 0, .int .i64 0, .int .i64 0, .int .i64 0, .int .i64 0, .int .i64 0, .int .i64 0, .int .i64 0, .slice none 0 0, .slice none 0 0]], []⟩ 8 (by kernel_rfl) (by kernel_rfl) (by kernel_rfl) (by kernel_rfl)) ?_
  intro W base args ds gs before hval0 hW hcnd hsz0 _
  have hval : ∀ (j : Nat) t v, Try.f3.params[j]? = some t → args[j]? = some v → Value.okWide Try.prog W .any base t v := hval0
  have hW' := hW
  have hsz : (DataW.weightsEach Try.prog (Try.f3.params.toList ++ Rows.changeRightSpec.plain.varTypes Try.prog) (ds ++ gs)).all (· ≤ reachBytes) = true := hsz0
  obtain ⟨p, q, hA0, hV, rfl, hfz, hnd⟩ := hW
  have hA : DataW.TrodAll enc Try.prog W 0 (fun _ => true) true Try.f3.params.toList args.toList ds p := hA0
  rw [Try.params3] at hA hval hsz
  obtain ⟨v0, vs0, d0, ds0, p0, q0, hargs, rfl, rfl, h0, r0⟩ := trodAll_cons hA
  obtain ⟨v1, vs1, d1, ds1, p1, q1, rfl, rfl, rfl, h1, r1⟩ := trodAll_cons r0
  obtain ⟨rfl, rfl, rfl⟩ := trodAll_nil r1
  obtain rfl : args = #[v0, v1] := by cases args; simp_all
  obtain ⟨rfl, rfl⟩ := trodVars_none hV
  have k0 := h0
  have lt0 : ∀ x ∈ p0, x.block < W.heap.size := by obtain ⟨m, hm⟩ := k0; exact DataW.trod_lt m _ _ _ hm
  obtain ⟨x0, rfl, g0⟩ := Tm.open_change (hval 0 26 v0 rfl rfl) h0 (fun k hk => of_decide_eq_true (List.all_eq_true.1 hsz _ (DataW.weights_mem_each (j := 0) rfl rfl k hk)))
  have k1 := h1
  have lt1 : ∀ x ∈ p1, x.block < W.heap.size := by obtain ⟨m, hm⟩ := k1; exact DataW.trod_lt m _ _ _ hm
  obtain ⟨y1, rfl, g1⟩ := Tm.open_history (hval 1 33 v1 rfl rfl) h1 (fun k hk => of_decide_eq_true (List.all_eq_true.1 hsz _ (DataW.weights_mem_each (j := 1) rfl rfl k hk)))
  clear hA0 hval0 hsz hsz0
  refine (walk x0 g0 y1 g1).mono fun e W' ⟨he, bel⟩ => ?_
  subst he
  exact ⟨_, rfl, _, _, _, [], _, [], hW', trodAll_mk1 (shut_bool Try.underlying4 _), (trodAll_cons_mk (Below.trod Tm.laidOut (by kernel_rfl) (of_decide_eq_true (by kernel_rfl)) k0 bel lt0) (trodAll_cons_mk (Below.trod Tm.laidOut (by kernel_rfl) (of_decide_eq_true (by kernel_rfl)) k1 bel lt1) trodAll_mk0)), rfl, bel.frame _, fun h => by cases h⟩

theorem over : Rows.changeRightRow.holds Try.pinned (OpenSpec.ofChange Rows.changeRightSpec) :=
  OpenClaim.holds_of_wide 3 Try.f3 rfl rfl rfl rfl rfl rfl rfl ⟨rfl, rfl, rfl, rfl, rfl⟩ rfl rfl rfl rfl rfl (by kernel_rfl) Try.func3 (by kernel_rfl)
    (of_decide_eq_true (by kernel_rfl)) (by unfold Func.isWrapper; first | (rw [if_pos (by decide +kernel)]; kernel_rfl) | (rw [if_neg (by decide +kernel)]; exact ⟨rfl, rfl⟩))
    (fun os started H enc _ => lifted os started H enc)

theorem proved : Rows.ChangeRightSaid := over
end Go.Proofs.Ytcnlllamldlnmaa.changeRight
