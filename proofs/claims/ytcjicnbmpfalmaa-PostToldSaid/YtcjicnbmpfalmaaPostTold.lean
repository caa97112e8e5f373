/-
  The statement PostTold holds: for every input the call returns true, and each argument reads afterwards as it read before. Conditions: none beside those that the row itself bears.
-/
import Derived.Test.YtcjicnbmpfalmaaGiven
namespace Go.Proofs.Ytcjicnbmpfalmaa.postTold
open Go.ChangeShapes Go.WideShapes Go.ChangeAt Go.RowKit Bk Pst
set_option linter.unusedVariables false


set_option maxRecDepth 100000 in
set_option maxHeartbeats 4000000 in
theorem walk (A : Option Addr) (n c : Nat) (es : List En) {w : World} (G : GivenL w A n c es) (z : Pr) (s : Pr) :
    Calls Try.prog 4 #[bg A n c, .agg #[.int .i64 z.1, .int .i64 z.2], Spn.ag s] w (Yes w true) := by
  obtain ⟨z0, z1⟩ := z
  obtain ⟨s0, s1⟩ := s
  have HG := Lib.hid G
  have hlen := G.len
  unfold maxLen at hlen
  clear G
  obtain ⟨W, hW⟩ : ∃ W, ((w.alloc (.cells #[.slice A n c] 29)).alloc (.cells #[.int .i64 z0, .int .i64 z1] 30)).alloc (.cells #[.int .i64 s0, .int .i64 s1] 32) = W := ⟨_, rfl⟩
  have HX := Lib.hid (show Bx W w.heap.size 29 #[.slice A n c] by rw [← hW]; exact ((Bx.new _ _ _).alloc _).alloc _)
  have HY := Lib.hid (show Bx W (w.heap.size + 1) 30 #[.int .i64 z0, .int .i64 z1] by
    rw [← hW]
    have := (Bx.new (w.alloc (.cells #[.slice A n c] 29)) 30 #[.int .i64 z0, .int .i64 z1]).alloc (.cells #[.int .i64 s0, .int .i64 s1] 32)
    rw [World.size_alloc] at this
    exact this)
  have HZ := Lib.hid (show Bx W (w.heap.size + 1 + 1) 32 #[.int .i64 s0, .int .i64 s1] by
    rw [← hW]
    have := Bx.new ((w.alloc (.cells #[.slice A n c] 29)).alloc (.cells #[.int .i64 z0, .int .i64 z1] 30)) 32 #[.int .i64 s0, .int .i64 s1]
    rw [World.size_alloc, World.size_alloc] at this
    exact this)
  have HB := Lib.hid (show Below w.heap.size w W by rw [← hW]; exact ((alloc_ _ _).alloc (by simp) _).alloc (by simp; omega) _)
  have HW := Lib.hid hW
  have CF := Lib.hid (few_ A n c es W (HG.out.e.below HB.out) HG.out.len)
  clear hW
  cases hf : fewB es
  · rw [hf] at CF
    clear hf
    go_enter Try.func4, Try.ntmps4
    go_wp2_with fail
    rw [HW.out]
    refine CF.out.mono ?_
    rintro e w1 ⟨rfl, hb1⟩
    have HB1 := Lib.hid (HB.out.trans (hb1.mono HB.out.size))
    clear hb1 CF
    go_wp2_with fail
    refine (alive_ _).mono ?_
    rintro e w2 ⟨rfl, hb2⟩
    have HB2 := Lib.hid (HB1.out.trans (hb2.mono HB1.out.size))
    clear hb2
    go_wp2
    go_ret
    exact ⟨rfl, HB2.out⟩
  · rw [hf] at CF
    have hn : n ≤ 1000000 := by have := fewB_yes hf; have e := HG.out.e.len; omega
    clear hf
    go_enter Try.func4, Try.ntmps4
    go_wp2_with fail
    rw [HW.out]
    refine CF.out.mono ?_
    rintro e w1 ⟨rfl, hb1⟩
    have HB1 := Lib.hid (HB.out.trans (hb1.mono HB.out.size))
    have HX1 := Lib.hid (HX.out.keep hb1)
    have HY1 := Lib.hid (HY.out.keep hb1)
    have HZ1 := Lib.hid (HZ.out.keep hb1)
    have C0 := fun (p : Ext w1) => Lib.hid (alive_ p.W)
    have C1 := fun (p : Ext w1) => Lib.hid (balance A n c es z0 z1 p.W (HG.out.e.below (HB1.out.trans (p.b.mono HB1.out.size))) hn HG.out.few)
    have C2 := fun (p : Ext w1) => Lib.hid (rbalance A n c es z0 z1 p.W (HG.out.e.below (HB1.out.trans (p.b.mono HB1.out.size))) hn HG.out.few)
    have C3 := fun (p : Ext w1) => Lib.hid (turn A n c es z0 (s0, s1) p.W (HG.out.e.below (HB1.out.trans (p.b.mono HB1.out.size))) hn HG.out.few)
    have C4 := fun (p : Ext w1) => Lib.hid (rturn A n c es z0 (s0, s1) p.W (HG.out.e.below (HB1.out.trans (p.b.mono HB1.out.size))) hn HG.out.few)
    have C5 := fun (p : Ext w1) => Lib.hid (show Calls Try.prog 18 #[bg A n c, .int .i64 z1] p.W fun e w' => e = .returned (.agg (ar (tri (upto z1) es))) ∧ Below p.W.heap.size p.W w' from trial A n c es z1 p.W (HG.out.e.below (HB1.out.trans (p.b.mono HB1.out.size))) hn HG.out.few)
    have C6 := fun (p : Ext w1) => Lib.hid (show Calls Try.prog 19 #[bg A n c, .int .i64 z1] p.W fun e w' => e = .returned (.agg (ar (tri (upto z1) es))) ∧ Below p.W.heap.size p.W w' from rtrial A n c es z1 p.W (HG.out.e.below (HB1.out.trans (p.b.mono HB1.out.size))) hn HG.out.few)
    generalize wrap64 (bal (upto z1) z0 es) = b1 at C1 C2
    generalize wrap64 (bal (Sp.inn (s0, s1)) z0 es) = b2 at C3 C4
    generalize tri (upto z1) es = g at C5 C6
    have X0 : ∀ p : Ext w1, p.W.cell? ⟨w.heap.size, 0, none⟩ = some (.slice A n c) := fun p => HX1.out.ext p 0
    have Y0 : ∀ p : Ext w1, p.W.cell? ⟨w.heap.size + 1, 0, none⟩ = some (.int .i64 z0) := fun p => HY1.out.ext p 0
    have Y1 : ∀ p : Ext w1, p.W.cell? ⟨w.heap.size + 1, 1, none⟩ = some (.int .i64 z1) := fun p => HY1.out.ext p 1
    have Z0 : ∀ p : Ext w1, p.W.cell? ⟨w.heap.size + 1 + 1, 0, none⟩ = some (.int .i64 s0) := fun p => HZ1.out.ext p 0
    have Z1 : ∀ p : Ext w1, p.W.cell? ⟨w.heap.size + 1 + 1, 1, none⟩ = some (.int .i64 s1) := fun p => HZ1.out.ext p 1
    have qe := ten_same
    clear hb1 CF
    go_wp2
    have ne : Nonempty (Ext w1) := ⟨⟨w1, Below.refl _ _⟩⟩
    refine quietE (by kernel_rfl) (by kernel_rfl) ?_
    repeat (quiet_step (first
      | (go_at_call 10; exact ext_of (C0 _).out)
      | (go_at_call 14; exact ext_of (C1 _).out)
      | (go_at_call 15; exact ext_of (C2 _).out)
      | (go_at_call 16; exact ext_of (C3 _).out)
      | (go_at_call 17; exact ext_of (C4 _).out)
      | (go_at_call 18; exact ext_of (C5 _).out)
      | (go_at_call 19; exact ext_of (C6 _).out)))
    refine wpQuiet_nil ?_
    rintro _ ⟨p, rfl⟩
    go_wp2
    go_ret
    exact ⟨rfl, HB1.out.trans (p.b.mono HB1.out.size)⟩

set_option maxRecDepth 100000 in
theorem lifted (os : Os) (started : os.Started) (H : Type) (enc : TypeId × Value → H) :
    ReturnsInHanded {} Try.checked os 4 .any (Rows.postToldSpec.pre6 enc Try.prog Try.f4 Rows.postToldRow.domain false) (Rows.postToldSpec.post enc Try.prog Try.f4 false true false false) := by
  refine returnsInHanded_of_change (C := Try.checked) Pst.own started (by kernel_rfl) Try.func4
    (ChangeSpec.witness6 (enc := enc) (C := Try.checked) false ⟨#[], #[.agg #[.slice none 0 0], .agg #[.int .i64 0, .int .i64 0], .agg #[.int .i64 0, .int .i64 0]], []⟩ 8 (by kernel_rfl) (by kernel_rfl) (by kernel_rfl) (by kernel_rfl)) ?_
  intro W base args ds gs before hval0 hW hcnd _
  have hval : ∀ (j : Nat) t v, Try.f4.params[j]? = some t → args[j]? = some v → Value.okWide Try.prog W .any base t v := hval0
  have hW' := hW
  obtain ⟨p, q, hA0, hV, rfl, hfz, hnd⟩ := hW
  have hA : DataW.TrodAll enc Try.prog W 0 (fun _ => true) true Try.f4.params.toList args.toList ds p := hA0
  rw [Try.params4] at hA hval
  obtain ⟨v0, vs0, d0, ds0, p0, q0, hargs, rfl, rfl, h0, r0⟩ := trodAll_cons hA
  obtain ⟨v1, vs1, d1, ds1, p1, q1, rfl, rfl, rfl, h1, r1⟩ := trodAll_cons r0
  obtain ⟨v2, vs2, d2, ds2, p2, q2, rfl, rfl, rfl, h2, r2⟩ := trodAll_cons r1
  obtain ⟨rfl, rfl, rfl⟩ := trodAll_nil r2
  obtain rfl : args = #[v0, v1, v2] := by cases args; simp_all
  obtain ⟨rfl, rfl⟩ := trodVars_none hV
  have k0 := h0
  have lt0 : ∀ x ∈ p0, x.block < W.heap.size := by obtain ⟨m, hm⟩ := k0; exact DataW.trod_lt m _ _ _ hm
  obtain ⟨A0, n0, c0, xs0, rfl, g0⟩ := Pst.open_book (hval 0 29 v0 rfl rfl) h0
  have k1 := h1
  have lt1 : ∀ x ∈ p1, x.block < W.heap.size := by obtain ⟨m, hm⟩ := k1; exact DataW.trod_lt m _ _ _ hm
  obtain ⟨x1, rfl⟩ := Pst.open_two (hval 1 30 v1 rfl rfl) h1
  have k2 := h2
  have lt2 : ∀ x ∈ p2, x.block < W.heap.size := by obtain ⟨m, hm⟩ := k2; exact DataW.trod_lt m _ _ _ hm
  obtain ⟨x2, rfl⟩ := Pst.open_span (hval 2 32 v2 rfl rfl) h2
  clear hA0 hval0
  refine (walk A0 n0 c0 xs0 g0 x1 x2).mono fun e W' ⟨he, bel⟩ => ?_
  subst he
  exact ⟨_, rfl, _, _, _, [], _, [], hW', trodAll_mk1 (shut_bool Try.underlying4 _), (trodAll_cons_mk (Below.trod Pst.laidOut (by kernel_rfl) (of_decide_eq_true (by kernel_rfl)) k0 bel lt0) (trodAll_cons_mk (Below.trod Pst.laidOut (by kernel_rfl) (of_decide_eq_true (by kernel_rfl)) k1 bel lt1) (trodAll_cons_mk (Below.trod Pst.laidOut (by kernel_rfl) (of_decide_eq_true (by kernel_rfl)) k2 bel lt2) trodAll_mk0))), rfl, bel.frame _, fun h => by cases h⟩

theorem over : Rows.postToldRow.holds Try.pinned (OpenSpec.ofChange Rows.postToldSpec) :=
  OpenClaim.holds_of_wide 4 Try.f4 rfl rfl rfl rfl rfl rfl rfl ⟨rfl, rfl, rfl, rfl, rfl⟩ rfl rfl rfl rfl rfl (by kernel_rfl) Try.func4 (by kernel_rfl)
    (of_decide_eq_true (by kernel_rfl)) (by unfold Func.isWrapper; first | (rw [if_pos (by decide +kernel)]; kernel_rfl) | (rw [if_neg (by decide +kernel)]; exact ⟨rfl, rfl⟩))
    (fun os started H enc _ => lifted os started H enc)

theorem proved : Rows.PostToldSaid := over
end Go.Proofs.Ytcjicnbmpfalmaa.postTold
