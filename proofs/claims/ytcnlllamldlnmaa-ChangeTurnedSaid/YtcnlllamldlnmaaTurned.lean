/-
  ChangeTurned: the ways on which nothing is turned. Conditions: those of each theorem.
-/
import Derived.Test.YtcnlllamldlnmaaTurn
import Derived.Test.YtcnlllamldlnmaaFewV
import Derived.Test.YtcnlllamldlnmaaROrder
namespace Go.Proofs.Ytcnlllamldlnmaa
open Go.RowKit Ba Cv Sp Te Ag
namespace Tm
set_option linter.unusedVariables false

set_option maxRecDepth 100000 in
set_option maxHeartbeats 4000000 in
theorem way_few (w : World) (h : Hr) (g : GivenH w h) (at' : Int) (hf : fwv h = false) : Calls Try.prog 8 #[hg h, .int .i64 at'] w (Yes w true) := by
  obtain ⟨W, hW⟩ : ∃ W, w.alloc (.cells (hc h) 33) = W := ⟨_, rfl⟩
  have H0 := Lib.hid (show HX w W h by rw [← hW]; exact HX.start w h)
  have HW := Lib.hid hW
  clear hW
  have CF := fun p : Ext W => Lib.hid (fewv h p.W ((g.below H0.out.b).below p.b))
  rw [hf] at CF
  clear hf g
  have x0 : ∀ p : Ext W, p.W.cell? ⟨w.heap.size, 0, none⟩ = some (.int .i64 h.id) := fun p => H0.out.x.ext p 0
  have x1 : ∀ p : Ext W, p.W.cell? ⟨w.heap.size, 1, none⟩ = some (.int .i64 h.bk) := fun p => H0.out.x.ext p 1
  have x2 : ∀ p : Ext W, p.W.cell? ⟨w.heap.size, 2, none⟩ = some (.int .i64 h.s.1) := fun p => H0.out.x.ext p 2
  have x3 : ∀ p : Ext W, p.W.cell? ⟨w.heap.size, 3, none⟩ = some (.int .i64 h.s.2) := fun p => H0.out.x.ext p 3
  have x4 : ∀ p : Ext W, p.W.cell? ⟨w.heap.size, 4, none⟩ = some (.int .i64 h.r.k) := fun p => H0.out.x.ext p 4
  have x5 : ∀ p : Ext W, p.W.cell? ⟨w.heap.size, 5, none⟩ = some (.int .i64 h.r.v) := fun p => H0.out.x.ext p 5
  have x6 : ∀ p : Ext W, p.W.cell? ⟨w.heap.size, 6, none⟩ = some (.int .i64 h.r.a) := fun p => H0.out.x.ext p 6
  have x7 : ∀ p : Ext W, p.W.cell? ⟨w.heap.size, 7, none⟩ = some (.int .i64 h.r.z) := fun p => H0.out.x.ext p 7
  have x8 : ∀ p : Ext W, p.W.cell? ⟨w.heap.size, 8, none⟩ = some (.slice h.A h.n h.c) := fun p => H0.out.x.ext p 8
  have x9 : ∀ p : Ext W, p.W.cell? ⟨w.heap.size, 9, none⟩ = some (.slice h.B h.m h.d) := fun p => H0.out.x.ext p 9
  go_enter Try.func8, Try.ntmps8
  go_wp2_with fail
  rw [HW.out]
  clear HW
  have ne : Nonempty (Ext W) := ⟨⟨W, Below.refl _ _⟩⟩
  refine quietE (by kernel_rfl) (by kernel_rfl) ?_
  repeat (first | go_big_quiet_skip | quiet_step (first
    | (go_at_call 10; with_reducible exact ext_of (CF _).out)
    | fail))
  refine wpQuiet_nil ?_
  rintro _ ⟨p, rfl⟩
  have H1 := Lib.hid (H0.out.next p.b)
  generalize p.W = w1 at H1 ⊢
  clear CF ne x0 x1 x2 x3 x4 x5 x6 x7 x8 x9
  go_wp2_with fail
  refine (alive11 _).mono ?_
  rintro e w2 ⟨rfl, hb2⟩
  have H2 := Lib.hid (H1.out.next hb2)
  clear hb2
  go_wp2
  go_ret
  exact ⟨rfl, H2.out.b⟩

set_option maxRecDepth 100000 in
set_option maxHeartbeats 4000000 in
theorem way_low (w : World) (h : Hr) (g : GivenH w h) (at' : Int) (hf : fwv h = true) (h1 : at' < 0) : Calls Try.prog 8 #[hg h, .int .i64 at'] w (Yes w true) := by
  obtain ⟨W, hW⟩ : ∃ W, w.alloc (.cells (hc h) 33) = W := ⟨_, rfl⟩
  have H0 := Lib.hid (show HX w W h by rw [← hW]; exact HX.start w h)
  have HW := Lib.hid hW
  clear hW
  have CF := fun p : Ext W => Lib.hid (fewv h p.W ((g.below H0.out.b).below p.b))
  rw [hf] at CF
  have t1 : decide (at' < 0) = true := decide_eq_true h1
  clear hf g h1
  have x0 : ∀ p : Ext W, p.W.cell? ⟨w.heap.size, 0, none⟩ = some (.int .i64 h.id) := fun p => H0.out.x.ext p 0
  have x1 : ∀ p : Ext W, p.W.cell? ⟨w.heap.size, 1, none⟩ = some (.int .i64 h.bk) := fun p => H0.out.x.ext p 1
  have x2 : ∀ p : Ext W, p.W.cell? ⟨w.heap.size, 2, none⟩ = some (.int .i64 h.s.1) := fun p => H0.out.x.ext p 2
  have x3 : ∀ p : Ext W, p.W.cell? ⟨w.heap.size, 3, none⟩ = some (.int .i64 h.s.2) := fun p => H0.out.x.ext p 3
  have x4 : ∀ p : Ext W, p.W.cell? ⟨w.heap.size, 4, none⟩ = some (.int .i64 h.r.k) := fun p => H0.out.x.ext p 4
  have x5 : ∀ p : Ext W, p.W.cell? ⟨w.heap.size, 5, none⟩ = some (.int .i64 h.r.v) := fun p => H0.out.x.ext p 5
  have x6 : ∀ p : Ext W, p.W.cell? ⟨w.heap.size, 6, none⟩ = some (.int .i64 h.r.a) := fun p => H0.out.x.ext p 6
  have x7 : ∀ p : Ext W, p.W.cell? ⟨w.heap.size, 7, none⟩ = some (.int .i64 h.r.z) := fun p => H0.out.x.ext p 7
  have x8 : ∀ p : Ext W, p.W.cell? ⟨w.heap.size, 8, none⟩ = some (.slice h.A h.n h.c) := fun p => H0.out.x.ext p 8
  have x9 : ∀ p : Ext W, p.W.cell? ⟨w.heap.size, 9, none⟩ = some (.slice h.B h.m h.d) := fun p => H0.out.x.ext p 9
  go_enter Try.func8, Try.ntmps8
  go_wp2_with fail
  rw [HW.out]
  clear HW
  have ne : Nonempty (Ext W) := ⟨⟨W, Below.refl _ _⟩⟩
  refine quietE (by kernel_rfl) (by kernel_rfl) ?_
  repeat (first | go_big_quiet_skip | quiet_step (first
    | (go_at_call 10; with_reducible exact ext_of (CF _).out)
    | fail))
  refine wpQuiet_nil ?_
  rintro _ ⟨p, rfl⟩
  have H1 := Lib.hid (H0.out.next p.b)
  generalize p.W = w1 at H1 ⊢
  clear CF ne x0 x1 x2 x3 x4 x5 x6 x7 x8 x9
  go_wp2_with fail
  refine (alive11 _).mono ?_
  rintro e w2 ⟨rfl, hb2⟩
  have H2 := Lib.hid (H1.out.next hb2)
  clear hb2
  go_wp2
  go_ret
  exact ⟨rfl, H2.out.b⟩

set_option maxRecDepth 100000 in
set_option maxHeartbeats 4000000 in
theorem way_high (w : World) (h : Hr) (g : GivenH w h) (at' : Int) (hf : fwv h = true) (h1 : ¬ at' < 0) (h2 : (h.m : Int) - 1 ≤ at') : Calls Try.prog 8 #[hg h, .int .i64 at'] w (Yes w true) := by
  obtain ⟨W, hW⟩ : ∃ W, w.alloc (.cells (hc h) 33) = W := ⟨_, rfl⟩
  have H0 := Lib.hid (show HX w W h by rw [← hW]; exact HX.start w h)
  have HW := Lib.hid hW
  clear hW
  have CF := fun p : Ext W => Lib.hid (fewv h p.W ((g.below H0.out.b).below p.b))
  rw [hf] at CF
  have hm := (fwv_yes hf).1
  obtain ⟨l, hl⟩ : ∃ l, (h.m : Int) - 1 = l := ⟨_, rfl⟩
  have l3 : IntKind.i64.wrap l = l := (IntWalk.i64_left _).trans (IntWalk.wrap64_in _ ⟨by omega, by omega⟩)
  have t1 : decide (at' < 0) = false := decide_eq_false h1
  have t2 : decide (l ≤ at') = true := decide_eq_true (by omega)
  clear hf g h1 h2
  have x0 : ∀ p : Ext W, p.W.cell? ⟨w.heap.size, 0, none⟩ = some (.int .i64 h.id) := fun p => H0.out.x.ext p 0
  have x1 : ∀ p : Ext W, p.W.cell? ⟨w.heap.size, 1, none⟩ = some (.int .i64 h.bk) := fun p => H0.out.x.ext p 1
  have x2 : ∀ p : Ext W, p.W.cell? ⟨w.heap.size, 2, none⟩ = some (.int .i64 h.s.1) := fun p => H0.out.x.ext p 2
  have x3 : ∀ p : Ext W, p.W.cell? ⟨w.heap.size, 3, none⟩ = some (.int .i64 h.s.2) := fun p => H0.out.x.ext p 3
  have x4 : ∀ p : Ext W, p.W.cell? ⟨w.heap.size, 4, none⟩ = some (.int .i64 h.r.k) := fun p => H0.out.x.ext p 4
  have x5 : ∀ p : Ext W, p.W.cell? ⟨w.heap.size, 5, none⟩ = some (.int .i64 h.r.v) := fun p => H0.out.x.ext p 5
  have x6 : ∀ p : Ext W, p.W.cell? ⟨w.heap.size, 6, none⟩ = some (.int .i64 h.r.a) := fun p => H0.out.x.ext p 6
  have x7 : ∀ p : Ext W, p.W.cell? ⟨w.heap.size, 7, none⟩ = some (.int .i64 h.r.z) := fun p => H0.out.x.ext p 7
  have x8 : ∀ p : Ext W, p.W.cell? ⟨w.heap.size, 8, none⟩ = some (.slice h.A h.n h.c) := fun p => H0.out.x.ext p 8
  have x9 : ∀ p : Ext W, p.W.cell? ⟨w.heap.size, 9, none⟩ = some (.slice h.B h.m h.d) := fun p => H0.out.x.ext p 9
  go_enter Try.func8, Try.ntmps8
  go_wp2_with fail
  rw [HW.out]
  clear HW
  have ne : Nonempty (Ext W) := ⟨⟨W, Below.refl _ _⟩⟩
  refine quietE (by kernel_rfl) (by kernel_rfl) ?_
  repeat (first | go_big_quiet_skip | quiet_step (first
    | (go_at_call 10; with_reducible exact ext_of (CF _).out)
    | fail))
  refine wpQuiet_nil ?_
  rintro _ ⟨p, rfl⟩
  have H1 := Lib.hid (H0.out.next p.b)
  generalize p.W = w1 at H1 ⊢
  clear CF ne x0 x1 x2 x3 x4 x5 x6 x7 x8 x9
  go_wp2_with fail
  refine (alive11 _).mono ?_
  rintro e w2 ⟨rfl, hb2⟩
  have H2 := Lib.hid (H1.out.next hb2)
  clear hb2
  go_wp2
  go_ret
  exact ⟨rfl, H2.out.b⟩

set_option maxRecDepth 100000 in
set_option maxHeartbeats 4000000 in
theorem way_same (w : World) (h : Hr) (g : GivenH w h) (k : Nat) (hf : fwv h = true) (h1 : k + 1 < h.m) {a b : Ch} (ha : h.v.hs[k]? = some a) (hb' : h.v.hs[k + 1]? = some b) (hd : a.dy = b.dy) : Calls Try.prog 8 #[hg h, .int .i64 (k : Int)] w (Yes w true) := by
  obtain ⟨W, hW⟩ : ∃ W, w.alloc (.cells (hc h) 33) = W := ⟨_, rfl⟩
  have H0 := Lib.hid (show HX w W h by rw [← hW]; exact HX.start w h)
  have HW := Lib.hid hW
  clear hW
  have CF := fun p : Ext W => Lib.hid (fewv h p.W ((g.below H0.out.b).below p.b))
  rw [hf] at CF
  have hm := (fwv_yes hf).1
  obtain ⟨l, hl⟩ : ∃ l : Nat, l + 1 = h.m := ⟨h.m - 1, by omega⟩
  obtain ⟨k1, hk1⟩ : ∃ k1, k + 1 = k1 := ⟨_, rfl⟩
  have e1 : (h.m : Int) - 1 = (l : Int) := by omega
  have e2 : (k : Int) + 1 = (k1 : Int) := by omega
  have l3 : IntKind.i64.wrap (l : Int) = (l : Int) := (IntWalk.i64_left _).trans (IntWalk.wrap64_in _ ⟨by omega, by omega⟩)
  have k3 : IntKind.i64.wrap (k : Int) = (k : Int) := (IntWalk.i64_left _).trans (IntWalk.wrap64_in _ ⟨by omega, by omega⟩)
  have k4 : IntKind.i64.wrap (k1 : Int) = (k1 : Int) := (IntWalk.i64_left _).trans (IntWalk.wrap64_in _ ⟨by omega, by omega⟩)
  have t1 : decide ((k : Int) < 0) = false := decide_eq_false (by omega)
  have t2 : decide ((l : Int) ≤ (k : Int)) = false := decide_eq_false (by omega)
  have t2' : decide (l ≤ k) = false := decide_eq_false (by omega)
  have b1 : k < h.m := by omega
  have b2 : k1 < h.m := by omega
  have b3 : (k : Int) < (h.m : Int) := by omega
  have b4 : (k1 : Int) < (h.m : Int) := by omega
  obtain ⟨ad, r1, hB, hb, q1, m1, _, v1⟩ := (g.M.below H0.out.b).get b1
  obtain ⟨ad', r2, hB', _, q2, m2, _, v2⟩ := (g.M.below H0.out.b).get b2
  rw [hB] at hB'
  injection hB' with hB'
  subst hB'
  have eH : hg h = .agg #[.int .i64 h.id, .int .i64 h.bk, .int .i64 h.s.1, .int .i64 h.s.2, .int .i64 h.r.k, .int .i64 h.r.v, .int .i64 h.r.a, .int .i64 h.r.z, .slice h.A h.n h.c, .slice (some ad) h.m h.d] := by
    show Value.agg #[.int .i64 h.id, .int .i64 h.bk, .int .i64 h.s.1, .int .i64 h.s.2, .int .i64 h.r.k, .int .i64 h.r.v, .int .i64 h.r.a, .int .i64 h.r.z, .slice h.A h.n h.c, .slice h.B h.m h.d] = _
    rw [hB]
  have CF : ∀ p : Ext W, Hid (Calls Try.prog 10 #[.agg #[.int .i64 h.id, .int .i64 h.bk, .int .i64 h.s.1, .int .i64 h.s.2, .int .i64 h.r.k, .int .i64 h.r.v, .int .i64 h.r.a, .int .i64 h.r.z, .slice h.A h.n h.c, .slice (some ad) h.m h.d]] p.W (Yes p.W true)) := fun p => Lib.hid (by rw [← eH]; exact (CF p).out)
  clear eH
  have d1 : ∀ p : Ext W, p.W.cell? ⟨(ad.add (k * 9)).block, (ad.add (k * 9)).off + 1, none⟩ = some (.int .i64 r1.v.dy) := fun p => (m1.keep fun a ha => p.b.cell (by rw [ha, add_block]; exact hb)).c1
  have d2 : ∀ p : Ext W, p.W.cell? ⟨(ad.add (k1 * 9)).block, (ad.add (k1 * 9)).off + 1, none⟩ = some (.int .i64 r2.v.dy) := fun p => (m2.keep fun a ha => p.b.cell (by rw [ha, add_block]; exact hb)).c1
  have e3 : r2.v.dy = r1.v.dy := by
    rw [v1] at ha
    rw [hk1, v2] at hb'
    injection ha with ha
    injection hb' with hb'
    rw [ha, hb', hd]
  rw [e3] at d2
  have x0 : ∀ p : Ext W, p.W.cell? ⟨w.heap.size, 0, none⟩ = some (.int .i64 h.id) := fun p => H0.out.x.ext p 0
  have x1 : ∀ p : Ext W, p.W.cell? ⟨w.heap.size, 1, none⟩ = some (.int .i64 h.bk) := fun p => H0.out.x.ext p 1
  have x2 : ∀ p : Ext W, p.W.cell? ⟨w.heap.size, 2, none⟩ = some (.int .i64 h.s.1) := fun p => H0.out.x.ext p 2
  have x3 : ∀ p : Ext W, p.W.cell? ⟨w.heap.size, 3, none⟩ = some (.int .i64 h.s.2) := fun p => H0.out.x.ext p 3
  have x4 : ∀ p : Ext W, p.W.cell? ⟨w.heap.size, 4, none⟩ = some (.int .i64 h.r.k) := fun p => H0.out.x.ext p 4
  have x5 : ∀ p : Ext W, p.W.cell? ⟨w.heap.size, 5, none⟩ = some (.int .i64 h.r.v) := fun p => H0.out.x.ext p 5
  have x6 : ∀ p : Ext W, p.W.cell? ⟨w.heap.size, 6, none⟩ = some (.int .i64 h.r.a) := fun p => H0.out.x.ext p 6
  have x7 : ∀ p : Ext W, p.W.cell? ⟨w.heap.size, 7, none⟩ = some (.int .i64 h.r.z) := fun p => H0.out.x.ext p 7
  have x8 : ∀ p : Ext W, p.W.cell? ⟨w.heap.size, 8, none⟩ = some (.slice h.A h.n h.c) := fun p => H0.out.x.ext p 8
  have x9 : ∀ p : Ext W, p.W.cell? ⟨w.heap.size, 9, none⟩ = some (.slice (some ad) h.m h.d) := fun p => by have := H0.out.x.ext p 9; rw [this]; simp [hB]
  clear hf g m1 m2 hB hb q1 q2 v1 v2 ha hb' hd e3 h1 hk1 hl
  go_enter Try.func8, Try.ntmps8
  go_wp2_with fail
  rw [HW.out]
  clear HW
  have ne : Nonempty (Ext W) := ⟨⟨W, Below.refl _ _⟩⟩
  refine quietE (by kernel_rfl) (by kernel_rfl) ?_
  repeat (first | go_big_quiet_skip | quiet_step (first
    | (go_at_call 10; with_reducible exact ext_of (CF _).out)
    | fail))
  refine wpQuiet_nil ?_
  rintro _ ⟨p, rfl⟩
  have H1 := Lib.hid (H0.out.next p.b)
  generalize p.W = w1 at H1 ⊢
  clear CF ne x0 x1 x2 x3 x4 x5 x6 x7 x8 x9 d1 d2
  go_wp2_with fail
  refine (alive11 _).mono ?_
  rintro e w2 ⟨rfl, hb2⟩
  have H2 := Lib.hid (H1.out.next hb2)
  clear hb2
  go_wp2
  go_ret
  exact ⟨rfl, H2.out.b⟩


end Tm
end Go.Proofs.Ytcnlllamldlnmaa
