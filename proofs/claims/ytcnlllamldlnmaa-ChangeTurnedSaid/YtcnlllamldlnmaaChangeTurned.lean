/-
  The statement ChangeTurned holds: for every input the call returns true, and each argument reads afterwards as it read before. Conditions: none beside those that the row itself bears.
-/
import Derived.Test.YtcnlllamldlnmaaTurned
import Derived.Test.YtcnlllamldlnmaaSwap
import Derived.Test.YtcnlllamldlnmaaInv
namespace Go.Proofs.Ytcnlllamldlnmaa.changeTurned
open Go.ChangeShapes Go.WideShapes Go.ChangeAt Go.RowKit Ba Cv Sp Te St Ag Tm
set_option linter.unusedVariables false

theorem turned_box {W w4 : World} {p : Nat} {h : Hr} (H : Bx W p 33 (hc h)) (hg : (W.alloc (.cells #[] 26)).grownBy w4 (some W.heap.size)) : Bx w4 p 33 (hc h) :=
  (hg.block p (by have := H.lt; simp; omega) (fun e => by injection e with e; have := H.lt; omega)).trans (H.alloc _)
/-- The two boxes, and the row that is turned. -/
structure TB (w W : World) (h : Hr) (p B : Nat) (A : Option Addr) (c : Nat) : Prop where
  x : HX w W h
  y : Bx W p 33 (hc (h.withB A c h.rs))
  o : Own W B A h.m c h.rs
  lo : w.heap.size < p
  hi : p < B
theorem TB.start {w W2 w4 : World} {h : Hr} {p c : Nat} {A : Option Addr} (H : HX w W2 h) (HQ : Bx W2 p 33 (hc h)) (hp : w.heap.size < p) (hO : Own w4 W2.heap.size A h.m c h.rs) (hg : (W2.alloc (.cells #[] 26)).grownBy w4 (some W2.heap.size)) : TB w (w4.setCell ⟨p, 9, none⟩ (.slice A h.m c)) h p W2.heap.size A c := by
  have ha := H.next (alloc_ W2 (.cells #[] 26))
  have hb4 : Below w.heap.size w w4 := ha.b.grown hg ha.b.size (fun j hj => by injection hj with hj; have := H.b.size; omega)
  have hlt := HQ.lt
  have hx4 : Bx w4 w.heap.size 33 (hc h) := turned_box H.x hg
  refine ⟨⟨hb4.setCell (p := ⟨p, 9, none⟩) (by show w.heap.size ≤ p; omega) _, hx4.far (a := ⟨p, 9, none⟩) (by show w.heap.size ≠ p; omega) _⟩, ?_, hO.far (a := ⟨p, 9, none⟩) hlt _, hp, hlt⟩
  exact (turned_box HQ hg).set 9 (.slice A h.m c)
theorem hx_sets {w W : World} {h : Hr} {p : Nat} (H : HX w W h) (hp : w.heap.size < p) (o : Nat) (l : List Value) : HX w (sets p o l W) h := ⟨sets_below l (by omega) o W H.b, H.x.sets_far (by omega) l o⟩
/-- Behind the swap. -/
structure TD (w W : World) (h : Hr) (p : Nat) (h2 : Hr) : Prop where
  x : HX w W h
  y : Bx W p 33 (hc h2)
  m : HM W (· < W.heap.size) h2
theorem TD.next {w W W' : World} {h h2 : Hr} {p : Nat} (H : TD w W h p h2) (hb : Below W.heap.size W W') : TD w W' h p h2 := ⟨H.x.next hb, H.y.keep hb, H.m.below hb⟩
theorem TD.start {w W6 W : World} {h : Hr} {p B g c k k1 : Nat} {r1 r2 : Rw} (T : TB w W6 h p B (some ⟨g, 0, none⟩) c) (G : GivenH w h) (hg : B ≤ g) (hk : k + 1 = k1) (h1 : k1 < h.m) (q1 : h.rs[k]? = some r1) (q2 : h.rs[k1]? = some r2)
    (hw : W = sets g (k1 * 9) (cl r1) (sets g (k * 9) (cl r2) W6)) : TD w W h p (h.withB (some ⟨g, 0, none⟩) c (sw h.rs k r1 r2)) := by
  have h0 := T.lo
  have h2 := T.hi
  have hx : HX w W h := by rw [hw]; exact hx_sets (hx_sets T.x (by omega) _ _) (by omega) _ _
  have hs : W.heap.size = W6.heap.size := by rw [hw, sets_size, sets_size]
  refine ⟨hx, ?_, G.M.t.below hx.b, ?_, fun r hr => ?_⟩
  · rw [hw]; exact (T.y.sets_far (by omega) _ _).sets_far (by omega) _ _
  · have := swap_raws (T.o.raws) hk h1 (r1 := r1) (r2 := r2)
    rw [← hw] at this
    exact this.keep (fun _ _ => rfl) fun b hb => by rw [hs]; exact hb.2
  · have hr' : r ∈ h.rs := by
      rcases List.mem_or_eq_of_mem_set hr with hr | rfl
      · rcases List.mem_or_eq_of_mem_set hr with hr | rfl
        · exact hr
        · exact List.mem_of_getElem? q2
      · exact List.mem_of_getElem? q1
    exact (G.M.k r hr').below hx.b
structure RQ (W : World) (h h2 : Hr) (L : Nat → Bool) (w' : World) (v67 v68 v69 v70 v6 v7 : Value) : Prop where
  b : Below W.heap.size W w'
  f0 : L 0 = true → v67 = hg h
  f1 : L 1 = true → OrdR (key h.v.hs) (plc h.v.hs.length) h.m w' v68
  f2 : L 2 = true → v69 = hg h2
  f3 : L 3 = true → OrdR (key h2.v.hs) (plc h2.v.hs.length) h2.m w' v70
  f4 : L 4 = true → OrdR (key h.v.hs) (plc h.v.hs.length) h.m w' v6
  f5 : L 5 = true → OrdR (key h2.v.hs) (plc h2.v.hs.length) h2.m w' v7
theorem RQ.up {W : World} {h h2 : Hr} {L : Nat → Bool} {w' w2 : World} {v67 v68 v69 v70 v6 v7 : Value} (H : RQ W h h2 L w' v67 v68 v69 v70 v6 v7) (hb : Below w'.heap.size w' w2) : RQ W h h2 L w2 v67 v68 v69 v70 v6 v7 :=
  ⟨H.b.trans (hb.mono H.b.size), H.f0, fun l => (H.f1 l).below hb, H.f2, fun l => (H.f3 l).below hb, fun l => (H.f4 l).below hb, fun l => (H.f5 l).below hb⟩
theorem RQ.s0 {W : World} {h h2 : Hr} {L : Nat → Bool} {w' : World} {v67 v68 v69 v70 v6 v7 : Value} (H : RQ W h h2 L w' v67 v68 v69 v70 v6 v7) {z : Value} (k : z = hg h) : RQ W h h2 (fun j => j == 0 || L j) w' z v68 v69 v70 v6 v7 := ⟨H.b, fun _ => k, H.f1, H.f2, H.f3, H.f4, H.f5⟩
theorem RQ.s1 {W : World} {h h2 : Hr} {L : Nat → Bool} {w' : World} {v67 v68 v69 v70 v6 v7 : Value} (H : RQ W h h2 L w' v67 v68 v69 v70 v6 v7) {z : Value} (k : OrdR (key h.v.hs) (plc h.v.hs.length) h.m w' z) : RQ W h h2 (fun j => j == 1 || L j) w' v67 z v69 v70 v6 v7 := ⟨H.b, H.f0, fun _ => k, H.f2, H.f3, H.f4, H.f5⟩
theorem RQ.s2 {W : World} {h h2 : Hr} {L : Nat → Bool} {w' : World} {v67 v68 v69 v70 v6 v7 : Value} (H : RQ W h h2 L w' v67 v68 v69 v70 v6 v7) {z : Value} (k : z = hg h2) : RQ W h h2 (fun j => j == 2 || L j) w' v67 v68 z v70 v6 v7 := ⟨H.b, H.f0, H.f1, fun _ => k, H.f3, H.f4, H.f5⟩
theorem RQ.s3 {W : World} {h h2 : Hr} {L : Nat → Bool} {w' : World} {v67 v68 v69 v70 v6 v7 : Value} (H : RQ W h h2 L w' v67 v68 v69 v70 v6 v7) {z : Value} (k : OrdR (key h2.v.hs) (plc h2.v.hs.length) h2.m w' z) : RQ W h h2 (fun j => j == 3 || L j) w' v67 v68 v69 z v6 v7 := ⟨H.b, H.f0, H.f1, H.f2, fun _ => k, H.f4, H.f5⟩
theorem RQ.s4 {W : World} {h h2 : Hr} {L : Nat → Bool} {w' : World} {v67 v68 v69 v70 v6 v7 : Value} (H : RQ W h h2 L w' v67 v68 v69 v70 v6 v7) {z : Value} (k : OrdR (key h.v.hs) (plc h.v.hs.length) h.m w' z) : RQ W h h2 (fun j => j == 4 || L j) w' v67 v68 v69 v70 z v7 := ⟨H.b, H.f0, H.f1, H.f2, H.f3, fun _ => k, H.f5⟩
theorem RQ.s5 {W : World} {h h2 : Hr} {L : Nat → Bool} {w' : World} {v67 v68 v69 v70 v6 v7 : Value} (H : RQ W h h2 L w' v67 v68 v69 v70 v6 v7) {z : Value} (k : OrdR (key h2.v.hs) (plc h2.v.hs.length) h2.m w' z) : RQ W h h2 (fun j => j == 5 || L j) w' v67 v68 v69 v70 v6 z := ⟨H.b, H.f0, H.f1, H.f2, H.f3, H.f4, fun _ => k⟩
set_option maxRecDepth 100000 in
set_option maxHeartbeats 4000000 in
theorem way_turned (w : World) (h : Hr) (g : GivenH w h) (k : Nat) (hf : fwv h = true) (h1 : k + 1 < h.m) {a b : Ch} (ha : h.v.hs[k]? = some a) (hb' : h.v.hs[k + 1]? = some b) (hd : a.dy ≠ b.dy) : Calls Try.prog 8 #[hg h, .int .i64 (k : Int)] w (Yes w true) := by
  obtain ⟨W, hW⟩ : ∃ W, w.alloc (.cells (hc h) 33) = W := ⟨_, rfl⟩
  have H0 := Lib.hid (show HX w W h by rw [← hW]; exact HX.start w h)
  have HW := Lib.hid hW
  clear hW
  have CF := fun p : Ext W => Lib.hid (fewv h p.W ((g.below H0.out.b).below p.b))
  rw [hf] at CF
  have hm := (fwv_yes hf).1
  obtain ⟨l, hl⟩ : ∃ l : Nat, l + 1 = h.m := ⟨h.m - 1, by omega⟩
  obtain ⟨k1, hk1⟩ : ∃ k1, k + 1 = k1 := ⟨_, rfl⟩
  have e1 : (h.m : Int) - 1 = (l : Int) := by omega
  have e2 : (k : Int) + 1 = (k1 : Int) := by omega
  have l3 : IntKind.i64.wrap (l : Int) = (l : Int) := (IntWalk.i64_left _).trans (IntWalk.wrap64_in _ ⟨by omega, by omega⟩)
  have k3 : IntKind.i64.wrap (k : Int) = (k : Int) := (IntWalk.i64_left _).trans (IntWalk.wrap64_in _ ⟨by omega, by omega⟩)
  have k4 : IntKind.i64.wrap (k1 : Int) = (k1 : Int) := (IntWalk.i64_left _).trans (IntWalk.wrap64_in _ ⟨by omega, by omega⟩)
  have t1 : decide ((k : Int) < 0) = false := decide_eq_false (by omega)
  have t2 : decide ((l : Int) ≤ (k : Int)) = false := decide_eq_false (by omega)
  have t2' : decide (l ≤ k) = false := decide_eq_false (by omega)
  have b1 : k < h.m := by omega
  have b2 : k1 < h.m := by omega
  have b3 : (k : Int) < (h.m : Int) := by omega
  have b4 : (k1 : Int) < (h.m : Int) := by omega
  obtain ⟨ad, r1, hB, hb, q1, m1, _, v1⟩ := (g.M.below H0.out.b).get b1
  obtain ⟨ad', r2, hB', _, q2, m2, _, v2⟩ := (g.M.below H0.out.b).get b2
  rw [hB] at hB'
  injection hB' with hB'
  subst hB'
  have eH : hg h = .agg #[.int .i64 h.id, .int .i64 h.bk, .int .i64 h.s.1, .int .i64 h.s.2, .int .i64 h.r.k, .int .i64 h.r.v, .int .i64 h.r.a, .int .i64 h.r.z, .slice h.A h.n h.c, .slice (some ad) h.m h.d] := by
    show Value.agg #[.int .i64 h.id, .int .i64 h.bk, .int .i64 h.s.1, .int .i64 h.s.2, .int .i64 h.r.k, .int .i64 h.r.v, .int .i64 h.r.a, .int .i64 h.r.z, .slice h.A h.n h.c, .slice h.B h.m h.d] = _
    rw [hB]
  have CF : ∀ p : Ext W, Hid (Calls Try.prog 10 #[.agg #[.int .i64 h.id, .int .i64 h.bk, .int .i64 h.s.1, .int .i64 h.s.2, .int .i64 h.r.k, .int .i64 h.r.v, .int .i64 h.r.a, .int .i64 h.r.z, .slice h.A h.n h.c, .slice (some ad) h.m h.d]] p.W (Yes p.W true)) := fun p => Lib.hid (by rw [← eH]; exact (CF p).out)
  clear eH
  have d1 : ∀ p : Ext W, p.W.cell? ⟨(ad.add (k * 9)).block, (ad.add (k * 9)).off + 1, none⟩ = some (.int .i64 r1.v.dy) := fun p => (m1.keep fun a ha => p.b.cell (by rw [ha, add_block]; exact hb)).c1
  have d2 : ∀ p : Ext W, p.W.cell? ⟨(ad.add (k1 * 9)).block, (ad.add (k1 * 9)).off + 1, none⟩ = some (.int .i64 r2.v.dy) := fun p => (m2.keep fun a ha => p.b.cell (by rw [ha, add_block]; exact hb)).c1
  have e3 : r1.v.dy ≠ r2.v.dy := by
    rw [v1] at ha
    rw [hk1, v2] at hb'
    injection ha with ha
    injection hb' with hb'
    rw [ha, hb']; exact hd
  have t3 : decide (r1.v.dy = r2.v.dy) = false := decide_eq_false e3
  have t3' : (r1.v.dy == r2.v.dy) = false := by simpa using e3
  have HQ := Lib.hid (And.intro q1 q2)
  have HG := Lib.hid g
  have HSm := Lib.hid (g.small (by have := (fwv_yes hf).2.1; omega) (by omega) fun r hr => Nat.le_trans ((fwv_yes hf).2.2 r hr) (by omega))
  have HD := Lib.hid (And.intro e3 (And.intro v1 v2))
  have hBs := Lib.hid hB
  have x0 : ∀ p : Ext W, p.W.cell? ⟨w.heap.size, 0, none⟩ = some (.int .i64 h.id) := fun p => H0.out.x.ext p 0
  have x1 : ∀ p : Ext W, p.W.cell? ⟨w.heap.size, 1, none⟩ = some (.int .i64 h.bk) := fun p => H0.out.x.ext p 1
  have x2 : ∀ p : Ext W, p.W.cell? ⟨w.heap.size, 2, none⟩ = some (.int .i64 h.s.1) := fun p => H0.out.x.ext p 2
  have x3 : ∀ p : Ext W, p.W.cell? ⟨w.heap.size, 3, none⟩ = some (.int .i64 h.s.2) := fun p => H0.out.x.ext p 3
  have x4 : ∀ p : Ext W, p.W.cell? ⟨w.heap.size, 4, none⟩ = some (.int .i64 h.r.k) := fun p => H0.out.x.ext p 4
  have x5 : ∀ p : Ext W, p.W.cell? ⟨w.heap.size, 5, none⟩ = some (.int .i64 h.r.v) := fun p => H0.out.x.ext p 5
  have x6 : ∀ p : Ext W, p.W.cell? ⟨w.heap.size, 6, none⟩ = some (.int .i64 h.r.a) := fun p => H0.out.x.ext p 6
  have x7 : ∀ p : Ext W, p.W.cell? ⟨w.heap.size, 7, none⟩ = some (.int .i64 h.r.z) := fun p => H0.out.x.ext p 7
  have x8 : ∀ p : Ext W, p.W.cell? ⟨w.heap.size, 8, none⟩ = some (.slice h.A h.n h.c) := fun p => H0.out.x.ext p 8
  have x9 : ∀ p : Ext W, p.W.cell? ⟨w.heap.size, 9, none⟩ = some (.slice (some ad) h.m h.d) := fun p => by have := H0.out.x.ext p 9; rw [this]; simp [hB]
  clear hf g m1 m2 hB q1 q2 v1 v2 ha hb' hd e3 h1 hl
  go_enter Try.func8, Try.ntmps8
  go_wp2_with fail
  rw [HW.out]
  clear HW
  have ne : Nonempty (Ext W) := ⟨⟨W, Below.refl _ _⟩⟩
  refine quietE (by kernel_rfl) (by kernel_rfl) ?_
  repeat (first | go_big_quiet_skip | quiet_step (first
    | (go_at_call 10; with_reducible exact ext_of (CF _).out)
    | fail))
  refine wpQuiet_nil ?_
  rintro _ ⟨p, rfl⟩
  have H1 := Lib.hid (H0.out.next p.b)
  generalize p.W = w1 at H1 ⊢
  clear CF ne x0 x1 x2 x3 x4 x5 x6 x7 x8 x9 d1 d2 t3 t3'
  have x0 := H1.out.x.c 0
  have x1 := H1.out.x.c 1
  have x2 := H1.out.x.c 2
  have x3 := H1.out.x.c 3
  have x4 := H1.out.x.c 4
  have x5 := H1.out.x.c 5
  have x6 := H1.out.x.c 6
  have x7 := H1.out.x.c 7
  have x8 := H1.out.x.c 8
  have x9 := H1.out.x.c 9
  simp at x0 x1 x2 x3 x4 x5 x6 x7 x8 x9
  go_upto_region 4 with (fail)
  obtain ⟨W2, hW2⟩ : ∃ W2, w1.alloc (.cells (hc h) 33) = W2 := ⟨_, rfl⟩
  have H2 := Lib.hid (show HX w W2 h from hW2 ▸ H1.out.next (alloc_ _ _))
  obtain ⟨p2, hp2⟩ : ∃ p2, w1.heap.size = p2 := ⟨_, rfl⟩
  have HQ2 := Lib.hid (show Bx W2 p2 33 (hc h) from hp2 ▸ hW2 ▸ Bx.new w1 33 (hc h))
  have HP2 := Lib.hid (show w.heap.size < p2 from hp2 ▸ H1.out.x.lt)
  rw [hW2, hp2]
  clear x0 x1 x2 x3 x4 x5 x6 x7 x8 x9 H1 hW2 hp2
  have x0 := H2.out.x.c 0
  have x1 := H2.out.x.c 1
  have x2 := H2.out.x.c 2
  have x3 := H2.out.x.c 3
  have x4 := H2.out.x.c 4
  have x5 := H2.out.x.c 5
  have x6 := H2.out.x.c 6
  have x7 := H2.out.x.c 7
  have x8 := H2.out.x.c 8
  have x9 := H2.out.x.c 9
  simp at x0 x1 x2 x3 x4 x5 x6 x7 x8 x9
  rw [hBs.out] at x9
  have hlx := H2.out.x.lt
  have HRW := Lib.hid (show Raws (W2.alloc (.cells #[] 26)) (· < (W2.alloc (.cells #[] 26)).heap.size) (some ad) h.m h.rs by
    have := (HG.out.M.below H2.out.b).r.below (alloc_ W2 (.cells #[] 26))
    rwa [hBs.out] at this)
  go_upto_region 5 with (at_builtin; refine wpList_app _ rfl _ _ rfl (W2.heap.size) (some ⟨W2.heap.size, 0, none⟩) 0 0 [] rfl (Own.made W2) _ (some ad) h.m h.d h.rs rfl (HRW.out) (fun e => by cases e) h.m (Nat.zero_add _) (by omega) (by simp) ?_; intro A4 c4 w4 hO4 hg4; rw [List.nil_append] at hO4; have HO4 := Lib.hid hO4; have HG4 := Lib.hid hg4; have HB4 := Lib.hid (turned_box HQ2.out hg4); have y9 := HB4.out.c 9; have fy9 := HB4.out.f 9; have hly := HB4.out.lt; simp at y9; clear hO4 hg4)
  obtain ⟨W5, hW5⟩ : ∃ W5, w4.setCell ⟨p2, 9, none⟩ (.slice A4 h.m c4) = W5 := ⟨_, rfl⟩
  have HT := Lib.hid (show TB w W5 h p2 W2.heap.size A4 c4 from hW5 ▸ TB.start H2.out HQ2.out HP2.out HO4.out HG4.out)
  rw [hW5]
  obtain ⟨g5, rfl, hg5, hg6⟩ := HT.out.o.form (by omega)
  clear hW5 HO4 HG4 HB4 y9 fy9 hly H2 HQ2 HRW hlx x0 x1 x2 x3 x4 x5 x6 x7 x8 x9
  obtain ⟨W6, hW6⟩ : ∃ W6 : World, { W5 with drawn := W5.drawn + 1 } = W6 := ⟨_, rfl⟩
  have HW6 := Lib.hid hW6
  have HT6 := Lib.hid (show TB w W6 h p2 W2.heap.size (some ⟨g5, 0, none⟩) c4 from hW6 ▸ ⟨⟨⟨HT.out.x.b.os, HT.out.x.b.tape, HT.out.x.b.output, HT.out.x.b.size, HT.out.x.b.block⟩, HT.out.x.x⟩, HT.out.y, HT.out.o, HT.out.lo, HT.out.hi⟩)
  have HNE := Lib.hid (show p2 ≠ g5 by have := HT.out.hi; omega)
  have HC9 := Lib.hid (show W6.cell? ⟨p2, 9, none⟩ = some (.slice (some ⟨g5, 0, none⟩) h.m c4) from HT6.out.y.c 9)
  have HF6 := Lib.hid (show ∀ o, W6.frozen? ⟨g5, o, none⟩ = false from fun o => HT6.out.o.frozen o)
  have HN1 := Lib.hid (HT6.out.o.raws.at HQ.out.1)
  have HN2 := Lib.hid (HT6.out.o.raws.at HQ.out.2)
  have HN3 := Lib.hid ((put_raws r2 HT6.out.o.raws b1 rfl).at (show (h.rs.set k r2)[k1]? = some r2 by rw [List.getElem?_set_ne (by omega)]; exact HQ.out.2))
  clear hW6
  refine wp_region_steps (fun L_ a_ w_ => ∃ (v47 v48 v49 v50 v51 v52 v53 v54 v55 v56 v57 v58 v59 v60 v61 v62 v63 v64 v65 v66 : Value), a_ = { tmps := #[hg h, .int .i64 (k : Int), .pointer (some ⟨w.heap.size, 0, none⟩), undef, .bool false, .pointer (some ⟨p2, 0, none⟩), undef, undef, undef, .agg #[.int .i64 h.id, .int .i64 h.bk, .int .i64 h.s.1, .int .i64 h.s.2, .int .i64 h.r.k, .int .i64 h.r.v, .int .i64 h.r.a, .int .i64 h.r.z, .slice h.A h.n h.c, .slice (some ad) h.m h.d], .bool true, .bool false, .bool false, .int .i64 (k : Int), .bool false, .bool false, .bool false, .int .i64 (k : Int), .pointer (some ⟨w.heap.size, 9, none⟩), .slice (some ad) h.m h.d, .int .i64 (h.m : Int), .int .i64 (l : Int), .bool false, .bool false, .bool false, .pointer (some ⟨w.heap.size, 9, none⟩), .slice (some ad) h.m h.d, .int .i64 (k : Int), .pointer (some (ad.add (k * 9))), .pointer (some ⟨(ad.add (k * 9)).block, (ad.add (k * 9)).off + 1, none⟩), .int .i64 r1.v.dy, .pointer (some ⟨w.heap.size, 9, none⟩), .slice (some ad) h.m h.d, .int .i64 (k : Int), .int .i64 (k1 : Int), .pointer (some (ad.add (k1 * 9))), .pointer (some ⟨(ad.add (k1 * 9)).block, (ad.add (k1 * 9)).off + 1, none⟩), .int .i64 r2.v.dy, .bool false, .bool false, undef, hg h, .slice (some ⟨W2.heap.size, 0, none⟩) 0 0, .pointer (some ⟨w.heap.size, 9, none⟩), .slice (some ad) h.m h.d, .slice (some ⟨g5, 0, none⟩) h.m c4, .pointer (some ⟨p2, 9, none⟩), v47, v48, v49, v50, v51, v52, v53, v54, v55, v56, v57, v58, v59, v60, v61, v62, v63, v64, v65, v66, undef, undef, undef, undef, undef, undef, undef, undef, undef, undef, undef, undef, undef, undef, undef, undef, undef, undef, undef, undef, undef, undef, undef, undef, undef, undef, undef, undef, undef, undef, undef, undef, undef, undef, undef, undef, undef, undef, undef, undef, undef, undef, undef, undef, undef, undef, undef, undef, undef, undef, undef, undef, undef, undef, undef, undef, undef, undef, undef, undef, undef, undef, undef, undef, undef, undef, undef, undef, undef, undef, undef, undef, undef, undef, undef, undef], defers := [] } ∧ Hid (RSw W6 p2 g5 h.m c4 k k1 r1 r2 L_ w_ v47 v48 v49 v50 v51 v52 v53 v54 v55 v56 v57 v58 v59 v60 v61 v62 v63 v64 v65 v66)) (by kernel_rfl) (by kernel_rfl) ?_ (AllSteps.cons ?_ (AllSteps.cons ?_ (AllSteps.cons ?_ (AllSteps.cons ?_ (AllSteps.cons ?_ (AllSteps.cons ?_ (AllSteps.cons ?_ (AllSteps.cons ?_ (AllSteps.cons ?_ (AllSteps.cons ?_ (AllSteps.cons ?_ (AllSteps.cons ?_ (AllSteps.cons ?_ (AllSteps.cons ?_ (AllSteps.cons ?_ (AllSteps.cons ?_ (AllSteps.cons ?_ (AllSteps.cons ?_ (AllSteps.cons ?_ (AllSteps.cons ?_ (AllSteps.cons ?_ (AllSteps.cons ?_ AllSteps.nil)))))))))))))))))))))) ?_
  · exact ⟨_, _, _, _, _, _, _, _, _, _, _, _, _, _, _, _, _, _, _, _, rfl, Lib.hid (by rw [← HW6.out]; exact ⟨fun _ => rfl, (fun l => by cases l), (fun l => by cases l), (fun l => by cases l), (fun l => by cases l), (fun l => by cases l), (fun l => by cases l), (fun l => by cases l), (fun l => by cases l), (fun l => by cases l), (fun l => by cases l), (fun l => by cases l), (fun l => by cases l), (fun l => by cases l), (fun l => by cases l), (fun l => by cases l), (fun l => by cases l), (fun l => by cases l), (fun l => by cases l), (fun l => by cases l), (fun l => by cases l), (fun l => by cases l), (fun l => by cases l), (fun l => by cases l), (fun l => by cases l), (fun l => by cases l)⟩)⟩
  · rintro L_ a_ w_ hL hd ⟨v47, v48, v49, v50, v51, v52, v53, v54, v55, v56, v57, v58, v59, v60, v61, v62, v63, v64, v65, v66, rfl, HR⟩ K hK
    clear hd
    go_simp
    exact hK.out _ _ ⟨_, _, _, _, _, _, _, _, _, _, _, _, _, _, _, _, _, _, _, _, rfl, Lib.hid (HR.out.s0)⟩
  · rintro L_ a_ w_ hL hd ⟨v47, v48, v49, v50, v51, v52, v53, v54, v55, v56, v57, v58, v59, v60, v61, v62, v63, v64, v65, v66, rfl, HR⟩ K hK
    have q0 : L_ 0 = true := (hd ⟨0, .data⟩ (by simp) rfl)
    have e0 := HR.out.f0 q0
    subst e0
    have c9 := (HR.out.box HNE.out ⟨p2, 9, none⟩ rfl).trans HC9.out
    clear hd
    go_simp
    exact hK.out _ _ ⟨_, _, _, _, _, _, _, _, _, _, _, _, _, _, _, _, _, _, _, _, rfl, Lib.hid (HR.out.s1)⟩
  · rintro L_ a_ w_ hL hd ⟨v47, v48, v49, v50, v51, v52, v53, v54, v55, v56, v57, v58, v59, v60, v61, v62, v63, v64, v65, v66, rfl, HR⟩ K hK
    clear hd
    go_simp
    exact hK.out _ _ ⟨_, _, _, _, _, _, _, _, _, _, _, _, _, _, _, _, _, _, _, _, rfl, Lib.hid (HR.out.s2)⟩
  · rintro L_ a_ w_ hL hd ⟨v47, v48, v49, v50, v51, v52, v53, v54, v55, v56, v57, v58, v59, v60, v61, v62, v63, v64, v65, v66, rfl, HR⟩ K hK
    clear hd
    go_simp
    exact hK.out _ _ ⟨_, _, _, _, _, _, _, _, _, _, _, _, _, _, _, _, _, _, _, _, rfl, Lib.hid (HR.out.s3)⟩
  · rintro L_ a_ w_ hL hd ⟨v47, v48, v49, v50, v51, v52, v53, v54, v55, v56, v57, v58, v59, v60, v61, v62, v63, v64, v65, v66, rfl, HR⟩ K hK
    have q3 : L_ 3 = true := (hd ⟨3, .data⟩ (by simp) rfl)
    have e3 := HR.out.f3 q3
    subst e3
    have c9 := (HR.out.box HNE.out ⟨p2, 9, none⟩ rfl).trans HC9.out
    clear hd
    go_simp
    exact hK.out _ _ ⟨_, _, _, _, _, _, _, _, _, _, _, _, _, _, _, _, _, _, _, _, rfl, Lib.hid (HR.out.s4)⟩
  · rintro L_ a_ w_ hL hd ⟨v47, v48, v49, v50, v51, v52, v53, v54, v55, v56, v57, v58, v59, v60, v61, v62, v63, v64, v65, v66, rfl, HR⟩ K hK
    clear hd
    go_simp
    exact hK.out _ _ ⟨_, _, _, _, _, _, _, _, _, _, _, _, _, _, _, _, _, _, _, _, rfl, Lib.hid (HR.out.s5)⟩
  · rintro L_ a_ w_ hL hd ⟨v47, v48, v49, v50, v51, v52, v53, v54, v55, v56, v57, v58, v59, v60, v61, v62, v63, v64, v65, v66, rfl, HR⟩ K hK
    have q5 : L_ 5 = true := (hd ⟨5, .data⟩ (by simp) rfl)
    have e5 := HR.out.f5 q5
    subst e5
    clear hd
    go_simp
    exact hK.out _ _ ⟨_, _, _, _, _, _, _, _, _, _, _, _, _, _, _, _, _, _, _, _, rfl, Lib.hid (HR.out.s6)⟩
  · rintro L_ a_ w_ hL hd ⟨v47, v48, v49, v50, v51, v52, v53, v54, v55, v56, v57, v58, v59, v60, v61, v62, v63, v64, v65, v66, rfl, HR⟩ K hK
    clear hd
    go_simp
    exact hK.out _ _ ⟨_, _, _, _, _, _, _, _, _, _, _, _, _, _, _, _, _, _, _, _, rfl, Lib.hid (HR.out.s7)⟩
  · rintro L_ a_ w_ hL hd ⟨v47, v48, v49, v50, v51, v52, v53, v54, v55, v56, v57, v58, v59, v60, v61, v62, v63, v64, v65, v66, rfl, HR⟩ K hK
    have q7 : L_ 7 = true := (hd ⟨7, .data⟩ (by simp) rfl)
    have e7 := HR.out.f7 q7
    subst e7
    have c9 := (HR.out.box HNE.out ⟨p2, 9, none⟩ rfl).trans HC9.out
    clear hd
    go_simp
    exact hK.out _ _ ⟨_, _, _, _, _, _, _, _, _, _, _, _, _, _, _, _, _, _, _, _, rfl, Lib.hid (HR.out.s8)⟩
  · rintro L_ a_ w_ hL hd ⟨v47, v48, v49, v50, v51, v52, v53, v54, v55, v56, v57, v58, v59, v60, v61, v62, v63, v64, v65, v66, rfl, HR⟩ K hK
    clear hd
    go_simp
    exact hK.out _ _ ⟨_, _, _, _, _, _, _, _, _, _, _, _, _, _, _, _, _, _, _, _, rfl, Lib.hid (HR.out.s9)⟩
  · rintro L_ a_ w_ hL hd ⟨v47, v48, v49, v50, v51, v52, v53, v54, v55, v56, v57, v58, v59, v60, v61, v62, v63, v64, v65, v66, rfl, HR⟩ K hK
    have q9 : L_ 9 = true := (hd ⟨9, .data⟩ (by simp) rfl)
    have e9 := HR.out.f9 q9
    subst e9
    clear hd
    go_simp
    exact hK.out _ _ ⟨_, _, _, _, _, _, _, _, _, _, _, _, _, _, _, _, _, _, _, _, rfl, Lib.hid (HR.out.s10)⟩
  · rintro L_ a_ w_ hL hd ⟨v47, v48, v49, v50, v51, v52, v53, v54, v55, v56, v57, v58, v59, v60, v61, v62, v63, v64, v65, v66, rfl, HR⟩ K hK
    have q8 : L_ 8 = true := (hd ⟨8, .data⟩ (by simp) rfl)
    have e8 := HR.out.f8 q8
    subst e8
    have q10 : L_ 10 = true := (hd ⟨10, .data⟩ (by simp) rfl)
    have e10 := HR.out.f10 q10
    subst e10
    clear hd
    go_simp
    exact hK.out _ _ ⟨_, _, _, _, _, _, _, _, _, _, _, _, _, _, _, _, _, _, _, _, rfl, Lib.hid (HR.out.s11)⟩
  · rintro L_ a_ w_ hL hd ⟨v47, v48, v49, v50, v51, v52, v53, v54, v55, v56, v57, v58, v59, v60, v61, v62, v63, v64, v65, v66, rfl, HR⟩ K hK
    have q11 : L_ 11 = true := (hd ⟨11, .data⟩ (by simp) rfl)
    have e11 := HR.out.f11 q11
    subst e11
    have hw := HR.out.w0 (not_of HR.out.d12 hL)
    have HN : Nin w_ ⟨g5, k1 * 9, none⟩ r2 := by rw [hw]; exact HN2.out
    obtain ⟨c0, c1, c2, c3, c4x, c5, c6, c7, c8⟩ := HN
    clear hd hw
    go_simp
    exact hK.out _ _ ⟨_, _, _, _, _, _, _, _, _, _, _, _, _, _, _, _, _, _, _, _, rfl, Lib.hid (HR.out.s12)⟩
  · rintro L_ a_ w_ hL hd ⟨v47, v48, v49, v50, v51, v52, v53, v54, v55, v56, v57, v58, v59, v60, v61, v62, v63, v64, v65, v66, rfl, HR⟩ K hK
    clear hd
    go_simp
    exact hK.out _ _ ⟨_, _, _, _, _, _, _, _, _, _, _, _, _, _, _, _, _, _, _, _, rfl, Lib.hid (HR.out.s13)⟩
  · rintro L_ a_ w_ hL hd ⟨v47, v48, v49, v50, v51, v52, v53, v54, v55, v56, v57, v58, v59, v60, v61, v62, v63, v64, v65, v66, rfl, HR⟩ K hK
    have q13 : L_ 13 = true := (hd ⟨13, .data⟩ (by simp) rfl)
    have e13 := HR.out.f13 q13
    subst e13
    have c9 := (HR.out.box HNE.out ⟨p2, 9, none⟩ rfl).trans HC9.out
    clear hd
    go_simp
    exact hK.out _ _ ⟨_, _, _, _, _, _, _, _, _, _, _, _, _, _, _, _, _, _, _, _, rfl, Lib.hid (HR.out.s14)⟩
  · rintro L_ a_ w_ hL hd ⟨v47, v48, v49, v50, v51, v52, v53, v54, v55, v56, v57, v58, v59, v60, v61, v62, v63, v64, v65, v66, rfl, HR⟩ K hK
    clear hd
    go_simp
    exact hK.out _ _ ⟨_, _, _, _, _, _, _, _, _, _, _, _, _, _, _, _, _, _, _, _, rfl, Lib.hid (HR.out.s15)⟩
  · rintro L_ a_ w_ hL hd ⟨v47, v48, v49, v50, v51, v52, v53, v54, v55, v56, v57, v58, v59, v60, v61, v62, v63, v64, v65, v66, rfl, HR⟩ K hK
    have q14 : L_ 14 = true := (hd ⟨14, .data⟩ (by simp) rfl)
    have e14 := HR.out.f14 q14
    subst e14
    have q15 : L_ 15 = true := (hd ⟨15, .data⟩ (by simp) rfl)
    have e15 := HR.out.f15 q15
    subst e15
    clear hd
    go_simp
    exact hK.out _ _ ⟨_, _, _, _, _, _, _, _, _, _, _, _, _, _, _, _, _, _, _, _, rfl, Lib.hid (HR.out.s16)⟩
  · rintro L_ a_ w_ hL hd ⟨v47, v48, v49, v50, v51, v52, v53, v54, v55, v56, v57, v58, v59, v60, v61, v62, v63, v64, v65, v66, rfl, HR⟩ K hK
    have q16 : L_ 16 = true := (hd ⟨16, .data⟩ (by simp) rfl)
    have e16 := HR.out.f16 q16
    subst e16
    have hw := HR.out.w0 (not_of HR.out.d17 hL)
    have HN : Nin w_ ⟨g5, k * 9, none⟩ r1 := by rw [hw]; exact HN1.out
    obtain ⟨c0, c1, c2, c3, c4x, c5, c6, c7, c8⟩ := HN
    clear hd hw
    go_simp
    exact hK.out _ _ ⟨_, _, _, _, _, _, _, _, _, _, _, _, _, _, _, _, _, _, _, _, rfl, Lib.hid (HR.out.s17)⟩
  · rintro L_ a_ w_ hL hd ⟨v47, v48, v49, v50, v51, v52, v53, v54, v55, v56, v57, v58, v59, v60, v61, v62, v63, v64, v65, v66, rfl, HR⟩ K hK
    have q1 : L_ 1 = true := (hd ⟨1, .data⟩ (by simp) rfl)
    have e1 := HR.out.f1 q1
    subst e1
    have q2 : L_ 2 = true := (hd ⟨2, .data⟩ (by simp) rfl)
    have e2 := HR.out.f2 q2
    subst e2
    clear hd
    go_simp
    exact hK.out _ _ ⟨_, _, _, _, _, _, _, _, _, _, _, _, _, _, _, _, _, _, _, _, rfl, Lib.hid (HR.out.s18)⟩
  · rintro L_ a_ w_ hL hd ⟨v47, v48, v49, v50, v51, v52, v53, v54, v55, v56, v57, v58, v59, v60, v61, v62, v63, v64, v65, v66, rfl, HR⟩ K hK
    have q18 : L_ 18 = true := (hd ⟨18, .data⟩ (by simp) rfl)
    have e18 := HR.out.f18 q18
    subst e18
    have q12 : L_ 12 = true := (hd ⟨12, .data⟩ (by simp) rfl)
    have e12 := HR.out.f12 q12
    subst e12
    have q17 : L_ 17 = true := (hd ⟨17, .phase⟩ (by simp) rfl)
    have hw := HR.out.w0 hL
    have HN : Nin w_ ⟨g5, k * 9, none⟩ r1 := by rw [hw]; exact HN1.out
    have HZ : ∀ o, w_.frozen? ⟨g5, o, none⟩ = false := by rw [hw]; exact HF6.out
    obtain ⟨c0, c1, c2, c3, c4x, c5, c6, c7, c8⟩ := HN
    have z0 := HZ (k * 9)
    have z1 := HZ (k * 9 + 1)
    have z2 := HZ (k * 9 + 2)
    have z3 := HZ (k * 9 + 3)
    have z4 := HZ (k * 9 + 4)
    have z5 := HZ (k * 9 + 5)
    have z6 := HZ (k * 9 + 6)
    have z7 := HZ (k * 9 + 7)
    have z8 := HZ (k * 9 + 8)
    clear hd hw HZ
    go_simp
    exact hK.out _ _ ⟨_, _, _, _, _, _, _, _, _, _, _, _, _, _, _, _, _, _, _, _, rfl, Lib.hid (HR.out.s19 hL q12 q17)⟩
  · rintro L_ a_ w_ hL hd ⟨v47, v48, v49, v50, v51, v52, v53, v54, v55, v56, v57, v58, v59, v60, v61, v62, v63, v64, v65, v66, rfl, HR⟩ K hK
    have q4 : L_ 4 = true := (hd ⟨4, .data⟩ (by simp) rfl)
    have e4 := HR.out.f4 q4
    subst e4
    have q6 : L_ 6 = true := (hd ⟨6, .data⟩ (by simp) rfl)
    have e6 := HR.out.f6 q6
    subst e6
    clear hd
    go_simp
    exact hK.out _ _ ⟨_, _, _, _, _, _, _, _, _, _, _, _, _, _, _, _, _, _, _, _, rfl, Lib.hid (HR.out.s20)⟩
  · rintro L_ a_ w_ hL hd ⟨v47, v48, v49, v50, v51, v52, v53, v54, v55, v56, v57, v58, v59, v60, v61, v62, v63, v64, v65, v66, rfl, HR⟩ K hK
    have q20 : L_ 20 = true := (hd ⟨20, .data⟩ (by simp) rfl)
    have e20 := HR.out.f20 q20
    subst e20
    have q17 : L_ 17 = true := (hd ⟨17, .data⟩ (by simp) rfl)
    have e17 := HR.out.f17 q17
    subst e17
    have q19 : L_ 19 = true := (hd ⟨19, .chain⟩ (by simp) rfl)
    have hw := HR.out.w1 q19 hL
    have HN : Nin w_ ⟨g5, k1 * 9, none⟩ r2 := by rw [hw]; exact HN3.out
    have HZ : ∀ o, w_.frozen? ⟨g5, o, none⟩ = false := by intro o; rw [hw, sets_cells, World.frozen?_setCells]; exact HF6.out o
    obtain ⟨c0, c1, c2, c3, c4x, c5, c6, c7, c8⟩ := HN
    have z0 := HZ (k1 * 9)
    have z1 := HZ (k1 * 9 + 1)
    have z2 := HZ (k1 * 9 + 2)
    have z3 := HZ (k1 * 9 + 3)
    have z4 := HZ (k1 * 9 + 4)
    have z5 := HZ (k1 * 9 + 5)
    have z6 := HZ (k1 * 9 + 6)
    have z7 := HZ (k1 * 9 + 7)
    have z8 := HZ (k1 * 9 + 8)
    clear hd hw HZ
    go_simp
    exact hK.out _ _ ⟨_, _, _, _, _, _, _, _, _, _, _, _, _, _, _, _, _, _, _, _, rfl, Lib.hid (HR.out.s21 hL q19)⟩
  · rintro L_ a_ w_ hL ⟨v47, v48, v49, v50, v51, v52, v53, v54, v55, v56, v57, v58, v59, v60, v61, v62, v63, v64, v65, v66, rfl, HR⟩
    have hw := HR.out.w2 (hL 21 (by decide))
    obtain ⟨h2, hh2⟩ : ∃ h2, h.withB (some ⟨g5, 0, none⟩) c4 (sw h.rs k r1 r2) = h2 := ⟨_, rfl⟩
    have HD7 := Lib.hid (show TD w w_ h p2 h2 from hh2 ▸ TD.start HT6.out HG.out hg5 hk1 b2 HQ.out.1 HQ.out.2 hw)
    have HM2 := Lib.hid (show h2.m = h.m from hh2 ▸ rfl)
    have HV2 := Lib.hid (show h2.v.hs = sw h.v.hs k r1.v r2.v from hh2 ▸ sw_map Rw.v)
    obtain ⟨w7, hw7⟩ : ∃ w7, w_ = w7 := ⟨_, rfl⟩
    subst hw7
    clear hL HR hw hh2 HT6 HNE HC9 HF6 HN1 HN2 HN3 HW6 HT
    go_upto_region 6 with (fail)
    refine wp_region_steps (fun M_ a_ u_ => ∃ (v67 v68 v69 v70 v6 v7 : Value), a_ = { tmps := #[hg h, .int .i64 (k : Int), .pointer (some ⟨w.heap.size, 0, none⟩), undef, .bool false, .pointer (some ⟨p2, 0, none⟩), v6, v7, undef, .agg #[.int .i64 h.id, .int .i64 h.bk, .int .i64 h.s.1, .int .i64 h.s.2, .int .i64 h.r.k, .int .i64 h.r.v, .int .i64 h.r.a, .int .i64 h.r.z, .slice h.A h.n h.c, .slice (some ad) h.m h.d], .bool true, .bool false, .bool false, .int .i64 (k : Int), .bool false, .bool false, .bool false, .int .i64 (k : Int), .pointer (some ⟨w.heap.size, 9, none⟩), .slice (some ad) h.m h.d, .int .i64 (h.m : Int), .int .i64 (l : Int), .bool false, .bool false, .bool false, .pointer (some ⟨w.heap.size, 9, none⟩), .slice (some ad) h.m h.d, .int .i64 (k : Int), .pointer (some (ad.add (k * 9))), .pointer (some ⟨(ad.add (k * 9)).block, (ad.add (k * 9)).off + 1, none⟩), .int .i64 r1.v.dy, .pointer (some ⟨w.heap.size, 9, none⟩), .slice (some ad) h.m h.d, .int .i64 (k : Int), .int .i64 (k1 : Int), .pointer (some (ad.add (k1 * 9))), .pointer (some ⟨(ad.add (k1 * 9)).block, (ad.add (k1 * 9)).off + 1, none⟩), .int .i64 r2.v.dy, .bool false, .bool false, undef, hg h, .slice (some ⟨W2.heap.size, 0, none⟩) 0 0, .pointer (some ⟨w.heap.size, 9, none⟩), .slice (some ad) h.m h.d, .slice (some ⟨g5, 0, none⟩) h.m c4, .pointer (some ⟨p2, 9, none⟩), v47, v48, v49, v50, v51, v52, v53, v54, v55, v56, v57, v58, v59, v60, v61, v62, v63, v64, v65, v66, v67, v68, v69, v70, undef, undef, undef, undef, undef, undef, undef, undef, undef, undef, undef, undef, undef, undef, undef, undef, undef, undef, undef, undef, undef, undef, undef, undef, undef, undef, undef, undef, undef, undef, undef, undef, undef, undef, undef, undef, undef, undef, undef, undef, undef, undef, undef, undef, undef, undef, undef, undef, undef, undef, undef, undef, undef, undef, undef, undef, undef, undef, undef, undef, undef, undef, undef, undef, undef, undef, undef, undef, undef, undef, undef, undef], defers := [] } ∧ Hid (RQ w_ h h2 M_ u_ v67 v68 v69 v70 v6 v7)) (by kernel_rfl) (by kernel_rfl) ?_ (AllSteps.cons ?_ (AllSteps.cons ?_ (AllSteps.cons ?_ (AllSteps.cons ?_ (AllSteps.cons ?_ (AllSteps.cons ?_ AllSteps.nil)))))) ?_
    · exact ⟨_, _, _, _, _, _, rfl, Lib.hid ⟨⟨rfl, rfl, rfl, Nat.le_refl _, fun _ _ => rfl⟩, (fun h => by cases h), (fun h => by cases h), (fun h => by cases h), (fun h => by cases h), (fun h => by cases h), (fun h => by cases h)⟩⟩
    · rintro M_ a_ u_ hL hd ⟨v67, v68, v69, v70, v6, v7, rfl, HR⟩ K hK
      have hx := (HD7.out.next HR.out.b).x.x
      have x0 := hx.c 0
      have x1 := hx.c 1
      have x2 := hx.c 2
      have x3 := hx.c 3
      have x4 := hx.c 4
      have x5 := hx.c 5
      have x6 := hx.c 6
      have x7 := hx.c 7
      have x8 := hx.c 8
      have x9 := hx.c 9
      simp at x0 x1 x2 x3 x4 x5 x6 x7 x8 x9
      clear hd hx
      go_simp
      exact hK.out _ _ ⟨_, _, _, _, _, _, rfl, Lib.hid (HR.out.s0 rfl)⟩
    · rintro M_ a_ u_ hL hd ⟨v67, v68, v69, v70, v6, v7, rfl, HR⟩ K hK
      have e0 := HR.out.f0 (hd ⟨0, .data⟩ (by simp) rfl)
      subst e0
      clear hd
      go_simp
      refine ((order_ h u_ (HG.out.M.below (HD7.out.next HR.out.b).x.b) (by omega)).mono fun e w' k => k.g).mono ?_
      rintro e w5 ⟨z, rfl, hO, hb⟩
      exact hK.out _ _ ⟨_, _, _, _, _, _, rfl, Lib.hid ((HR.out.up hb).s1 hO)⟩
    · rintro M_ a_ u_ hL hd ⟨v67, v68, v69, v70, v6, v7, rfl, HR⟩ K hK
      have hx := (HD7.out.next HR.out.b).y
      have x0 := hx.c 0
      have x1 := hx.c 1
      have x2 := hx.c 2
      have x3 := hx.c 3
      have x4 := hx.c 4
      have x5 := hx.c 5
      have x6 := hx.c 6
      have x7 := hx.c 7
      have x8 := hx.c 8
      have x9 := hx.c 9
      simp at x0 x1 x2 x3 x4 x5 x6 x7 x8 x9
      clear hd hx
      go_simp
      exact hK.out _ _ ⟨_, _, _, _, _, _, rfl, Lib.hid (HR.out.s2 rfl)⟩
    · rintro M_ a_ u_ hL hd ⟨v67, v68, v69, v70, v6, v7, rfl, HR⟩ K hK
      have e2 := HR.out.f2 (hd ⟨2, .data⟩ (by simp) rfl)
      subst e2
      clear hd
      go_simp
      refine ((order_ h2 u_ (HD7.out.next HR.out.b).m (by rw [HM2.out]; omega)).mono fun e w' k => k.g).mono ?_
      rintro e w5 ⟨z, rfl, hO, hb⟩
      exact hK.out _ _ ⟨_, _, _, _, _, _, rfl, Lib.hid ((HR.out.up hb).s3 hO)⟩
    · rintro M_ a_ u_ hL hd ⟨v67, v68, v69, v70, v6, v7, rfl, HR⟩ K hK
      have e9 := HR.out.f1 (hd ⟨1, .data⟩ (by simp) rfl)
      clear hd
      go_simp
      exact hK.out _ _ ⟨_, _, _, _, _, _, rfl, Lib.hid (HR.out.s4 e9)⟩
    · rintro M_ a_ u_ hL hd ⟨v67, v68, v69, v70, v6, v7, rfl, HR⟩ K hK
      have e9 := HR.out.f3 (hd ⟨3, .data⟩ (by simp) rfl)
      clear hd
      go_simp
      exact hK.out _ _ ⟨_, _, _, _, _, _, rfl, Lib.hid (HR.out.s5 e9)⟩
    · rintro M_ a_ u_ hL ⟨v67, v68, v69, v70, v6, v7, rfl, HR⟩
      obtain ⟨A1, c1, o, rfl, i1, g1⟩ := HR.out.f4 (hL 4 (by decide))
      obtain ⟨A2, c2, o2, rfl, i2, g2⟩ := HR.out.f5 (hL 5 (by decide))
      have hlen := HG.out.M.len
      have hp : o2 = o.map (ti k) := turn_is (by omega) HD.out.2.1 (by rw [hk1]; exact HD.out.2.2) HD.out.1 g1 (by rw [← HV2.out]; exact g2)
      have HP := Lib.hid hp
      have HGO := Lib.hid g1
      have HD8 := Lib.hid (HD7.out.next HR.out.b)
      rw [HM2.out] at i2 ⊢
      have HI1 := Lib.hid i1
      have HI2 := Lib.hid i2
      clear hL HR i1 i2 g1 g2 hp HD7
      have x9 := HD8.out.x.x.c 9
      simp at x9
      go_wp2
      clear x9
      go_loopw [8, 86] (fun v8 vi w' => ∃ (j : Nat) (W : World), j ≤ h.m ∧ vi = .int .i64 (j : Int) ∧ W = w' ∧ Hid (TD w W h p2 h2 ∧ Below u_.heap.size u_ W)) (fun _ vi _ => h.m - (intOf vi).toNat)
      case atStart => exact ⟨0, u_, Nat.zero_le _, rfl, rfl, Lib.hid ⟨HD8.out, Below.refl _ _⟩⟩
      case round =>
        clear HD8
        obtain ⟨j, W1, hjm, rfl, rfl, HK⟩ := hrel
        by_cases hlt : j < h.m
        · have hlt2 : (j : Int) < (h.m : Int) := by omega
          obtain ⟨ad1, x, rfl, hb1, hx, kc1⟩ := (HI1.out.below HK.out.2).get hlt
          obtain ⟨ad2, y, rfl, hb2, hy, kc2⟩ := (HI2.out.below HK.out.2).get hlt
          have hxy : y = ti k x := by
            rw [HP.out, List.getElem?_map, hx] at hy
            injection hy with hy
            exact hy.symm
          have dx := plc_mem.1 (HGO.out.mem (List.mem_of_getElem? hx))
          rw [hlen] at dx
          have dy := ti_in (k := k) (by omega) dx
          rw [← hxy] at dy
          have hyn : y.toNat = tn k x.toNat := by rw [hxy]; exact ti_nat dx.1
          obtain ⟨n1, en1⟩ : ∃ n1, x.toNat = n1 := ⟨_, rfl⟩
          obtain ⟨n2, en2⟩ : ∃ n2, y.toNat = n2 := ⟨_, rfl⟩
          obtain ⟨adh, rx, hB1, hbx, hrx, mx, cx, vx⟩ := (HG.out.M.below HK.out.1.x.b).get (k := n1) (by omega)
          obtain ⟨adg, ry, hB2, hby, hry, my, cy, vy⟩ := HK.out.1.m.get (k := n2) (by rw [HM2.out]; omega)
          have hv : ry.v = rx.v := by
            rw [HV2.out, ← en2, hyn, en1, sw_get (by omega) HD.out.2.1 (by rw [hk1]; exact HD.out.2.2), vx] at vy
            injection vy with vy
            exact vy.symm
          have hrn := HSm.out.k rx (List.mem_of_getElem? hrx)
          have CS := fun p : Ext W1 => Lib.hid (same_change rx ry hv p.W (cx.below p.b) (cy.below p.b) (by unfold maxLen; omega))
          have x9 : ∀ p : Ext W1, p.W.cell? ⟨w.heap.size, 9, none⟩ = some (.slice (some adh) h.m h.d) := fun p => by have := HK.out.1.x.x.ext p 9; rw [this]; simp [hB1]
          have y9 : ∀ p : Ext W1, p.W.cell? ⟨p2, 9, none⟩ = some (.slice (some adg) h.m h2.d) := fun p => by have := HK.out.1.y.ext p 9; rw [this]; simp [hB2, HM2.out]
          have u1 : ∀ p : Ext W1, p.W.cell? (ad1.add j) = some (.int .i64 x) := fun p => (p.b.cell (by rw [add_block]; exact hb1)).trans kc1
          have u2 : ∀ p : Ext W1, p.W.cell? (ad2.add j) = some (.int .i64 y) := fun p => (p.b.cell (by rw [add_block]; exact hb2)).trans kc2
          have c0 : ∀ p : Ext W1, p.W.cell? (adh.add (n1 * 9)) = some (.int .i64 rx.v.bk) := fun p => ((mx).keep fun a ha => p.b.cell (by rw [ha, add_block]; exact hbx)).c0
          have c1 : ∀ p : Ext W1, p.W.cell? ⟨(adh.add (n1 * 9)).block, (adh.add (n1 * 9)).off + 1, none⟩ = some (.int .i64 rx.v.dy) := fun p => ((mx).keep fun a ha => p.b.cell (by rw [ha, add_block]; exact hbx)).c1
          have c2 : ∀ p : Ext W1, p.W.cell? ⟨(adh.add (n1 * 9)).block, (adh.add (n1 * 9)).off + 2, none⟩ = some (.int .i64 rx.v.kd) := fun p => ((mx).keep fun a ha => p.b.cell (by rw [ha, add_block]; exact hbx)).c2
          have c3 : ∀ p : Ext W1, p.W.cell? ⟨(adh.add (n1 * 9)).block, (adh.add (n1 * 9)).off + 3, none⟩ = some (.int .i64 rx.v.r.k) := fun p => ((mx).keep fun a ha => p.b.cell (by rw [ha, add_block]; exact hbx)).c3
          have c4 : ∀ p : Ext W1, p.W.cell? ⟨(adh.add (n1 * 9)).block, (adh.add (n1 * 9)).off + 4, none⟩ = some (.int .i64 rx.v.r.v) := fun p => ((mx).keep fun a ha => p.b.cell (by rw [ha, add_block]; exact hbx)).c4
          have c5 : ∀ p : Ext W1, p.W.cell? ⟨(adh.add (n1 * 9)).block, (adh.add (n1 * 9)).off + 5, none⟩ = some (.int .i64 rx.v.r.a) := fun p => ((mx).keep fun a ha => p.b.cell (by rw [ha, add_block]; exact hbx)).c5
          have c6 : ∀ p : Ext W1, p.W.cell? ⟨(adh.add (n1 * 9)).block, (adh.add (n1 * 9)).off + 6, none⟩ = some (.int .i64 rx.v.r.z) := fun p => ((mx).keep fun a ha => p.b.cell (by rw [ha, add_block]; exact hbx)).c6
          have c7 : ∀ p : Ext W1, p.W.cell? ⟨(adh.add (n1 * 9)).block, (adh.add (n1 * 9)).off + 7, none⟩ = some (.slice rx.A rx.n rx.c) := fun p => ((mx).keep fun a ha => p.b.cell (by rw [ha, add_block]; exact hbx)).c7
          have c8 : ∀ p : Ext W1, p.W.cell? ⟨(adh.add (n1 * 9)).block, (adh.add (n1 * 9)).off + 8, none⟩ = some (.int .i64 rx.v.wy) := fun p => ((mx).keep fun a ha => p.b.cell (by rw [ha, add_block]; exact hbx)).c8
          have d0 : ∀ p : Ext W1, p.W.cell? (adg.add (n2 * 9)) = some (.int .i64 ry.v.bk) := fun p => ((my).keep fun a ha => p.b.cell (by rw [ha, add_block]; exact hby)).c0
          have d1 : ∀ p : Ext W1, p.W.cell? ⟨(adg.add (n2 * 9)).block, (adg.add (n2 * 9)).off + 1, none⟩ = some (.int .i64 ry.v.dy) := fun p => ((my).keep fun a ha => p.b.cell (by rw [ha, add_block]; exact hby)).c1
          have d2 : ∀ p : Ext W1, p.W.cell? ⟨(adg.add (n2 * 9)).block, (adg.add (n2 * 9)).off + 2, none⟩ = some (.int .i64 ry.v.kd) := fun p => ((my).keep fun a ha => p.b.cell (by rw [ha, add_block]; exact hby)).c2
          have d3 : ∀ p : Ext W1, p.W.cell? ⟨(adg.add (n2 * 9)).block, (adg.add (n2 * 9)).off + 3, none⟩ = some (.int .i64 ry.v.r.k) := fun p => ((my).keep fun a ha => p.b.cell (by rw [ha, add_block]; exact hby)).c3
          have d4 : ∀ p : Ext W1, p.W.cell? ⟨(adg.add (n2 * 9)).block, (adg.add (n2 * 9)).off + 4, none⟩ = some (.int .i64 ry.v.r.v) := fun p => ((my).keep fun a ha => p.b.cell (by rw [ha, add_block]; exact hby)).c4
          have d5 : ∀ p : Ext W1, p.W.cell? ⟨(adg.add (n2 * 9)).block, (adg.add (n2 * 9)).off + 5, none⟩ = some (.int .i64 ry.v.r.a) := fun p => ((my).keep fun a ha => p.b.cell (by rw [ha, add_block]; exact hby)).c5
          have d6 : ∀ p : Ext W1, p.W.cell? ⟨(adg.add (n2 * 9)).block, (adg.add (n2 * 9)).off + 6, none⟩ = some (.int .i64 ry.v.r.z) := fun p => ((my).keep fun a ha => p.b.cell (by rw [ha, add_block]; exact hby)).c6
          have d7 : ∀ p : Ext W1, p.W.cell? ⟨(adg.add (n2 * 9)).block, (adg.add (n2 * 9)).off + 7, none⟩ = some (.slice ry.A ry.n ry.c) := fun p => ((my).keep fun a ha => p.b.cell (by rw [ha, add_block]; exact hby)).c7
          have d8 : ∀ p : Ext W1, p.W.cell? ⟨(adg.add (n2 * 9)).block, (adg.add (n2 * 9)).off + 8, none⟩ = some (.int .i64 ry.v.wy) := fun p => ((my).keep fun a ha => p.b.cell (by rw [ha, add_block]; exact hby)).c8
          have x1 := dx.1
          have x2 := dx.2
          have x3 : IntKind.i64.wrap x = x := (IntWalk.i64_left _).trans (IntWalk.wrap64_in _ ⟨by omega, by omega⟩)
          have y1 := dy.1
          have y2 := dy.2
          have y3 : IntKind.i64.wrap y = y := (IntWalk.i64_left _).trans (IntWalk.wrap64_in _ ⟨by omega, by omega⟩)
          have s1 : decide (x < 0) = false := decide_eq_false (by omega)
          have s2 : decide (y < 0) = false := decide_eq_false (by omega)
          have s3 : decide ((h.m : Int) ≤ x) = false := decide_eq_false (by omega)
          have s4 : decide ((h.m : Int) ≤ y) = false := decide_eq_false (by omega)
          have HLT := Lib.hid hlt
          clear hx hy hxy dx dy hyn hB1 hbx hrx mx cx vx hB2 hby hry my cy vy hv hrn hb1 hb2 kc1 kc2 hlt t1 t2 t2' e1 e2 l3 k3 k4 b3 b4
          go_wp2_with fail
          have ne : Nonempty (Ext W1) := ⟨⟨W1, Below.refl _ _⟩⟩
          refine quietE (by kernel_rfl) (by kernel_rfl) ?_
          repeat (first | go_big_quiet_skip | quiet_step (first
            | (go_at_call 23; with_reducible exact ext_of (CS _).out)
            | fail))
          refine wpQuiet_nil ?_
          rintro _ ⟨p, rfl⟩
          have HK := Lib.hid (And.intro (HK.out.1.next p.b) (HK.out.2.trans (p.b.mono HK.out.2.size)))
          generalize p.W = W3 at HK ⊢
          clear ne x9 y9 u1 u2 CS c0 c1 c2 c3 c4 c5 c6 c7 c8 d0 d1 d2 d3 d4 d5 d6 d7 d8
          go_wp2
          go_roundw
          case rel => exact ⟨j + 1, _, by have := HLT.out; omega, by go_num, rfl, HK⟩
          case measure => have := HLT.out; simp [intOf]; omega
        · have HE := Lib.hid HK.out.1
          clear HK
          go_wp2_with fail
          refine (alive11 _).mono ?_
          rintro e w3 ⟨rfl, hb3⟩
          have H3 := Lib.hid (HE.out.next hb3)
          clear hb3
          go_wp2
          go_ret
          exact ⟨rfl, H3.out.x.b⟩

theorem walk {w : World} (h : Hr) (g : GivenH w h) (at' : Int) (_ : -9223372036854775808 ≤ at' ∧ at' ≤ 9223372036854775807) : Calls Try.prog 8 #[hg h, .int .i64 at'] w (Yes w true) := by
  cases hf : fwv h
  · exact way_few w h g at' hf
  by_cases h1 : at' < 0
  · exact way_low w h g at' hf h1
  by_cases h2 : (h.m : Int) - 1 ≤ at'
  · exact way_high w h g at' hf h1 h2
  obtain ⟨k, rfl⟩ : ∃ k : Nat, at' = (k : Int) := ⟨at'.toNat, by omega⟩
  obtain ⟨_, r1, _, _, _, _, _, v1⟩ := g.M.get (k := k) (by omega)
  obtain ⟨_, r2, _, _, _, _, _, v2⟩ := g.M.get (k := k + 1) (by omega)
  by_cases hd : r1.v.dy = r2.v.dy
  · exact way_same w h g k hf (by omega) v1 v2 hd
  · exact way_turned w h g k hf (by omega) v1 v2 hd

set_option maxRecDepth 100000 in
theorem lifted (os : Os) (started : os.Started) (H : Type) (enc : TypeId × Value → H) :
    ReturnsInHanded {} Try.checked os 8 .any (Rows.changeTurnedSpec.pre6 enc Try.prog Try.f8 Rows.changeTurnedRow.domain false) (Rows.changeTurnedSpec.post enc Try.prog Try.f8 false true false false) := by
  refine returnsInHanded_of_change_sized (C := Try.checked) Tm.own started (by kernel_rfl) Try.func8
    (ChangeSpec.witness6 (enc := enc) (C := Try.checked) false ⟨#[], #[.agg #[.int .i64 0, .int .i64 0, .int .i64 0, .int .i64 0, .int .i64 0, .int .i64 0, .int .i64 0, .int .i64 0, .slice none 0 0, .slice none 0 0], .int .i64 0], []⟩ 8 (by kernel_rfl) (by kernel_rfl) (by kernel_rfl) (by kernel_rfl)) ?_
  intro W base args ds gs before hval0 hW hcnd hsz0 _
  have hval : ∀ (j : Nat) t v, Try.f8.params[j]? = some t → args[j]? = some v → Value.okWide Try.prog W .any base t v := hval0
  have hW' := hW
  have hsz : (DataW.weightsEach Try.prog (Try.f8.params.toList ++ Rows.changeTurnedSpec.plain.varTypes Try.prog) (ds ++ gs)).all (· ≤ reachBytes) = true := hsz0
  obtain ⟨p, q, hA0, hV, rfl, hfz, hnd⟩ := hW
  have hA : DataW.TrodAll enc Try.prog W 0 (fun _ => true) true Try.f8.params.toList args.toList ds p := hA0
  rw [Try.params8] at hA hval hsz
  obtain ⟨v0, vs0, d0, ds0, p0, q0, hargs, rfl, rfl, h0, r0⟩ := trodAll_cons hA
  obtain ⟨v1, vs1, d1, ds1, p1, q1, rfl, rfl, rfl, h1, r1⟩ := trodAll_cons r0
  obtain ⟨rfl, rfl, rfl⟩ := trodAll_nil r1
  obtain rfl : args = #[v0, v1] := by cases args; simp_all
  obtain ⟨rfl, rfl⟩ := trodVars_none hV
  have k0 := h0
  have lt0 : ∀ x ∈ p0, x.block < W.heap.size := by obtain ⟨m, hm⟩ := k0; exact DataW.trod_lt m _ _ _ hm
  obtain ⟨y0, rfl, g0⟩ := Tm.open_history (hval 0 33 v0 rfl rfl) h0 (fun k hk => of_decide_eq_true (List.all_eq_true.1 hsz _ (DataW.weights_mem_each (j := 0) rfl rfl k hk)))
  obtain ⟨a1, rfl, rfl, rfl, w1⟩ := open_int Try.underlying3 (hval 1 3 v1 rfl rfl) h1
  clear hA0 hval0 hsz hsz0
  refine (walk y0 g0 a1 (Tm.i64_of w1)).mono fun e W' ⟨he, bel⟩ => ?_
  subst he
  exact ⟨_, rfl, _, _, _, [], _, [], hW', trodAll_mk1 (shut_bool Try.underlying4 _), (trodAll_cons_mk (Below.trod Tm.laidOut (by kernel_rfl) (of_decide_eq_true (by kernel_rfl)) k0 bel lt0) (trodAll_cons_mk (shut_int Try.underlying3 w1) trodAll_mk0)), rfl, bel.frame _, fun h => by cases h⟩

theorem over : Rows.changeTurnedRow.holds Try.pinned (OpenSpec.ofChange Rows.changeTurnedSpec) :=
  OpenClaim.holds_of_wide 8 Try.f8 rfl rfl rfl rfl rfl rfl rfl ⟨rfl, rfl, rfl, rfl, rfl⟩ rfl rfl rfl rfl rfl (by kernel_rfl) Try.func8 (by kernel_rfl)
    (of_decide_eq_true (by kernel_rfl)) (by unfold Func.isWrapper; first | (rw [if_pos (by decide +kernel)]; kernel_rfl) | (rw [if_neg (by decide +kernel)]; exact ⟨rfl, rfl⟩))
    (fun os started H enc _ => lifted os started H enc)

theorem proved : Rows.ChangeTurnedSaid := over
end Go.Proofs.Ytcnlllamldlnmaa.changeTurned
