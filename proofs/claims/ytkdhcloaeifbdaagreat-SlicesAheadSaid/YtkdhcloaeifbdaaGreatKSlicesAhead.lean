/-
  The statement SlicesAhead holds: for every input the call returns true, and each argument reads afterwards as it read before. Conditions: none beside those that the row itself bears.
-/
import Derived.Test.YtkdhcloaeifbdaaGreatKFacts12
namespace Go.Proofs.YtkdhcloaeifbdaaGreat
open Go.RowKit Ba Cv Sp Te Ag Tf Sl Tm
namespace Slc
set_option linter.unusedVariables false

theorem own_lowC {w : World} {base base' n c : Nat} {A : Option Addr} {xs : List Tm.Rw} (h : Tm.Own w base A n c xs) (hb : base' ≤ base) : Tm.Own w base' A n c xs := by
  refine ⟨h.1, ?_⟩
  rcases h.2 with h | ⟨g, cap, cur, e, hb2, r⟩
  · exact .inl h
  · exact .inr ⟨g, cap, cur, e, Nat.le_trans hb hb2, r⟩
theorem own_farC {w : World} {base n c : Nat} {A : Option Addr} {rs : List Tm.Rw} (h : Tm.Own w base A n c rs) {a : Addr} (hp : a.block < base) (u : Value) : Tm.Own (w.setCell a u) base A n c rs := by
  refine ⟨h.1, ?_⟩
  rcases h.2 with h | ⟨g, cap, cur, e, hb, hh, r⟩
  · exact .inl h
  · exact .inr ⟨g, cap, cur, e, hb, (Below.heap_setCell w a u g (by omega)).trans hh, r⟩
theorem own_fitsC {w : World} {base n c : Nat} {A : Option Addr} {xs : List Tm.Rw} (h : Tm.Own w base A n c xs) : n ≤ c ∧ (A = none → n = 0 ∧ c = 0) := by
  rcases h.2 with ⟨e, hn⟩ | ⟨g, cap, cur, e, _, _, hnc, _⟩
  · injection e with e1 e2 e3; exact ⟨by omega, fun _ => ⟨hn, e3⟩⟩
  · injection e with e1 e2 e3; subst e3; exact ⟨hnc, fun h0 => by rw [e1] at h0; cases h0⟩
theorem raws_boxC {w : World} {g : Nat} {es : List Tm.Rw} (h : Bx w g 52 (Tm.cel es).toArray) : Tm.Raws w (· < w.heap.size) (some ⟨g, 0, none⟩) es.length es := by
  refine ⟨rfl, fun _ => ⟨_, rfl, h.lt, fun j x hx => Tm.nin_of fun o u hu => ?_⟩⟩
  have ho : o < 9 := (List.getElem?_eq_some_iff.1 hu).1
  rw [Addr.add_lit, Nat.zero_add]
  have := h.c (j * 9 + o)
  rw [this]
  show (Tm.cel es).toArray[j * 9 + o]? = some u
  rw [List.getElem?_toArray]
  exact (Tm.cel_get hx ho).trans hu
abbrev hmore (h : Hr) (A : Option Addr) (c : Nat) (es : List Tm.Rw) (N : Nat) : Hr := ⟨h.id, h.bk, h.s, h.r, h.A, h.n, h.c, h.cs, A, N, c, h.rs ++ es⟩
theorem gb_block {w w' : World} {g n c : Nat} (hg : w.grownBy w' (Value.slice (some ⟨g, 0, none⟩) n c).ownBlock) {b : Nat} (hb : b < w.heap.size) (hne : g ≠ b) : w'.heap[b]? = w.heap[b]? := hg.block b hb (by simp [Value.ownBlock]; omega)
structure K6 (w0 W : World) (h : Hr) (b0 g11 : Nat) (r : Tm.Rw) (L : Nat → Bool) (w' : World) (v41 v42 v43 v44 v45 v46 v47 v48 : Value) : Prop where
  lo : w0.heap.size ≤ W.heap.size
  b : Below w0.heap.size w0 w'
  e : L 8 = false → Below W.heap.size W w'
  f0 : L 0 = true → ∃ g1, v41 = .slice (some ⟨g1, 0, none⟩) 0 0 ∧ g1 < w'.heap.size ∧ W.heap.size ≤ g1 ∧ (L 3 = false → Tm.Own w' W.heap.size (some ⟨g1, 0, none⟩) 0 0 [])
  f1 : L 1 = true → v42 = .pointer (some ⟨b0, 9, none⟩)
  f2 : L 2 = true → v43 = .slice h.B h.m h.d
  f3 : L 3 = true → ∃ A c, v44 = .slice A h.m c ∧ (L 6 = false → Tm.Own w' W.heap.size A h.m c h.rs)
  f4 : L 4 = true → v45 = Tm.vg r
  f5 : L 5 = true → ∃ g2, v46 = .slice (some ⟨g2, 0, none⟩) 1 1 ∧ (L 6 = false → Bx w' g2 52 (Tm.cel [r]).toArray) ∧ ∀ g1, v41 = .slice (some ⟨g1, 0, none⟩) 0 0 → L 0 = true → g1 ≠ g2
  f6 : L 6 = true → ∃ A c, v47 = .slice A (h.m + 1) c ∧ Tm.Own w' W.heap.size A (h.m + 1) c (h.rs ++ [r])
  f7 : L 7 = true → v48 = .pointer (some ⟨g11, 9, none⟩)
  f8 : L 8 = true → ∃ A c, Tm.Own w' W.heap.size A (h.m + 1) c (h.rs ++ [r]) ∧ Bx w' g11 31 (hc (hmore h A c [r] (h.m + 1))) ∧ ∀ b, b < W.heap.size → b ≠ g11 → w'.heap[b]? = W.heap[b]?
  d_app1_bs0 : L 3 = true → L 0 = true
  d_app2_app1 : L 6 = true → L 3 = true
  d_app2_bs : L 6 = true → L 5 = true
  d_st_app2 : L 8 = true → L 6 = true
  d_st_fa : L 8 = true → L 1 = true
  d_st_ld : L 8 = true → L 2 = true
  d_st_el : L 8 = true → L 4 = true
  d_st_fa2 : L 8 = true → L 7 = true
section
variable {w0 W : World} {h : Hr} {b0 g11 : Nat} {r : Tm.Rw} {L : Nat → Bool} {w' w2 : World} {v41 v42 v43 v44 v45 v46 v47 v48 : Value}
theorem K6.n1 (H : K6 w0 W h b0 g11 r L w' v41 v42 v43 v44 v45 v46 v47 v48) (h0 : L 0 = false) : L 3 = false := no8 H.d_app1_bs0 h0
theorem K6.n2 (H : K6 w0 W h b0 g11 r L w' v41 v42 v43 v44 v45 v46 v47 v48) (h0 : L 3 = false) : L 6 = false := no8 H.d_app2_app1 h0
theorem K6.n3 (H : K6 w0 W h b0 g11 r L w' v41 v42 v43 v44 v45 v46 v47 v48) (h0 : L 5 = false) : L 6 = false := no8 H.d_app2_bs h0
theorem K6.n4 (H : K6 w0 W h b0 g11 r L w' v41 v42 v43 v44 v45 v46 v47 v48) (h0 : L 6 = false) : L 8 = false := no8 H.d_st_app2 h0
theorem K6.s1 (H : K6 w0 W h b0 g11 r L w' v41 v42 v43 v44 v45 v46 v47 v48) {z : Value} (k : z = .pointer (some ⟨b0, 9, none⟩)) : K6 w0 W h b0 g11 r (fun j => j == 1 || L j) w' v41 z v43 v44 v45 v46 v47 v48 := ⟨H.lo, H.b, H.e, H.f0, fun _ => k, H.f2, H.f3, H.f4, H.f5, H.f6, H.f7, H.f8, H.d_app1_bs0, H.d_app2_app1, H.d_app2_bs, H.d_st_app2, fun _ => rfl, H.d_st_ld, H.d_st_el, H.d_st_fa2⟩
theorem K6.s2 (H : K6 w0 W h b0 g11 r L w' v41 v42 v43 v44 v45 v46 v47 v48) {z : Value} (k : z = .slice h.B h.m h.d) : K6 w0 W h b0 g11 r (fun j => j == 2 || L j) w' v41 v42 z v44 v45 v46 v47 v48 := ⟨H.lo, H.b, H.e, H.f0, H.f1, fun _ => k, H.f3, H.f4, H.f5, H.f6, H.f7, H.f8, H.d_app1_bs0, H.d_app2_app1, H.d_app2_bs, H.d_st_app2, H.d_st_fa, fun _ => rfl, H.d_st_el, H.d_st_fa2⟩
theorem K6.s4 (H : K6 w0 W h b0 g11 r L w' v41 v42 v43 v44 v45 v46 v47 v48) {z : Value} (k : z = Tm.vg r) : K6 w0 W h b0 g11 r (fun j => j == 4 || L j) w' v41 v42 v43 v44 z v46 v47 v48 := ⟨H.lo, H.b, H.e, H.f0, H.f1, H.f2, H.f3, fun _ => k, H.f5, H.f6, H.f7, H.f8, H.d_app1_bs0, H.d_app2_app1, H.d_app2_bs, H.d_st_app2, H.d_st_fa, H.d_st_ld, fun _ => rfl, H.d_st_fa2⟩
theorem K6.s7 (H : K6 w0 W h b0 g11 r L w' v41 v42 v43 v44 v45 v46 v47 v48) {z : Value} (k : z = .pointer (some ⟨g11, 9, none⟩)) : K6 w0 W h b0 g11 r (fun j => j == 7 || L j) w' v41 v42 v43 v44 v45 v46 v47 z := ⟨H.lo, H.b, H.e, H.f0, H.f1, H.f2, H.f3, H.f4, H.f5, H.f6, fun _ => k, H.f8, H.d_app1_bs0, H.d_app2_app1, H.d_app2_bs, H.d_st_app2, H.d_st_fa, H.d_st_ld, H.d_st_el, fun _ => rfl⟩
theorem K6.s0 (H : K6 w0 W h b0 g11 r L w' v41 v42 v43 v44 v45 v46 v47 v48) (h0 : L 0 = false) : K6 w0 W h b0 g11 r (fun j => j == 0 || L j) (w'.alloc (.cells #[] 52)) (.slice (some ⟨w'.heap.size, 0, none⟩) 0 0) v42 v43 v44 v45 v46 v47 v48 := by
  have q1 := H.n1 h0
  have q2 := H.n2 q1
  have q3 := H.n4 q2
  have hs := (H.e q3).size
  exact ⟨H.lo, H.b.alloc H.b.size _, (fun l => (H.e l).alloc (H.e l).size _), (fun _ => ⟨_, rfl, by simp, hs, fun _ => own_lowC (Tm.Own.made w') hs⟩), H.f1, H.f2, (fun l => absurd l (by rw [q1]; decide)), H.f4, (fun l => by obtain ⟨g2, e, hx, _⟩ := H.f5 l; exact ⟨g2, e, fun l6 => (hx l6).alloc _, fun g1 e1 _ => by injection e1 with e1; injection e1 with e1; injection e1 with e1; have := (hx q2).lt; omega⟩), (fun l => absurd l (by rw [q2]; decide)), H.f7, (fun l => absurd l (by rw [q3]; decide)), fun _ => rfl, H.d_app2_app1, H.d_app2_bs, H.d_st_app2, H.d_st_fa, H.d_st_ld, H.d_st_el, H.d_st_fa2⟩
theorem K6.s5 (H : K6 w0 W h b0 g11 r L w' v41 v42 v43 v44 v45 v46 v47 v48) (h0 : L 5 = false) : K6 w0 W h b0 g11 r (fun j => j == 5 || L j) (w'.alloc (.cells (Tm.cel [r]).toArray 52)) v41 v42 v43 v44 v45 (.slice (some ⟨w'.heap.size, 0, none⟩) 1 1) v47 v48 := by
  have q2 := H.n3 h0
  have q3 := H.n4 q2
  have hal := alloc_ w' (.cells (Tm.cel [r]).toArray 52)
  exact ⟨H.lo, H.b.alloc H.b.size _, (fun l => (H.e l).alloc (H.e l).size _), (fun l => by obtain ⟨g1, e, hl, hw, ho⟩ := H.f0 l; exact ⟨g1, e, Nat.lt_of_lt_of_le hl hal.size, hw, fun l3 => (ho l3).below hal⟩), H.f1, H.f2, (fun l => by obtain ⟨A, c, e, ho⟩ := H.f3 l; exact ⟨A, c, e, fun l6 => (ho l6).below hal⟩), H.f4, (fun _ => ⟨_, rfl, fun _ => Bx.new _ _ _, fun g1 e1 l0 => by obtain ⟨g, e, hl, _⟩ := H.f0 l0; rw [e] at e1; injection e1 with e1; injection e1 with e1; injection e1 with e1; omega⟩), (fun l => absurd l (by rw [q2]; decide)), H.f7, (fun l => absurd l (by rw [q3]; decide)), H.d_app1_bs0, H.d_app2_app1, fun _ => rfl, H.d_st_app2, H.d_st_fa, H.d_st_ld, H.d_st_el, H.d_st_fa2⟩
theorem K6.s3 (H : K6 w0 W h b0 g11 r L w' v41 v42 v43 v44 v45 v46 v47 v48) (h3 : L 3 = false) (h0 : L 0 = true) {g1 : Nat} (e0 : v41 = .slice (some ⟨g1, 0, none⟩) 0 0) (hw : W.heap.size ≤ g1) {A : Option Addr} {c : Nat} (hO : Tm.Own w2 W.heap.size A h.m c ([] ++ h.rs)) (hg : w'.grownBy w2 (Value.slice (some ⟨g1, 0, none⟩) 0 0).ownBlock) : K6 w0 W h b0 g11 r (fun j => j == 3 || L j) w2 v41 v42 v43 (.slice A h.m c) v45 v46 v47 v48 := by
  have q2 := H.n2 h3
  have q3 := H.n4 q2
  have hlo := H.lo
  exact ⟨H.lo, H.b.grown hg H.b.size (fun j hj => by simp [Value.ownBlock] at hj; omega), (fun l => (H.e l).grown hg (H.e l).size (fun j hj => by simp [Value.ownBlock] at hj; omega)), (fun l => by obtain ⟨g, e, hl, hw, _⟩ := H.f0 l; exact ⟨g, e, Nat.lt_of_lt_of_le hl hg.size, hw, fun l3 => by cases l3⟩), H.f1, H.f2, (fun _ => ⟨_, _, rfl, fun _ => hO⟩), H.f4, (fun l => by obtain ⟨g2, e, hx, hn⟩ := H.f5 l; exact ⟨g2, e, fun l6 => (gb_block hg (hx l6).lt (hn g1 e0 h0)).trans (hx l6), hn⟩), (fun l => absurd l (by rw [q2]; decide)), H.f7, (fun l => absurd l (by rw [q3]; decide)), fun _ => h0, fun _ => rfl, H.d_app2_bs, H.d_st_app2, H.d_st_fa, H.d_st_ld, H.d_st_el, H.d_st_fa2⟩
theorem K6.s6 (H : K6 w0 W h b0 g11 r L w' v41 v42 v43 v44 v45 v46 v47 v48) (h6 : L 6 = false) (h3 : L 3 = true) (hb : L 5 = true) {A1 A : Option Addr} {c1 c : Nat} (hO1 : Tm.Own w' W.heap.size A1 h.m c1 h.rs) (hO : Tm.Own w2 W.heap.size A (h.m + 1) c (h.rs ++ [r])) (hg : w'.grownBy w2 (Value.slice A1 h.m c1).ownBlock) : K6 w0 W h b0 g11 r (fun j => j == 6 || L j) w2 v41 v42 v43 v44 v45 v46 (.slice A (h.m + 1) c) v48 := by
  have q3 := H.n4 h6
  have hlo := H.lo
  exact ⟨H.lo, H.b.grown hg H.b.size (fun j hj => by have := (hO1.lt j hj).1; omega), (fun l => (H.e l).grown hg (H.e l).size (fun j hj => (hO1.lt j hj).1)), (fun l => by obtain ⟨g, e, hl, hw, _⟩ := H.f0 l; exact ⟨g, e, Nat.lt_of_lt_of_le hl hg.size, hw, fun l3 => absurd h3 (by rw [show L 3 = false from l3]; decide)⟩), H.f1, H.f2, (fun l => by obtain ⟨A, c, e, _⟩ := H.f3 l; exact ⟨A, c, e, fun l6 => by cases l6⟩), H.f4, (fun l => by obtain ⟨g2, e, _, hn⟩ := H.f5 l; exact ⟨g2, e, (fun l6 => by cases l6), hn⟩), (fun _ => ⟨_, _, rfl, hO⟩), H.f7, (fun l => absurd l (by rw [q3]; decide)), H.d_app1_bs0, fun _ => h3, fun _ => hb, fun _ => rfl, H.d_st_fa, H.d_st_ld, H.d_st_el, H.d_st_fa2⟩
theorem K6.s8 (H : K6 w0 W h b0 g11 r L w' v41 v42 v43 v44 v45 v46 v47 v48) (h8 : L 8 = false) (h6 : L 6 = true) (h_fa : L 1 = true) (h_ld : L 2 = true) (h_el : L 4 = true) (h_fa2 : L 7 = true) (hlo1 : w0.heap.size ≤ g11) (hlo2 : g11 < W.heap.size) {A : Option Addr} {c : Nat} {h0 : Hr} (hy : Bx W g11 31 (hc h0)) (e0 : (hc h0).setIfInBounds 9 (.slice A (h.m + 1) c) = hc (hmore h A c [r] (h.m + 1))) (hO : Tm.Own w' W.heap.size A (h.m + 1) c (h.rs ++ [r])) : K6 w0 W h b0 g11 r (fun j => j == 8 || L j) (w'.setCell ⟨g11, 9, none⟩ (.slice A (h.m + 1) c)) v41 v42 v43 v44 v45 v46 v47 v48 := by
  have h3 := H.d_app2_app1 h6
  have hx := (hy.keep (H.e h8)).set 9 (.slice A (h.m + 1) c)
  rw [e0] at hx
  have hO2 := own_farC hO (a := ⟨g11, 9, none⟩) hlo2 (.slice A (h.m + 1) c)
  exact ⟨H.lo, sets_below [.slice A (h.m + 1) c] hlo1 9 w' H.b, (fun l => by cases l), (fun l => by obtain ⟨g, e, hl, hw, _⟩ := H.f0 l; exact ⟨g, e, by rw [World.size_setCell]; exact hl, hw, fun l3 => absurd h3 (by rw [show L 3 = false from l3]; decide)⟩), H.f1, H.f2, (fun l => by obtain ⟨A, c, e, _⟩ := H.f3 l; exact ⟨A, c, e, fun l6 => absurd h6 (by rw [show L 6 = false from l6]; decide)⟩), H.f4, (fun l => by obtain ⟨g2, e, _, hn⟩ := H.f5 l; exact ⟨g2, e, (fun l6 => absurd h6 (by rw [show L 6 = false from l6]; decide)), hn⟩), (fun l => by obtain ⟨A', c', e, ho⟩ := H.f6 l; exact ⟨A', c', e, own_farC ho hlo2 _⟩), H.f7, (fun _ => ⟨_, _, hO2, hx, fun b hb hne => (Below.heap_setCell w' _ _ b hne).trans ((H.e h8).block b hb)⟩), H.d_app1_bs0, H.d_app2_app1, H.d_app2_bs, fun _ => h6, fun _ => h_fa, fun _ => h_ld, fun _ => h_el, fun _ => h_fa2⟩
end
/-- The boxes of the law. -/
structure P3 (w W : World) (h : Hr) (T : Option Addr) (n c : Nat) (r : Tm.Rw) : Prop where
  b : Below w.heap.size w W
  x : Bx W w.heap.size 31 (hc h)
  y : Bx W (w.heap.size + 1) 34 #[.slice T n c]
  v : Bx W (w.heap.size + 1 + 1) 52 (Tm.vc r)
theorem P3.next {w W W' : World} {h : Hr} {T : Option Addr} {n c : Nat} {r : Tm.Rw} (H : P3 w W h T n c r) (hb : Below W.heap.size W W') : P3 w W' h T n c r := ⟨H.b.trans (hb.mono H.b.size), H.x.keep hb, H.y.keep hb, H.v.keep hb⟩
theorem P3.start (w : World) (h : Hr) (T : Option Addr) (n c : Nat) (r : Tm.Rw) : P3 w (((w.alloc (.cells (hc h) 31)).alloc (.cells #[.slice T n c] 34)).alloc (.cells (Tm.vc r) 52)) h T n c r := by
  have h0 := O2.start w h T n c
  have h2 := Bx.new ((w.alloc (.cells (hc h) 31)).alloc (.cells #[.slice T n c] 34)) 52 (Tm.vc r)
  rw [World.size_alloc, World.size_alloc] at h2
  exact ⟨h0.b.alloc h0.b.size _, h0.x.alloc _, h0.y.alloc _, h2⟩
theorem ahead_is {h x : Hi} {vs : List Ve} {s1 s2 : List Sc} {c : Ch} (H : OfIs h vs 0 s1) (K : OfIs x vs 0 s2) (e1 : x.s = h.s) (e2 : x.r = h.r) (e3 : x.cs = h.cs) (e4 : x.hs = h.hs ++ [c]) {d : Int} (hd : d < c.dy) :
    (s1.find? (fun y => inn y.s d)).isSome = (s2.find? (fun y => inn y.s d)).isSome ∧ (Sc.mk ((s2.find? (fun y => inn y.s d)).getD zsc).s ((s1.find? (fun y => inn y.s d)).getD zsc).h ((s1.find? (fun y => inn y.s d)).getD zsc).y = (s2.find? (fun y => inn y.s d)).getD zsc) := by
  obtain ⟨hr, hc, o, L, hO, hC, hb, rfl⟩ := H.ok
  obtain ⟨kr, kc, o', K', kO, kC, kb, rfl⟩ := K.ok
  have hsp := hrt_span hr
  rw [e1] at kC kb ⊢
  have hini : ini x = ini h := by unfold ini; rw [e2, e3]
  rw [hini, e4] at kC
  rw [e4] at kO
  by_cases hin : h.s.1 ≤ d ∧ d < h.s.2
  · obtain ⟨y, hy1, hy2, hy3, hy4⟩ := find_in (q := qf (Trf.tol h.s.1 vs)) hC hsp.1 hsp.2.2.1 hin.1 hin.2
    obtain ⟨z, hz1, hz2, hz3, hz4⟩ := find_in (q := qf (Trf.tol h.s.1 vs)) kC hsp.1 hsp.2.2.1 hin.1 hin.2
    rw [hy1, hz1]
    refine ⟨rfl, ?_⟩
    show Sc.mk z.s y.h y.y = z
    rw [hld_ahead hO kO hd] at hz4
    rw [hy4]
    conv => rhs; rw [hz4]
    rfl
  · rw [find_out hC hin, find_out kC hin]
    exact ⟨rfl, rfl⟩
theorem P3.moved {w W W' : World} {h : Hr} {T : Option Addr} {n c g : Nat} {r : Tm.Rw} (H : P3 w W h T n c r) (hb : Below w.heap.size w W') (hg : w.heap.size + 3 ≤ g) (hk : ∀ b, b < W.heap.size → b ≠ g → W'.heap[b]? = W.heap[b]?) : P3 w W' h T n c r :=
  ⟨hb, (hk _ H.x.lt (by omega)).trans H.x, (hk _ H.y.lt (by omega)).trans H.y, (hk _ H.v.lt (by omega)).trans H.v⟩
theorem hm_more {w W : World} {h : Hr} {A : Option Addr} {c N base : Nat} {es : List Tm.Rw} (M : HM w (· < w.heap.size) h) (hb : Below w.heap.size w W) (hO : Tm.Own W base A N c (h.rs ++ es)) (hes : ∀ r ∈ es, Cvs W (· < W.heap.size) r.A r.n r.v.cs) : HM W (· < W.heap.size) (hmore h A c es N) :=
  ⟨(M.below hb).t, hO.raws.keep (fun _ _ => rfl) (fun b hb => hb.2), fun r hr => by
    rcases List.mem_append.1 hr with hr | hr
    · exact (M.below hb).k r hr
    · exact hes r hr⟩
theorem hs_more {W : World} {h : Hr} {A : Option Addr} {c N base : Nat} {es : List Tm.Rw} (S : HS h) (hN : N ≤ 2000) (hO : Tm.Own W base A N c (h.rs ++ es)) (hes : ∀ r ∈ es, r.n ≤ 3000) : HS (hmore h A c es N) :=
  ⟨S.n, hN, (fun r hr => by
    rcases List.mem_append.1 hr with hr | hr
    · exact S.k r hr
    · exact hes r hr), (own_fitsC hO).2, (own_fitsC hO).1⟩
theorem hv_more (h : Hr) (A : Option Addr) (c N : Nat) (es : List Tm.Rw) : (hmore h A c es N).v = ⟨h.id, h.bk, h.s, h.r, h.cs, h.v.hs ++ es.map Tm.Rw.v⟩ := by
  show Hi.mk _ _ _ _ _ ((h.rs ++ es).map Tm.Rw.v) = _
  rw [List.map_append]; rfl
/-- What reads as covers lies not in the box of a slice. -/
theorem cvs_apart {w : World} {ok : Nat → Prop} {A : Option Addr} {n g : Nat} {cs : List Co} {r : Rw} (h : Cvs w ok A n cs) (hx : Bx w g 43 (vc r)) : Cvs w (fun b => ok b ∧ b ≠ g) A n cs := by
  refine ⟨h.1, fun hn => ?_⟩
  obtain ⟨ad, e, hb, hc⟩ := h.2 hn
  refine ⟨ad, e, ⟨hb, fun hg => ?_⟩, hc⟩
  obtain ⟨c, hc0⟩ : ∃ c, cs[0]? = some c := ⟨cs[0]'(by have := h.1; omega), List.getElem?_eq_getElem (by have := h.1; omega)⟩
  have F := hc 0 c hc0
  obtain ⟨b, o, q⟩ := ad
  simp only at hg
  subst hg
  obtain ⟨f0, f1, f2, f3, f4⟩ := F
  simp [Addr.add] at f0 f1 f2 f3 f4
  cases q with
  | some q =>
    unfold Bx at hx
    simp [World.cell?, hx] at f0
  | none =>
    have hq : ∀ k (v : Value), w.cell? ⟨b, k, none⟩ = some v → (vc r)[k]? = some v := fun k v hv => by rw [← hv]; exact (hx.c k).symm
    have g0 := hq _ _ f0
    have g1 := hq _ _ f1
    have g2 := hq _ _ f2
    have g3 := hq _ _ f3
    have g4 := hq _ _ f4
    have hk : o + 4 < 9 := by
      rcases Nat.lt_or_ge (o + 4) 9 with h9 | h9
      · exact h9
      · rw [Array.getElem?_eq_none (by simpa using h9)] at g4; cases g4
    match o, hk with
    | 0, _ => simp at g2
    | 1, _ => simp at g1
    | 2, _ => simp at g0
    | 3, _ => simp at g4
    | 4, _ => simp at g3
set_option maxRecDepth 100000 in
set_option maxHeartbeats 4000000 in
theorem walk_SlicesAhead {w : World} (h : Hr) (G : GivenH w h) (T : Option Addr) (nt ct : Nat) (vs : List Trf.Rw) (GT : Trf.GivenT w T nt ct vs) (r : Tm.Rw) (GR : GivenR w r) (day : Int) (hday : 0 ≤ day ∧ day ≤ 4294967295) : Calls Tryz.prog 7 #[hg h, Trf.tg T nt ct, Tm.vg r, .int .u32 day] w (Yes w true) := by
  obtain ⟨W, hW⟩ : ∃ W, (((w.alloc (.cells (hc h) 31)).alloc (.cells #[.slice T nt ct] 34)).alloc (.cells (Tm.vc r) 52)) = W := ⟨_, rfl⟩
  have H0 := Lib.hid (show P3 w W h T nt ct r by rw [← hW]; exact P3.start w h T nt ct r)
  have HW := Lib.hid hW
  have HG := Lib.hid G
  have HGT := Lib.hid GT
  have HGR := Lib.hid GR
  have lr := GR.m
  clear hW G GT GR
  go_enter Tryz.func7, Tryz.ntmps7
  go_upto_region 1 with fail
  rw [HW.out]
  clear HW
  go_wp2_with fail
  refine (awake12 _).mono ?_
  rintro e w1 ⟨rfl, hb1⟩
  have H1 := Lib.hid (H0.out.next hb1)
  clear hb1 H0
  have x0 := H1.out.x.c 0
  have x1 := H1.out.x.c 1
  have x2 := H1.out.x.c 2
  have x3 := H1.out.x.c 3
  have x4 := H1.out.x.c 4
  have x5 := H1.out.x.c 5
  have x6 := H1.out.x.c 6
  have x7 := H1.out.x.c 7
  have x8 := H1.out.x.c 8
  have x9 := H1.out.x.c 9
  simp at x0 x1 x2 x3 x4 x5 x6 x7 x8 x9
  have y0 := H1.out.y.c 0
  simp at y0
  have C := Lib.hid (few12 h T nt ct vs w1 (gh_below HG.out H1.out.b) (gt_below HGT.out H1.out.b))
  go_wp2_with fail
  refine C.out.mono ?_
  rintro e w2 ⟨b, rfl, hb2, hs⟩
  have H2 := Lib.hid (H1.out.next hb2)
  have HS0 := Lib.hid hs
  clear hb2 hs C x0 x1 x2 x3 x4 x5 x6 x7 x8 x9 y0 H1
  cases b
  · go_wp2
    go_ret
    exact ⟨rfl, H2.out.b⟩
  have HS := Lib.hid (HS0.out rfl)
  clear HS0
  have HM60 := Lib.hid HS.out.m
  have hm60 := HS.out.m
  have x0 := H2.out.x.c 0
  have x1 := H2.out.x.c 1
  have x2 := H2.out.x.c 2
  have x3 := H2.out.x.c 3
  have x4 := H2.out.x.c 4
  have x5 := H2.out.x.c 5
  have x6 := H2.out.x.c 6
  have x7 := H2.out.x.c 7
  have x8 := H2.out.x.c 8
  have x9 := H2.out.x.c 9
  simp at x0 x1 x2 x3 x4 x5 x6 x7 x8 x9
  have y0 := H2.out.y.c 0
  simp at y0
  have v7 := H2.out.v.c 7
  simp at v7
  by_cases q1 : h.m ≤ 59
  case neg =>
    have u1 : decide ((59 : Int) < (h.m : Int)) = true := decide_eq_true (by omega)
    go_wp2
    go_ret
    exact ⟨rfl, H2.out.b⟩
  have u1 : decide ((59 : Int) < (h.m : Int)) = false := decide_eq_false (by omega)
  by_cases q2 : r.n ≤ 50
  case neg =>
    have u2 : decide ((50 : Int) < (r.n : Int)) = true := decide_eq_true (by omega)
    go_wp2
    go_ret
    exact ⟨rfl, H2.out.b⟩
  have u2 : decide ((50 : Int) < (r.n : Int)) = false := decide_eq_false (by omega)
  have HQ := Lib.hid (And.intro q1 q2)
  clear q1 q2
  obtain ⟨W3, hW3⟩ : ∃ W3, w2.alloc (.cells (hc h) 31) = W3 := ⟨_, rfl⟩
  have hal : Below w2.heap.size w2 W3 := hW3 ▸ alloc_ _ _
  obtain ⟨g11, hg11⟩ : ∃ g11, w2.heap.size = g11 := ⟨_, rfl⟩
  have H3 := Lib.hid (H2.out.next hal)
  have HB3 := Lib.hid (show Bx W3 g11 31 (hc h) by rw [← hg11, ← hW3]; exact Bx.new _ _ _)
  have HLT := Lib.hid (show w.heap.size + 3 ≤ g11 ∧ g11 < W3.heap.size from ⟨by rw [← hg11]; exact H2.out.v.lt, by rw [← hg11, ← hW3]; simp⟩)
  have HW3 := Lib.hid hW3
  clear hal hW3
  go_upto_region 6 with fail
  rw [HW3.out]
  clear HW3 hg11 x0 x1 x2 x3 x4 x5 x6 x7 x8 x9 y0 v7 u1 u2 H2
  refine wp_region_steps (fun L_ a_ w_ => ∃ (v41 v42 v43 v44 v45 v46 v47 v48 : Value), a_ = { tmps := #[hg h, Trf.tg T nt ct, Tm.vg r, .int .u32 day, .pointer (some ⟨w.heap.size, 0, none⟩), .pointer (some ⟨w.heap.size + 1, 0, none⟩), .pointer (some ⟨w.heap.size + 1 + 1, 0, none⟩), undef, .bool false, .bool true, .bool true, .pointer (some ⟨g11, 0, none⟩), undef, undef, undef, undef, undef, undef, undef, undef, undef, .bool true, .agg #[.int .i64 h.id, .int .i64 h.bk, .int .i64 h.s.fst, .int .i64 h.s.snd, .int .i64 h.r.k, .int .i64 h.r.v, .int .i64 h.r.a, .int .i64 h.r.z, .slice h.A h.n h.c, .slice h.B h.m h.d], .agg #[.slice T nt ct], .bool true, .bool true, .bool false, .bool false, .pointer (some ⟨w.heap.size, 9, none⟩), .slice h.B h.m h.d, .int .i64 (h.m : Int), .bool false, .bool false, .bool false, .pointer (some ⟨w.heap.size + 1 + 1, 7, none⟩), .slice r.A r.n r.c, .int .i64 (r.n : Int), .bool false, .bool false, undef, .agg #[.int .i64 h.id, .int .i64 h.bk, .int .i64 h.s.fst, .int .i64 h.s.snd, .int .i64 h.r.k, .int .i64 h.r.v, .int .i64 h.r.a, .int .i64 h.r.z, .slice h.A h.n h.c, .slice h.B h.m h.d], v41, v42, v43, v44, v45, v46, v47, v48, undef, undef, undef, undef, undef, undef, undef, undef, undef, undef, undef, undef, undef, undef, undef, undef, undef, undef, undef, undef, undef, undef, undef, undef, undef, undef, undef, undef, undef, undef, undef, undef, undef, undef, undef, undef, undef, undef, undef, undef, undef, undef, undef, undef, undef, undef, undef, undef, undef, undef, undef, undef, undef, undef, undef, undef, undef, undef], defers := [] } ∧ Hid (K6 w W3 h w.heap.size g11 r L_ w_ v41 v42 v43 v44 v45 v46 v47 v48)) (by kernel_rfl) (by kernel_rfl) ?_ (AllSteps.cons ?_ (AllSteps.cons ?_ (AllSteps.cons ?_ (AllSteps.cons ?_ (AllSteps.cons ?_ (AllSteps.cons ?_ (AllSteps.cons ?_ (AllSteps.cons ?_ (AllSteps.cons ?_ AllSteps.nil))))))))) ?_
  · exact ⟨_, _, _, _, _, _, _, _, rfl, Lib.hid ⟨H3.out.b.size, (H3.out.b).trans ⟨rfl, rfl, rfl, Nat.le_refl _, fun _ _ => rfl⟩, (fun _ => ⟨rfl, rfl, rfl, Nat.le_refl _, fun _ _ => rfl⟩), (fun h => by cases h), (fun h => by cases h), (fun h => by cases h), (fun h => by cases h), (fun h => by cases h), (fun h => by cases h), (fun h => by cases h), (fun h => by cases h), (fun h => by cases h), (fun h => by cases h), (fun h => by cases h), (fun h => by cases h), (fun h => by cases h), (fun h => by cases h), (fun h => by cases h), (fun h => by cases h), (fun h => by cases h)⟩⟩
  · rintro L_ a_ w_ hL hd ⟨v41, v42, v43, v44, v45, v46, v47, v48, rfl, HR⟩ K hK
    have HR2 := Lib.hid (HR.out.s0 hL)
    clear hd
    go_simp
    exact hK.out _ _ ⟨_, _, _, _, _, _, _, _, rfl, Lib.hid HR2.out⟩
  · rintro L_ a_ w_ hL hd ⟨v41, v42, v43, v44, v45, v46, v47, v48, rfl, HR⟩ K hK
    clear hd
    go_simp
    exact hK.out _ _ ⟨_, _, _, _, _, _, _, _, rfl, Lib.hid (HR.out.s1 rfl)⟩
  · rintro L_ a_ w_ hL hd ⟨v41, v42, v43, v44, v45, v46, v47, v48, rfl, HR⟩ K hK
    have HE := Lib.hid (HR.out.e (no8 HR.out.d_st_ld hL))
    have e1 := HR.out.f1 (hd ⟨1, .data⟩ (by simp) rfl)
    subst e1
    have hx := H3.out.x.keep HE.out
    have x9 := hx.c 9
    simp at x9
    clear hx
    clear hd
    go_simp
    exact hK.out _ _ ⟨_, _, _, _, _, _, _, _, rfl, Lib.hid (HR.out.s2 rfl)⟩
  · rintro L_ a_ w_ hL hd ⟨v41, v42, v43, v44, v45, v46, v47, v48, rfl, HR⟩ K hK
    have h0 := hd ⟨0, .data⟩ (by simp) rfl
    obtain ⟨g1, e0, hl0, hw0, ho0⟩ := HR.out.f0 h0
    subst e0
    have e2 := HR.out.f2 (hd ⟨2, .data⟩ (by simp) rfl)
    subst e2
    have HE := Lib.hid (HR.out.e (HR.out.n4 (HR.out.n2 hL)))
    refine Tm.step_app w_ rfl (.tmp 41) (.tmp 43) rfl W3.heap.size (some ⟨g1, 0, none⟩) 0 0 [] rfl (ho0 hL) (· < w_.heap.size) h.B h.m h.d h.rs rfl (HG.out.M.below (H3.out.next HE.out).b).r HG.out.z h.m (Nat.zero_add _) (by have := HM60.out; omega) HE.out.size ?_
    intro A1 c1 w5 hO hg
    exact hK.out _ _ ⟨_, _, _, _, _, _, _, _, rfl, Lib.hid (HR.out.s3 hL h0 rfl hw0 hO hg)⟩
  · rintro L_ a_ w_ hL hd ⟨v41, v42, v43, v44, v45, v46, v47, v48, rfl, HR⟩ K hK
    have HE := Lib.hid (HR.out.e (no8 HR.out.d_st_el hL))
    have hx := H3.out.v.keep HE.out
    have x0 := hx.c 0
    have x1 := hx.c 1
    have x2 := hx.c 2
    have x3 := hx.c 3
    have x4 := hx.c 4
    have x5 := hx.c 5
    have x6 := hx.c 6
    have x7 := hx.c 7
    have x8 := hx.c 8
    simp at x0 x1 x2 x3 x4 x5 x6 x7 x8
    clear hx
    clear hd
    go_simp
    exact hK.out _ _ ⟨_, _, _, _, _, _, _, _, rfl, Lib.hid (HR.out.s4 rfl)⟩
  · rintro L_ a_ w_ hL hd ⟨v41, v42, v43, v44, v45, v46, v47, v48, rfl, HR⟩ K hK
    have e4 := HR.out.f4 (hd ⟨4, .data⟩ (by simp) rfl)
    subst e4
    have HR2 := Lib.hid (HR.out.s5 hL)
    clear hd
    go_simp
    exact hK.out _ _ ⟨_, _, _, _, _, _, _, _, rfl, Lib.hid HR2.out⟩
  · rintro L_ a_ w_ hL hd ⟨v41, v42, v43, v44, v45, v46, v47, v48, rfl, HR⟩ K hK
    have h3 := hd ⟨3, .data⟩ (by simp) rfl
    have hb := hd ⟨5, .data⟩ (by simp) rfl
    obtain ⟨A1, c1, e3, ho3⟩ := HR.out.f3 h3
    subst e3
    obtain ⟨g2, eb, hxb, _⟩ := HR.out.f5 hb
    subst eb
    have HE := Lib.hid (HR.out.e (HR.out.n4 hL))
    refine Tm.step_app w_ rfl (.tmp 44) (.tmp 46) rfl W3.heap.size A1 h.m c1 h.rs rfl (ho3 hL) (· < w_.heap.size) (some ⟨g2, 0, none⟩) 1 1 [r] rfl (raws_boxC (hxb hL)) (fun e => by cases e) (h.m + 1) rfl (by have := HM60.out; omega) HE.out.size ?_
    intro A2 c2 w5 hO hg
    exact hK.out _ _ ⟨_, _, _, _, _, _, _, _, rfl, Lib.hid (HR.out.s6 hL h3 hb (ho3 hL) hO hg)⟩
  · rintro L_ a_ w_ hL hd ⟨v41, v42, v43, v44, v45, v46, v47, v48, rfl, HR⟩ K hK
    clear hd
    go_simp
    exact hK.out _ _ ⟨_, _, _, _, _, _, _, _, rfl, Lib.hid (HR.out.s7 rfl)⟩
  · rintro L_ a_ w_ hL hd ⟨v41, v42, v43, v44, v45, v46, v47, v48, rfl, HR⟩ K hK
    have h6 := hd ⟨6, .data⟩ (by simp) rfl
    obtain ⟨A2, c2, e6, ho6⟩ := HR.out.f6 h6
    subst e6
    have e7 := HR.out.f7 (hd ⟨7, .data⟩ (by simp) rfl)
    subst e7
    have hst_fa := hd ⟨1, .phase⟩ (by simp) rfl
    have hst_ld := hd ⟨2, .phase⟩ (by simp) rfl
    have hst_el := hd ⟨4, .phase⟩ (by simp) rfl
    have hst_fa2 := hd ⟨7, .data⟩ (by simp) rfl
    have hy2 := (HB3.out).keep (HR.out.e hL)
    have fy := hy2.f
    have y9 := hy2.c 9
    simp at y9
    have HR2 := Lib.hid (HR.out.s8 hL h6 hst_fa hst_ld hst_el hst_fa2 (by have := HLT.out; omega) HLT.out.2 (HB3.out) (rfl) ho6)
    clear hd ho6 hy2
    go_simp
    exact hK.out _ _ ⟨_, _, _, _, _, _, _, _, rfl, Lib.hid HR2.out⟩
  · rintro L_ a_ w_ hL ⟨v41, v42, v43, v44, v45, v46, v47, v48, rfl, HR⟩
    obtain ⟨A5, c5, hO5, hY5, hK5⟩ := HR.out.f8 (hL 8 (by decide))
    have H7 := Lib.hid (H3.out.moved HR.out.b HLT.out.1 hK5)
    have HX7 := Lib.hid hY5
    have HO7 := Lib.hid hO5
    clear HR hL hO5 hY5 hK5
    have HMX := Lib.hid (hm_more HG.out.M H7.out.b HO7.out (fun q hq => by rw [List.mem_singleton] at hq; subst hq; exact HGR.out.c.below H7.out.b))
    have HSX := Lib.hid (hs_more (HS.out.hs HG.out) (by have := HM60.out; omega) HO7.out (fun q hq => by rw [List.mem_singleton] at hq; subst hq; exact Nat.le_trans HQ.out.2 (by omega)))
    obtain ⟨hx, hhx⟩ : ∃ hx, hmore h A5 c5 [r] (h.m + 1) = hx := ⟨_, rfl⟩
    have HHX := Lib.hid hhx
    have HVX := Lib.hid (show hx.v = ⟨h.id, h.bk, h.s, h.r, h.cs, h.v.hs ++ [r.v]⟩ by rw [← hhx]; exact hv_more _ _ _ _ _)
    have HMN := Lib.hid (show hx.m ≤ 100 by rw [← hhx]; show h.m + 1 ≤ 100; have := HM60.out; omega)
    rw [hhx] at HX7 HMX HSX
    clear hhx HO7 hm60
    dsimp only [Exit.then]
    go_step
    have x0 := H7.out.x.c 0
    have x1 := H7.out.x.c 1
    have x2 := H7.out.x.c 2
    have x3 := H7.out.x.c 3
    have x4 := H7.out.x.c 4
    have x5 := H7.out.x.c 5
    have x6 := H7.out.x.c 6
    have x7 := H7.out.x.c 7
    have x8 := H7.out.x.c 8
    have x9 := H7.out.x.c 9
    simp at x0 x1 x2 x3 x4 x5 x6 x7 x8 x9
    have y0 := H7.out.y.c 0
    simp at y0
    have C := Lib.hid (of_ h T nt ct vs w_ (HG.out.M.below H7.out.b) (HS.out.hs HG.out) (Nat.le_trans HS.out.m (by omega)) (HS.out.vers (gt_below HGT.out H7.out.b)) (Nat.le_trans HS.out.t (by omega)))
    go_wp2_with fail
    refine C.out.mono ?_
    rintro e w8 ⟨A7, n7, c7, rs7, cd7, rfl, hs7, hn7, hi7, hb8⟩
    have H8 := Lib.hid (H7.out.next hb8)
    have HL7 := Lib.hid hs7
    have HIS7 := Lib.hid hi7
    have HX8 := Lib.hid (HX7.out.keep hb8)
    have HMX8 := Lib.hid (HMX.out.below hb8)
    clear hb8 hs7 hi7 C x0 x1 x2 x3 x4 x5 x6 x7 x8 x9 y0 H7 HX7 HMX
    have C := Lib.hid (of_ hx T nt ct vs w8 HMX8.out HSX.out HMN.out (HS.out.vers (gt_below HGT.out H8.out.b)) (Nat.le_trans HS.out.t (by omega)))
    have y0 := H8.out.y.c 0
    simp at y0
    have z0 := HX8.out.c 0
    have z1 := HX8.out.c 1
    have z2 := HX8.out.c 2
    have z3 := HX8.out.c 3
    have z4 := HX8.out.c 4
    have z5 := HX8.out.c 5
    have z6 := HX8.out.c 6
    have z7 := HX8.out.c 7
    have z8 := HX8.out.c 8
    have z9 := HX8.out.c 9
    simp at z0 z1 z2 z3 z4 z5 z6 z7 z8 z9
    go_wp2_with fail
    refine C.out.mono ?_
    rintro e w9 ⟨A8, n8, c8, rs8, cd8, rfl, hs8, hn8, hi8, hb9⟩
    have H9 := Lib.hid (H8.out.next hb9)
    have HL7b := Lib.hid (HL7.out.below hb9)
    have HL8 := Lib.hid hs8
    have HIS8 := Lib.hid hi8
    clear hb9 hs8 hi8 C y0 z0 z1 z2 z3 z4 z5 z6 z7 z8 z9 H8 HL7 HX8 HMX8
    by_cases p1 : cd7 = 0
    case neg =>
      have t1 : decide (cd7 = 0) = false := decide_eq_false p1
      go_wp2
      go_ret
      exact ⟨rfl, H9.out.b⟩
    by_cases p2 : cd8 = 0
    case neg =>
      subst p1
      have t1 : decide (cd8 = 0) = false := decide_eq_false p2
      go_wp2
      go_ret
      exact ⟨rfl, H9.out.b⟩
    subst p1 p2
    have HR7 := Lib.hid (HIS7.out.ok.1)
    have hsp := hrt_span HR7.out
    have hsp1 : 1 ≤ h.s.1 ∧ h.s.1 < h.s.2 ∧ h.s.2 ≤ 292195 ∧ h.s.2 - h.s.1 ≤ 1100 := hsp
    have HSP := Lib.hid hsp1
    clear hsp hsp1
    have v1 := H9.out.v.c 1
    simp at v1
    obtain ⟨dy, hdy⟩ : ∃ dy, r.v.dy = dy := ⟨_, rfl⟩
    rw [hdy] at v1
    have HDY := Lib.hid hdy
    have x0 := H9.out.x.c 0
    have x1 := H9.out.x.c 1
    have x2 := H9.out.x.c 2
    have x3 := H9.out.x.c 3
    have x4 := H9.out.x.c 4
    have x5 := H9.out.x.c 5
    have x6 := H9.out.x.c 6
    have x7 := H9.out.x.c 7
    have x8 := H9.out.x.c 8
    have x9 := H9.out.x.c 9
    simp at x0 x1 x2 x3 x4 x5 x6 x7 x8 x9
    have y0 := H9.out.y.c 0
    simp at y0
    clear hdy
    go_upto_region 12 with fail
    obtain ⟨d, hd⟩ : ∃ d, wrap64 (h.s.1 + day % 1100) = d := ⟨_, rfl⟩
    rw [hd]
    clear hd
    by_cases hdd : dy ≤ d
    case pos =>
      have t1 : decide (dy ≤ d) = true := decide_eq_true hdd
      go_wp2
      go_ret
      exact ⟨rfl, H9.out.b⟩
    have t1 : decide (dy ≤ d) = false := decide_eq_false hdd
    have HAH := Lib.hid (ahead_is HIS7.out HIS8.out (by rw [HVX.out]; rfl) (by rw [HVX.out]; rfl) (by rw [HVX.out]; rfl) (by rw [HVX.out]) (c := r.v) (d := d) (by rw [HDY.out]; omega))
    have C7 := Lib.hid (at_ A7 n7 c7 rs7 d w9 HL7b.out (by omega))
    obtain ⟨f7, hf7⟩ : ∃ f, fnd rs7 d = f := ⟨_, rfl⟩
    obtain ⟨f8, hf8⟩ : ∃ f, fnd rs8 d = f := ⟨_, rfl⟩
    have HAH2 := Lib.hid (show f7.isSome = f8.isSome ∧ Sc.mk (f8.getD zsc).s (f7.getD zsc).h (f7.getD zsc).y = f8.getD zsc by rw [← hf7, ← hf8]; exact HAH.out)
    rw [hf7] at C7
    have HF8 := Lib.hid hf8
    obtain ⟨u, hu⟩ : ∃ u, f7.isSome = u := ⟨_, rfl⟩
    have HU := Lib.hid hu
    have HU8 := Lib.hid (show f8.isSome = u by rw [← HAH2.out.1]; exact hu)
    clear hf7 hf8 hu HAH hdd
    go_wp2_with fail
    clear v1 x0 x1 x2 x3 x4 x5 x6 x7 x8 x9 y0 t1
    refine C7.out.mono ?_
    rintro e w10 ⟨p1, rfl, hv1, hg1, hb10⟩
    rw [HU.out]
    obtain ⟨W10, hW10⟩ : ∃ W10, w10.alloc (.cells (vc p1) 43) = W10 := ⟨_, rfl⟩
    have hal : Below w10.heap.size w10 W10 := hW10 ▸ alloc_ _ _
    obtain ⟨g17, hg17⟩ : ∃ g17, w10.heap.size = g17 := ⟨_, rfl⟩
    have H10 := Lib.hid (H9.out.next (hb10.trans (hal.mono hb10.size)))
    have HL10 := Lib.hid (HL8.out.below (hb10.trans (hal.mono hb10.size)))
    have HP10 := Lib.hid (show Bx W10 g17 43 (vc p1) by rw [← hg17, ← hW10]; exact Bx.new _ _ _)
    have HG10 := Lib.hid (hg1.below hal)
    have HLO := Lib.hid (show w.heap.size ≤ g17 by rw [← hg17]; exact Nat.le_trans H9.out.b.size hb10.size)
    have HV1 := Lib.hid hv1
    have HW10 := Lib.hid hW10
    clear hb10 hal hg1 hv1 hW10 C7 H9
    go_upto_region 15 with fail
    rw [HW10.out]
    clear HW10 hg17
    have C8 := Lib.hid (at_ A8 n8 c8 rs8 d W10 HL10.out (by omega))
    rw [HF8.out] at C8
    go_wp2_with fail
    refine C8.out.mono ?_
    rintro e w11 ⟨p2, rfl, hv2, hg2, hb11⟩
    rw [HU8.out]
    obtain ⟨W11, hW11⟩ : ∃ W11, w11.alloc (.cells (vc p2) 43) = W11 := ⟨_, rfl⟩
    have hal : Below w11.heap.size w11 W11 := hW11 ▸ alloc_ _ _
    have hb := hb11.trans (hal.mono hb11.size)
    obtain ⟨g19, hg19⟩ : ∃ g19, w11.heap.size = g19 := ⟨_, rfl⟩
    have H11 := Lib.hid (H10.out.next hb)
    have HP11 := Lib.hid (HP10.out.keep hb)
    have HQ11 := Lib.hid (show Bx W11 g19 43 (vc p2) by rw [← hg19, ← hW11]; exact Bx.new _ _ _)
    have HGG := Lib.hid (And.intro (HG10.out.below hb) (hg2.below hal))
    have HNE := Lib.hid (show g17 ≠ g19 by have := HP10.out.lt; have := hb11.size; omega)
    have HV2 := Lib.hid hv2
    have HW11 := Lib.hid hW11
    clear hb hb11 hal hg2 hv2 hW11 C8 H10 HP10 HG10 HL10
    go_upto_region 16 with fail
    rw [HW11.out]
    clear HW11 hg19
    have b0 := HQ11.out.c 0
    have b1 := HQ11.out.c 1
    simp at b0 b1
    have fy := HP11.out.f
    have z0 := HP11.out.c 0
    have z1 := HP11.out.c 1
    have z2 := HP11.out.c 2
    have z3 := HP11.out.c 3
    have z4 := HP11.out.c 4
    have z5 := HP11.out.c 5
    have z6 := HP11.out.c 6
    have z7 := HP11.out.c 7
    have z8 := HP11.out.c 8
    simp at z0 z1 z2 z3 z4 z5 z6 z7 z8
    obtain ⟨W12, hW12⟩ : ∃ W12, sets g17 0 [.int .i64 p2.v.s.1, .int .i64 p2.v.s.2] W11 = W12 := ⟨_, rfl⟩
    have HP12 := Lib.hid (show Bx W12 g17 43 (vc ⟨⟨p2.v.s, p1.v.h, p1.v.y⟩, p1.A, p1.n, p1.c⟩) by
      rw [← hW12]
      have := HP11.out.sets [.int .i64 p2.v.s.1, .int .i64 p2.v.s.2] 0 W11 _
      rwa [setl2] at this)
    have HQ12 := Lib.hid (show Bx W12 g19 43 (vc p2) by rw [← hW12]; exact HQ11.out.sets_far (fun e => HNE.out e.symm) _ _)
    have HB12 := Lib.hid (show Below w.heap.size w W12 by rw [← hW12]; exact sets_below _ HLO.out 0 W11 H11.out.b)
    have KC := Lib.hid (show ∀ a : Addr, a.block ≠ g17 → W12.cell? a = W11.cell? a from fun a ha => by rw [← hW12]; exact sets_other _ ha 0 W11)
    have HSZ := Lib.hid (show W12.heap.size = W11.heap.size by rw [← hW12]; exact sets_size _ 0 W11)
    have HW12 := Lib.hid (show (W11.setCell ⟨g17, 0, none⟩ (.int .i64 p2.v.s.1)).setCell ⟨g17, 1, none⟩ (.int .i64 p2.v.s.2) = W12 from hW12)
    clear hW12
    go_upto_region 17 with fail
    rw [HW12.out]
    clear HW12 b0 b1 fy z0 z1 z2 z3 z4 z5 z6 z7 z8
    have CS : Hid (Calls Tryz.prog 16 #[vg ⟨⟨p2.v.s, p1.v.h, p1.v.y⟩, p1.A, p1.n, p1.c⟩, vg p2] W12 (Yes W12 true)) := Lib.hid (by
      have hgP : Gd W12 ⟨⟨p2.v.s, p1.v.h, p1.v.y⟩, p1.A, p1.n, p1.c⟩ := ⟨(cvs_apart HGG.out.1.c HP11.out).keep (fun a ha => KC.out a ha.2) (fun b hb => by rw [HSZ.out]; exact hb.1), HGG.out.1.n⟩
      have hgQ : Gd W12 p2 := ⟨(cvs_apart HGG.out.2.c HP11.out).keep (fun a ha => KC.out a ha.2) (fun b hb => by rw [HSZ.out]; exact hb.1), HGG.out.2.n⟩
      have := rsame_ ⟨⟨p2.v.s, p1.v.h, p1.v.y⟩, p1.A, p1.n, p1.c⟩ p2 W12 hgP hgQ
      rwa [decide_eq_true (show Sc.mk p2.v.s p1.v.h p1.v.y = p2.v by rw [HV1.out, HV2.out]; exact HAH2.out.2)] at this)
    have z0 := HP12.out.c 0
    have z1 := HP12.out.c 1
    have z2 := HP12.out.c 2
    have z3 := HP12.out.c 3
    have z4 := HP12.out.c 4
    have z5 := HP12.out.c 5
    have z6 := HP12.out.c 6
    have z7 := HP12.out.c 7
    have z8 := HP12.out.c 8
    simp at z0 z1 z2 z3 z4 z5 z6 z7 z8
    have x0 := HQ12.out.c 0
    have x1 := HQ12.out.c 1
    have x2 := HQ12.out.c 2
    have x3 := HQ12.out.c 3
    have x4 := HQ12.out.c 4
    have x5 := HQ12.out.c 5
    have x6 := HQ12.out.c 6
    have x7 := HQ12.out.c 7
    have x8 := HQ12.out.c 8
    simp at x0 x1 x2 x3 x4 x5 x6 x7 x8
    cases u
    all_goals
      go_wp2_with fail
      refine CS.out.mono ?_
      rintro e w13 ⟨rfl, hb13⟩
      have HB13 := Lib.hid (HB12.out.trans (hb13.mono HB12.out.size))
      clear hb13 CS
      go_wp2
      go_ret
      exact ⟨rfl, HB13.out⟩

end Slc
end Go.Proofs.YtkdhcloaeifbdaaGreat
namespace Go.Proofs.YtkdhcloaeifbdaaGreat.slicesAhead
open Go.ChangeShapes Go.WideShapes Go.ChangeAt Go.RowKit Ba Cv Sp Te Ag Tf Sl Slc
set_option linter.unusedVariables false


set_option maxRecDepth 100000 in
theorem lifted (os : Os) (started : os.Started) (H : Type) (enc : TypeId × Value → H) :
    ReturnsInHanded {} Tryz.checked os 7 .any (Rows.slicesAheadSpec.pre6 enc Tryz.prog Tryz.f7 Rows.slicesAheadRow.domain false) (Rows.slicesAheadSpec.post enc Tryz.prog Tryz.f7 false true false false) := by
  refine returnsInHanded_of_change_sized (C := Tryz.checked) Slc.own started (by kernel_rfl) Tryz.func7
    (ChangeSpec.witness6 (enc := enc) (C := Tryz.checked) false ⟨#[], #[.agg #[.int .i64 0, .int .i64 0, .int .i64 0, .int .i64 0, .int .i64 0, .int .i64 0, .int .i64 0, .int .i64 0, .slice none 0 0, .slice none 0 0], .agg #[.slice none 0 0], .agg #[.int .i64 0, .int .i64 0, .int .i64 0, .int .i64 0, .int .i64 0, .int .i64 0, .int .i64 0, .slice none 0 0, .int .i64 0], .int .u32 0], []⟩ 8 (by kernel_rfl) (by kernel_rfl) (by kernel_rfl) (by kernel_rfl)) ?_
  intro W base args ds gs before hval0 hW hcnd hsz0 _
  have hval : ∀ (j : Nat) t v, Tryz.f7.params[j]? = some t → args[j]? = some v → Value.okWide Tryz.prog W .any base t v := hval0
  have hW' := hW
  have hsz : (DataW.weightsEach Tryz.prog (Tryz.f7.params.toList ++ Rows.slicesAheadSpec.plain.varTypes Tryz.prog) (ds ++ gs)).all (· ≤ reachBytes) = true := hsz0
  obtain ⟨p, q, hA0, hV, rfl, hfz, hnd⟩ := hW
  have hA : DataW.TrodAll enc Tryz.prog W 0 (fun _ => true) true Tryz.f7.params.toList args.toList ds p := hA0
  rw [Tryz.params7] at hA hval hsz
  obtain ⟨v0, vs0, d0, ds0, p0, q0, hargs, rfl, rfl, h0, r0⟩ := trodAll_cons hA
  obtain ⟨v1, vs1, d1, ds1, p1, q1, rfl, rfl, rfl, h1, r1⟩ := trodAll_cons r0
  obtain ⟨v2, vs2, d2, ds2, p2, q2, rfl, rfl, rfl, h2, r2⟩ := trodAll_cons r1
  obtain ⟨v3, vs3, d3, ds3, p3, q3, rfl, rfl, rfl, h3, r3⟩ := trodAll_cons r2
  obtain ⟨rfl, rfl, rfl⟩ := trodAll_nil r3
  obtain rfl : args = #[v0, v1, v2, v3] := by cases args; simp_all
  obtain ⟨rfl, rfl⟩ := trodVars_none hV
  have k0 := h0
  have lt0 : ∀ x ∈ p0, x.block < W.heap.size := by obtain ⟨m, hm⟩ := k0; exact DataW.trod_lt m _ _ _ hm
  obtain ⟨y0, rfl, g0⟩ := Slc.open_history (hval 0 31 v0 rfl rfl) h0 (fun k hk => of_decide_eq_true (List.all_eq_true.1 hsz _ (DataW.weights_mem_each (j := 0) rfl rfl k hk)))
  have k1 := h1
  have lt1 : ∀ x ∈ p1, x.block < W.heap.size := by obtain ⟨m, hm⟩ := k1; exact DataW.trod_lt m _ _ _ hm
  obtain ⟨A1, n1, c1, s1, rfl, g1⟩ := Slc.open_tariff (hval 1 34 v1 rfl rfl) h1 (fun k hk => of_decide_eq_true (List.all_eq_true.1 hsz _ (DataW.weights_mem_each (j := 1) rfl rfl k hk)))
  have k2 := h2
  have lt2 : ∀ x ∈ p2, x.block < W.heap.size := by obtain ⟨m, hm⟩ := k2; exact DataW.trod_lt m _ _ _ hm
  obtain ⟨x2, rfl, g2⟩ := Slc.open_change (hval 2 52 v2 rfl rfl) h2 (fun k hk => of_decide_eq_true (List.all_eq_true.1 hsz _ (DataW.weights_mem_each (j := 2) rfl rfl k hk)))
  obtain ⟨a3, rfl, rfl, rfl, w3⟩ := open_int Tryz.underlying48 (hval 3 48 v3 rfl rfl) h3
  clear hA0 hval0 hsz hsz0
  refine (Slc.walk_SlicesAhead y0 g0 A1 n1 c1 s1 g1 x2 g2 a3 (Slc.u32_of w3)).mono fun e W' ⟨he, bel⟩ => ?_
  subst he
  exact ⟨_, rfl, _, _, _, [], _, [], hW', trodAll_mk1 (shut_bool Tryz.underlying4 _), (trodAll_cons_mk (Below.trod Slc.laidOut (by kernel_rfl) (of_decide_eq_true (by kernel_rfl)) k0 bel lt0) (trodAll_cons_mk (Below.trod Slc.laidOut (by kernel_rfl) (of_decide_eq_true (by kernel_rfl)) k1 bel lt1) (trodAll_cons_mk (Below.trod Slc.laidOut (by kernel_rfl) (of_decide_eq_true (by kernel_rfl)) k2 bel lt2) (trodAll_cons_mk (shut_int Tryz.underlying48 w3) trodAll_mk0)))), rfl, bel.frame _, fun h => by cases h⟩

theorem over : Rows.slicesAheadRow.holds Tryz.pinned (OpenSpec.ofChange Rows.slicesAheadSpec) :=
  OpenClaim.holds_of_wide 7 Tryz.f7 rfl rfl rfl rfl rfl rfl rfl ⟨rfl, rfl, rfl, rfl, rfl⟩ rfl rfl rfl rfl rfl (by kernel_rfl) Tryz.func7 (by kernel_rfl)
    (of_decide_eq_true (by kernel_rfl)) (by unfold Func.isWrapper; first | (rw [if_pos (by decide +kernel)]; kernel_rfl) | (rw [if_neg (by decide +kernel)]; exact ⟨rfl, rfl⟩))
    (fun os started H enc _ => lifted os started H enc)

theorem proved : Rows.SlicesAheadSaid := over
end Go.Proofs.YtkdhcloaeifbdaaGreat.slicesAhead
