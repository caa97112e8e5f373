/-
  The statement SlicesLast holds: for every input the call returns true, and each argument reads afterwards as it read before. Conditions: none beside those that the row itself bears.
-/
import Derived.Test.YtkdhcloaeifbdaaGreatKLast12
namespace Go.Proofs.YtkdhcloaeifbdaaGreat
open Go.RowKit Ba Cv Sp Te Ag Tf Sl Tm
namespace Slc
set_option linter.unusedVariables false

theorem own_lowC {w : World} {base base' n c : Nat} {A : Option Addr} {xs : List Tm.Rw} (h : Tm.Own w base A n c xs) (hb : base' ≤ base) : Tm.Own w base' A n c xs := by
  refine ⟨h.1, ?_⟩
  rcases h.2 with h | ⟨g, cap, cur, e, hb2, r⟩
  · exact .inl h
  · exact .inr ⟨g, cap, cur, e, Nat.le_trans hb hb2, r⟩
theorem own_farC {w : World} {base n c : Nat} {A : Option Addr} {rs : List Tm.Rw} (h : Tm.Own w base A n c rs) {a : Addr} (hp : a.block < base) (u : Value) : Tm.Own (w.setCell a u) base A n c rs := by
  refine ⟨h.1, ?_⟩
  rcases h.2 with h | ⟨g, cap, cur, e, hb, hh, r⟩
  · exact .inl h
  · exact .inr ⟨g, cap, cur, e, hb, (Below.heap_setCell w a u g (by omega)).trans hh, r⟩
theorem own_fitsC {w : World} {base n c : Nat} {A : Option Addr} {xs : List Tm.Rw} (h : Tm.Own w base A n c xs) : n ≤ c ∧ (A = none → n = 0 ∧ c = 0) := by
  rcases h.2 with ⟨e, hn⟩ | ⟨g, cap, cur, e, _, _, hnc, _⟩
  · injection e with e1 e2 e3; exact ⟨by omega, fun _ => ⟨hn, e3⟩⟩
  · injection e with e1 e2 e3; subst e3; exact ⟨hnc, fun h0 => by rw [e1] at h0; cases h0⟩
theorem raws_boxC {w : World} {g : Nat} {es : List Tm.Rw} (h : Bx w g 52 (Tm.cel es).toArray) : Tm.Raws w (· < w.heap.size) (some ⟨g, 0, none⟩) es.length es := by
  refine ⟨rfl, fun _ => ⟨_, rfl, h.lt, fun j x hx => Tm.nin_of fun o u hu => ?_⟩⟩
  have ho : o < 9 := (List.getElem?_eq_some_iff.1 hu).1
  rw [Addr.add_lit, Nat.zero_add]
  have := h.c (j * 9 + o)
  rw [this]
  show (Tm.cel es).toArray[j * 9 + o]? = some u
  rw [List.getElem?_toArray]
  exact (Tm.cel_get hx ho).trans hu
abbrev hmore (h : Hr) (A : Option Addr) (c : Nat) (es : List Tm.Rw) (N : Nat) : Hr := ⟨h.id, h.bk, h.s, h.r, h.A, h.n, h.c, h.cs, A, N, c, h.rs ++ es⟩
theorem gb_block {w w' : World} {g n c : Nat} (hg : w.grownBy w' (Value.slice (some ⟨g, 0, none⟩) n c).ownBlock) {b : Nat} (hb : b < w.heap.size) (hne : g ≠ b) : w'.heap[b]? = w.heap[b]? := hg.block b hb (by simp [Value.ownBlock]; omega)
abbrev rwN (d k : Int) (x : Ri) : Tm.Rw := ⟨⟨1, d, k, x, [], 0⟩, none, 0, 0⟩
structure K18 (w0 W : World) (h : Hr) (b0 g11 : Nat) (r s : Tm.Rw) (L : Nat → Bool) (w' : World) (v41 v42 v43 v44 v45 v46 v47 v48 v49 : Value) : Prop where
  lo : w0.heap.size ≤ W.heap.size
  b : Below w0.heap.size w0 w'
  e : L 9 = false → Below W.heap.size W w'
  f0 : L 0 = true → ∃ g1, v41 = .slice (some ⟨g1, 0, none⟩) 0 0 ∧ g1 < w'.heap.size ∧ W.heap.size ≤ g1 ∧ (L 3 = false → Tm.Own w' W.heap.size (some ⟨g1, 0, none⟩) 0 0 [])
  f1 : L 1 = true → v42 = .pointer (some ⟨b0, 9, none⟩)
  f2 : L 2 = true → v43 = .slice h.B h.m h.d
  f3 : L 3 = true → ∃ A c, v44 = .slice A h.m c ∧ (L 7 = false → Tm.Own w' W.heap.size A h.m c h.rs)
  f4 : L 4 = true → v45 = Tm.vg r
  f5 : L 5 = true → v46 = Tm.vg s
  f6 : L 6 = true → ∃ g2, v47 = .slice (some ⟨g2, 0, none⟩) 2 2 ∧ (L 7 = false → Bx w' g2 52 (Tm.cel [r, s]).toArray) ∧ ∀ g1, v41 = .slice (some ⟨g1, 0, none⟩) 0 0 → L 0 = true → g1 ≠ g2
  f7 : L 7 = true → ∃ A c, v48 = .slice A (h.m + 2) c ∧ Tm.Own w' W.heap.size A (h.m + 2) c (h.rs ++ [r, s])
  f8 : L 8 = true → v49 = .pointer (some ⟨g11, 9, none⟩)
  f9 : L 9 = true → ∃ A c, Tm.Own w' W.heap.size A (h.m + 2) c (h.rs ++ [r, s]) ∧ Bx w' g11 31 (hc (hmore h A c [r, s] (h.m + 2))) ∧ ∀ b, b < W.heap.size → b ≠ g11 → w'.heap[b]? = W.heap[b]?
  d_app1_bs0 : L 3 = true → L 0 = true
  d_app2_app1 : L 7 = true → L 3 = true
  d_app2_bs : L 7 = true → L 6 = true
  d_st_app2 : L 9 = true → L 7 = true
  d_st_fa : L 9 = true → L 1 = true
  d_st_ld : L 9 = true → L 2 = true
  d_st_el : L 9 = true → L 4 = true
  d_st_em : L 9 = true → L 5 = true
  d_st_fa2 : L 9 = true → L 8 = true
section
variable {w0 W : World} {h : Hr} {b0 g11 : Nat} {r s : Tm.Rw} {L : Nat → Bool} {w' w2 : World} {v41 v42 v43 v44 v45 v46 v47 v48 v49 : Value}
theorem K18.n1 (H : K18 w0 W h b0 g11 r s L w' v41 v42 v43 v44 v45 v46 v47 v48 v49) (h0 : L 0 = false) : L 3 = false := no8 H.d_app1_bs0 h0
theorem K18.n2 (H : K18 w0 W h b0 g11 r s L w' v41 v42 v43 v44 v45 v46 v47 v48 v49) (h0 : L 3 = false) : L 7 = false := no8 H.d_app2_app1 h0
theorem K18.n3 (H : K18 w0 W h b0 g11 r s L w' v41 v42 v43 v44 v45 v46 v47 v48 v49) (h0 : L 6 = false) : L 7 = false := no8 H.d_app2_bs h0
theorem K18.n4 (H : K18 w0 W h b0 g11 r s L w' v41 v42 v43 v44 v45 v46 v47 v48 v49) (h0 : L 7 = false) : L 9 = false := no8 H.d_st_app2 h0
theorem K18.s1 (H : K18 w0 W h b0 g11 r s L w' v41 v42 v43 v44 v45 v46 v47 v48 v49) {z : Value} (k : z = .pointer (some ⟨b0, 9, none⟩)) : K18 w0 W h b0 g11 r s (fun j => j == 1 || L j) w' v41 z v43 v44 v45 v46 v47 v48 v49 := ⟨H.lo, H.b, H.e, H.f0, fun _ => k, H.f2, H.f3, H.f4, H.f5, H.f6, H.f7, H.f8, H.f9, H.d_app1_bs0, H.d_app2_app1, H.d_app2_bs, H.d_st_app2, fun _ => rfl, H.d_st_ld, H.d_st_el, H.d_st_em, H.d_st_fa2⟩
theorem K18.s2 (H : K18 w0 W h b0 g11 r s L w' v41 v42 v43 v44 v45 v46 v47 v48 v49) {z : Value} (k : z = .slice h.B h.m h.d) : K18 w0 W h b0 g11 r s (fun j => j == 2 || L j) w' v41 v42 z v44 v45 v46 v47 v48 v49 := ⟨H.lo, H.b, H.e, H.f0, H.f1, fun _ => k, H.f3, H.f4, H.f5, H.f6, H.f7, H.f8, H.f9, H.d_app1_bs0, H.d_app2_app1, H.d_app2_bs, H.d_st_app2, H.d_st_fa, fun _ => rfl, H.d_st_el, H.d_st_em, H.d_st_fa2⟩
theorem K18.s4 (H : K18 w0 W h b0 g11 r s L w' v41 v42 v43 v44 v45 v46 v47 v48 v49) {z : Value} (k : z = Tm.vg r) : K18 w0 W h b0 g11 r s (fun j => j == 4 || L j) w' v41 v42 v43 v44 z v46 v47 v48 v49 := ⟨H.lo, H.b, H.e, H.f0, H.f1, H.f2, H.f3, fun _ => k, H.f5, H.f6, H.f7, H.f8, H.f9, H.d_app1_bs0, H.d_app2_app1, H.d_app2_bs, H.d_st_app2, H.d_st_fa, H.d_st_ld, fun _ => rfl, H.d_st_em, H.d_st_fa2⟩
theorem K18.s5 (H : K18 w0 W h b0 g11 r s L w' v41 v42 v43 v44 v45 v46 v47 v48 v49) {z : Value} (k : z = Tm.vg s) : K18 w0 W h b0 g11 r s (fun j => j == 5 || L j) w' v41 v42 v43 v44 v45 z v47 v48 v49 := ⟨H.lo, H.b, H.e, H.f0, H.f1, H.f2, H.f3, H.f4, fun _ => k, H.f6, H.f7, H.f8, H.f9, H.d_app1_bs0, H.d_app2_app1, H.d_app2_bs, H.d_st_app2, H.d_st_fa, H.d_st_ld, H.d_st_el, fun _ => rfl, H.d_st_fa2⟩
theorem K18.s8 (H : K18 w0 W h b0 g11 r s L w' v41 v42 v43 v44 v45 v46 v47 v48 v49) {z : Value} (k : z = .pointer (some ⟨g11, 9, none⟩)) : K18 w0 W h b0 g11 r s (fun j => j == 8 || L j) w' v41 v42 v43 v44 v45 v46 v47 v48 z := ⟨H.lo, H.b, H.e, H.f0, H.f1, H.f2, H.f3, H.f4, H.f5, H.f6, H.f7, fun _ => k, H.f9, H.d_app1_bs0, H.d_app2_app1, H.d_app2_bs, H.d_st_app2, H.d_st_fa, H.d_st_ld, H.d_st_el, H.d_st_em, fun _ => rfl⟩
theorem K18.s0 (H : K18 w0 W h b0 g11 r s L w' v41 v42 v43 v44 v45 v46 v47 v48 v49) (h0 : L 0 = false) : K18 w0 W h b0 g11 r s (fun j => j == 0 || L j) (w'.alloc (.cells #[] 52)) (.slice (some ⟨w'.heap.size, 0, none⟩) 0 0) v42 v43 v44 v45 v46 v47 v48 v49 := by
  have q1 := H.n1 h0
  have q2 := H.n2 q1
  have q3 := H.n4 q2
  have hs := (H.e q3).size
  exact ⟨H.lo, H.b.alloc H.b.size _, (fun l => (H.e l).alloc (H.e l).size _), (fun _ => ⟨_, rfl, by simp, hs, fun _ => own_lowC (Tm.Own.made w') hs⟩), H.f1, H.f2, (fun l => absurd l (by rw [q1]; decide)), H.f4, H.f5, (fun l => by obtain ⟨g2, e, hx, _⟩ := H.f6 l; exact ⟨g2, e, fun l6 => (hx l6).alloc _, fun g1 e1 _ => by injection e1 with e1; injection e1 with e1; injection e1 with e1; have := (hx q2).lt; omega⟩), (fun l => absurd l (by rw [q2]; decide)), H.f8, (fun l => absurd l (by rw [q3]; decide)), fun _ => rfl, H.d_app2_app1, H.d_app2_bs, H.d_st_app2, H.d_st_fa, H.d_st_ld, H.d_st_el, H.d_st_em, H.d_st_fa2⟩
theorem K18.s6 (H : K18 w0 W h b0 g11 r s L w' v41 v42 v43 v44 v45 v46 v47 v48 v49) (h0 : L 6 = false) : K18 w0 W h b0 g11 r s (fun j => j == 6 || L j) (w'.alloc (.cells (Tm.cel [r, s]).toArray 52)) v41 v42 v43 v44 v45 v46 (.slice (some ⟨w'.heap.size, 0, none⟩) 2 2) v48 v49 := by
  have q2 := H.n3 h0
  have q3 := H.n4 q2
  have hal := alloc_ w' (.cells (Tm.cel [r, s]).toArray 52)
  exact ⟨H.lo, H.b.alloc H.b.size _, (fun l => (H.e l).alloc (H.e l).size _), (fun l => by obtain ⟨g1, e, hl, hw, ho⟩ := H.f0 l; exact ⟨g1, e, Nat.lt_of_lt_of_le hl hal.size, hw, fun l3 => (ho l3).below hal⟩), H.f1, H.f2, (fun l => by obtain ⟨A, c, e, ho⟩ := H.f3 l; exact ⟨A, c, e, fun l6 => (ho l6).below hal⟩), H.f4, H.f5, (fun _ => ⟨_, rfl, fun _ => Bx.new _ _ _, fun g1 e1 l0 => by obtain ⟨g, e, hl, _⟩ := H.f0 l0; rw [e] at e1; injection e1 with e1; injection e1 with e1; injection e1 with e1; omega⟩), (fun l => absurd l (by rw [q2]; decide)), H.f8, (fun l => absurd l (by rw [q3]; decide)), H.d_app1_bs0, H.d_app2_app1, fun _ => rfl, H.d_st_app2, H.d_st_fa, H.d_st_ld, H.d_st_el, H.d_st_em, H.d_st_fa2⟩
theorem K18.s3 (H : K18 w0 W h b0 g11 r s L w' v41 v42 v43 v44 v45 v46 v47 v48 v49) (h3 : L 3 = false) (h0 : L 0 = true) {g1 : Nat} (e0 : v41 = .slice (some ⟨g1, 0, none⟩) 0 0) (hw : W.heap.size ≤ g1) {A : Option Addr} {c : Nat} (hO : Tm.Own w2 W.heap.size A h.m c ([] ++ h.rs)) (hg : w'.grownBy w2 (Value.slice (some ⟨g1, 0, none⟩) 0 0).ownBlock) : K18 w0 W h b0 g11 r s (fun j => j == 3 || L j) w2 v41 v42 v43 (.slice A h.m c) v45 v46 v47 v48 v49 := by
  have q2 := H.n2 h3
  have q3 := H.n4 q2
  have hlo := H.lo
  exact ⟨H.lo, H.b.grown hg H.b.size (fun j hj => by simp [Value.ownBlock] at hj; omega), (fun l => (H.e l).grown hg (H.e l).size (fun j hj => by simp [Value.ownBlock] at hj; omega)), (fun l => by obtain ⟨g, e, hl, hw, _⟩ := H.f0 l; exact ⟨g, e, Nat.lt_of_lt_of_le hl hg.size, hw, fun l3 => by cases l3⟩), H.f1, H.f2, (fun _ => ⟨_, _, rfl, fun _ => hO⟩), H.f4, H.f5, (fun l => by obtain ⟨g2, e, hx, hn⟩ := H.f6 l; exact ⟨g2, e, fun l6 => (gb_block hg (hx l6).lt (hn g1 e0 h0)).trans (hx l6), hn⟩), (fun l => absurd l (by rw [q2]; decide)), H.f8, (fun l => absurd l (by rw [q3]; decide)), fun _ => h0, fun _ => rfl, H.d_app2_bs, H.d_st_app2, H.d_st_fa, H.d_st_ld, H.d_st_el, H.d_st_em, H.d_st_fa2⟩
theorem K18.s7 (H : K18 w0 W h b0 g11 r s L w' v41 v42 v43 v44 v45 v46 v47 v48 v49) (h6 : L 7 = false) (h3 : L 3 = true) (hb : L 6 = true) {A1 A : Option Addr} {c1 c : Nat} (hO1 : Tm.Own w' W.heap.size A1 h.m c1 h.rs) (hO : Tm.Own w2 W.heap.size A (h.m + 2) c (h.rs ++ [r, s])) (hg : w'.grownBy w2 (Value.slice A1 h.m c1).ownBlock) : K18 w0 W h b0 g11 r s (fun j => j == 7 || L j) w2 v41 v42 v43 v44 v45 v46 v47 (.slice A (h.m + 2) c) v49 := by
  have q3 := H.n4 h6
  have hlo := H.lo
  exact ⟨H.lo, H.b.grown hg H.b.size (fun j hj => by have := (hO1.lt j hj).1; omega), (fun l => (H.e l).grown hg (H.e l).size (fun j hj => (hO1.lt j hj).1)), (fun l => by obtain ⟨g, e, hl, hw, _⟩ := H.f0 l; exact ⟨g, e, Nat.lt_of_lt_of_le hl hg.size, hw, fun l3 => absurd h3 (by rw [show L 3 = false from l3]; decide)⟩), H.f1, H.f2, (fun l => by obtain ⟨A, c, e, _⟩ := H.f3 l; exact ⟨A, c, e, fun l6 => by cases l6⟩), H.f4, H.f5, (fun l => by obtain ⟨g2, e, _, hn⟩ := H.f6 l; exact ⟨g2, e, (fun l6 => by cases l6), hn⟩), (fun _ => ⟨_, _, rfl, hO⟩), H.f8, (fun l => absurd l (by rw [q3]; decide)), H.d_app1_bs0, fun _ => h3, fun _ => hb, fun _ => rfl, H.d_st_fa, H.d_st_ld, H.d_st_el, H.d_st_em, H.d_st_fa2⟩
theorem K18.s9 (H : K18 w0 W h b0 g11 r s L w' v41 v42 v43 v44 v45 v46 v47 v48 v49) (h8 : L 9 = false) (h6 : L 7 = true) (h_fa : L 1 = true) (h_ld : L 2 = true) (h_el : L 4 = true) (h_em : L 5 = true) (h_fa2 : L 8 = true) (hlo1 : w0.heap.size ≤ g11) (hlo2 : g11 < W.heap.size) {A : Option Addr} {c : Nat} {h0 : Hr} (hy : Bx W g11 31 (hc h0)) (e0 : (hc h0).setIfInBounds 9 (.slice A (h.m + 2) c) = hc (hmore h A c [r, s] (h.m + 2))) (hO : Tm.Own w' W.heap.size A (h.m + 2) c (h.rs ++ [r, s])) : K18 w0 W h b0 g11 r s (fun j => j == 9 || L j) (w'.setCell ⟨g11, 9, none⟩ (.slice A (h.m + 2) c)) v41 v42 v43 v44 v45 v46 v47 v48 v49 := by
  have h3 := H.d_app2_app1 h6
  have hx := (hy.keep (H.e h8)).set 9 (.slice A (h.m + 2) c)
  rw [e0] at hx
  have hO2 := own_farC hO (a := ⟨g11, 9, none⟩) hlo2 (.slice A (h.m + 2) c)
  exact ⟨H.lo, sets_below [.slice A (h.m + 2) c] hlo1 9 w' H.b, (fun l => by cases l), (fun l => by obtain ⟨g, e, hl, hw, _⟩ := H.f0 l; exact ⟨g, e, by rw [World.size_setCell]; exact hl, hw, fun l3 => absurd h3 (by rw [show L 3 = false from l3]; decide)⟩), H.f1, H.f2, (fun l => by obtain ⟨A, c, e, _⟩ := H.f3 l; exact ⟨A, c, e, fun l6 => absurd h6 (by rw [show L 7 = false from l6]; decide)⟩), H.f4, H.f5, (fun l => by obtain ⟨g2, e, _, hn⟩ := H.f6 l; exact ⟨g2, e, (fun l6 => absurd h6 (by rw [show L 7 = false from l6]; decide)), hn⟩), (fun l => by obtain ⟨A', c', e, ho⟩ := H.f7 l; exact ⟨A', c', e, own_farC ho hlo2 _⟩), H.f8, (fun _ => ⟨_, _, hO2, hx, fun b hb hne => (Below.heap_setCell w' _ _ b hne).trans ((H.e h8).block b hb)⟩), H.d_app1_bs0, H.d_app2_app1, H.d_app2_bs, fun _ => h6, fun _ => h_fa, fun _ => h_ld, fun _ => h_el, fun _ => h_em, fun _ => h_fa2⟩
end
structure K22 (w0 W : World) (h : Hr) (b0 g11 b7 : Nat) (d : Int) (L : Nat → Bool) (w' : World) (v81 v82 v83 v84 v85 v86 v87 v88 v89 v90 v91 : Value) : Prop where
  lo : w0.heap.size ≤ W.heap.size
  b : Below w0.heap.size w0 w'
  e : L 11 = false → Below W.heap.size W w'
  f0 : L 0 = true → ∃ g1, v81 = .slice (some ⟨g1, 0, none⟩) 0 0 ∧ g1 < w'.heap.size ∧ W.heap.size ≤ g1 ∧ (L 3 = false → Tm.Own w' W.heap.size (some ⟨g1, 0, none⟩) 0 0 [])
  f1 : L 1 = true → v82 = .pointer (some ⟨b0, 9, none⟩)
  f2 : L 2 = true → v83 = .slice h.B h.m h.d
  f3 : L 3 = true → ∃ A c, v84 = .slice A h.m c ∧ (L 9 = false → Tm.Own w' W.heap.size A h.m c h.rs)
  f4 : L 4 = true → v85 = .int .i64 d
  f5 : L 5 = true → v86 = .pointer (some ⟨b7, 2, none⟩)
  f6 : L 6 = true → v87 = .agg #[.int .i64 0, .int .i64 36500, .int .i64 0, .int .i64 0]
  f7 : L 7 = true → v88 = Tm.vg (rwN d 1 ri1)
  f8 : L 8 = true → ∃ g2, v89 = .slice (some ⟨g2, 0, none⟩) 1 1 ∧ (L 9 = false → Bx w' g2 52 (Tm.cel [rwN d 1 ri1]).toArray) ∧ ∀ g1, v81 = .slice (some ⟨g1, 0, none⟩) 0 0 → L 0 = true → g1 ≠ g2
  f9 : L 9 = true → ∃ A c, v90 = .slice A (h.m + 1) c ∧ Tm.Own w' W.heap.size A (h.m + 1) c (h.rs ++ [rwN d 1 ri1])
  f10 : L 10 = true → v91 = .pointer (some ⟨g11, 9, none⟩)
  f11 : L 11 = true → ∃ A c, Tm.Own w' W.heap.size A (h.m + 1) c (h.rs ++ [rwN d 1 ri1]) ∧ Bx w' g11 31 (hc (hmore h A c [rwN d 1 ri1] (h.m + 1))) ∧ ∀ b, b < W.heap.size → b ≠ g11 → w'.heap[b]? = W.heap[b]?
  d_app1_bs0 : L 3 = true → L 0 = true
  d_app2_app1 : L 9 = true → L 3 = true
  d_app2_bs : L 9 = true → L 8 = true
  d_st_app2 : L 11 = true → L 9 = true
  d_st_fa : L 11 = true → L 1 = true
  d_st_ld : L 11 = true → L 2 = true
  d_st_mv : L 11 = true → L 4 = true
  d_st_fb : L 11 = true → L 5 = true
  d_st_lr : L 11 = true → L 6 = true
  d_st_el : L 11 = true → L 7 = true
  d_st_fa2 : L 11 = true → L 10 = true
section
variable {w0 W : World} {h : Hr} {b0 g11 b7 : Nat} {d : Int} {L : Nat → Bool} {w' w2 : World} {v81 v82 v83 v84 v85 v86 v87 v88 v89 v90 v91 : Value}
theorem K22.n1 (H : K22 w0 W h b0 g11 b7 d L w' v81 v82 v83 v84 v85 v86 v87 v88 v89 v90 v91) (h0 : L 0 = false) : L 3 = false := no8 H.d_app1_bs0 h0
theorem K22.n2 (H : K22 w0 W h b0 g11 b7 d L w' v81 v82 v83 v84 v85 v86 v87 v88 v89 v90 v91) (h0 : L 3 = false) : L 9 = false := no8 H.d_app2_app1 h0
theorem K22.n3 (H : K22 w0 W h b0 g11 b7 d L w' v81 v82 v83 v84 v85 v86 v87 v88 v89 v90 v91) (h0 : L 8 = false) : L 9 = false := no8 H.d_app2_bs h0
theorem K22.n4 (H : K22 w0 W h b0 g11 b7 d L w' v81 v82 v83 v84 v85 v86 v87 v88 v89 v90 v91) (h0 : L 9 = false) : L 11 = false := no8 H.d_st_app2 h0
theorem K22.s1 (H : K22 w0 W h b0 g11 b7 d L w' v81 v82 v83 v84 v85 v86 v87 v88 v89 v90 v91) {z : Value} (k : z = .pointer (some ⟨b0, 9, none⟩)) : K22 w0 W h b0 g11 b7 d (fun j => j == 1 || L j) w' v81 z v83 v84 v85 v86 v87 v88 v89 v90 v91 := ⟨H.lo, H.b, H.e, H.f0, fun _ => k, H.f2, H.f3, H.f4, H.f5, H.f6, H.f7, H.f8, H.f9, H.f10, H.f11, H.d_app1_bs0, H.d_app2_app1, H.d_app2_bs, H.d_st_app2, fun _ => rfl, H.d_st_ld, H.d_st_mv, H.d_st_fb, H.d_st_lr, H.d_st_el, H.d_st_fa2⟩
theorem K22.s2 (H : K22 w0 W h b0 g11 b7 d L w' v81 v82 v83 v84 v85 v86 v87 v88 v89 v90 v91) {z : Value} (k : z = .slice h.B h.m h.d) : K22 w0 W h b0 g11 b7 d (fun j => j == 2 || L j) w' v81 v82 z v84 v85 v86 v87 v88 v89 v90 v91 := ⟨H.lo, H.b, H.e, H.f0, H.f1, fun _ => k, H.f3, H.f4, H.f5, H.f6, H.f7, H.f8, H.f9, H.f10, H.f11, H.d_app1_bs0, H.d_app2_app1, H.d_app2_bs, H.d_st_app2, H.d_st_fa, fun _ => rfl, H.d_st_mv, H.d_st_fb, H.d_st_lr, H.d_st_el, H.d_st_fa2⟩
theorem K22.s4 (H : K22 w0 W h b0 g11 b7 d L w' v81 v82 v83 v84 v85 v86 v87 v88 v89 v90 v91) {z : Value} (k : z = .int .i64 d) : K22 w0 W h b0 g11 b7 d (fun j => j == 4 || L j) w' v81 v82 v83 v84 z v86 v87 v88 v89 v90 v91 := ⟨H.lo, H.b, H.e, H.f0, H.f1, H.f2, H.f3, fun _ => k, H.f5, H.f6, H.f7, H.f8, H.f9, H.f10, H.f11, H.d_app1_bs0, H.d_app2_app1, H.d_app2_bs, H.d_st_app2, H.d_st_fa, H.d_st_ld, fun _ => rfl, H.d_st_fb, H.d_st_lr, H.d_st_el, H.d_st_fa2⟩
theorem K22.s5 (H : K22 w0 W h b0 g11 b7 d L w' v81 v82 v83 v84 v85 v86 v87 v88 v89 v90 v91) {z : Value} (k : z = .pointer (some ⟨b7, 2, none⟩)) : K22 w0 W h b0 g11 b7 d (fun j => j == 5 || L j) w' v81 v82 v83 v84 v85 z v87 v88 v89 v90 v91 := ⟨H.lo, H.b, H.e, H.f0, H.f1, H.f2, H.f3, H.f4, fun _ => k, H.f6, H.f7, H.f8, H.f9, H.f10, H.f11, H.d_app1_bs0, H.d_app2_app1, H.d_app2_bs, H.d_st_app2, H.d_st_fa, H.d_st_ld, H.d_st_mv, fun _ => rfl, H.d_st_lr, H.d_st_el, H.d_st_fa2⟩
theorem K22.s6 (H : K22 w0 W h b0 g11 b7 d L w' v81 v82 v83 v84 v85 v86 v87 v88 v89 v90 v91) {z : Value} (k : z = .agg #[.int .i64 0, .int .i64 36500, .int .i64 0, .int .i64 0]) : K22 w0 W h b0 g11 b7 d (fun j => j == 6 || L j) w' v81 v82 v83 v84 v85 v86 z v88 v89 v90 v91 := ⟨H.lo, H.b, H.e, H.f0, H.f1, H.f2, H.f3, H.f4, H.f5, fun _ => k, H.f7, H.f8, H.f9, H.f10, H.f11, H.d_app1_bs0, H.d_app2_app1, H.d_app2_bs, H.d_st_app2, H.d_st_fa, H.d_st_ld, H.d_st_mv, H.d_st_fb, fun _ => rfl, H.d_st_el, H.d_st_fa2⟩
theorem K22.s7 (H : K22 w0 W h b0 g11 b7 d L w' v81 v82 v83 v84 v85 v86 v87 v88 v89 v90 v91) {z : Value} (k : z = Tm.vg (rwN d 1 ri1)) : K22 w0 W h b0 g11 b7 d (fun j => j == 7 || L j) w' v81 v82 v83 v84 v85 v86 v87 z v89 v90 v91 := ⟨H.lo, H.b, H.e, H.f0, H.f1, H.f2, H.f3, H.f4, H.f5, H.f6, fun _ => k, H.f8, H.f9, H.f10, H.f11, H.d_app1_bs0, H.d_app2_app1, H.d_app2_bs, H.d_st_app2, H.d_st_fa, H.d_st_ld, H.d_st_mv, H.d_st_fb, H.d_st_lr, fun _ => rfl, H.d_st_fa2⟩
theorem K22.s10 (H : K22 w0 W h b0 g11 b7 d L w' v81 v82 v83 v84 v85 v86 v87 v88 v89 v90 v91) {z : Value} (k : z = .pointer (some ⟨g11, 9, none⟩)) : K22 w0 W h b0 g11 b7 d (fun j => j == 10 || L j) w' v81 v82 v83 v84 v85 v86 v87 v88 v89 v90 z := ⟨H.lo, H.b, H.e, H.f0, H.f1, H.f2, H.f3, H.f4, H.f5, H.f6, H.f7, H.f8, H.f9, fun _ => k, H.f11, H.d_app1_bs0, H.d_app2_app1, H.d_app2_bs, H.d_st_app2, H.d_st_fa, H.d_st_ld, H.d_st_mv, H.d_st_fb, H.d_st_lr, H.d_st_el, fun _ => rfl⟩
theorem K22.s0 (H : K22 w0 W h b0 g11 b7 d L w' v81 v82 v83 v84 v85 v86 v87 v88 v89 v90 v91) (h0 : L 0 = false) : K22 w0 W h b0 g11 b7 d (fun j => j == 0 || L j) (w'.alloc (.cells #[] 52)) (.slice (some ⟨w'.heap.size, 0, none⟩) 0 0) v82 v83 v84 v85 v86 v87 v88 v89 v90 v91 := by
  have q1 := H.n1 h0
  have q2 := H.n2 q1
  have q3 := H.n4 q2
  have hs := (H.e q3).size
  exact ⟨H.lo, H.b.alloc H.b.size _, (fun l => (H.e l).alloc (H.e l).size _), (fun _ => ⟨_, rfl, by simp, hs, fun _ => own_lowC (Tm.Own.made w') hs⟩), H.f1, H.f2, (fun l => absurd l (by rw [q1]; decide)), H.f4, H.f5, H.f6, H.f7, (fun l => by obtain ⟨g2, e, hx, _⟩ := H.f8 l; exact ⟨g2, e, fun l6 => (hx l6).alloc _, fun g1 e1 _ => by injection e1 with e1; injection e1 with e1; injection e1 with e1; have := (hx q2).lt; omega⟩), (fun l => absurd l (by rw [q2]; decide)), H.f10, (fun l => absurd l (by rw [q3]; decide)), fun _ => rfl, H.d_app2_app1, H.d_app2_bs, H.d_st_app2, H.d_st_fa, H.d_st_ld, H.d_st_mv, H.d_st_fb, H.d_st_lr, H.d_st_el, H.d_st_fa2⟩
theorem K22.s8 (H : K22 w0 W h b0 g11 b7 d L w' v81 v82 v83 v84 v85 v86 v87 v88 v89 v90 v91) (h0 : L 8 = false) : K22 w0 W h b0 g11 b7 d (fun j => j == 8 || L j) (w'.alloc (.cells (Tm.cel [rwN d 1 ri1]).toArray 52)) v81 v82 v83 v84 v85 v86 v87 v88 (.slice (some ⟨w'.heap.size, 0, none⟩) 1 1) v90 v91 := by
  have q2 := H.n3 h0
  have q3 := H.n4 q2
  have hal := alloc_ w' (.cells (Tm.cel [rwN d 1 ri1]).toArray 52)
  exact ⟨H.lo, H.b.alloc H.b.size _, (fun l => (H.e l).alloc (H.e l).size _), (fun l => by obtain ⟨g1, e, hl, hw, ho⟩ := H.f0 l; exact ⟨g1, e, Nat.lt_of_lt_of_le hl hal.size, hw, fun l3 => (ho l3).below hal⟩), H.f1, H.f2, (fun l => by obtain ⟨A, c, e, ho⟩ := H.f3 l; exact ⟨A, c, e, fun l6 => (ho l6).below hal⟩), H.f4, H.f5, H.f6, H.f7, (fun _ => ⟨_, rfl, fun _ => Bx.new _ _ _, fun g1 e1 l0 => by obtain ⟨g, e, hl, _⟩ := H.f0 l0; rw [e] at e1; injection e1 with e1; injection e1 with e1; injection e1 with e1; omega⟩), (fun l => absurd l (by rw [q2]; decide)), H.f10, (fun l => absurd l (by rw [q3]; decide)), H.d_app1_bs0, H.d_app2_app1, fun _ => rfl, H.d_st_app2, H.d_st_fa, H.d_st_ld, H.d_st_mv, H.d_st_fb, H.d_st_lr, H.d_st_el, H.d_st_fa2⟩
theorem K22.s3 (H : K22 w0 W h b0 g11 b7 d L w' v81 v82 v83 v84 v85 v86 v87 v88 v89 v90 v91) (h3 : L 3 = false) (h0 : L 0 = true) {g1 : Nat} (e0 : v81 = .slice (some ⟨g1, 0, none⟩) 0 0) (hw : W.heap.size ≤ g1) {A : Option Addr} {c : Nat} (hO : Tm.Own w2 W.heap.size A h.m c ([] ++ h.rs)) (hg : w'.grownBy w2 (Value.slice (some ⟨g1, 0, none⟩) 0 0).ownBlock) : K22 w0 W h b0 g11 b7 d (fun j => j == 3 || L j) w2 v81 v82 v83 (.slice A h.m c) v85 v86 v87 v88 v89 v90 v91 := by
  have q2 := H.n2 h3
  have q3 := H.n4 q2
  have hlo := H.lo
  exact ⟨H.lo, H.b.grown hg H.b.size (fun j hj => by simp [Value.ownBlock] at hj; omega), (fun l => (H.e l).grown hg (H.e l).size (fun j hj => by simp [Value.ownBlock] at hj; omega)), (fun l => by obtain ⟨g, e, hl, hw, _⟩ := H.f0 l; exact ⟨g, e, Nat.lt_of_lt_of_le hl hg.size, hw, fun l3 => by cases l3⟩), H.f1, H.f2, (fun _ => ⟨_, _, rfl, fun _ => hO⟩), H.f4, H.f5, H.f6, H.f7, (fun l => by obtain ⟨g2, e, hx, hn⟩ := H.f8 l; exact ⟨g2, e, fun l6 => (gb_block hg (hx l6).lt (hn g1 e0 h0)).trans (hx l6), hn⟩), (fun l => absurd l (by rw [q2]; decide)), H.f10, (fun l => absurd l (by rw [q3]; decide)), fun _ => h0, fun _ => rfl, H.d_app2_bs, H.d_st_app2, H.d_st_fa, H.d_st_ld, H.d_st_mv, H.d_st_fb, H.d_st_lr, H.d_st_el, H.d_st_fa2⟩
theorem K22.s9 (H : K22 w0 W h b0 g11 b7 d L w' v81 v82 v83 v84 v85 v86 v87 v88 v89 v90 v91) (h6 : L 9 = false) (h3 : L 3 = true) (hb : L 8 = true) {A1 A : Option Addr} {c1 c : Nat} (hO1 : Tm.Own w' W.heap.size A1 h.m c1 h.rs) (hO : Tm.Own w2 W.heap.size A (h.m + 1) c (h.rs ++ [rwN d 1 ri1])) (hg : w'.grownBy w2 (Value.slice A1 h.m c1).ownBlock) : K22 w0 W h b0 g11 b7 d (fun j => j == 9 || L j) w2 v81 v82 v83 v84 v85 v86 v87 v88 v89 (.slice A (h.m + 1) c) v91 := by
  have q3 := H.n4 h6
  have hlo := H.lo
  exact ⟨H.lo, H.b.grown hg H.b.size (fun j hj => by have := (hO1.lt j hj).1; omega), (fun l => (H.e l).grown hg (H.e l).size (fun j hj => (hO1.lt j hj).1)), (fun l => by obtain ⟨g, e, hl, hw, _⟩ := H.f0 l; exact ⟨g, e, Nat.lt_of_lt_of_le hl hg.size, hw, fun l3 => absurd h3 (by rw [show L 3 = false from l3]; decide)⟩), H.f1, H.f2, (fun l => by obtain ⟨A, c, e, _⟩ := H.f3 l; exact ⟨A, c, e, fun l6 => by cases l6⟩), H.f4, H.f5, H.f6, H.f7, (fun l => by obtain ⟨g2, e, _, hn⟩ := H.f8 l; exact ⟨g2, e, (fun l6 => by cases l6), hn⟩), (fun _ => ⟨_, _, rfl, hO⟩), H.f10, (fun l => absurd l (by rw [q3]; decide)), H.d_app1_bs0, fun _ => h3, fun _ => hb, fun _ => rfl, H.d_st_fa, H.d_st_ld, H.d_st_mv, H.d_st_fb, H.d_st_lr, H.d_st_el, H.d_st_fa2⟩
theorem K22.s11 (H : K22 w0 W h b0 g11 b7 d L w' v81 v82 v83 v84 v85 v86 v87 v88 v89 v90 v91) (h8 : L 11 = false) (h6 : L 9 = true) (h_fa : L 1 = true) (h_ld : L 2 = true) (h_mv : L 4 = true) (h_fb : L 5 = true) (h_lr : L 6 = true) (h_el : L 7 = true) (h_fa2 : L 10 = true) (hlo1 : w0.heap.size ≤ g11) (hlo2 : g11 < W.heap.size) {A : Option Addr} {c : Nat} {h0 : Hr} (hy : Bx W g11 31 (hc h0)) (e0 : (hc h0).setIfInBounds 9 (.slice A (h.m + 1) c) = hc (hmore h A c [rwN d 1 ri1] (h.m + 1))) (hO : Tm.Own w' W.heap.size A (h.m + 1) c (h.rs ++ [rwN d 1 ri1])) : K22 w0 W h b0 g11 b7 d (fun j => j == 11 || L j) (w'.setCell ⟨g11, 9, none⟩ (.slice A (h.m + 1) c)) v81 v82 v83 v84 v85 v86 v87 v88 v89 v90 v91 := by
  have h3 := H.d_app2_app1 h6
  have hx := (hy.keep (H.e h8)).set 9 (.slice A (h.m + 1) c)
  rw [e0] at hx
  have hO2 := own_farC hO (a := ⟨g11, 9, none⟩) hlo2 (.slice A (h.m + 1) c)
  exact ⟨H.lo, sets_below [.slice A (h.m + 1) c] hlo1 9 w' H.b, (fun l => by cases l), (fun l => by obtain ⟨g, e, hl, hw, _⟩ := H.f0 l; exact ⟨g, e, by rw [World.size_setCell]; exact hl, hw, fun l3 => absurd h3 (by rw [show L 3 = false from l3]; decide)⟩), H.f1, H.f2, (fun l => by obtain ⟨A, c, e, _⟩ := H.f3 l; exact ⟨A, c, e, fun l6 => absurd h6 (by rw [show L 9 = false from l6]; decide)⟩), H.f4, H.f5, H.f6, H.f7, (fun l => by obtain ⟨g2, e, _, hn⟩ := H.f8 l; exact ⟨g2, e, (fun l6 => absurd h6 (by rw [show L 9 = false from l6]; decide)), hn⟩), (fun l => by obtain ⟨A', c', e, ho⟩ := H.f9 l; exact ⟨A', c', e, own_farC ho hlo2 _⟩), H.f10, (fun _ => ⟨_, _, hO2, hx, fun b hb hne => (Below.heap_setCell w' _ _ b hne).trans ((H.e h8).block b hb)⟩), H.d_app1_bs0, H.d_app2_app1, H.d_app2_bs, fun _ => h6, fun _ => h_fa, fun _ => h_ld, fun _ => h_mv, fun _ => h_fb, fun _ => h_lr, fun _ => h_el, fun _ => h_fa2⟩
end
theorem hm_more {w W : World} {h : Hr} {A : Option Addr} {c N base : Nat} {es : List Tm.Rw} (M : HM w (· < w.heap.size) h) (hb : Below w.heap.size w W) (hO : Tm.Own W base A N c (h.rs ++ es)) (hes : ∀ r ∈ es, Cvs W (· < W.heap.size) r.A r.n r.v.cs) : HM W (· < W.heap.size) (hmore h A c es N) :=
  ⟨(M.below hb).t, hO.raws.keep (fun _ _ => rfl) (fun b hb => hb.2), fun r hr => by
    rcases List.mem_append.1 hr with hr | hr
    · exact (M.below hb).k r hr
    · exact hes r hr⟩
theorem hs_more {W : World} {h : Hr} {A : Option Addr} {c N base : Nat} {es : List Tm.Rw} (S : HS h) (hN : N ≤ 2000) (hO : Tm.Own W base A N c (h.rs ++ es)) (hes : ∀ r ∈ es, r.n ≤ 3000) : HS (hmore h A c es N) :=
  ⟨S.n, hN, (fun r hr => by
    rcases List.mem_append.1 hr with hr | hr
    · exact S.k r hr
    · exact hes r hr), (own_fitsC hO).2, (own_fitsC hO).1⟩
theorem hv_more (h : Hr) (A : Option Addr) (c N : Nat) (es : List Tm.Rw) : (hmore h A c es N).v = ⟨h.id, h.bk, h.s, h.r, h.cs, h.v.hs ++ es.map Tm.Rw.v⟩ := by
  show Hi.mk _ _ _ _ _ ((h.rs ++ es).map Tm.Rw.v) = _
  rw [List.map_append]; rfl
/-- What some gave, in boxes. -/
structure LS (w W : World) (b6 b7 : Nat) (T A : Option Addr) (r : Trf.Rw) : Prop where
  b : Below w.heap.size w W
  t : Bx W b6 34 #[.slice T 1 1]
  x : Bx W b7 28 (tc (1, 101) ri1 A 1 1)
  v : Trf.Vers W T 1 [r]
  c : Cvs W (· < W.heap.size) A 1 [co1]
theorem LS.next {w W W' : World} {b6 b7 : Nat} {T A : Option Addr} {r : Trf.Rw} (H : LS w W b6 b7 T A r) (hb : Below W.heap.size W W') : LS w W' b6 b7 T A r := ⟨H.b.trans (hb.mono H.b.size), H.t.keep hb, H.x.keep hb, H.v.below hb, H.c.below hb⟩
abbrev hl (A B : Option Addr) (k d : Nat) (rs : List Tm.Rw) : Hr := ⟨1, 1, (1, 101), ri1, A, 1, 1, [co1], B, k, d, rs⟩
/-- A change as it is kept. -/
def Kp (r : Tm.Rw) : Prop := Keeps r.v ∧ r.n = 0 ∧ r.v.cs = []
/-- While changes are kept. -/
structure LJ (W1 W : World) (b8 : Nat) (A B : Option Addr) (k d : Nat) (rs : List Tm.Rw) (i : Nat) : Prop where
  b : Below W1.heap.size W1 W
  e : b8 = W1.heap.size
  y : Bx W b8 31 (hc (hl A B k d rs))
  o : Tm.Own W (W1.heap.size + 1) B k d rs
  kp : ∀ r ∈ rs, Kp r
  le : k ≤ i
section
variable {W1 W W' : World} {b8 k d i : Nat} {A B : Option Addr} {rs : List Tm.Rw}
theorem LJ.start (A : Option Addr) (W1 : World) : LJ W1 (W1.alloc (.cells (hc (hl A none 0 0 [])) 31)) W1.heap.size A none 0 0 [] 0 := ⟨alloc_ _ _, rfl, Bx.new _ _ _, Tm.Own.nil, (fun r hr => by cases hr), Nat.le_refl _⟩
theorem LJ.next (H : LJ W1 W b8 A B k d rs i) (hb : Below W.heap.size W W') : LJ W1 W' b8 A B k d rs i := ⟨H.b.trans (hb.mono H.b.size), H.e, H.y.keep hb, H.o.below hb, H.kp, H.le⟩
theorem LJ.step (H : LJ W1 W b8 A B k d rs i) : LJ W1 W b8 A B k d rs (i + 1) := ⟨H.b, H.e, H.y, H.o, H.kp, Nat.le_trans H.le (Nat.le_succ _)⟩
theorem LJ.y2 (H : LJ W1 W b8 A B k d rs i) (hg : W.grownBy W' (Value.slice B k d).ownBlock) : Bx W' b8 31 (hc (hl A B k d rs)) :=
  (hg.block b8 H.y.lt (fun e => by have h1 := (H.o.lt b8 e.symm).1; have h2 := H.e; omega)).trans H.y
theorem LJ.app {B' : Option Addr} {d' : Nat} {q : Tm.Rw} (H : LJ W1 W b8 A B k d rs i) (hq : Kp q) (ho : Tm.Own W' (W1.heap.size + 1) B' (k + 1) d' (rs ++ [q])) (hg : W.grownBy W' (Value.slice B k d).ownBlock) : LJ W1 (W'.setCell ⟨b8, 9, none⟩ (.slice B' (k + 1) d')) b8 A B' (k + 1) d' (rs ++ [q]) (i + 1) := by
  have he := H.e
  have hB : Below W1.heap.size W1 W' := H.b.grown hg H.b.size (fun j hj => by have := (H.o.lt j hj).1; omega)
  refine ⟨sets_below [.slice B' (k + 1) d'] (by omega) 9 W' hB, he, (H.y2 hg).set 9 _, own_farC ho (by show b8 < _; omega) _, fun r hr => ?_, by have := H.le; omega⟩
  rcases List.mem_append.1 hr with hr | hr
  · exact H.kp r hr
  · rw [List.mem_singleton] at hr; subst hr; exact hq
end
theorem at_some {A : Option Addr} {n c : Nat} {rs : List Rw} {d : Int} {w : World} {y : Sc} (S : Sls w A n rs) (hn : n ≤ 100000) (hf : fnd rs d = some y) : Calls Tryz.prog 17 #[.slice A n c, .int .i64 d] w (fun e w' => ∃ r : Rw, e = .returned (.tuple #[vg r, .bool true]) ∧ r.v = y ∧ Gd w' r ∧ Below w.heap.size w w') := by
  have h := at_ A n c rs d w S hn
  rw [hf] at h
  exact h
/-- The boxes, the changes kept. -/
structure LB (w W : World) (b6 b7 b8 : Nat) (T A : Option Addr) (r : Trf.Rw) (h : Hr) : Prop where
  s : LS w W b6 b7 T A r
  y : Bx W b8 31 (hc h)
  m : HM W (· < W.heap.size) h
theorem LB.next {w W W' : World} {b6 b7 b8 : Nat} {T A : Option Addr} {r : Trf.Rw} {h : Hr} (H : LB w W b6 b7 b8 T A r h) (hb : Below W.heap.size W W') : LB w W' b6 b7 b8 T A r h := ⟨H.s.next hb, H.y.keep hb, H.m.below hb⟩
/-- A history more. -/
structure CP (W : World) (g : Nat) (h x : Hr) (es : List Ch) : Prop where
  bx : Bx W g 31 (hc x)
  mm : HM W (· < W.heap.size) x
  ss : HS x
  ll : x.m ≤ 100
  vv : x.v = ⟨h.id, h.bk, h.s, h.r, h.cs, h.v.hs ++ es⟩
theorem CP.next {W W' : World} {g : Nat} {h x : Hr} {es : List Ch} (H : CP W g h x es) (hb : Below W.heap.size W W') : CP W' g h x es := ⟨H.bx.keep hb, H.mm.below hb, H.ss, H.ll, H.vv⟩
theorem cp_of {W0 W : World} {g base c N : Nat} {h : Hr} {A : Option Addr} {es : List Tm.Rw} (M : HM W0 (· < W0.heap.size) h) (hb : Below W0.heap.size W0 W) (S : HS h) (hm : N ≤ 100) (hO : Tm.Own W base A N c (h.rs ++ es)) (hx : Bx W g 31 (hc (hmore h A c es N))) (hes : ∀ r ∈ es, r.n = 0 ∧ r.v.cs = []) : CP W g h (hmore h A c es N) (es.map Tm.Rw.v) :=
  ⟨hx, hm_more M hb hO fun r hr => by obtain ⟨h1, h2⟩ := hes r hr; rw [h1, h2]; exact Cvs.nil, hs_more S (by omega) hO fun r hr => by rw [(hes r hr).1]; exact Nat.zero_le _, hm, hv_more _ _ _ _ _⟩
theorem lst_more {h x : Hr} {es : List Ch} {W : World} {g : Nat} (C : CP W g h x es) (L : Lst h.v) (he : ∀ c ∈ es, Keeps c) : Lst x.v := by
  have e := C.vv
  have hl : x.v.hs.length = x.m := C.mm.len
  refine ⟨by rw [e]; exact L.s, by rw [e]; exact L.r, by rw [e]; exact L.c, by rw [hl]; have := C.ll; omega, fun c hc => ?_⟩
  rw [e] at hc
  rcases List.mem_append.1 hc with hc | hc
  · exact L.k c hc
  · exact he c hc
set_option maxRecDepth 100000 in
set_option maxHeartbeats 4000000 in
theorem walk_SlicesLast {w : World} (LA : Option Addr) (ln lc : Nat) (ls : List Tm.Rw) (GS : GivenS w LA ln lc ls) (day : Int) (hday : 0 ≤ day ∧ day ≤ 255) : Calls Tryz.prog 9 #[.slice LA ln lc, .int .u8 day] w (Yes w true) := by
  have HGS := Lib.hid GS
  clear GS
  have C1 := Lib.hid (awake12 w)
  go_enter Tryz.func9, Tryz.ntmps9
  go_wp2_with fail
  refine C1.out.mono ?_
  rintro e w1 ⟨rfl, hb1⟩
  have HB1 := Lib.hid hb1
  clear hb1 C1
  have C2 := Lib.hid (some_ w1)
  go_wp2_with fail
  refine C2.out.mono ?_
  rintro e w2 ⟨A, T, r, rfl, hr, hv, hc1, hT, hb2⟩
  obtain ⟨W3, hW3⟩ : ∃ W, (w2.alloc (.cells #[.slice T 1 1] 34)).alloc (.cells (tc (1, 101) ri1 A 1 1) 28) = W := ⟨_, rfl⟩
  have hal : Below w2.heap.size w2 W3 := hW3 ▸ (alloc_ _ _).alloc (by simp) _
  have H3 := Lib.hid (show LS w W3 w2.heap.size (w2.heap.size + 1) T A r from
    ⟨HB1.out.trans ((hb2.trans (hal.mono hb2.size)).mono HB1.out.size), hW3 ▸ (Bx.new _ _ _).alloc _, by
      have := Bx.new (w2.alloc (.cells #[.slice T 1 1] 34)) 28 (tc (1, 101) ri1 A 1 1)
      rw [World.size_alloc] at this
      rw [← hW3]; exact this, hv.below hal, hc1.below hal⟩)
  have HRV := Lib.hid (show [r].map Trf.Rw.v = [sV] by rw [List.map_cons, hr]; rfl)
  have HW3 := Lib.hid hW3
  clear hr hv hc1 hT hb2 hal hW3 C2
  go_upto_region 3 with fail
  rw [HW3.out]
  obtain ⟨b7, hb7⟩ : ∃ b, w2.heap.size + 1 = b := ⟨_, rfl⟩
  rw [hb7] at H3 ⊢
  obtain ⟨b6, hb6⟩ : ∃ b, w2.heap.size = b := ⟨_, rfl⟩
  rw [hb6] at H3 ⊢
  clear hb6 hb7 HW3 HB1
  by_cases q1 : ln ≤ 60
  case neg =>
    have u1 : decide ((60 : Int) < (ln : Int)) = true := decide_eq_true (by omega)
    go_wp2
    go_ret
    exact ⟨rfl, H3.out.b⟩
  have u1 : decide ((60 : Int) < (ln : Int)) = false := decide_eq_false (by omega)
  have HQ := Lib.hid q1
  have x0 := H3.out.x.c 0
  have x1 := H3.out.x.c 1
  have x2 := H3.out.x.c 2
  have x3 := H3.out.x.c 3
  have x4 := H3.out.x.c 4
  have x5 := H3.out.x.c 5
  have x6 := H3.out.x.c 6
  simp at x0 x1 x2 x3 x4 x5 x6
  go_upto_region 6 with fail
  have HJ0 := Lib.hid (LJ.start A W3)
  obtain ⟨W5, hW5⟩ : ∃ W, W3.alloc (.cells (hc (hl A none 0 0 [])) 31) = W := ⟨_, rfl⟩
  have HW5 := Lib.hid (show W3.alloc (.cells #[.int .i64 1, .int .i64 1, .int .i64 1, .int .i64 101, .int .i64 0, .int .i64 36500, .int .i64 0, .int .i64 0, .slice A 1 1, .slice none 0 0] 31) = W5 from hW5)
  rw [hW5] at HJ0
  rw [HW5.out]
  obtain ⟨b8, hb8⟩ : ∃ b, W3.heap.size = b := ⟨_, rfl⟩
  have HJ1 := Lib.hid (show LJ W3 W5 b8 A none 0 0 [] 0 by rw [← hb8]; exact HJ0.out)
  rw [hb8]
  clear hb8 HJ0 HW5 hW5 x0 x1 x2 x3 x4 x5 x6 u1
  go_wp2
  go_loopw [9] (fun vi w' => ∃ (i k d : Nat) (W : World) (B : Option Addr) (rs : List Tm.Rw), i ≤ ln ∧ vi = .int .i64 (i : Int) ∧ W = w' ∧ Hid (LJ W3 W b8 A B k d rs i)) (fun vi _ => ln - (intOf vi).toNat)
  case atStart => exact ⟨0, 0, 0, W5, none, [], Nat.zero_le _, rfl, rfl, HJ1⟩
  case round =>
    obtain ⟨i, k, d, W, B, rs, hi, rfl, rfl, HJ⟩ := hrel
    clear HJ1
    by_cases hlt : i < ln
    · obtain ⟨ad, r0, rfl, hbd, hr0, N0⟩ := (HGS.out.r.below (H3.out.b.trans (HJ.out.b.mono H3.out.b.size))).get hlt
      have hlt2 : (i : Int) < (ln : Int) := by omega
      have HR0 := Lib.hid (HGS.out.k r0 (List.mem_of_getElem? hr0))
      have HN := Lib.hid N0
      have HBD := Lib.hid (show (ad.add (i * 9)).block < W.heap.size by rw [add_block]; exact hbd)
      obtain ⟨dy, hdy⟩ : ∃ dy, r0.v.dy = dy := ⟨_, rfl⟩
      have n1 : ∀ p : Ext W, p.W.cell? ⟨(ad.add (i * 9)).block, (ad.add (i * 9)).off + 1, none⟩ = some (.int .i64 dy) := fun p => by
        rw [← hdy]; exact (HN.out.keep (w' := p.W) (fun a ha => p.b.cell (by rw [ha]; exact HBD.out))).c1
      have x0 : ∀ p : Ext W, p.W.cell? ⟨b7, 0, none⟩ = some (.int .i64 1) := fun p => ((H3.out.next HJ.out.b).x.keep p.b).c 0
      have x1 : ∀ p : Ext W, p.W.cell? ⟨b7, 1, none⟩ = some (.int .i64 101) := fun p => ((H3.out.next HJ.out.b).x.keep p.b).c 1
      have CI := fun p : Ext W => Lib.hid (rspan_in (1, 101) dy p.W)
      obtain ⟨u, hu⟩ : ∃ u, inn (1, 101) dy = u := ⟨_, rfl⟩
      rw [hu] at CI
      have HU := Lib.hid (And.intro hdy hu)
      clear hr0 hbd N0 hdy hu
      go_upto_region 9 with fail
      have ne : Nonempty (Ext W) := ⟨⟨W, Below.refl _ _⟩⟩
      refine quietE (by kernel_rfl) (by kernel_rfl) ?_
      repeat (first | go_big_quiet_skip | quiet_step (first
        | (go_at_call 19; with_reducible exact ext_of (CI _).out)
        | fail))
      refine wpQuiet_nil ?_
      rintro _ ⟨p, rfl⟩
      have HJ6 := Lib.hid (HJ.out.next p.b)
      have N6 := HN.out.keep (w' := p.W) (fun a ha => p.b.cell (by rw [ha]; exact HBD.out))
      have HB6 := Lib.hid (show (ad.add (i * 9)).block < p.W.heap.size from Nat.lt_of_lt_of_le HBD.out p.b.size)
      have HBW := Lib.hid p.b
      generalize p.W = W6 at HJ6 N6 HB6 HBW ⊢
      have HN6 := Lib.hid N6
      clear CI n1 x0 x1 ne HJ N6
      cases u
      · go_wp2
        go_roundw
        case rel => exact ⟨i + 1, k, d, W6, B, rs, by omega, by go_num, rfl, Lib.hid HJ6.out.step⟩
        case measure => simp [intOf]; omega
      have CR := Lib.hid (right0 r0 W6 (HR0.out.c.below (H3.out.b.trans (HJ6.out.b.mono H3.out.b.size))) (Nat.le_trans HR0.out.m (by unfold maxLen; omega)))
      obtain ⟨q, hq⟩ : ∃ q, rch r0.v = q := ⟨_, rfl⟩
      rw [hq] at CR
      have HRC := Lib.hid hq
      clear hq
      obtain ⟨c0, c1, c2, c3, c4, c5, c6, c7, c8⟩ := HN6.out
      go_wp2_with fail
      refine CR.out.mono ?_
      rintro e W7 ⟨rfl, hb⟩
      have HJ7 := Lib.hid (HJ6.out.next hb)
      have HN7 := Lib.hid (HN6.out.keep (w' := W7) (fun a ha => hb.cell (by rw [ha]; exact HB6.out)))
      have HB7 := Lib.hid (show (ad.add (i * 9)).block < W7.heap.size from Nat.lt_of_lt_of_le HB6.out hb.size)
      clear hb CR c0 c1 c2 c3 c4 c5 c6 c7 c8 HN6 HB6 HJ6
      cases q
      · go_wp2
        go_roundw
        case rel => exact ⟨i + 1, k, d, W7, B, rs, by omega, by go_num, rfl, Lib.hid HJ7.out.step⟩
        case measure => simp [intOf]; omega
      obtain ⟨c0, c1, c2, c3, c4, c5, c6, c7, c8⟩ := HN7.out
      obtain ⟨kd, hkd⟩ : ∃ kd, r0.v.kd = kd := ⟨_, rfl⟩
      rw [hkd] at c2
      have HKD := Lib.hid hkd
      clear hkd
      by_cases k2 : kd = 2
      · have t2 : decide (kd = 2) = true := decide_eq_true k2
        have t2' : (kd == 2) = true := beq_iff_eq.2 k2
        clear k2
        go_wp2
        go_roundw
        case rel => exact ⟨i + 1, k, d, W7, B, rs, by omega, by go_num, rfl, Lib.hid HJ7.out.step⟩
        case measure => simp [intOf]; omega
      have t2 : decide (kd = 2) = false := decide_eq_false k2
      have t2' : (kd == 2) = false := beq_eq_false_iff_ne.2 k2
      by_cases k1 : kd = 1
      · have t1 : decide (kd = 1) = true := decide_eq_true k1
        have t1' : (kd == 1) = true := beq_iff_eq.2 k1
        clear k1 k2
        go_wp2
        go_roundw
        case rel => exact ⟨i + 1, k, d, W7, B, rs, by omega, by go_num, rfl, Lib.hid HJ7.out.step⟩
        case measure => simp [intOf]; omega
      have t1 : decide (kd = 1) = false := decide_eq_false k1
      have t1' : (kd == 1) = false := beq_eq_false_iff_ne.2 k1
      have HKP := Lib.hid (show Kp ⟨bk1 r0.v, r0.A, r0.n, r0.c⟩ by
        have hh := plain_kind HRC.out (by rw [HKD.out]; exact k1) (by rw [HKD.out]; exact k2)
        have hl := HR0.out.c.1
        refine ⟨keeps_bk HRC.out (by rw [HU.out.1]; exact HU.out.2) (by rw [HKD.out]; exact k1) (by rw [HKD.out]; exact k2), ?_, List.eq_nil_of_length_eq_zero hh.2⟩
        show r0.n = 0
        have h2 := hh.2
        omega)
      clear k1 k2
      obtain ⟨W8, hW8⟩ : ∃ W, W7.alloc (.cells (Tm.vc ⟨bk1 r0.v, r0.A, r0.n, r0.c⟩) 52) = W := ⟨_, rfl⟩
      have hal : Below W7.heap.size W7 W8 := hW8 ▸ alloc_ _ _
      have HJ8 := Lib.hid (HJ7.out.next hal)
      have HC8 := Lib.hid (show Bx W8 W7.heap.size 52 (Tm.vc ⟨bk1 r0.v, r0.A, r0.n, r0.c⟩) by rw [← hW8]; exact Bx.new _ _ _)
      have HW8 := Lib.hid (show W7.alloc (.cells #[.int .i64 1, .int .i64 r0.v.dy, .int .i64 kd, .int .i64 r0.v.r.k, .int .i64 r0.v.r.v, .int .i64 r0.v.r.a, .int .i64 r0.v.r.z, .slice r0.A r0.n r0.c, .int .i64 r0.v.wy] 52) = W8 by rw [← HKD.out]; exact hW8)
      clear hal hW8
      go_upto_region 13 with fail
      rw [HW8.out]
      clear HW8 c0 c1 c2 c3 c4 c5 c6 c7 c8 t1 t2 t1' t2'
      obtain ⟨g11, hg11⟩ : ∃ g, W7.heap.size = g := ⟨_, rfl⟩
      rw [hg11] at HC8 ⊢
      clear hg11 HN7 HB7 HJ7
      have cc0 := HC8.out.c 0
      have cc1 := HC8.out.c 1
      have cc2 := HC8.out.c 2
      have cc3 := HC8.out.c 3
      have cc4 := HC8.out.c 4
      have cc5 := HC8.out.c 5
      have cc6 := HC8.out.c 6
      have cc7 := HC8.out.c 7
      have cc8 := HC8.out.c 8
      simp at cc0 cc1 cc2 cc3 cc4 cc5 cc6 cc7 cc8
      have z9 := HJ8.out.y.c 9
      simp at z9
      have hk60 : k ≤ i := HJ8.out.le
      have hb8 : W3.heap.size + 1 ≤ W8.heap.size := by have h1 := HJ8.out.y.lt; have h2 := HJ8.out.e; omega
      go_wp2_with (at_builtin; go_loud (refine Tm.wpList_app _ rfl _ _ rfl (W3.heap.size + 1) B k d rs rfl (HJ8.out.o.below (alloc_ _ _)) (fun j => W8.heap.size ≤ j ∧ j < (W8.alloc (.cells (Tm.vc ⟨bk1 r0.v, r0.A, r0.n, r0.c⟩) 52)).heap.size) (some ⟨W8.heap.size, 0, none⟩) 1 1 [⟨bk1 r0.v, r0.A, r0.n, r0.c⟩] rfl (Tm.Own.one W8 ⟨bk1 r0.v, r0.A, r0.n, r0.c⟩).raws (fun e => by cases e) (k + 1) rfl (by omega) (by simp; omega) ?_); intro A5 c5 w5 hO5 hg5; have HO5 := Lib.hid hO5; have HG5 := Lib.hid hg5; clear hO5 hg5; have HJ9 := Lib.hid (HJ8.out.next (alloc_ W8 (.cells (Tm.vc ⟨bk1 r0.v, r0.A, r0.n, r0.c⟩) 52))); have HZ9 := Lib.hid (HJ9.out.y2 HG5.out); have fz := HZ9.out.f 9; have z9' := HZ9.out.c 9; simp at z9')
      have HJ10 := Lib.hid (HJ9.out.app HKP.out HO5.out HG5.out)
      clear cc0 cc1 cc2 cc3 cc4 cc5 cc6 cc7 cc8 z9 HJ8 HC8
      go_wp2
      go_roundw
      case rel => exact ⟨i + 1, k + 1, c5, _, A5, _, by omega, by go_num, rfl, HJ10⟩
      case measure => simp [intOf]; omega
    · obtain rfl : i = ln := by omega
      have hlt2 : ¬ (i : Int) < (i : Int) := by omega
      obtain ⟨h, hh⟩ : ∃ h, hl A B k d rs = h := ⟨_, rfl⟩
      have HKP := Lib.hid HJ.out.kp
      have HM0 := Lib.hid (show HM W (· < W.heap.size) h by
        rw [← hh]
        exact ⟨(H3.out.next HJ.out.b).c, HJ.out.o.raws.keep (fun _ _ => rfl) (fun b hb => hb.2), fun q hq => by
          obtain ⟨_, h2, h3⟩ := HJ.out.kp q hq
          show Cvs W _ q.A q.n q.v.cs
          rw [h2, h3]; exact Cvs.nil⟩)
      have HSH := Lib.hid (show HS h by
        rw [← hh]
        exact ⟨by show 1 ≤ 3000; omega, by show k ≤ 2000; have := HJ.out.le; have := HQ.out; omega, (fun q hq => by
          obtain ⟨_, h2, _⟩ := HJ.out.kp q hq
          show q.n ≤ 3000
          omega), (own_fitsC HJ.out.o).2, (own_fitsC HJ.out.o).1⟩)
      have HMH := Lib.hid (show h.m ≤ 60 by rw [← hh]; show k ≤ 60; have := HJ.out.le; have := HQ.out; omega)
      have HL := Lib.hid (show Lst h.v by
        rw [← hh]
        refine ⟨rfl, rfl, rfl, ?_, fun c hc => ?_⟩
        · show (rs.map Tm.Rw.v).length ≤ 2000
          have h1 := HJ.out.o.len
          have h2 := HJ.out.le
          have h3 := HQ.out
          rw [List.length_map]; omega
        · obtain ⟨q, hq, rfl⟩ := List.mem_map.1 (show c ∈ rs.map Tm.Rw.v from hc)
          exact (HJ.out.kp q hq).1)
      have HE := Lib.hid (show h.id = 1 ∧ h.bk = 1 ∧ h.s = (1, 101) ∧ h.r = ri1 ∧ h.cs = [co1] by rw [← hh]; exact ⟨rfl, rfl, rfl, rfl, rfl⟩)
      have HB0 := Lib.hid (show LB w W b6 b7 b8 T A r h from ⟨H3.out.next HJ.out.b, by rw [← hh]; exact HJ.out.y, HM0.out⟩)
      clear hh HJ HKP HM0 H3
      go_upto_region 15 with fail
      obtain ⟨dd, hdd⟩ : ∃ dd, 1 + day % 100 = dd := ⟨_, rfl⟩
      rw [hdd]
      have HD := Lib.hid (show 1 ≤ dd ∧ dd ≤ 100 by omega)
      clear hdd
      obtain ⟨W9, hW9⟩ : ∃ W', (W.alloc (.cells (Tm.vc (rwN dd 3 zri)) 52)).alloc (.cells (Tm.vc (rwN dd 4 zri)) 52) = W' := ⟨_, rfl⟩
      have hal : Below W.heap.size W W9 := hW9 ▸ (alloc_ _ _).alloc (by simp) _
      have HB1 := Lib.hid (HB0.out.next hal)
      have HC13 := Lib.hid (show Bx W9 W.heap.size 52 (Tm.vc (rwN dd 3 zri)) by rw [← hW9]; exact (Bx.new _ _ _).alloc _)
      have HC14 := Lib.hid (show Bx W9 (W.heap.size + 1) 52 (Tm.vc (rwN dd 4 zri)) by
        have := Bx.new (W.alloc (.cells (Tm.vc (rwN dd 3 zri)) 52)) 52 (Tm.vc (rwN dd 4 zri))
        rw [World.size_alloc] at this
        rw [← hW9]; exact this)
      have HW9 := Lib.hid (show (W.alloc (.cells #[.int .i64 1, .int .i64 dd, .int .i64 3, .int .i64 0, .int .i64 0, .int .i64 0, .int .i64 0, .slice none 0 0, .int .i64 0] 52)).alloc (.cells #[.int .i64 1, .int .i64 dd, .int .i64 4, .int .i64 0, .int .i64 0, .int .i64 0, .int .i64 0, .slice none 0 0, .int .i64 0] 52) = W9 from hW9)
      clear hal hW9
      go_upto_region 17 with fail
      rw [HW9.out]
      obtain ⟨g14, hg14⟩ : ∃ b, W.heap.size + 1 = b := ⟨_, rfl⟩
      rw [hg14] at HC14 ⊢
      obtain ⟨g13, hg13⟩ : ∃ b, W.heap.size = b := ⟨_, rfl⟩
      rw [hg13] at HC13 ⊢
      clear hg13 hg14 HW9 HB0
      have HS18 := Lib.hid (HB1.out.next (alloc_ W9 (.cells (hc h) 31)))
      obtain ⟨V18, hV18⟩ : ∃ W', W9.alloc (.cells (hc h) 31) = W' := ⟨_, rfl⟩
      have HY18 := Lib.hid (show Bx V18 W9.heap.size 31 (hc h) by rw [← hV18]; exact Bx.new _ _ _)
      rw [hV18] at HS18
      have HVV18 := Lib.hid (show W9.alloc (.cells #[.int .i64 h.id, .int .i64 h.bk, .int .i64 h.s.1, .int .i64 h.s.2, .int .i64 h.r.k, .int .i64 h.r.v, .int .i64 h.r.a, .int .i64 h.r.z, .slice h.A h.n h.c, .slice h.B h.m h.d] 31) = V18 from hV18)
      have HLT18 := Lib.hid (show W9.heap.size < V18.heap.size by rw [← hV18]; simp)
      have HAL18 := Lib.hid (show Below W9.heap.size W9 V18 by rw [← hV18]; exact alloc_ _ _)
      clear hV18
      have x0 := HB1.out.y.c 0
      have x1 := HB1.out.y.c 1
      have x2 := HB1.out.y.c 2
      have x3 := HB1.out.y.c 3
      have x4 := HB1.out.y.c 4
      have x5 := HB1.out.y.c 5
      have x6 := HB1.out.y.c 6
      have x7 := HB1.out.y.c 7
      have x8 := HB1.out.y.c 8
      have x9 := HB1.out.y.c 9
      simp at x0 x1 x2 x3 x4 x5 x6 x7 x8 x9
      go_upto_region 18 with fail
      rw [HVV18.out]
      clear HVV18 x0 x1 x2 x3 x4 x5 x6 x7 x8 x9
      obtain ⟨g15, hg15⟩ : ∃ b, W9.heap.size = b := ⟨_, rfl⟩
      rw [hg15] at HY18 ⊢
      have HGL18 := Lib.hid (show W9.heap.size ≤ g15 ∧ g15 < V18.heap.size by rw [← hg15]; exact ⟨Nat.le_refl _, HLT18.out⟩)
      clear hg15 HLT18
      refine wp_region_steps (fun L_ a_ w_ => ∃ (v41 v42 v43 v44 v45 v46 v47 v48 v49 : Value), a_ = { tmps := #[.slice LA i lc, .int .u8 day, undef, undef, .bool false, .bool true, .pointer (some ⟨b6, 0, none⟩), .pointer (some ⟨b7, 0, none⟩), .pointer (some ⟨b8, 0, none⟩), .int .i64 (i : Int), u10, u11, .int .i64 dd, .pointer (some ⟨g13, 0, none⟩), .pointer (some ⟨g14, 0, none⟩), .pointer (some ⟨g15, 0, none⟩), undef, undef, undef, undef, undef, undef, undef, undef, undef, undef, undef, undef, undef, undef, .bool true, .tuple #[Trf.tg T 1 1, tg (1, 101) ri1 A 1 1], .tuple #[Trf.tg T 1 1, tg (1, 101) ri1 A 1 1], Trf.tg T 1 1, tg (1, 101) ri1 A 1 1, .slice LA i lc, .int .i64 (i : Int), .bool false, undef, .agg #[.int .i64 1, .int .i64 101, .int .i64 0, .int .i64 36500, .int .i64 0, .int .i64 0, .slice A 1 1], .agg #[.int .i64 1, .int .i64 1, .int .i64 1, .int .i64 101, .int .i64 0, .int .i64 36500, .int .i64 0, .int .i64 0, .slice A 1 1, .slice none 0 0], .int .i64 (i : Int), .slice LA i lc, .int .i64 (i : Int), .bool false, u45, u46, u47, u48, u49, u50, u51, u52, u53, u54, u55, u56, u57, u58, u59, u60, u61, u62, u63, u64, u65, u66, u67, u68, u69, u70, u71, u72, u73, u74, u75, u76, u77, u78, u79, u80, u81, u82, u83, u84, u85, u86, u87, u88, u89, u90, u91, .int .u8 day, .int .u8 (day % 100), .int .i64 (day % 100), .int .i64 dd, .int .i64 dd, .agg #[.int .i64 1, .int .i64 dd, .int .i64 3, .int .i64 0, .int .i64 0, .int .i64 0, .int .i64 0, .slice none 0 0, .int .i64 0], .int .i64 dd, .agg #[.int .i64 1, .int .i64 dd, .int .i64 4, .int .i64 0, .int .i64 0, .int .i64 0, .int .i64 0, .slice none 0 0, .int .i64 0], .agg #[.int .i64 h.id, .int .i64 h.bk, .int .i64 h.s.fst, .int .i64 h.s.snd, .int .i64 h.r.k, .int .i64 h.r.v, .int .i64 h.r.a, .int .i64 h.r.z, .slice h.A h.n h.c, .slice h.B h.m h.d], v41, v42, v43, v44, v45, v46, v47, v48, v49, undef, undef, undef, undef, undef, undef, undef, undef, undef, undef, undef, undef, undef, undef, undef, undef, undef, undef, undef, undef, undef, undef, undef, undef, undef, undef, undef, undef, undef, undef, undef, undef, undef, undef, undef, undef, undef, undef, undef, undef, undef, undef, undef, undef, undef, undef, undef, undef, undef, undef, undef, undef, undef, undef, undef, undef, undef, undef, undef, undef, undef, undef, undef, undef, undef, undef, undef, undef, undef, undef, undef, undef, undef, undef, undef, undef, undef, undef, undef, undef, undef, undef, undef, undef, undef, undef, undef, undef, undef, undef, undef, undef, undef], defers := [] } ∧ Hid (K18 W9 V18 h b8 g15 (rwN dd 3 zri) (rwN dd 4 zri) L_ w_ v41 v42 v43 v44 v45 v46 v47 v48 v49)) (by kernel_rfl) (by kernel_rfl) ?_ (AllSteps.cons ?_ (AllSteps.cons ?_ (AllSteps.cons ?_ (AllSteps.cons ?_ (AllSteps.cons ?_ (AllSteps.cons ?_ (AllSteps.cons ?_ (AllSteps.cons ?_ (AllSteps.cons ?_ (AllSteps.cons ?_ AllSteps.nil)))))))))) ?_
      · exact ⟨_, _, _, _, _, _, _, _, _, rfl, Lib.hid ⟨HAL18.out.size, (HAL18.out).trans ⟨rfl, rfl, rfl, Nat.le_refl _, fun _ _ => rfl⟩, (fun _ => ⟨rfl, rfl, rfl, Nat.le_refl _, fun _ _ => rfl⟩), (fun h => by cases h), (fun h => by cases h), (fun h => by cases h), (fun h => by cases h), (fun h => by cases h), (fun h => by cases h), (fun h => by cases h), (fun h => by cases h), (fun h => by cases h), (fun h => by cases h), (fun h => by cases h), (fun h => by cases h), (fun h => by cases h), (fun h => by cases h), (fun h => by cases h), (fun h => by cases h), (fun h => by cases h), (fun h => by cases h), (fun h => by cases h)⟩⟩
      · rintro L_ a_ w_ hL hd ⟨v41, v42, v43, v44, v45, v46, v47, v48, v49, rfl, HR⟩ K hK
        have HR2 := Lib.hid (HR.out.s0 hL)
        clear hd
        go_simp
        exact hK.out _ _ ⟨_, _, _, _, _, _, _, _, _, rfl, Lib.hid HR2.out⟩
      · rintro L_ a_ w_ hL hd ⟨v41, v42, v43, v44, v45, v46, v47, v48, v49, rfl, HR⟩ K hK
        clear hd
        go_simp
        exact hK.out _ _ ⟨_, _, _, _, _, _, _, _, _, rfl, Lib.hid (HR.out.s1 rfl)⟩
      · rintro L_ a_ w_ hL hd ⟨v41, v42, v43, v44, v45, v46, v47, v48, v49, rfl, HR⟩ K hK
        have HE := Lib.hid (HR.out.e (no8 HR.out.d_st_ld hL))
        have e1 := HR.out.f1 (hd ⟨1, .data⟩ (by simp) rfl)
        subst e1
        have hx := HS18.out.y.keep HE.out
        have x9 := hx.c 9
        simp at x9
        clear hx
        clear hd
        go_simp
        exact hK.out _ _ ⟨_, _, _, _, _, _, _, _, _, rfl, Lib.hid (HR.out.s2 rfl)⟩
      · rintro L_ a_ w_ hL hd ⟨v41, v42, v43, v44, v45, v46, v47, v48, v49, rfl, HR⟩ K hK
        have h0 := hd ⟨0, .data⟩ (by simp) rfl
        obtain ⟨g1, e0, hl0, hw0, ho0⟩ := HR.out.f0 h0
        subst e0
        have e2 := HR.out.f2 (hd ⟨2, .data⟩ (by simp) rfl)
        subst e2
        have HE := Lib.hid (HR.out.e (HR.out.n4 (HR.out.n2 hL)))
        refine Tm.step_app w_ rfl (.tmp 101) (.tmp 103) rfl V18.heap.size (some ⟨g1, 0, none⟩) 0 0 [] rfl (ho0 hL) (· < w_.heap.size) h.B h.m h.d h.rs rfl (HS18.out.m.below HE.out).r HSH.out.z h.m (Nat.zero_add _) (by have := HMH.out; omega) HE.out.size ?_
        intro A1 c1 w5 hO hg
        exact hK.out _ _ ⟨_, _, _, _, _, _, _, _, _, rfl, Lib.hid (HR.out.s3 hL h0 rfl hw0 hO hg)⟩
      · rintro L_ a_ w_ hL hd ⟨v41, v42, v43, v44, v45, v46, v47, v48, v49, rfl, HR⟩ K hK
        have HE := Lib.hid (HR.out.e (no8 HR.out.d_st_el hL))
        have hx := ((HC13.out).keep (HAL18.out.trans (HE.out.mono HAL18.out.size)))
        have x0 := hx.c 0
        have x1 := hx.c 1
        have x2 := hx.c 2
        have x3 := hx.c 3
        have x4 := hx.c 4
        have x5 := hx.c 5
        have x6 := hx.c 6
        have x7 := hx.c 7
        have x8 := hx.c 8
        simp at x0 x1 x2 x3 x4 x5 x6 x7 x8
        clear hx
        clear hd
        go_simp
        exact hK.out _ _ ⟨_, _, _, _, _, _, _, _, _, rfl, Lib.hid (HR.out.s4 rfl)⟩
      · rintro L_ a_ w_ hL hd ⟨v41, v42, v43, v44, v45, v46, v47, v48, v49, rfl, HR⟩ K hK
        have HE := Lib.hid (HR.out.e (no8 HR.out.d_st_em hL))
        have hx := ((HC14.out).keep (HAL18.out.trans (HE.out.mono HAL18.out.size)))
        have x0 := hx.c 0
        have x1 := hx.c 1
        have x2 := hx.c 2
        have x3 := hx.c 3
        have x4 := hx.c 4
        have x5 := hx.c 5
        have x6 := hx.c 6
        have x7 := hx.c 7
        have x8 := hx.c 8
        simp at x0 x1 x2 x3 x4 x5 x6 x7 x8
        clear hx
        clear hd
        go_simp
        exact hK.out _ _ ⟨_, _, _, _, _, _, _, _, _, rfl, Lib.hid (HR.out.s5 rfl)⟩
      · rintro L_ a_ w_ hL hd ⟨v41, v42, v43, v44, v45, v46, v47, v48, v49, rfl, HR⟩ K hK
        have e4 := HR.out.f4 (hd ⟨4, .data⟩ (by simp) rfl)
        subst e4
        have e5 := HR.out.f5 (hd ⟨5, .data⟩ (by simp) rfl)
        subst e5
        have HR2 := Lib.hid (HR.out.s6 hL)
        clear hd
        go_simp
        exact hK.out _ _ ⟨_, _, _, _, _, _, _, _, _, rfl, Lib.hid HR2.out⟩
      · rintro L_ a_ w_ hL hd ⟨v41, v42, v43, v44, v45, v46, v47, v48, v49, rfl, HR⟩ K hK
        have h3 := hd ⟨3, .data⟩ (by simp) rfl
        have hb := hd ⟨6, .data⟩ (by simp) rfl
        obtain ⟨A1, c1, e3, ho3⟩ := HR.out.f3 h3
        subst e3
        obtain ⟨g2, eb, hxb, _⟩ := HR.out.f6 hb
        subst eb
        have HE := Lib.hid (HR.out.e (HR.out.n4 hL))
        refine Tm.step_app w_ rfl (.tmp 104) (.tmp 107) rfl V18.heap.size A1 h.m c1 h.rs rfl (ho3 hL) (· < w_.heap.size) (some ⟨g2, 0, none⟩) 2 2 [rwN dd 3 zri, rwN dd 4 zri] rfl (raws_boxC (hxb hL)) (fun e => by cases e) (h.m + 2) rfl (by have := HMH.out; omega) HE.out.size ?_
        intro A2 c2 w5 hO hg
        exact hK.out _ _ ⟨_, _, _, _, _, _, _, _, _, rfl, Lib.hid (HR.out.s7 hL h3 hb (ho3 hL) hO hg)⟩
      · rintro L_ a_ w_ hL hd ⟨v41, v42, v43, v44, v45, v46, v47, v48, v49, rfl, HR⟩ K hK
        clear hd
        go_simp
        exact hK.out _ _ ⟨_, _, _, _, _, _, _, _, _, rfl, Lib.hid (HR.out.s8 rfl)⟩
      · rintro L_ a_ w_ hL hd ⟨v41, v42, v43, v44, v45, v46, v47, v48, v49, rfl, HR⟩ K hK
        have h6 := hd ⟨7, .data⟩ (by simp) rfl
        obtain ⟨A2, c2, e6, ho6⟩ := HR.out.f7 h6
        subst e6
        have e7 := HR.out.f8 (hd ⟨8, .data⟩ (by simp) rfl)
        subst e7
        have hst_fa := hd ⟨1, .phase⟩ (by simp) rfl
        have hst_ld := hd ⟨2, .phase⟩ (by simp) rfl
        have hst_el := hd ⟨4, .phase⟩ (by simp) rfl
        have hst_em := hd ⟨5, .phase⟩ (by simp) rfl
        have hst_fa2 := hd ⟨8, .data⟩ (by simp) rfl
        have hy2 := (HY18.out).keep (HR.out.e hL)
        have fy := hy2.f
        have y9 := hy2.c 9
        simp at y9
        have HR2 := Lib.hid (HR.out.s9 hL h6 hst_fa hst_ld hst_el hst_em hst_fa2 HGL18.out.1 HGL18.out.2 (HY18.out) (rfl) ho6)
        clear hd ho6 hy2
        go_simp
        exact hK.out _ _ ⟨_, _, _, _, _, _, _, _, _, rfl, Lib.hid HR2.out⟩
      · rintro L_ a_ w_ hL ⟨v41, v42, v43, v44, v45, v46, v47, v48, v49, rfl, HR⟩
        obtain ⟨A18, c18, hO18, hY18, hK18⟩ := HR.out.f9 (hL 9 (by decide))
        have HBB18 := Lib.hid HR.out.b
        have HX18 := Lib.hid (cp_of HB1.out.m HBB18.out HSH.out (by have := HMH.out; omega) hO18 hY18 (fun q hq => by simp at hq; rcases hq with rfl | rfl <;> exact ⟨rfl, rfl⟩))
        clear HR hL hO18 hY18 hK18 HS18 HY18 HAL18 HGL18
        obtain ⟨x18, hx18⟩ : ∃ x, hmore h A18 c18 [rwN dd 3 zri, rwN dd 4 zri] (h.m + 2) = x := ⟨_, rfl⟩
        rw [hx18] at HX18
        clear hx18
        have HB18 := Lib.hid (HB1.out.next HBB18.out)
        have HC13b := Lib.hid (HC13.out.keep HBB18.out)
        have HC14b := Lib.hid (HC14.out.keep HBB18.out)
        clear HBB18 HB1 HC13 HC14
        generalize w_ = U18 at HB18 HX18 HC13b HC14b ⊢
        dsimp only [Exit.then]
        go_step
        have HS20 := Lib.hid (HB18.out.next (alloc_ U18 (.cells (hc h) 31)))
        obtain ⟨V20, hV20⟩ : ∃ W', U18.alloc (.cells (hc h) 31) = W' := ⟨_, rfl⟩
        have HY20 := Lib.hid (show Bx V20 U18.heap.size 31 (hc h) by rw [← hV20]; exact Bx.new _ _ _)
        rw [hV20] at HS20
        have HVV20 := Lib.hid (show U18.alloc (.cells #[.int .i64 h.id, .int .i64 h.bk, .int .i64 h.s.1, .int .i64 h.s.2, .int .i64 h.r.k, .int .i64 h.r.v, .int .i64 h.r.a, .int .i64 h.r.z, .slice h.A h.n h.c, .slice h.B h.m h.d] 31) = V20 from hV20)
        have HLT20 := Lib.hid (show U18.heap.size < V20.heap.size by rw [← hV20]; simp)
        have HAL20 := Lib.hid (show Below U18.heap.size U18 V20 by rw [← hV20]; exact alloc_ _ _)
        clear hV20
        have x0 := HB18.out.y.c 0
        have x1 := HB18.out.y.c 1
        have x2 := HB18.out.y.c 2
        have x3 := HB18.out.y.c 3
        have x4 := HB18.out.y.c 4
        have x5 := HB18.out.y.c 5
        have x6 := HB18.out.y.c 6
        have x7 := HB18.out.y.c 7
        have x8 := HB18.out.y.c 8
        have x9 := HB18.out.y.c 9
        simp at x0 x1 x2 x3 x4 x5 x6 x7 x8 x9
        go_upto_region 20 with fail
        rw [HVV20.out]
        clear HVV20 x0 x1 x2 x3 x4 x5 x6 x7 x8 x9
        obtain ⟨g16, hg16⟩ : ∃ b, U18.heap.size = b := ⟨_, rfl⟩
        rw [hg16] at HY20 ⊢
        have HGL20 := Lib.hid (show U18.heap.size ≤ g16 ∧ g16 < V20.heap.size by rw [← hg16]; exact ⟨Nat.le_refl _, HLT20.out⟩)
        clear hg16 HLT20
        refine wp_region_steps (fun L_ a_ w_ => ∃ (v61 v62 v63 v64 v65 v66 v67 v68 v69 : Value), a_ = { tmps := #[.slice LA i lc, .int .u8 day, undef, undef, .bool false, .bool true, .pointer (some ⟨b6, 0, none⟩), .pointer (some ⟨b7, 0, none⟩), .pointer (some ⟨b8, 0, none⟩), .int .i64 (i : Int), u10, u11, .int .i64 dd, .pointer (some ⟨g13, 0, none⟩), .pointer (some ⟨g14, 0, none⟩), .pointer (some ⟨g15, 0, none⟩), .pointer (some ⟨g16, 0, none⟩), undef, undef, undef, undef, undef, undef, undef, undef, undef, undef, undef, undef, undef, .bool true, .tuple #[Trf.tg T 1 1, tg (1, 101) ri1 A 1 1], .tuple #[Trf.tg T 1 1, tg (1, 101) ri1 A 1 1], Trf.tg T 1 1, tg (1, 101) ri1 A 1 1, .slice LA i lc, .int .i64 (i : Int), .bool false, undef, .agg #[.int .i64 1, .int .i64 101, .int .i64 0, .int .i64 36500, .int .i64 0, .int .i64 0, .slice A 1 1], .agg #[.int .i64 1, .int .i64 1, .int .i64 1, .int .i64 101, .int .i64 0, .int .i64 36500, .int .i64 0, .int .i64 0, .slice A 1 1, .slice none 0 0], .int .i64 (i : Int), .slice LA i lc, .int .i64 (i : Int), .bool false, u45, u46, u47, u48, u49, u50, u51, u52, u53, u54, u55, u56, u57, u58, u59, u60, u61, u62, u63, u64, u65, u66, u67, u68, u69, u70, u71, u72, u73, u74, u75, u76, u77, u78, u79, u80, u81, u82, u83, u84, u85, u86, u87, u88, u89, u90, u91, .int .u8 day, .int .u8 (day % 100), .int .i64 (day % 100), .int .i64 dd, .int .i64 dd, .agg #[.int .i64 1, .int .i64 dd, .int .i64 3, .int .i64 0, .int .i64 0, .int .i64 0, .int .i64 0, .slice none 0 0, .int .i64 0], .int .i64 dd, .agg #[.int .i64 1, .int .i64 dd, .int .i64 4, .int .i64 0, .int .i64 0, .int .i64 0, .int .i64 0, .slice none 0 0, .int .i64 0], .agg #[.int .i64 h.id, .int .i64 h.bk, .int .i64 h.s.fst, .int .i64 h.s.snd, .int .i64 h.r.k, .int .i64 h.r.v, .int .i64 h.r.a, .int .i64 h.r.z, .slice h.A h.n h.c, .slice h.B h.m h.d], v41, v42, v43, v44, v45, v46, v47, v48, v49, .agg #[.int .i64 h.id, .int .i64 h.bk, .int .i64 h.s.fst, .int .i64 h.s.snd, .int .i64 h.r.k, .int .i64 h.r.v, .int .i64 h.r.a, .int .i64 h.r.z, .slice h.A h.n h.c, .slice h.B h.m h.d], v61, v62, v63, v64, v65, v66, v67, v68, v69, undef, undef, undef, undef, undef, undef, undef, undef, undef, undef, undef, undef, undef, undef, undef, undef, undef, undef, undef, undef, undef, undef, undef, undef, undef, undef, undef, undef, undef, undef, undef, undef, undef, undef, undef, undef, undef, undef, undef, undef, undef, undef, undef, undef, undef, undef, undef, undef, undef, undef, undef, undef, undef, undef, undef, undef, undef, undef, undef, undef, undef, undef, undef, undef, undef, undef, undef, undef, undef, undef, undef, undef, undef, undef, undef, undef, undef, undef, undef, undef, undef, undef, undef], defers := [] } ∧ Hid (K18 U18 V20 h b8 g16 (rwN dd 4 zri) (rwN dd 3 zri) L_ w_ v61 v62 v63 v64 v65 v66 v67 v68 v69)) (by kernel_rfl) (by kernel_rfl) ?_ (AllSteps.cons ?_ (AllSteps.cons ?_ (AllSteps.cons ?_ (AllSteps.cons ?_ (AllSteps.cons ?_ (AllSteps.cons ?_ (AllSteps.cons ?_ (AllSteps.cons ?_ (AllSteps.cons ?_ (AllSteps.cons ?_ AllSteps.nil)))))))))) ?_
        · exact ⟨_, _, _, _, _, _, _, _, _, rfl, Lib.hid ⟨HAL20.out.size, (HAL20.out).trans ⟨rfl, rfl, rfl, Nat.le_refl _, fun _ _ => rfl⟩, (fun _ => ⟨rfl, rfl, rfl, Nat.le_refl _, fun _ _ => rfl⟩), (fun h => by cases h), (fun h => by cases h), (fun h => by cases h), (fun h => by cases h), (fun h => by cases h), (fun h => by cases h), (fun h => by cases h), (fun h => by cases h), (fun h => by cases h), (fun h => by cases h), (fun h => by cases h), (fun h => by cases h), (fun h => by cases h), (fun h => by cases h), (fun h => by cases h), (fun h => by cases h), (fun h => by cases h), (fun h => by cases h), (fun h => by cases h)⟩⟩
        · rintro L_ a_ w_ hL hd ⟨v61, v62, v63, v64, v65, v66, v67, v68, v69, rfl, HR⟩ K hK
          have HR2 := Lib.hid (HR.out.s0 hL)
          clear hd
          go_simp
          exact hK.out _ _ ⟨_, _, _, _, _, _, _, _, _, rfl, Lib.hid HR2.out⟩
        · rintro L_ a_ w_ hL hd ⟨v61, v62, v63, v64, v65, v66, v67, v68, v69, rfl, HR⟩ K hK
          clear hd
          go_simp
          exact hK.out _ _ ⟨_, _, _, _, _, _, _, _, _, rfl, Lib.hid (HR.out.s1 rfl)⟩
        · rintro L_ a_ w_ hL hd ⟨v61, v62, v63, v64, v65, v66, v67, v68, v69, rfl, HR⟩ K hK
          have HE := Lib.hid (HR.out.e (no8 HR.out.d_st_ld hL))
          have e1 := HR.out.f1 (hd ⟨1, .data⟩ (by simp) rfl)
          subst e1
          have hx := HS20.out.y.keep HE.out
          have x9 := hx.c 9
          simp at x9
          clear hx
          clear hd
          go_simp
          exact hK.out _ _ ⟨_, _, _, _, _, _, _, _, _, rfl, Lib.hid (HR.out.s2 rfl)⟩
        · rintro L_ a_ w_ hL hd ⟨v61, v62, v63, v64, v65, v66, v67, v68, v69, rfl, HR⟩ K hK
          have h0 := hd ⟨0, .data⟩ (by simp) rfl
          obtain ⟨g1, e0, hl0, hw0, ho0⟩ := HR.out.f0 h0
          subst e0
          have e2 := HR.out.f2 (hd ⟨2, .data⟩ (by simp) rfl)
          subst e2
          have HE := Lib.hid (HR.out.e (HR.out.n4 (HR.out.n2 hL)))
          refine Tm.step_app w_ rfl (.tmp 111) (.tmp 113) rfl V20.heap.size (some ⟨g1, 0, none⟩) 0 0 [] rfl (ho0 hL) (· < w_.heap.size) h.B h.m h.d h.rs rfl (HS20.out.m.below HE.out).r HSH.out.z h.m (Nat.zero_add _) (by have := HMH.out; omega) HE.out.size ?_
          intro A1 c1 w5 hO hg
          exact hK.out _ _ ⟨_, _, _, _, _, _, _, _, _, rfl, Lib.hid (HR.out.s3 hL h0 rfl hw0 hO hg)⟩
        · rintro L_ a_ w_ hL hd ⟨v61, v62, v63, v64, v65, v66, v67, v68, v69, rfl, HR⟩ K hK
          have HE := Lib.hid (HR.out.e (no8 HR.out.d_st_el hL))
          have hx := ((HC14b.out).keep (HAL20.out.trans (HE.out.mono HAL20.out.size)))
          have x0 := hx.c 0
          have x1 := hx.c 1
          have x2 := hx.c 2
          have x3 := hx.c 3
          have x4 := hx.c 4
          have x5 := hx.c 5
          have x6 := hx.c 6
          have x7 := hx.c 7
          have x8 := hx.c 8
          simp at x0 x1 x2 x3 x4 x5 x6 x7 x8
          clear hx
          clear hd
          go_simp
          exact hK.out _ _ ⟨_, _, _, _, _, _, _, _, _, rfl, Lib.hid (HR.out.s4 rfl)⟩
        · rintro L_ a_ w_ hL hd ⟨v61, v62, v63, v64, v65, v66, v67, v68, v69, rfl, HR⟩ K hK
          have HE := Lib.hid (HR.out.e (no8 HR.out.d_st_em hL))
          have hx := ((HC13b.out).keep (HAL20.out.trans (HE.out.mono HAL20.out.size)))
          have x0 := hx.c 0
          have x1 := hx.c 1
          have x2 := hx.c 2
          have x3 := hx.c 3
          have x4 := hx.c 4
          have x5 := hx.c 5
          have x6 := hx.c 6
          have x7 := hx.c 7
          have x8 := hx.c 8
          simp at x0 x1 x2 x3 x4 x5 x6 x7 x8
          clear hx
          clear hd
          go_simp
          exact hK.out _ _ ⟨_, _, _, _, _, _, _, _, _, rfl, Lib.hid (HR.out.s5 rfl)⟩
        · rintro L_ a_ w_ hL hd ⟨v61, v62, v63, v64, v65, v66, v67, v68, v69, rfl, HR⟩ K hK
          have e4 := HR.out.f4 (hd ⟨4, .data⟩ (by simp) rfl)
          subst e4
          have e5 := HR.out.f5 (hd ⟨5, .data⟩ (by simp) rfl)
          subst e5
          have HR2 := Lib.hid (HR.out.s6 hL)
          clear hd
          go_simp
          exact hK.out _ _ ⟨_, _, _, _, _, _, _, _, _, rfl, Lib.hid HR2.out⟩
        · rintro L_ a_ w_ hL hd ⟨v61, v62, v63, v64, v65, v66, v67, v68, v69, rfl, HR⟩ K hK
          have h3 := hd ⟨3, .data⟩ (by simp) rfl
          have hb := hd ⟨6, .data⟩ (by simp) rfl
          obtain ⟨A1, c1, e3, ho3⟩ := HR.out.f3 h3
          subst e3
          obtain ⟨g2, eb, hxb, _⟩ := HR.out.f6 hb
          subst eb
          have HE := Lib.hid (HR.out.e (HR.out.n4 hL))
          refine Tm.step_app w_ rfl (.tmp 114) (.tmp 117) rfl V20.heap.size A1 h.m c1 h.rs rfl (ho3 hL) (· < w_.heap.size) (some ⟨g2, 0, none⟩) 2 2 [rwN dd 4 zri, rwN dd 3 zri] rfl (raws_boxC (hxb hL)) (fun e => by cases e) (h.m + 2) rfl (by have := HMH.out; omega) HE.out.size ?_
          intro A2 c2 w5 hO hg
          exact hK.out _ _ ⟨_, _, _, _, _, _, _, _, _, rfl, Lib.hid (HR.out.s7 hL h3 hb (ho3 hL) hO hg)⟩
        · rintro L_ a_ w_ hL hd ⟨v61, v62, v63, v64, v65, v66, v67, v68, v69, rfl, HR⟩ K hK
          clear hd
          go_simp
          exact hK.out _ _ ⟨_, _, _, _, _, _, _, _, _, rfl, Lib.hid (HR.out.s8 rfl)⟩
        · rintro L_ a_ w_ hL hd ⟨v61, v62, v63, v64, v65, v66, v67, v68, v69, rfl, HR⟩ K hK
          have h6 := hd ⟨7, .data⟩ (by simp) rfl
          obtain ⟨A2, c2, e6, ho6⟩ := HR.out.f7 h6
          subst e6
          have e7 := HR.out.f8 (hd ⟨8, .data⟩ (by simp) rfl)
          subst e7
          have hst_fa := hd ⟨1, .phase⟩ (by simp) rfl
          have hst_ld := hd ⟨2, .phase⟩ (by simp) rfl
          have hst_el := hd ⟨4, .phase⟩ (by simp) rfl
          have hst_em := hd ⟨5, .phase⟩ (by simp) rfl
          have hst_fa2 := hd ⟨8, .data⟩ (by simp) rfl
          have hy2 := (HY20.out).keep (HR.out.e hL)
          have fy := hy2.f
          have y9 := hy2.c 9
          simp at y9
          have HR2 := Lib.hid (HR.out.s9 hL h6 hst_fa hst_ld hst_el hst_em hst_fa2 HGL20.out.1 HGL20.out.2 (HY20.out) (rfl) ho6)
          clear hd ho6 hy2
          go_simp
          exact hK.out _ _ ⟨_, _, _, _, _, _, _, _, _, rfl, Lib.hid HR2.out⟩
        · rintro L_ a_ w_ hL ⟨v61, v62, v63, v64, v65, v66, v67, v68, v69, rfl, HR⟩
          obtain ⟨A20, c20, hO20, hY20, hK20⟩ := HR.out.f9 (hL 9 (by decide))
          have HBB20 := Lib.hid HR.out.b
          have HX20 := Lib.hid (cp_of HB18.out.m HBB20.out HSH.out (by have := HMH.out; omega) hO20 hY20 (fun q hq => by simp at hq; rcases hq with rfl | rfl <;> exact ⟨rfl, rfl⟩))
          clear HR hL hO20 hY20 hK20 HS20 HY20 HAL20 HGL20
          obtain ⟨x20, hx20⟩ : ∃ x, hmore h A20 c20 [rwN dd 4 zri, rwN dd 3 zri] (h.m + 2) = x := ⟨_, rfl⟩
          rw [hx20] at HX20
          clear hx20
          have HB20 := Lib.hid (HB18.out.next HBB20.out)
          have HC13c := Lib.hid (HC13b.out.keep HBB20.out)
          have HC14c := Lib.hid (HC14b.out.keep HBB20.out)
          have HX18b := Lib.hid (HX18.out.next HBB20.out)
          clear HBB20 HB18 HC13b HC14b HX18
          generalize w_ = U20 at HB20 HX20 HC13c HC14c HX18b ⊢
          dsimp only [Exit.then]
          go_step
          have HS22 := Lib.hid (HB20.out.next (alloc_ U20 (.cells (hc h) 31)))
          obtain ⟨V22, hV22⟩ : ∃ W', U20.alloc (.cells (hc h) 31) = W' := ⟨_, rfl⟩
          have HY22 := Lib.hid (show Bx V22 U20.heap.size 31 (hc h) by rw [← hV22]; exact Bx.new _ _ _)
          rw [hV22] at HS22
          have HVV22 := Lib.hid (show U20.alloc (.cells #[.int .i64 h.id, .int .i64 h.bk, .int .i64 h.s.1, .int .i64 h.s.2, .int .i64 h.r.k, .int .i64 h.r.v, .int .i64 h.r.a, .int .i64 h.r.z, .slice h.A h.n h.c, .slice h.B h.m h.d] 31) = V22 from hV22)
          have HLT22 := Lib.hid (show U20.heap.size < V22.heap.size by rw [← hV22]; simp)
          have HAL22 := Lib.hid (show Below U20.heap.size U20 V22 by rw [← hV22]; exact alloc_ _ _)
          clear hV22
          have x0 := HB20.out.y.c 0
          have x1 := HB20.out.y.c 1
          have x2 := HB20.out.y.c 2
          have x3 := HB20.out.y.c 3
          have x4 := HB20.out.y.c 4
          have x5 := HB20.out.y.c 5
          have x6 := HB20.out.y.c 6
          have x7 := HB20.out.y.c 7
          have x8 := HB20.out.y.c 8
          have x9 := HB20.out.y.c 9
          simp at x0 x1 x2 x3 x4 x5 x6 x7 x8 x9
          go_upto_region 22 with fail
          rw [HVV22.out]
          clear HVV22 x0 x1 x2 x3 x4 x5 x6 x7 x8 x9
          obtain ⟨g17, hg17⟩ : ∃ b, U20.heap.size = b := ⟨_, rfl⟩
          rw [hg17] at HY22 ⊢
          have HGL22 := Lib.hid (show U20.heap.size ≤ g17 ∧ g17 < V22.heap.size by rw [← hg17]; exact ⟨Nat.le_refl _, HLT22.out⟩)
          clear hg17 HLT22
          refine wp_region_steps (fun L_ a_ w_ => ∃ (v81 v82 v83 v84 v85 v86 v87 v88 v89 v90 v91 : Value), a_ = { tmps := #[.slice LA i lc, .int .u8 day, undef, undef, .bool false, .bool true, .pointer (some ⟨b6, 0, none⟩), .pointer (some ⟨b7, 0, none⟩), .pointer (some ⟨b8, 0, none⟩), .int .i64 (i : Int), u10, u11, .int .i64 dd, .pointer (some ⟨g13, 0, none⟩), .pointer (some ⟨g14, 0, none⟩), .pointer (some ⟨g15, 0, none⟩), .pointer (some ⟨g16, 0, none⟩), .pointer (some ⟨g17, 0, none⟩), undef, undef, undef, undef, undef, undef, undef, undef, undef, undef, undef, undef, .bool true, .tuple #[Trf.tg T 1 1, tg (1, 101) ri1 A 1 1], .tuple #[Trf.tg T 1 1, tg (1, 101) ri1 A 1 1], Trf.tg T 1 1, tg (1, 101) ri1 A 1 1, .slice LA i lc, .int .i64 (i : Int), .bool false, undef, .agg #[.int .i64 1, .int .i64 101, .int .i64 0, .int .i64 36500, .int .i64 0, .int .i64 0, .slice A 1 1], .agg #[.int .i64 1, .int .i64 1, .int .i64 1, .int .i64 101, .int .i64 0, .int .i64 36500, .int .i64 0, .int .i64 0, .slice A 1 1, .slice none 0 0], .int .i64 (i : Int), .slice LA i lc, .int .i64 (i : Int), .bool false, u45, u46, u47, u48, u49, u50, u51, u52, u53, u54, u55, u56, u57, u58, u59, u60, u61, u62, u63, u64, u65, u66, u67, u68, u69, u70, u71, u72, u73, u74, u75, u76, u77, u78, u79, u80, u81, u82, u83, u84, u85, u86, u87, u88, u89, u90, u91, .int .u8 day, .int .u8 (day % 100), .int .i64 (day % 100), .int .i64 dd, .int .i64 dd, .agg #[.int .i64 1, .int .i64 dd, .int .i64 3, .int .i64 0, .int .i64 0, .int .i64 0, .int .i64 0, .slice none 0 0, .int .i64 0], .int .i64 dd, .agg #[.int .i64 1, .int .i64 dd, .int .i64 4, .int .i64 0, .int .i64 0, .int .i64 0, .int .i64 0, .slice none 0 0, .int .i64 0], .agg #[.int .i64 h.id, .int .i64 h.bk, .int .i64 h.s.fst, .int .i64 h.s.snd, .int .i64 h.r.k, .int .i64 h.r.v, .int .i64 h.r.a, .int .i64 h.r.z, .slice h.A h.n h.c, .slice h.B h.m h.d], v41, v42, v43, v44, v45, v46, v47, v48, v49, .agg #[.int .i64 h.id, .int .i64 h.bk, .int .i64 h.s.fst, .int .i64 h.s.snd, .int .i64 h.r.k, .int .i64 h.r.v, .int .i64 h.r.a, .int .i64 h.r.z, .slice h.A h.n h.c, .slice h.B h.m h.d], v61, v62, v63, v64, v65, v66, v67, v68, v69, .agg #[.int .i64 h.id, .int .i64 h.bk, .int .i64 h.s.fst, .int .i64 h.s.snd, .int .i64 h.r.k, .int .i64 h.r.v, .int .i64 h.r.a, .int .i64 h.r.z, .slice h.A h.n h.c, .slice h.B h.m h.d], v81, v82, v83, v84, v85, v86, v87, v88, v89, v90, v91, undef, undef, undef, undef, undef, undef, undef, undef, undef, undef, undef, undef, undef, undef, undef, undef, undef, undef, undef, undef, undef, undef, undef, undef, undef, undef, undef, undef, undef, undef, undef, undef, undef, undef, undef, undef, undef, undef, undef, undef, undef, undef, undef, undef, undef, undef, undef, undef, undef, undef, undef, undef, undef, undef, undef, undef, undef, undef, undef, undef, undef, undef, undef, undef, undef, undef, undef, undef, undef, undef, undef], defers := [] } ∧ Hid (K22 U20 V22 h b8 g17 b7 dd L_ w_ v81 v82 v83 v84 v85 v86 v87 v88 v89 v90 v91)) (by kernel_rfl) (by kernel_rfl) ?_ (AllSteps.cons ?_ (AllSteps.cons ?_ (AllSteps.cons ?_ (AllSteps.cons ?_ (AllSteps.cons ?_ (AllSteps.cons ?_ (AllSteps.cons ?_ (AllSteps.cons ?_ (AllSteps.cons ?_ (AllSteps.cons ?_ (AllSteps.cons ?_ (AllSteps.cons ?_ AllSteps.nil)))))))))))) ?_
          · exact ⟨_, _, _, _, _, _, _, _, _, _, _, rfl, Lib.hid ⟨HAL22.out.size, (HAL22.out).trans ⟨rfl, rfl, rfl, Nat.le_refl _, fun _ _ => rfl⟩, (fun _ => ⟨rfl, rfl, rfl, Nat.le_refl _, fun _ _ => rfl⟩), (fun h => by cases h), (fun h => by cases h), (fun h => by cases h), (fun h => by cases h), (fun h => by cases h), (fun h => by cases h), (fun h => by cases h), (fun h => by cases h), (fun h => by cases h), (fun h => by cases h), (fun h => by cases h), (fun h => by cases h), (fun h => by cases h), (fun h => by cases h), (fun h => by cases h), (fun h => by cases h), (fun h => by cases h), (fun h => by cases h), (fun h => by cases h), (fun h => by cases h), (fun h => by cases h), (fun h => by cases h), (fun h => by cases h)⟩⟩
          · rintro L_ a_ w_ hL hd ⟨v81, v82, v83, v84, v85, v86, v87, v88, v89, v90, v91, rfl, HR⟩ K hK
            have HR2 := Lib.hid (HR.out.s0 hL)
            clear hd
            go_simp
            exact hK.out _ _ ⟨_, _, _, _, _, _, _, _, _, _, _, rfl, Lib.hid HR2.out⟩
          · rintro L_ a_ w_ hL hd ⟨v81, v82, v83, v84, v85, v86, v87, v88, v89, v90, v91, rfl, HR⟩ K hK
            clear hd
            go_simp
            exact hK.out _ _ ⟨_, _, _, _, _, _, _, _, _, _, _, rfl, Lib.hid (HR.out.s1 rfl)⟩
          · rintro L_ a_ w_ hL hd ⟨v81, v82, v83, v84, v85, v86, v87, v88, v89, v90, v91, rfl, HR⟩ K hK
            have HE := Lib.hid (HR.out.e (no8 HR.out.d_st_ld hL))
            have e1 := HR.out.f1 (hd ⟨1, .data⟩ (by simp) rfl)
            subst e1
            have hx := HS22.out.y.keep HE.out
            have x9 := hx.c 9
            simp at x9
            clear hx
            clear hd
            go_simp
            exact hK.out _ _ ⟨_, _, _, _, _, _, _, _, _, _, _, rfl, Lib.hid (HR.out.s2 rfl)⟩
          · rintro L_ a_ w_ hL hd ⟨v81, v82, v83, v84, v85, v86, v87, v88, v89, v90, v91, rfl, HR⟩ K hK
            have h0 := hd ⟨0, .data⟩ (by simp) rfl
            obtain ⟨g1, e0, hl0, hw0, ho0⟩ := HR.out.f0 h0
            subst e0
            have e2 := HR.out.f2 (hd ⟨2, .data⟩ (by simp) rfl)
            subst e2
            have HE := Lib.hid (HR.out.e (HR.out.n4 (HR.out.n2 hL)))
            refine Tm.step_app w_ rfl (.tmp 121) (.tmp 123) rfl V22.heap.size (some ⟨g1, 0, none⟩) 0 0 [] rfl (ho0 hL) (· < w_.heap.size) h.B h.m h.d h.rs rfl (HS22.out.m.below HE.out).r HSH.out.z h.m (Nat.zero_add _) (by have := HMH.out; omega) HE.out.size ?_
            intro A1 c1 w5 hO hg
            exact hK.out _ _ ⟨_, _, _, _, _, _, _, _, _, _, _, rfl, Lib.hid (HR.out.s3 hL h0 rfl hw0 hO hg)⟩
          · rintro L_ a_ w_ hL hd ⟨v81, v82, v83, v84, v85, v86, v87, v88, v89, v90, v91, rfl, HR⟩ K hK
            clear hd
            go_simp
            exact hK.out _ _ ⟨_, _, _, _, _, _, _, _, _, _, _, rfl, Lib.hid (HR.out.s4 rfl)⟩
          · rintro L_ a_ w_ hL hd ⟨v81, v82, v83, v84, v85, v86, v87, v88, v89, v90, v91, rfl, HR⟩ K hK
            clear hd
            go_simp
            exact hK.out _ _ ⟨_, _, _, _, _, _, _, _, _, _, _, rfl, Lib.hid (HR.out.s5 rfl)⟩
          · rintro L_ a_ w_ hL hd ⟨v81, v82, v83, v84, v85, v86, v87, v88, v89, v90, v91, rfl, HR⟩ K hK
            have HE := Lib.hid (HR.out.e (no8 HR.out.d_st_lr hL))
            have e5 := HR.out.f5 (hd ⟨5, .data⟩ (by simp) rfl)
            subst e5
            have hx := HS22.out.s.x.keep HE.out
            have x0 := hx.c 0
            have x1 := hx.c 1
            have x2 := hx.c 2
            have x3 := hx.c 3
            have x4 := hx.c 4
            have x5 := hx.c 5
            have x6 := hx.c 6
            simp at x0 x1 x2 x3 x4 x5 x6
            clear hx
            clear hd
            go_simp
            exact hK.out _ _ ⟨_, _, _, _, _, _, _, _, _, _, _, rfl, Lib.hid (HR.out.s6 rfl)⟩
          · rintro L_ a_ w_ hL hd ⟨v81, v82, v83, v84, v85, v86, v87, v88, v89, v90, v91, rfl, HR⟩ K hK
            have e4 := HR.out.f4 (hd ⟨4, .data⟩ (by simp) rfl)
            subst e4
            have e6 := HR.out.f6 (hd ⟨6, .data⟩ (by simp) rfl)
            subst e6
            clear hd
            go_simp
            exact hK.out _ _ ⟨_, _, _, _, _, _, _, _, _, _, _, rfl, Lib.hid (HR.out.s7 rfl)⟩
          · rintro L_ a_ w_ hL hd ⟨v81, v82, v83, v84, v85, v86, v87, v88, v89, v90, v91, rfl, HR⟩ K hK
            have e7 := HR.out.f7 (hd ⟨7, .data⟩ (by simp) rfl)
            subst e7
            have HR2 := Lib.hid (HR.out.s8 hL)
            clear hd
            go_simp
            exact hK.out _ _ ⟨_, _, _, _, _, _, _, _, _, _, _, rfl, Lib.hid HR2.out⟩
          · rintro L_ a_ w_ hL hd ⟨v81, v82, v83, v84, v85, v86, v87, v88, v89, v90, v91, rfl, HR⟩ K hK
            have h3 := hd ⟨3, .data⟩ (by simp) rfl
            have hb := hd ⟨8, .data⟩ (by simp) rfl
            obtain ⟨A1, c1, e3, ho3⟩ := HR.out.f3 h3
            subst e3
            obtain ⟨g2, eb, hxb, _⟩ := HR.out.f8 hb
            subst eb
            have HE := Lib.hid (HR.out.e (HR.out.n4 hL))
            refine Tm.step_app w_ rfl (.tmp 124) (.tmp 129) rfl V22.heap.size A1 h.m c1 h.rs rfl (ho3 hL) (· < w_.heap.size) (some ⟨g2, 0, none⟩) 1 1 [rwN dd 1 ri1] rfl (raws_boxC (hxb hL)) (fun e => by cases e) (h.m + 1) rfl (by have := HMH.out; omega) HE.out.size ?_
            intro A2 c2 w5 hO hg
            exact hK.out _ _ ⟨_, _, _, _, _, _, _, _, _, _, _, rfl, Lib.hid (HR.out.s9 hL h3 hb (ho3 hL) hO hg)⟩
          · rintro L_ a_ w_ hL hd ⟨v81, v82, v83, v84, v85, v86, v87, v88, v89, v90, v91, rfl, HR⟩ K hK
            clear hd
            go_simp
            exact hK.out _ _ ⟨_, _, _, _, _, _, _, _, _, _, _, rfl, Lib.hid (HR.out.s10 rfl)⟩
          · rintro L_ a_ w_ hL hd ⟨v81, v82, v83, v84, v85, v86, v87, v88, v89, v90, v91, rfl, HR⟩ K hK
            have h6 := hd ⟨9, .data⟩ (by simp) rfl
            obtain ⟨A2, c2, e6, ho6⟩ := HR.out.f9 h6
            subst e6
            have e7 := HR.out.f10 (hd ⟨10, .data⟩ (by simp) rfl)
            subst e7
            have hst_fa := hd ⟨1, .phase⟩ (by simp) rfl
            have hst_ld := hd ⟨2, .phase⟩ (by simp) rfl
            have hst_mv := hd ⟨4, .phase⟩ (by simp) rfl
            have hst_fb := hd ⟨5, .phase⟩ (by simp) rfl
            have hst_lr := hd ⟨6, .phase⟩ (by simp) rfl
            have hst_el := hd ⟨7, .phase⟩ (by simp) rfl
            have hst_fa2 := hd ⟨10, .data⟩ (by simp) rfl
            have hy2 := (HY22.out).keep (HR.out.e hL)
            have fy := hy2.f
            have y9 := hy2.c 9
            simp at y9
            have HR2 := Lib.hid (HR.out.s11 hL h6 hst_fa hst_ld hst_mv hst_fb hst_lr hst_el hst_fa2 HGL22.out.1 HGL22.out.2 (HY22.out) (rfl) ho6)
            clear hd ho6 hy2
            go_simp
            exact hK.out _ _ ⟨_, _, _, _, _, _, _, _, _, _, _, rfl, Lib.hid HR2.out⟩
          · rintro L_ a_ w_ hL ⟨v81, v82, v83, v84, v85, v86, v87, v88, v89, v90, v91, rfl, HR⟩
            obtain ⟨A22, c22, hO22, hY22, hK22⟩ := HR.out.f11 (hL 11 (by decide))
            have HBB22 := Lib.hid HR.out.b
            have HX22 := Lib.hid (cp_of HB20.out.m HBB22.out HSH.out (by have := HMH.out; omega) hO22 hY22 (fun q hq => by simp at hq; subst hq; exact ⟨rfl, rfl⟩))
            clear HR hL hO22 hY22 hK22 HS22 HY22 HAL22 HGL22
            obtain ⟨x22, hx22⟩ : ∃ x, hmore h A22 c22 [rwN dd 1 ri1] (h.m + 1) = x := ⟨_, rfl⟩
            rw [hx22] at HX22
            clear hx22
            have HB22 := Lib.hid (HB20.out.next HBB22.out)
            have HX18 := Lib.hid (HX18b.out.next HBB22.out)
            have HX20b := Lib.hid (HX20.out.next HBB22.out)
            clear HBB22 HB20 HX18b HX20
            generalize w_ = U22 at HB22 HX22 HX18 HX20b ⊢
            dsimp only [Exit.then]
            go_step
            have L18 := Lib.hid (lst_more HX18.out HL.out fun c hc => by simp at hc; rcases hc with rfl | rfl <;> exact keeps_new HD.out (by simp))
            have L20 := Lib.hid (lst_more HX20b.out HL.out fun c hc => by simp at hc; rcases hc with rfl | rfl <;> exact keeps_new HD.out (by simp))
            have L22 := Lib.hid (lst_more HX22.out HL.out fun c hc => by simp at hc; subst hc; exact keeps_risk HD.out)
            have C := Lib.hid (of_ x18 T 1 1 [r] U22 (HX18.out.mm) (HX18.out.ss) (HX18.out.ll) HB22.out.s.v (by omega))
            have x0 := HX18.out.bx.c 0
            have x1 := HX18.out.bx.c 1
            have x2 := HX18.out.bx.c 2
            have x3 := HX18.out.bx.c 3
            have x4 := HX18.out.bx.c 4
            have x5 := HX18.out.bx.c 5
            have x6 := HX18.out.bx.c 6
            have x7 := HX18.out.bx.c 7
            have x8 := HX18.out.bx.c 8
            have x9 := HX18.out.bx.c 9
            simp at x0 x1 x2 x3 x4 x5 x6 x7 x8 x9
            have y0 := HB22.out.s.t.c 0
            simp at y0
            go_wp2_with fail
            refine C.out.mono ?_
            rintro e w23 ⟨A23, n23, c23, rs23, cd23, rfl, hs23, hn23, hi23, hb⟩
            rw [HRV.out] at hi23
            obtain rfl : cd23 = 0 := (L18.out).zero hi23
            have HIS23 := Lib.hid hi23
            have HLS23_23 := Lib.hid hs23
            have HB22_23 := Lib.hid (HB22.out.next hb)
            have HX18_23 := Lib.hid (HX18.out.next hb)
            have HX20b_23 := Lib.hid (HX20b.out.next hb)
            have HX22_23 := Lib.hid (HX22.out.next hb)
            clear hb hs23 hi23 C x0 x1 x2 x3 x4 x5 x6 x7 x8 x9 y0 HB22 HX18 HX20b HX22
            have C := Lib.hid (of_ x20 T 1 1 [r] w23 (HX20b_23.out.mm) (HX20b_23.out.ss) (HX20b_23.out.ll) HB22_23.out.s.v (by omega))
            have x0 := HX20b_23.out.bx.c 0
            have x1 := HX20b_23.out.bx.c 1
            have x2 := HX20b_23.out.bx.c 2
            have x3 := HX20b_23.out.bx.c 3
            have x4 := HX20b_23.out.bx.c 4
            have x5 := HX20b_23.out.bx.c 5
            have x6 := HX20b_23.out.bx.c 6
            have x7 := HX20b_23.out.bx.c 7
            have x8 := HX20b_23.out.bx.c 8
            have x9 := HX20b_23.out.bx.c 9
            simp at x0 x1 x2 x3 x4 x5 x6 x7 x8 x9
            have y0 := HB22_23.out.s.t.c 0
            simp at y0
            go_wp2_with fail
            refine C.out.mono ?_
            rintro e w24 ⟨A24, n24, c24, rs24, cd24, rfl, hs24, hn24, hi24, hb⟩
            rw [HRV.out] at hi24
            obtain rfl : cd24 = 0 := (L20.out).zero hi24
            have HIS24 := Lib.hid hi24
            have HLS24_24 := Lib.hid hs24
            have HB22_24 := Lib.hid (HB22_23.out.next hb)
            have HX18_24 := Lib.hid (HX18_23.out.next hb)
            have HX20b_24 := Lib.hid (HX20b_23.out.next hb)
            have HX22_24 := Lib.hid (HX22_23.out.next hb)
            have HLS23_24 := Lib.hid (HLS23_23.out.below hb)
            clear hb hs24 hi24 C x0 x1 x2 x3 x4 x5 x6 x7 x8 x9 y0 HB22_23 HX18_23 HX20b_23 HX22_23 HLS23_23
            have C := Lib.hid (of_ h T 1 1 [r] w24 (HB22_24.out.m) (HSH.out) (by have := HMH.out; omega) HB22_24.out.s.v (by omega))
            have x0 := HB22_24.out.y.c 0
            have x1 := HB22_24.out.y.c 1
            have x2 := HB22_24.out.y.c 2
            have x3 := HB22_24.out.y.c 3
            have x4 := HB22_24.out.y.c 4
            have x5 := HB22_24.out.y.c 5
            have x6 := HB22_24.out.y.c 6
            have x7 := HB22_24.out.y.c 7
            have x8 := HB22_24.out.y.c 8
            have x9 := HB22_24.out.y.c 9
            simp at x0 x1 x2 x3 x4 x5 x6 x7 x8 x9
            have y0 := HB22_24.out.s.t.c 0
            simp at y0
            go_wp2_with fail
            refine C.out.mono ?_
            rintro e w25 ⟨A25, n25, c25, rs25, cd25, rfl, hs25, hn25, hi25, hb⟩
            rw [HRV.out] at hi25
            obtain rfl : cd25 = 0 := (HL.out).zero hi25
            have HIS25 := Lib.hid hi25
            have HLS25_25 := Lib.hid hs25
            have HB22_25 := Lib.hid (HB22_24.out.next hb)
            have HX18_25 := Lib.hid (HX18_24.out.next hb)
            have HX20b_25 := Lib.hid (HX20b_24.out.next hb)
            have HX22_25 := Lib.hid (HX22_24.out.next hb)
            have HLS23_25 := Lib.hid (HLS23_24.out.below hb)
            have HLS24_25 := Lib.hid (HLS24_24.out.below hb)
            clear hb hs25 hi25 C x0 x1 x2 x3 x4 x5 x6 x7 x8 x9 y0 HB22_24 HX18_24 HX20b_24 HX22_24 HLS23_24 HLS24_24
            have C := Lib.hid (of_ x22 T 1 1 [r] w25 (HX22_25.out.mm) (HX22_25.out.ss) (HX22_25.out.ll) HB22_25.out.s.v (by omega))
            have x0 := HX22_25.out.bx.c 0
            have x1 := HX22_25.out.bx.c 1
            have x2 := HX22_25.out.bx.c 2
            have x3 := HX22_25.out.bx.c 3
            have x4 := HX22_25.out.bx.c 4
            have x5 := HX22_25.out.bx.c 5
            have x6 := HX22_25.out.bx.c 6
            have x7 := HX22_25.out.bx.c 7
            have x8 := HX22_25.out.bx.c 8
            have x9 := HX22_25.out.bx.c 9
            simp at x0 x1 x2 x3 x4 x5 x6 x7 x8 x9
            have y0 := HB22_25.out.s.t.c 0
            simp at y0
            go_wp2_with fail
            refine C.out.mono ?_
            rintro e w26 ⟨A26, n26, c26, rs26, cd26, rfl, hs26, hn26, hi26, hb⟩
            rw [HRV.out] at hi26
            obtain rfl : cd26 = 0 := (L22.out).zero hi26
            have HIS26 := Lib.hid hi26
            have HLS26_26 := Lib.hid hs26
            have HB22_26 := Lib.hid (HB22_25.out.next hb)
            have HX18_26 := Lib.hid (HX18_25.out.next hb)
            have HX20b_26 := Lib.hid (HX20b_25.out.next hb)
            have HX22_26 := Lib.hid (HX22_25.out.next hb)
            have HLS23_26 := Lib.hid (HLS23_25.out.below hb)
            have HLS24_26 := Lib.hid (HLS24_25.out.below hb)
            have HLS25_26 := Lib.hid (HLS25_25.out.below hb)
            clear hb hs26 hi26 C x0 x1 x2 x3 x4 x5 x6 x7 x8 x9 y0 HB22_25 HX18_25 HX20b_25 HX22_25 HLS23_25 HLS24_25 HLS25_25
            obtain ⟨y1, s1, hf1, hy1⟩ := L18.out.last HIS23.out (p := ⟨h.id, h.bk, h.s, h.r, h.cs, h.v.hs ++ [⟨1, dd, 3, zri, [], 0⟩]⟩) (c := ⟨1, dd, 4, zri, [], 0⟩) (by rw [HX18_26.out.vv]; simp) (d := dd) rfl
            obtain ⟨y2, s2, hf2, hy2⟩ := L20.out.last HIS24.out (p := ⟨h.id, h.bk, h.s, h.r, h.cs, h.v.hs ++ [⟨1, dd, 4, zri, [], 0⟩]⟩) (c := ⟨1, dd, 3, zri, [], 0⟩) (by rw [HX20b_26.out.vv]; simp) (d := dd) rfl
            have HSM := Lib.hid (HL.out.same HIS25.out L22.out HIS26.out (c := ⟨1, dd, 1, ri1, [], 0⟩) (by rw [HX22_26.out.vv]; rfl) rfl rfl)
            have ho1 : y1.h.on = true := by rw [hy1]; unfold don; simp
            have ho2 : y2.h.on = false := by rw [hy2]; unfold don; simp
            have HO1 := Lib.hid ho1
            have HO2 := Lib.hid ho2
            have CA1 := Lib.hid (at_some (c := c23) HLS23_26.out (by omega) hf1)
            have HF2 := Lib.hid hf2
            clear hf1 hf2 hy1 hy2 ho1 ho2 HX18_26 HX20b_26 HX22_26
            go_wp2_with fail
            refine CA1.out.mono ?_
            rintro e w27 ⟨p1, rfl, hv1, hg1, hb⟩
            obtain ⟨W27, hW27⟩ : ∃ W', w27.alloc (.cells (vc p1) 43) = W' := ⟨_, rfl⟩
            have hal : Below w27.heap.size w27 W27 := hW27 ▸ alloc_ _ _
            have hbb := hb.trans (hal.mono hb.size)
            have HB27 := Lib.hid (HB22_26.out.next hbb)
            have HL24 := Lib.hid (HLS24_26.out.below hbb)
            have HL25 := Lib.hid (HLS25_26.out.below hbb)
            have HL26 := Lib.hid (HLS26_26.out.below hbb)
            have HP1 := Lib.hid (show Bx W27 w27.heap.size 43 (vc p1) by rw [← hW27]; exact Bx.new _ _ _)
            have HV1 := Lib.hid (show p1.v.h.on = true by rw [hv1]; exact HO1.out)
            have HW27 := Lib.hid hW27
            clear hal hbb hb hg1 hv1 hW27 CA1 HB22_26 HLS23_26 HLS24_26 HLS25_26 HLS26_26 HO1
            go_upto_region 30 with fail
            rw [HW27.out]
            clear HW27
            obtain ⟨g26, hg26⟩ : ∃ b, w27.heap.size = b := ⟨_, rfl⟩
            rw [hg26] at HP1 ⊢
            clear hg26
            have CA2 := Lib.hid (at_some (c := c24) HL24.out (by omega) HF2.out)
            go_wp2_with fail
            refine CA2.out.mono ?_
            rintro e w28 ⟨p2, rfl, hv2, hg2, hb⟩
            obtain ⟨W28, hW28⟩ : ∃ W', w28.alloc (.cells (vc p2) 43) = W' := ⟨_, rfl⟩
            have hal : Below w28.heap.size w28 W28 := hW28 ▸ alloc_ _ _
            have hbb := hb.trans (hal.mono hb.size)
            have HB28 := Lib.hid (HB27.out.next hbb)
            have HL25b := Lib.hid (HL25.out.below hbb)
            have HL26b := Lib.hid (HL26.out.below hbb)
            have HP1b := Lib.hid (HP1.out.keep hbb)
            have HP2 := Lib.hid (show Bx W28 w28.heap.size 43 (vc p2) by rw [← hW28]; exact Bx.new _ _ _)
            have HV2 := Lib.hid (show p2.v.h.on = false by rw [hv2]; exact HO2.out)
            have HW28 := Lib.hid hW28
            clear hal hbb hb hg2 hv2 hW28 CA2 HB27 HL24 HL25 HL26 HP1 HO2 HF2
            go_upto_region 31 with fail
            rw [HW28.out]
            clear HW28
            obtain ⟨g28, hg28⟩ : ∃ b, w28.heap.size = b := ⟨_, rfl⟩
            rw [hg28] at HP2 ⊢
            clear hg28
            have z2 := HP1b.out.c 2
            simp at z2
            rw [HV1.out] at z2
            have y2' := HP2.out.c 2
            simp at y2'
            rw [HV2.out] at y2'
            have CL := Lib.hid (all_ A25 A26 n25 n26 c25 c26 rs25 rs26 W28 HL25b.out HL26b.out (by omega) (by omega))
            rw [decide_eq_true HSM.out] at CL
            go_wp2_with fail
            refine CL.out.mono ?_
            rintro e w29 ⟨rfl, hb⟩
            have HB29 := Lib.hid (HB28.out.next hb)
            clear hb CL z2 y2'
            go_wp2
            go_ret
            exact ⟨rfl, HB29.out.s.b⟩

end Slc
end Go.Proofs.YtkdhcloaeifbdaaGreat
namespace Go.Proofs.YtkdhcloaeifbdaaGreat.slicesLast
open Go.ChangeShapes Go.WideShapes Go.ChangeAt Go.RowKit Ba Cv Sp Te Ag Tf Sl Slc
set_option linter.unusedVariables false


set_option maxRecDepth 100000 in
theorem lifted (os : Os) (started : os.Started) (H : Type) (enc : TypeId × Value → H) :
    ReturnsInHanded {} Tryz.checked os 9 .any (Rows.slicesLastSpec.pre6 enc Tryz.prog Tryz.f9 Rows.slicesLastRow.domain false) (Rows.slicesLastSpec.post enc Tryz.prog Tryz.f9 false true false false) := by
  refine returnsInHanded_of_change_sized (C := Tryz.checked) Slc.own started (by kernel_rfl) Tryz.func9
    (ChangeSpec.witness6 (enc := enc) (C := Tryz.checked) false ⟨#[], #[.slice none 0 0, .int .u8 0], []⟩ 8 (by kernel_rfl) (by kernel_rfl) (by kernel_rfl) (by kernel_rfl)) ?_
  intro W base args ds gs before hval0 hW hcnd hsz0 _
  have hval : ∀ (j : Nat) t v, Tryz.f9.params[j]? = some t → args[j]? = some v → Value.okWide Tryz.prog W .any base t v := hval0
  have hW' := hW
  have hsz : (DataW.weightsEach Tryz.prog (Tryz.f9.params.toList ++ Rows.slicesLastSpec.plain.varTypes Tryz.prog) (ds ++ gs)).all (· ≤ reachBytes) = true := hsz0
  obtain ⟨p, q, hA0, hV, rfl, hfz, hnd⟩ := hW
  have hA : DataW.TrodAll enc Tryz.prog W 0 (fun _ => true) true Tryz.f9.params.toList args.toList ds p := hA0
  rw [Tryz.params9] at hA hval hsz
  obtain ⟨v0, vs0, d0, ds0, p0, q0, hargs, rfl, rfl, h0, r0⟩ := trodAll_cons hA
  obtain ⟨v1, vs1, d1, ds1, p1, q1, rfl, rfl, rfl, h1, r1⟩ := trodAll_cons r0
  obtain ⟨rfl, rfl, rfl⟩ := trodAll_nil r1
  obtain rfl : args = #[v0, v1] := by cases args; simp_all
  obtain ⟨rfl, rfl⟩ := trodVars_none hV
  have k0 := h0
  have lt0 : ∀ x ∈ p0, x.block < W.heap.size := by obtain ⟨m, hm⟩ := k0; exact DataW.trod_lt m _ _ _ hm
  obtain ⟨A0, n0, c0, s0, rfl, g0⟩ := Slc.open_changes (hval 0 29 v0 rfl rfl) h0 (fun k hk => of_decide_eq_true (List.all_eq_true.1 hsz _ (DataW.weights_mem_each (j := 0) rfl rfl k hk)))
  obtain ⟨a1, rfl, rfl, rfl, w1⟩ := open_int Tryz.underlying5 (hval 1 5 v1 rfl rfl) h1
  clear hA0 hval0 hsz hsz0
  refine (Slc.walk_SlicesLast A0 n0 c0 s0 g0 a1 (Slc.u8_of w1)).mono fun e W' ⟨he, bel⟩ => ?_
  subst he
  exact ⟨_, rfl, _, _, _, [], _, [], hW', trodAll_mk1 (shut_bool Tryz.underlying4 _), (trodAll_cons_mk (Below.trod Slc.laidOut (by kernel_rfl) (of_decide_eq_true (by kernel_rfl)) k0 bel lt0) (trodAll_cons_mk (shut_int Tryz.underlying5 w1) trodAll_mk0)), rfl, bel.frame _, fun h => by cases h⟩

theorem over : Rows.slicesLastRow.holds Tryz.pinned (OpenSpec.ofChange Rows.slicesLastSpec) :=
  OpenClaim.holds_of_wide 9 Tryz.f9 rfl rfl rfl rfl rfl rfl rfl ⟨rfl, rfl, rfl, rfl, rfl⟩ rfl rfl rfl rfl rfl (by kernel_rfl) Tryz.func9 (by kernel_rfl)
    (of_decide_eq_true (by kernel_rfl)) (by unfold Func.isWrapper; first | (rw [if_pos (by decide +kernel)]; kernel_rfl) | (rw [if_neg (by decide +kernel)]; exact ⟨rfl, rfl⟩))
    (fun os started H enc _ => lifted os started H enc)

theorem proved : Rows.SlicesLastSaid := over
end Go.Proofs.YtkdhcloaeifbdaaGreat.slicesLast
