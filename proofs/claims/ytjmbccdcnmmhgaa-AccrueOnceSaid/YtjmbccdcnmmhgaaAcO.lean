/-
  AccrueOnce over what Upto and Written tell. Conditions: those of each theorem.
-/
import Derived.Test.YtjmbccdcnmmhgaaAcL
import Derived.Test.YtjmbccdcnmmhgaaInv
import Derived.Deep.SlicePairs
namespace Go.Proofs.Ytjmbccdcnmmhgaa
open Go.RowKit Ba Cv Sp Te Ag Sl Tm Slc
namespace Acr
set_option linter.unusedVariables false

/-- A slice, up to a day; from a day on. -/
def upTo (r : Rw) (d : Int) : Rw := ⟨⟨(r.v.s.1, d), r.v.h, r.v.y⟩, r.A, r.n, r.c⟩
def from_ (r : Rw) (d : Int) : Rw := ⟨⟨(d, r.v.s.2), r.v.h, r.v.y⟩, r.A, r.n, r.c⟩
theorem raws_take {w : World} {ok : Nat → Prop} {A : Option Addr} {n p : Nat} {rs : List Rw} (h : Raws w ok A n rs) (hp : p ≤ n) : Raws w ok A p (rs.take p) := by
  refine ⟨by rw [List.length_take, h.1]; omega, fun h0 => ?_⟩
  obtain ⟨ad, e, hb, hc⟩ := h.2 (by omega)
  refine ⟨ad, e, hb, fun j x hx => hc j x ?_⟩
  rw [List.getElem?_take] at hx
  split at hx
  · exact hx
  · cases hx
theorem raws_drop {w : World} {ok : Nat → Prop} {ad : Addr} {n p : Nat} {rs : List Rw} (h : Raws w ok (some ad) n rs) (hp : p ≤ n) : Raws w ok (some (ad.add (p * 9))) (n - p) (rs.drop p) := by
  refine ⟨by rw [List.length_drop, h.1], fun h0 => ?_⟩
  obtain ⟨ad', e, hb, hc⟩ := h.2 (by omega)
  injection e with e
  subst e
  refine ⟨_, rfl, by rw [add_block]; exact hb, fun j x hx => ?_⟩
  rw [List.getElem?_drop] at hx
  have := hc _ _ hx
  rw [Go.Deep.add_add]
  rwa [show p * 9 + j * 9 = (p + j) * 9 by omega]
theorem two_raws {w : World} {g : Nat} {x y : Rw} (h : Bx w g 49 (cel [x, y]).toArray) : Raws w (· = g) (some ⟨g, 0, none⟩) 2 [x, y] := by
  refine ⟨rfl, fun _ => ⟨_, rfl, rfl, fun j r hr => nin_of fun o u hu => ?_⟩⟩
  have ho : o < 9 := (List.getElem?_eq_some_iff.1 hu).1
  rw [Addr.add_lit, Nat.zero_add]
  have := h.c (j * 9 + o)
  rw [this]
  show (cel [x, y]).toArray[j * 9 + o]? = some u
  rw [List.getElem?_toArray]
  exact (cel_get hr ho).trans hu
structure K16 (W : World) (ad : Addr) (n c kr : Nat) (rs : List Rw) (x y : Rw) (L : Nat → Bool) (w' : World) (v86 v87 v88 v89 v90 v91 v92 v93 v94 v95 v96 v97 v98 v99 v17 : Value) : Prop where
  e : Below W.heap.size W w'
  f0 : L 0 = true → ∃ g1, v86 = .slice (some ⟨g1, 0, none⟩) 0 0 ∧ W.heap.size ≤ g1 ∧ g1 < w'.heap.size ∧ (L 4 = false → Own w' W.heap.size (some ⟨g1, 0, none⟩) 0 0 [])
  f1 : L 1 = true → v87 = .slice (some ad) n c
  f2 : L 2 = true → v88 = .int .i64 (kr : Int)
  f3 : L 3 = true → v89 = .slice (some ad) kr c
  f4 : L 4 = true → ∃ A c', v90 = .slice A kr c' ∧ (L 8 = false → Own w' W.heap.size A kr c' (rs.take kr))
  f5 : L 5 = true → v91 = vg x
  f6 : L 6 = true → v92 = vg y
  f7 : L 7 = true → ∃ g2, v93 = .slice (some ⟨g2, 0, none⟩) 2 2 ∧ g2 < w'.heap.size ∧ (L 8 = false → Raws w' (· = g2) (some ⟨g2, 0, none⟩) 2 [x, y]) ∧ (∀ g1, L 0 = true → v86 = .slice (some ⟨g1, 0, none⟩) 0 0 → g1 ≠ g2)
  f8 : L 8 = true → ∃ A c', v94 = .slice A (kr + 2) c' ∧ (L 13 = false → Own w' W.heap.size A (kr + 2) c' (rs.take kr ++ [x, y]))
  f9 : L 9 = true → v95 = .slice (some ad) n c
  f10 : L 10 = true → v96 = .int .i64 (kr : Int)
  f11 : L 11 = true → v97 = .int .i64 ((kr + 1 : Nat) : Int)
  f12 : L 12 = true → v98 = .slice (if c = kr + 1 then some ad else some (ad.add ((kr + 1) * 9))) (n - (kr + 1)) (c - (kr + 1))
  f13 : L 13 = true → ∃ A c', v99 = .slice A (n + 1) c' ∧ Own w' W.heap.size A (n + 1) c' (rs.take kr ++ [x, y] ++ rs.drop (kr + 1))
  f14 : L 14 = true → v17 = v99
  d4_0 : L 4 = true → L 0 = true
  d8_4 : L 8 = true → L 4 = true
  d8_7 : L 8 = true → L 7 = true
  d13_8 : L 13 = true → L 8 = true
  d14_13 : L 14 = true → L 13 = true
theorem K16.up {W : World} {ad : Addr} {n c kr : Nat} {rs : List Rw} {x y : Rw} {L : Nat → Bool} {w' w2 : World} {v86 v87 v88 v89 v90 v91 v92 v93 v94 v95 v96 v97 v98 v99 v17 : Value} (H : K16 W ad n c kr rs x y L w' v86 v87 v88 v89 v90 v91 v92 v93 v94 v95 v96 v97 v98 v99 v17) (hb : Below w'.heap.size w' w2) : K16 W ad n c kr rs x y L w2 v86 v87 v88 v89 v90 v91 v92 v93 v94 v95 v96 v97 v98 v99 v17 :=
  ⟨H.e.trans (hb.mono H.e.size), (fun l => by obtain ⟨g1, e, h0, h2, h1⟩ := H.f0 l; exact ⟨g1, e, h0, Nat.lt_of_lt_of_le h2 hb.size, fun l3 => (h1 l3).below hb⟩), H.f1, H.f2, H.f3, (fun l => by obtain ⟨A, c, e, h1⟩ := H.f4 l; exact ⟨A, c, e, fun l3 => (h1 l3).below hb⟩), H.f5, H.f6, (fun l => by obtain ⟨g2, e, h0, h1, h2⟩ := H.f7 l; exact ⟨g2, e, Nat.lt_of_lt_of_le h0 hb.size, fun l3 => (h1 l3).keep (fun p hp => hb.cell (by rw [hp]; exact h0)) fun _ h => h, h2⟩), (fun l => by obtain ⟨A, c, e, h1⟩ := H.f8 l; exact ⟨A, c, e, fun l3 => (h1 l3).below hb⟩), H.f9, H.f10, H.f11, H.f12, (fun l => by obtain ⟨A, c, e, h1⟩ := H.f13 l; exact ⟨A, c, e, h1.below hb⟩), H.f14, H.d4_0, H.d8_4, H.d8_7, H.d13_8, H.d14_13⟩
theorem K16.s1 {W : World} {ad : Addr} {n c kr : Nat} {rs : List Rw} {x y : Rw} {L : Nat → Bool} {w' : World} {v86 v87 v88 v89 v90 v91 v92 v93 v94 v95 v96 v97 v98 v99 v17 : Value} (H : K16 W ad n c kr rs x y L w' v86 v87 v88 v89 v90 v91 v92 v93 v94 v95 v96 v97 v98 v99 v17) {z : Value} (k : z = .slice (some ad) n c) : K16 W ad n c kr rs x y (fun j => j == 1 || L j) w' v86 z v88 v89 v90 v91 v92 v93 v94 v95 v96 v97 v98 v99 v17 := ⟨H.e, H.f0, fun _ => k, H.f2, H.f3, H.f4, H.f5, H.f6, H.f7, H.f8, H.f9, H.f10, H.f11, H.f12, H.f13, H.f14, H.d4_0, H.d8_4, H.d8_7, H.d13_8, H.d14_13⟩
theorem K16.s2 {W : World} {ad : Addr} {n c kr : Nat} {rs : List Rw} {x y : Rw} {L : Nat → Bool} {w' : World} {v86 v87 v88 v89 v90 v91 v92 v93 v94 v95 v96 v97 v98 v99 v17 : Value} (H : K16 W ad n c kr rs x y L w' v86 v87 v88 v89 v90 v91 v92 v93 v94 v95 v96 v97 v98 v99 v17) {z : Value} (k : z = .int .i64 (kr : Int)) : K16 W ad n c kr rs x y (fun j => j == 2 || L j) w' v86 v87 z v89 v90 v91 v92 v93 v94 v95 v96 v97 v98 v99 v17 := ⟨H.e, H.f0, H.f1, fun _ => k, H.f3, H.f4, H.f5, H.f6, H.f7, H.f8, H.f9, H.f10, H.f11, H.f12, H.f13, H.f14, H.d4_0, H.d8_4, H.d8_7, H.d13_8, H.d14_13⟩
theorem K16.s3 {W : World} {ad : Addr} {n c kr : Nat} {rs : List Rw} {x y : Rw} {L : Nat → Bool} {w' : World} {v86 v87 v88 v89 v90 v91 v92 v93 v94 v95 v96 v97 v98 v99 v17 : Value} (H : K16 W ad n c kr rs x y L w' v86 v87 v88 v89 v90 v91 v92 v93 v94 v95 v96 v97 v98 v99 v17) {z : Value} (k : z = .slice (some ad) kr c) : K16 W ad n c kr rs x y (fun j => j == 3 || L j) w' v86 v87 v88 z v90 v91 v92 v93 v94 v95 v96 v97 v98 v99 v17 := ⟨H.e, H.f0, H.f1, H.f2, fun _ => k, H.f4, H.f5, H.f6, H.f7, H.f8, H.f9, H.f10, H.f11, H.f12, H.f13, H.f14, H.d4_0, H.d8_4, H.d8_7, H.d13_8, H.d14_13⟩
theorem K16.s5 {W : World} {ad : Addr} {n c kr : Nat} {rs : List Rw} {x y : Rw} {L : Nat → Bool} {w' : World} {v86 v87 v88 v89 v90 v91 v92 v93 v94 v95 v96 v97 v98 v99 v17 : Value} (H : K16 W ad n c kr rs x y L w' v86 v87 v88 v89 v90 v91 v92 v93 v94 v95 v96 v97 v98 v99 v17) {z : Value} (k : z = vg x) : K16 W ad n c kr rs x y (fun j => j == 5 || L j) w' v86 v87 v88 v89 v90 z v92 v93 v94 v95 v96 v97 v98 v99 v17 := ⟨H.e, H.f0, H.f1, H.f2, H.f3, H.f4, fun _ => k, H.f6, H.f7, H.f8, H.f9, H.f10, H.f11, H.f12, H.f13, H.f14, H.d4_0, H.d8_4, H.d8_7, H.d13_8, H.d14_13⟩
theorem K16.s6 {W : World} {ad : Addr} {n c kr : Nat} {rs : List Rw} {x y : Rw} {L : Nat → Bool} {w' : World} {v86 v87 v88 v89 v90 v91 v92 v93 v94 v95 v96 v97 v98 v99 v17 : Value} (H : K16 W ad n c kr rs x y L w' v86 v87 v88 v89 v90 v91 v92 v93 v94 v95 v96 v97 v98 v99 v17) {z : Value} (k : z = vg y) : K16 W ad n c kr rs x y (fun j => j == 6 || L j) w' v86 v87 v88 v89 v90 v91 z v93 v94 v95 v96 v97 v98 v99 v17 := ⟨H.e, H.f0, H.f1, H.f2, H.f3, H.f4, H.f5, fun _ => k, H.f7, H.f8, H.f9, H.f10, H.f11, H.f12, H.f13, H.f14, H.d4_0, H.d8_4, H.d8_7, H.d13_8, H.d14_13⟩
theorem K16.s9 {W : World} {ad : Addr} {n c kr : Nat} {rs : List Rw} {x y : Rw} {L : Nat → Bool} {w' : World} {v86 v87 v88 v89 v90 v91 v92 v93 v94 v95 v96 v97 v98 v99 v17 : Value} (H : K16 W ad n c kr rs x y L w' v86 v87 v88 v89 v90 v91 v92 v93 v94 v95 v96 v97 v98 v99 v17) {z : Value} (k : z = .slice (some ad) n c) : K16 W ad n c kr rs x y (fun j => j == 9 || L j) w' v86 v87 v88 v89 v90 v91 v92 v93 v94 z v96 v97 v98 v99 v17 := ⟨H.e, H.f0, H.f1, H.f2, H.f3, H.f4, H.f5, H.f6, H.f7, H.f8, fun _ => k, H.f10, H.f11, H.f12, H.f13, H.f14, H.d4_0, H.d8_4, H.d8_7, H.d13_8, H.d14_13⟩
theorem K16.s10 {W : World} {ad : Addr} {n c kr : Nat} {rs : List Rw} {x y : Rw} {L : Nat → Bool} {w' : World} {v86 v87 v88 v89 v90 v91 v92 v93 v94 v95 v96 v97 v98 v99 v17 : Value} (H : K16 W ad n c kr rs x y L w' v86 v87 v88 v89 v90 v91 v92 v93 v94 v95 v96 v97 v98 v99 v17) {z : Value} (k : z = .int .i64 (kr : Int)) : K16 W ad n c kr rs x y (fun j => j == 10 || L j) w' v86 v87 v88 v89 v90 v91 v92 v93 v94 v95 z v97 v98 v99 v17 := ⟨H.e, H.f0, H.f1, H.f2, H.f3, H.f4, H.f5, H.f6, H.f7, H.f8, H.f9, fun _ => k, H.f11, H.f12, H.f13, H.f14, H.d4_0, H.d8_4, H.d8_7, H.d13_8, H.d14_13⟩
theorem K16.s11 {W : World} {ad : Addr} {n c kr : Nat} {rs : List Rw} {x y : Rw} {L : Nat → Bool} {w' : World} {v86 v87 v88 v89 v90 v91 v92 v93 v94 v95 v96 v97 v98 v99 v17 : Value} (H : K16 W ad n c kr rs x y L w' v86 v87 v88 v89 v90 v91 v92 v93 v94 v95 v96 v97 v98 v99 v17) {z : Value} (k : z = .int .i64 ((kr + 1 : Nat) : Int)) : K16 W ad n c kr rs x y (fun j => j == 11 || L j) w' v86 v87 v88 v89 v90 v91 v92 v93 v94 v95 v96 z v98 v99 v17 := ⟨H.e, H.f0, H.f1, H.f2, H.f3, H.f4, H.f5, H.f6, H.f7, H.f8, H.f9, H.f10, fun _ => k, H.f12, H.f13, H.f14, H.d4_0, H.d8_4, H.d8_7, H.d13_8, H.d14_13⟩
theorem K16.s12 {W : World} {ad : Addr} {n c kr : Nat} {rs : List Rw} {x y : Rw} {L : Nat → Bool} {w' : World} {v86 v87 v88 v89 v90 v91 v92 v93 v94 v95 v96 v97 v98 v99 v17 : Value} (H : K16 W ad n c kr rs x y L w' v86 v87 v88 v89 v90 v91 v92 v93 v94 v95 v96 v97 v98 v99 v17) {z : Value} (k : z = .slice (if c = kr + 1 then some ad else some (ad.add ((kr + 1) * 9))) (n - (kr + 1)) (c - (kr + 1))) : K16 W ad n c kr rs x y (fun j => j == 12 || L j) w' v86 v87 v88 v89 v90 v91 v92 v93 v94 v95 v96 v97 z v99 v17 := ⟨H.e, H.f0, H.f1, H.f2, H.f3, H.f4, H.f5, H.f6, H.f7, H.f8, H.f9, H.f10, H.f11, fun _ => k, H.f13, H.f14, H.d4_0, H.d8_4, H.d8_7, H.d13_8, H.d14_13⟩
theorem K16.s14 {W : World} {ad : Addr} {n c kr : Nat} {rs : List Rw} {x y : Rw} {L : Nat → Bool} {w' : World} {v86 v87 v88 v89 v90 v91 v92 v93 v94 v95 v96 v97 v98 v99 v17 : Value} (H : K16 W ad n c kr rs x y L w' v86 v87 v88 v89 v90 v91 v92 v93 v94 v95 v96 v97 v98 v99 v17) {z : Value} (k : z = v99) (d14_1314 : L 13 = true) : K16 W ad n c kr rs x y (fun j => j == 14 || L j) w' v86 v87 v88 v89 v90 v91 v92 v93 v94 v95 v96 v97 v98 v99 z := ⟨H.e, H.f0, H.f1, H.f2, H.f3, H.f4, H.f5, H.f6, H.f7, H.f8, H.f9, H.f10, H.f11, H.f12, H.f13, fun _ => k, H.d4_0, H.d8_4, H.d8_7, H.d13_8, fun _ => d14_1314⟩
theorem K16.n4 {W : World} {ad : Addr} {n c kr : Nat} {rs : List Rw} {x y : Rw} {L : Nat → Bool} {w' : World} {v86 v87 v88 v89 v90 v91 v92 v93 v94 v95 v96 v97 v98 v99 v17 : Value} (H : K16 W ad n c kr rs x y L w' v86 v87 v88 v89 v90 v91 v92 v93 v94 v95 v96 v97 v98 v99 v17) (h : L 0 = false) : L 4 = false := by
  cases h1 : L 4 with
  | false => rfl
  | true => have := H.d4_0 h1; rw [h] at this; cases this
theorem K16.n8 {W : World} {ad : Addr} {n c kr : Nat} {rs : List Rw} {x y : Rw} {L : Nat → Bool} {w' : World} {v86 v87 v88 v89 v90 v91 v92 v93 v94 v95 v96 v97 v98 v99 v17 : Value} (H : K16 W ad n c kr rs x y L w' v86 v87 v88 v89 v90 v91 v92 v93 v94 v95 v96 v97 v98 v99 v17) (h : L 4 = false) : L 8 = false := by
  cases h1 : L 8 with
  | false => rfl
  | true => have := H.d8_4 h1; rw [h] at this; cases this
theorem K16.n13 {W : World} {ad : Addr} {n c kr : Nat} {rs : List Rw} {x y : Rw} {L : Nat → Bool} {w' : World} {v86 v87 v88 v89 v90 v91 v92 v93 v94 v95 v96 v97 v98 v99 v17 : Value} (H : K16 W ad n c kr rs x y L w' v86 v87 v88 v89 v90 v91 v92 v93 v94 v95 v96 v97 v98 v99 v17) (h : L 8 = false) : L 13 = false := by
  cases h1 : L 13 with
  | false => rfl
  | true => have := H.d13_8 h1; rw [h] at this; cases this
theorem K16.n14 {W : World} {ad : Addr} {n c kr : Nat} {rs : List Rw} {x y : Rw} {L : Nat → Bool} {w' : World} {v86 v87 v88 v89 v90 v91 v92 v93 v94 v95 v96 v97 v98 v99 v17 : Value} (H : K16 W ad n c kr rs x y L w' v86 v87 v88 v89 v90 v91 v92 v93 v94 v95 v96 v97 v98 v99 v17) (h : L 13 = false) : L 14 = false := by
  cases h1 : L 14 with
  | false => rfl
  | true => have := H.d14_13 h1; rw [h] at this; cases this
theorem K16.m8 {W : World} {ad : Addr} {n c kr : Nat} {rs : List Rw} {x y : Rw} {L : Nat → Bool} {w' : World} {v86 v87 v88 v89 v90 v91 v92 v93 v94 v95 v96 v97 v98 v99 v17 : Value} (H : K16 W ad n c kr rs x y L w' v86 v87 v88 v89 v90 v91 v92 v93 v94 v95 v96 v97 v98 v99 v17) (h : L 7 = false) : L 8 = false := by
  cases h1 : L 8 with
  | false => rfl
  | true => have := H.d8_7 h1; rw [h] at this; cases this
theorem K16.s0 {W : World} {ad : Addr} {n c kr : Nat} {rs : List Rw} {x y : Rw} {L : Nat → Bool} {w' : World} {v86 v87 v88 v89 v90 v91 v92 v93 v94 v95 v96 v97 v98 v99 v17 : Value} (H : K16 W ad n c kr rs x y L w' v86 v87 v88 v89 v90 v91 v92 v93 v94 v95 v96 v97 v98 v99 v17) (h0 : L 0 = false) : K16 W ad n c kr rs x y (fun j => j == 0 || L j) (w'.alloc (.cells #[] 49)) (.slice (some ⟨w'.heap.size, 0, none⟩) 0 0) v87 v88 v89 v90 v91 v92 v93 v94 v95 v96 v97 v98 v99 v17 := by
  have h4 := H.n4 h0
  have h8 := H.n8 h4
  have h13 := H.n13 h8
  have h14 := H.n14 h13
  have hs := H.e.size
  have hal := alloc_ w' (.cells #[] 49)
  exact ⟨H.e.alloc H.e.size _, (fun _ => ⟨_, rfl, hs, by simp, fun _ => (Own.made w').low hs⟩), H.f1, H.f2, H.f3, (fun l => absurd (show L 4 = true from l) (by rw [h4]; decide)), H.f5, H.f6, (fun l => by obtain ⟨g2, e, h0, h1, h2⟩ := H.f7 l; exact ⟨g2, e, Nat.lt_of_lt_of_le h0 hal.size, fun l3 => (h1 l3).keep (fun p hp => hal.cell (by rw [hp]; exact h0)) (fun _ h => h), fun g1 _ e1 => by injection e1 with e1; injection e1 with e1; injection e1 with e1; omega⟩), (fun l => absurd (show L 8 = true from l) (by rw [h8]; decide)), H.f9, H.f10, H.f11, H.f12, (fun l => absurd (show L 13 = true from l) (by rw [h13]; decide)), H.f14, fun _ => rfl, H.d8_4, H.d8_7, H.d13_8, H.d14_13⟩
theorem K16.s7 {W : World} {ad : Addr} {n c kr : Nat} {rs : List Rw} {x y : Rw} {L : Nat → Bool} {w' : World} {v86 v87 v88 v89 v90 v91 v92 v93 v94 v95 v96 v97 v98 v99 v17 : Value} (H : K16 W ad n c kr rs x y L w' v86 v87 v88 v89 v90 v91 v92 v93 v94 v95 v96 v97 v98 v99 v17) (h7 : L 7 = false) : K16 W ad n c kr rs x y (fun j => j == 7 || L j) (w'.alloc (.cells (cel [x, y]).toArray 49)) v86 v87 v88 v89 v90 v91 v92 (.slice (some ⟨w'.heap.size, 0, none⟩) 2 2) v94 v95 v96 v97 v98 v99 v17 := by
  have h8 := H.m8 h7
  have h13 := H.n13 h8
  have hal := alloc_ w' (.cells (cel [x, y]).toArray 49)
  exact ⟨H.e.alloc H.e.size _, (fun l => by obtain ⟨g1, e, h0, h2, h1⟩ := H.f0 l; exact ⟨g1, e, h0, Nat.lt_of_lt_of_le h2 hal.size, fun l3 => (h1 l3).below hal⟩), H.f1, H.f2, H.f3, (fun l => by obtain ⟨A, c, e, h1⟩ := H.f4 l; exact ⟨A, c, e, fun l3 => (h1 l3).below hal⟩), H.f5, H.f6, (fun _ => ⟨_, rfl, by simp, (fun _ => two_raws (Bx.new _ _ _)), fun g1 l0 e1 => by obtain ⟨g, e, _, h2, _⟩ := H.f0 l0; rw [e] at e1; injection e1 with e1; injection e1 with e1; injection e1 with e1; omega⟩), (fun l => absurd (show L 8 = true from l) (by rw [h8]; decide)), H.f9, H.f10, H.f11, H.f12, (fun l => absurd (show L 13 = true from l) (by rw [h13]; decide)), H.f14, H.d4_0, H.d8_4, fun _ => rfl, H.d13_8, H.d14_13⟩
theorem K16.s4 {W : World} {ad : Addr} {n c kr : Nat} {rs : List Rw} {x y : Rw} {L : Nat → Bool} {w' w2 : World} {v86 v87 v88 v89 v90 v91 v92 v93 v94 v95 v96 v97 v98 v99 v17 : Value} (H : K16 W ad n c kr rs x y L w' v86 v87 v88 v89 v90 v91 v92 v93 v94 v95 v96 v97 v98 v99 v17) (h4 : L 4 = false) (h0 : L 0 = true) {g1 : Nat} (e0 : v86 = .slice (some ⟨g1, 0, none⟩) 0 0) (hg1 : W.heap.size ≤ g1) {A : Option Addr} {c' : Nat} (hO : Own w2 W.heap.size A kr c' (rs.take kr)) (hg : w'.grownBy w2 (Value.slice (some ⟨g1, 0, none⟩) 0 0).ownBlock) : K16 W ad n c kr rs x y (fun j => j == 4 || L j) w2 v86 v87 v88 v89 (.slice A kr c') v91 v92 v93 v94 v95 v96 v97 v98 v99 v17 := by
  have h8 := H.n8 h4
  have h13 := H.n13 h8
  have hblk : ∀ g, g < w'.heap.size → g1 ≠ g → w2.heap[g]? = w'.heap[g]? := fun g hl hn => hg.block g hl (by simp [Value.ownBlock]; omega)
  exact ⟨H.e.grown hg H.e.size (fun j hj => by simp [Value.ownBlock] at hj; omega), (fun l => by obtain ⟨g, e, h0, h2, _⟩ := H.f0 l; exact ⟨g, e, h0, Nat.lt_of_lt_of_le h2 hg.size, fun l3 => by cases l3⟩), H.f1, H.f2, H.f3, (fun _ => ⟨_, _, rfl, fun _ => hO⟩), H.f5, H.f6, (fun l => by obtain ⟨g2, e, hl2, h1, h2⟩ := H.f7 l; have hne := h2 g1 h0 e0; exact ⟨g2, e, Nat.lt_of_lt_of_le hl2 hg.size, fun l3 => (h1 l3).keep (fun p hp => by unfold World.cell?; rw [hblk p.block (by rw [hp]; exact hl2) (by rw [hp]; exact hne)]) (fun _ h => h), h2⟩), (fun l => absurd (show L 8 = true from l) (by rw [h8]; decide)), H.f9, H.f10, H.f11, H.f12, (fun l => absurd (show L 13 = true from l) (by rw [h13]; decide)), H.f14, fun _ => h0, fun _ => rfl, H.d8_7, H.d13_8, H.d14_13⟩
theorem K16.s8 {W : World} {ad : Addr} {n c kr : Nat} {rs : List Rw} {x y : Rw} {L : Nat → Bool} {w' w2 : World} {v86 v87 v88 v89 v90 v91 v92 v93 v94 v95 v96 v97 v98 v99 v17 : Value} (H : K16 W ad n c kr rs x y L w' v86 v87 v88 v89 v90 v91 v92 v93 v94 v95 v96 v97 v98 v99 v17) (h8 : L 8 = false) (h4 : L 4 = true) (h7 : L 7 = true) {A1 : Option Addr} {c1 : Nat} (hO1 : Own w' W.heap.size A1 kr c1 (rs.take kr)) {A : Option Addr} {c' : Nat} (hO : Own w2 W.heap.size A (kr + 2) c' (rs.take kr ++ [x, y])) (hg : w'.grownBy w2 (Value.slice A1 kr c1).ownBlock) : K16 W ad n c kr rs x y (fun j => j == 8 || L j) w2 v86 v87 v88 v89 v90 v91 v92 v93 (.slice A (kr + 2) c') v95 v96 v97 v98 v99 v17 := by
  have h13 := H.n13 h8
  exact ⟨H.e.grown hg H.e.size (fun j hj => (hO1.lt j hj).1), (fun l => by obtain ⟨g, e, h0, h2, _⟩ := H.f0 l; exact ⟨g, e, h0, Nat.lt_of_lt_of_le h2 hg.size, fun l3 => absurd (show L 4 = false from l3) (by rw [h4]; decide)⟩), H.f1, H.f2, H.f3, (fun l => by obtain ⟨A, c, e, _⟩ := H.f4 l; exact ⟨A, c, e, fun l3 => by cases l3⟩), H.f5, H.f6, (fun l => by obtain ⟨g2, e, hl2, h1, h2⟩ := H.f7 l; exact ⟨g2, e, Nat.lt_of_lt_of_le hl2 hg.size, (fun l3 => by cases l3), h2⟩), (fun _ => ⟨_, _, rfl, fun _ => hO⟩), H.f9, H.f10, H.f11, H.f12, (fun l => absurd (show L 13 = true from l) (by rw [h13]; decide)), H.f14, H.d4_0, fun _ => h4, fun _ => h7, fun _ => rfl, H.d14_13⟩
theorem K16.s13 {W : World} {ad : Addr} {n c kr : Nat} {rs : List Rw} {x y : Rw} {L : Nat → Bool} {w' w2 : World} {v86 v87 v88 v89 v90 v91 v92 v93 v94 v95 v96 v97 v98 v99 v17 : Value} (H : K16 W ad n c kr rs x y L w' v86 v87 v88 v89 v90 v91 v92 v93 v94 v95 v96 v97 v98 v99 v17) (h13 : L 13 = false) (h8 : L 8 = true) {A1 : Option Addr} {c1 : Nat} (hO1 : Own w' W.heap.size A1 (kr + 2) c1 (rs.take kr ++ [x, y])) {A : Option Addr} {c' : Nat} (hO : Own w2 W.heap.size A (n + 1) c' (rs.take kr ++ [x, y] ++ rs.drop (kr + 1))) (hg : w'.grownBy w2 (Value.slice A1 (kr + 2) c1).ownBlock) : K16 W ad n c kr rs x y (fun j => j == 13 || L j) w2 v86 v87 v88 v89 v90 v91 v92 v93 v94 v95 v96 v97 v98 (.slice A (n + 1) c') v17 := by
  have h14 := H.n14 h13
  exact ⟨H.e.grown hg H.e.size (fun j hj => (hO1.lt j hj).1), (fun l => by obtain ⟨g, e, h0, h2, _⟩ := H.f0 l; exact ⟨g, e, h0, Nat.lt_of_lt_of_le h2 hg.size, fun l3 => absurd (show L 4 = false from l3) (by rw [H.d8_4 h8]; decide)⟩), H.f1, H.f2, H.f3, (fun l => by obtain ⟨A, c, e, _⟩ := H.f4 l; exact ⟨A, c, e, fun l3 => absurd (show L 8 = false from l3) (by rw [h8]; decide)⟩), H.f5, H.f6, (fun l => by obtain ⟨g2, e, hl2, h1, h2⟩ := H.f7 l; exact ⟨g2, e, Nat.lt_of_lt_of_le hl2 hg.size, (fun l3 => absurd (show L 8 = false from l3) (by rw [h8]; decide)), h2⟩), (fun l => by obtain ⟨A, c, e, _⟩ := H.f8 l; exact ⟨A, c, e, fun l3 => by cases l3⟩), H.f9, H.f10, H.f11, H.f12, (fun _ => ⟨_, _, rfl, hO⟩), (fun l => absurd (show L 14 = true from l) (by rw [h14]; decide)), H.d4_0, H.d8_4, H.d8_7, fun _ => h8, fun _ => rfl⟩
theorem raws_end {w : World} {ok : Nat → Prop} {ad : Addr} {n c kr : Nat} {rs : List Rw} (h : Raws w ok (some ad) n rs) (hk : kr < n) (hc : n ≤ c) : Raws w ok (if c = kr + 1 then some ad else some (ad.add ((kr + 1) * 9))) (n - (kr + 1)) (rs.drop (kr + 1)) := by
  by_cases h1 : c = kr + 1
  · rw [if_pos h1, show n - (kr + 1) = 0 by omega, List.drop_of_length_le (by rw [h.1]; omega)]
    exact Raws.nil
  · rw [if_neg h1]
    exact raws_drop h hk
theorem once_row {rs : List Rw} {kr : Nat} {r : Rw} {d : Int} (hok : upc (rs.map Rw.v) 292195 = 0) (hr : rs[kr]? = some r) (h1 : r.v.s.1 < d) (h2 : d < r.v.s.2) (hl : rs.length < 2000) : upc ((rs.take kr ++ [upTo r d, from_ r d] ++ rs.drop (kr + 1)).map Rw.v) 292195 = 0 ∧ ∀ x, ern ((rs.take kr ++ [upTo r d, from_ r d] ++ rs.drop (kr + 1)).map Rw.v) x = ern (rs.map Rw.v) x := by
  have hlk := (List.getElem?_eq_some_iff.1 hr).1
  have e : rs = rs.take kr ++ r :: rs.drop (kr + 1) := by
    rw [← (List.getElem?_eq_some_iff.1 hr).2, ← List.drop_eq_getElem_cons hlk, List.take_append_drop]
  obtain ⟨p, hp⟩ : ∃ p, rs.take kr = p := ⟨_, rfl⟩
  obtain ⟨q, hq⟩ : ∃ q, rs.drop (kr + 1) = q := ⟨_, rfl⟩
  rw [hp, hq] at e ⊢
  subst e
  have e1 : (p ++ r :: q).map Rw.v = p.map Rw.v ++ r.v :: q.map Rw.v := by simp
  have e2 : (p ++ [upTo r d, from_ r d] ++ q).map Rw.v = p.map Rw.v ++ (upTo r d).v :: (from_ r d).v :: q.map Rw.v := by simp
  rw [e1] at hok ⊢
  rw [e2]
  have hm := upc_may hok
  have k1 : ∀ x, ern (p.map Rw.v ++ (upTo r d).v :: (from_ r d).v :: q.map Rw.v) x = ern (p.map Rw.v ++ r.v :: q.map Rw.v) x := fun x => once (x := (upTo r d).v) (y := (from_ r d).v) (z := r.v) (c := d) h1 h2 rfl rfl rfl rfl x
  refine ⟨upc_ok (once_may (x := (upTo r d).v) (y := (from_ r d).v) (z := r.v) (c := d) h1 h2 rfl rfl rfl rfl (by simpa using hl) hm.1) (by rw [k1]; exact hm.2), k1⟩
set_option maxRecDepth 100000 in
set_option maxHeartbeats 4000000 in
theorem walk_AccrueOnce (HU : UpC) (HR : WrC) {w : World} (A : Option Addr) (n c : Nat) (rs : List Rw) (G : Raws w (· < w.heap.size) A n rs) (hm : n ≤ 140737488355328) (hf' : n ≤ c) (u : Int) (hu : 0 ≤ u ∧ u ≤ 255) (t : Int) (ht : 0 ≤ t ∧ t ≤ 4294967295) (a : Int) (ha : -9223372036854775808 ≤ a ∧ a ≤ 9223372036854775807) : Calls Try.prog 6 #[.slice A n c, .int .u8 u, .int .u32 t, .int .i64 a] w (Yes w true) := by
  have HG := Lib.hid G
  have HF := Lib.hid hf'
  have HA := Lib.hid ha
  clear G hf' ha
  have CA := Lib.hid (awake14 HU HR w)
  go_enter Try.func6, Try.ntmps6
  go_wp2_with fail
  refine CA.out.mono ?_
  rintro e w1 ⟨rfl, hb⟩
  have H1 := Lib.hid hb
  clear hb CA
  by_cases hn : n ≤ 98
  case neg =>
    have t1 : decide ((98 : Int) < (n : Int)) = true := decide_eq_true (by omega)
    go_wp2
    go_ret
    exact ⟨rfl, H1.out⟩
  have t1 : decide ((98 : Int) < (n : Int)) = false := decide_eq_false (by omega)
  by_cases hn0 : n = 0
  case pos =>
    have t2 : decide ((n : Int) = 0) = true := decide_eq_true (by omega)
    have t2' : ((n : Int) == 0) = true := beq_iff_eq.2 (by omega)
    go_wp2
    go_ret
    exact ⟨rfl, H1.out⟩
  have t2 : decide ((n : Int) = 0) = false := decide_eq_false (by omega)
  have t2' : ((n : Int) == 0) = false := beq_eq_false_iff_ne.2 (by omega)
  have HN := Lib.hid (show n ≤ 98 ∧ 0 < n by omega)
  have C1 := Lib.hid (HR A n c rs w1 (HG.out.below H1.out) (by omega) HF.out)
  clear hn hn0
  go_wp2_with fail
  refine C1.out.mono ?_
  rintro e w2 ⟨rfl, hb⟩
  have H2 := Lib.hid (H1.out.trans (hb.mono H1.out.size))
  clear hb C1 H1 t1 t2 t2'
  obtain ⟨k, hk⟩ : ∃ k, upc (rs.map Rw.v) 292195 = k := ⟨_, rfl⟩
  rw [hk]
  by_cases h0 : k = 0
  case neg =>
    have t1 : decide (k = 0) = false := decide_eq_false h0
    have t2 : (k == 0) = false := beq_eq_false_iff_ne.2 h0
    have t3 : (k != 0) = true := bne_iff_ne.2 h0
    go_wp2
    go_ret
    exact ⟨rfl, H2.out⟩
  subst h0
  have HOK := Lib.hid hk
  rw [upv_ok hk]
  clear hk
  obtain ⟨e0, he0⟩ : ∃ e0 : Int, Int.tmod u (n : Int) = e0 := ⟨_, rfl⟩
  have heb : 0 ≤ e0 ∧ e0 < (n : Int) := by
    have h1 := Int.tmod_nonneg (n : Int) hu.1
    have h2 := Int.tmod_lt_of_pos u (show (0 : Int) < (n : Int) by have := HN.out; omega)
    omega
  obtain ⟨kr, rfl⟩ : ∃ kr : Nat, e0 = (kr : Int) := ⟨e0.toNat, by omega⟩
  have hkr : kr < n := by omega
  have HKR := Lib.hid hkr
  have hz : ((n : Int) == 0) = false := beq_eq_false_iff_ne.2 (by have := HN.out; omega)
  have hz2 : ¬ ((n : Int) = 0) := by have := HN.out; omega
  have hw0 : wrap64 (kr : Int) = (kr : Int) := IntWalk.wrap64_in _ ⟨by omega, by have := HN.out; omega⟩
  have hwu : wrap64 u = u := IntWalk.wrap64_in _ (by omega)
  obtain ⟨ad, r, rfl, hbl, hr, N⟩ := (HG.out.below H2.out).get hkr
  have hkn : (kr : Int) < (n : Int) := by omega
  have HRR := Lib.hid hr
  have hmem := (may_iff.1 (upc_may HOK.out).1).2.mem r.v (List.mem_map.2 ⟨r, List.mem_of_getElem? hr, rfl⟩)
  obtain ⟨f, hfv⟩ : ∃ f, r.v.s.1 = f := ⟨_, rfl⟩
  obtain ⟨g, hgv⟩ : ∃ g, r.v.s.2 = g := ⟨_, rfl⟩
  rw [hfv, hgv] at hmem
  have HS := Lib.hid (And.intro hfv hgv)
  have HFG := Lib.hid (show 1 ≤ f ∧ f < g ∧ g ≤ 292195 from ⟨hmem.1, hmem.2.1, hmem.2.2.1⟩)
  have q0 := N.c0
  have q1 := N.c1
  rw [hfv] at q0
  rw [hgv] at q1
  obtain ⟨W3, hW3⟩ : ∃ W3, w2.alloc (.cells #[.int .i64 f, .int .i64 g] 30) = W3 := ⟨_, rfl⟩
  have hb3 : Below w2.heap.size w2 W3 := hW3 ▸ alloc_ _ _
  have H3 := Lib.hid (H2.out.trans (hb3.mono H2.out.size))
  have X3 := Lib.hid (show Bx W3 w2.heap.size 30 #[.int .i64 f, .int .i64 g] from hW3 ▸ Bx.new w2 30 _)
  have HW3 := Lib.hid hW3
  clear hb3 hW3 hmem hfv hgv hr hbl N
  go_upto_region 9 with fail
  rw [HW3.out]
  obtain ⟨b1, hb1⟩ : ∃ b, w2.heap.size = b := ⟨_, rfl⟩
  rw [hb1] at X3 ⊢
  clear HW3 q0 q1 hb1 he0 hz hz2 hw0 hwu H2 heb
  have x0 := X3.out.c 0
  have x1 := X3.out.c 1
  simp at x0 x1
  have hfg := HFG.out
  have hwd : wrap64 (g - f) = g - f := IntWalk.wrap64_in _ (by omega)
  by_cases hlt : g - f < 2
  case pos =>
    have t1 : decide (g - f < 2) = true := decide_eq_true hlt
    go_wp2
    go_ret
    exact ⟨rfl, H3.out⟩
  have t1 : decide (g - f < 2) = false := decide_eq_false hlt
  clear x0 x1
  obtain ⟨v, hv⟩ : ∃ v : Int, Int.tmod t (g - f - 1) = v := ⟨_, rfl⟩
  have hvb : 0 ≤ v ∧ v < g - f - 1 := by
    have h1 := Int.tmod_nonneg (g - f - 1) ht.1
    have h2 := Int.tmod_lt_of_pos t (show (0 : Int) < g - f - 1 by omega)
    omega
  have hwd1 : wrap64 (g - f - 1) = g - f - 1 := IntWalk.wrap64_in _ (by omega)
  have hwv : wrap64 v = v := IntWalk.wrap64_in _ (by omega)
  have hwf : wrap64 (f + 1) = f + 1 := IntWalk.wrap64_in _ (by omega)
  have hwt : wrap64 t = t := IntWalk.wrap64_in _ (by omega)
  obtain ⟨d, hd⟩ : ∃ d, f + 1 + v = d := ⟨_, rfl⟩
  have hwx : wrap64 d = d := IntWalk.wrap64_in _ (by omega)
  have hz : ¬ (g - f - 1 = 0) := by omega
  have hz' : (g - f - 1 == 0) = false := beq_eq_false_iff_ne.2 hz
  have HD := Lib.hid (show f < d ∧ d < g by omega)
  have p0 : ∀ p : Ext W3, p.W.cell? ⟨b1, 0, none⟩ = some (.int .i64 f) := fun p => X3.out.ext p 0
  have p1 : ∀ p : Ext W3, p.W.cell? ⟨b1, 1, none⟩ = some (.int .i64 g) := fun p => X3.out.ext p 1
  have x0 := X3.out.c 0
  have x1 := X3.out.c 1
  simp at x0 x1
  go_upto_region 11 with fail
  clear x0 x1
  have ne : Nonempty (Ext W3) := ⟨⟨W3, Below.refl _ _⟩⟩
  refine quietE (by kernel_rfl) (by kernel_rfl) ?_
  repeat (any_goals (first | go_big_quiet_step (fail) | quiet_step (fail)))
  refine wpQuiet_nil ?_
  rintro _ ⟨p, rfl⟩
  have H4 := Lib.hid (H3.out.trans (p.b.mono H3.out.size))
  generalize p.W = w4 at H4 ⊢
  clear H3 X3 p0 p1 ne
  dsimp only [Exit.then]
  go_step
  clear hwd hwd1 hwv hwf hwt hwx hz hz' hvb hlt
  clear hv hd t1
  have hlw := H4.out.size
  obtain ⟨W5, hW5⟩ : ∃ W5, w4.alloc (.cells (vc r) 49) = W5 := ⟨_, rfl⟩
  have hb5 : Below w4.heap.size w4 W5 := hW5 ▸ alloc_ _ _
  have H5 := Lib.hid (H4.out.trans (hb5.mono H4.out.size))
  have X5 := Lib.hid (show Bx W5 w4.heap.size 49 (vc r) from hW5 ▸ Bx.new w4 49 _)
  have HW5 := Lib.hid (show w4.alloc (.cells #[.int .i64 r.v.s.1, .int .i64 r.v.s.2, .bool r.v.h.on, .int .i64 r.v.h.r.k, .int .i64 r.v.h.r.v, .int .i64 r.v.h.r.a, .int .i64 r.v.h.r.z, .slice r.A r.n r.c, .int .i64 r.v.y] 49) = W5 from hW5)
  clear hb5 hW5
  obtain ⟨ad', r', hA', hbl', hr', N'⟩ := (HG.out.below H4.out).get HKR.out
  obtain rfl := Option.some.inj hA'
  obtain rfl := Option.some.inj (HRR.out.symm.trans hr')
  obtain ⟨q0, q1, q2, q3, q4, q5, q6, q7, q8⟩ := N'
  clear hr' hbl' hA'
  go_upto_region 13 with fail
  rw [HW5.out]
  clear HW5 q0 q1 q2 q3 q4 q5 q6 q7 q8
  obtain ⟨gx, hgx⟩ : ∃ g, w4.heap.size = g := ⟨_, rfl⟩
  rw [hgx] at X5 ⊢
  have HLX := Lib.hid (show w.heap.size ≤ gx by rw [← hgx]; exact hlw)
  clear hgx hlw H4
  obtain ⟨W6, hW6⟩ : ∃ W6, W5.alloc (.cells (vc r) 49) = W6 := ⟨_, rfl⟩
  have hb6 : Below W5.heap.size W5 W6 := hW6 ▸ alloc_ _ _
  have H6 := Lib.hid (H5.out.trans (hb6.mono H5.out.size))
  have X6 := Lib.hid (X5.out.keep hb6)
  have Y6 := Lib.hid (show Bx W6 W5.heap.size 49 (vc r) from hW6 ▸ Bx.new W5 49 _)
  have HXY := Lib.hid (show gx < W5.heap.size from X5.out.lt)
  have HW6 := Lib.hid (show W5.alloc (.cells #[.int .i64 r.v.s.1, .int .i64 r.v.s.2, .bool r.v.h.on, .int .i64 r.v.h.r.k, .int .i64 r.v.h.r.v, .int .i64 r.v.h.r.a, .int .i64 r.v.h.r.z, .slice r.A r.n r.c, .int .i64 r.v.y] 49) = W6 from hW6)
  clear hb6 hW6
  obtain ⟨ad', r', hA', hbl', hr', N'⟩ := (HG.out.below H5.out).get HKR.out
  obtain rfl := Option.some.inj hA'
  obtain rfl := Option.some.inj (HRR.out.symm.trans hr')
  obtain ⟨q0, q1, q2, q3, q4, q5, q6, q7, q8⟩ := N'
  clear hr' hbl' hA'
  go_upto_region 14 with fail
  rw [HW6.out]
  clear HW6 q0 q1 q2 q3 q4 q5 q6 q7 q8
  obtain ⟨gy, hgy⟩ : ∃ g, W5.heap.size = g := ⟨_, rfl⟩
  rw [hgy] at Y6 HXY ⊢
  clear hgy H5 X5
  have hxy := HXY.out
  have hlx := HLX.out
  obtain ⟨W7, hW7⟩ : ∃ W7, W6.setCell ⟨gx, 1, none⟩ (.int .i64 d) = W7 := ⟨_, rfl⟩
  have H7 := Lib.hid (show Below w.heap.size w W7 from hW7 ▸ H6.out.setCell (p := ⟨gx, 1, none⟩) hlx _)
  have X7 := Lib.hid (show Bx W7 gx 49 (vc (upTo r d)) from hW7 ▸ X6.out.set 1 _)
  have Y7 := Lib.hid (show Bx W7 gy 49 (vc r) from hW7 ▸ Y6.out.far (show gy ≠ gx by omega) _)
  have HW7 := Lib.hid hW7
  have f1 := X6.out.f 1
  have x1 := X6.out.c 1
  simp at x1
  go_upto_region 15 with fail
  clear HW7 hW7 f1 x1 H6 X6 Y6
  obtain ⟨W8, hW8⟩ : ∃ W8, W7.setCell ⟨gy, 0, none⟩ (.int .i64 d) = W8 := ⟨_, rfl⟩
  have H8 := Lib.hid (show Below w.heap.size w W8 from hW8 ▸ H7.out.setCell (p := ⟨gy, 0, none⟩) (show w.heap.size ≤ gy by omega) _)
  have X8 := Lib.hid (show Bx W8 gx 49 (vc (upTo r d)) from hW8 ▸ X7.out.far (show gx ≠ gy by omega) _)
  have Y8 := Lib.hid (show Bx W8 gy 49 (vc (from_ r d)) from hW8 ▸ Y7.out.set 0 _)
  have HW8 := Lib.hid hW8
  have f1 := Y7.out.f 0
  have x1 := Y7.out.c 0
  simp at x1
  go_upto_region 16 with fail
  clear HW8 hW8 f1 x1 H7 X7 Y7
  have hkr' := HKR.out
  have hn98 := HN.out
  have hnc := HF.out
  have hkc : (kr : Int) ≤ (c : Int) := by omega
  have hk2 : (kr : Int) + 1 ≤ (n : Int) := by omega
  have hk1 : wrap64 ((kr : Int) + 1) = (kr : Int) + 1 := IntWalk.wrap64_in _ (by omega)
  refine wp_region_steps (fun L_ a_ w_ => ∃ (v86 v87 v88 v89 v90 v91 v92 v93 v94 v95 v96 v97 v98 v99 v17 : Value), a_ = { tmps := #[.slice (some ad) n c, .int .u8 u, .int .u32 t, .int .i64 a, undef, undef, undef, undef, .bool false, .bool true, .int .i64 (hf (ern (List.map Rw.v rs) 292195)), .int .i64 0, .int .i64 (kr : Int), .pointer (some ⟨b1, 0, none⟩), .int .i64 d, .pointer (some ⟨gx, 0, none⟩), .pointer (some ⟨gy, 0, none⟩), v17, undef, undef, undef, undef, undef, undef, .bool true, .slice (some ad) n c, .int .i64 (n : Int), .bool false, .bool false, .slice (some ad) n c, .int .i64 (n : Int), .bool false, .bool false, undef, .tuple #[.int .i64 (hf (ern (List.map Rw.v rs) 292195)), .int .i64 0], .slice (some ad) n c, .tuple #[.int .i64 (hf (ern (List.map Rw.v rs) 292195)), .int .i64 0], .int .i64 (hf (ern (List.map Rw.v rs) 292195)), .int .i64 0, .int .i64 0, .bool false, undef, .int .u8 u, .int .i64 u, .slice (some ad) n c, .int .i64 (n : Int), .int .i64 (kr : Int), .slice (some ad) n c, .int .i64 (kr : Int), .pointer (some (ad.add (kr * 9))), .pointer (some (ad.add (kr * 9))), .agg #[.int .i64 f, .int .i64 g], .pointer (some ⟨b1, 1, none⟩), .int .i64 g, .pointer (some ⟨b1, 0, none⟩), .int .i64 f, .int .i64 (g - f), .bool false, undef, .pointer (some ⟨b1, 0, none⟩), .int .i64 f, .int .i64 (f + 1), .int .u32 t, .int .i64 t, .pointer (some ⟨b1, 1, none⟩), .int .i64 g, .pointer (some ⟨b1, 0, none⟩), .int .i64 f, .int .i64 (g - f), .int .i64 (g - f - 1), .int .i64 v, .int .i64 d, .slice (some ad) n c, .int .i64 (kr : Int), .pointer (some (ad.add (kr * 9))), .agg #[.int .i64 r.v.s.fst, .int .i64 r.v.s.snd, .bool r.v.h.on, .int .i64 r.v.h.r.k, .int .i64 r.v.h.r.v, .int .i64 r.v.h.r.a, .int .i64 r.v.h.r.z, .slice r.A r.n r.c, .int .i64 r.v.y], .slice (some ad) n c, .int .i64 (kr : Int), .pointer (some (ad.add (kr * 9))), .agg #[.int .i64 r.v.s.fst, .int .i64 r.v.s.snd, .bool r.v.h.on, .int .i64 r.v.h.r.k, .int .i64 r.v.h.r.v, .int .i64 r.v.h.r.a, .int .i64 r.v.h.r.z, .slice r.A r.n r.c, .int .i64 r.v.y], .int .i64 d, .pointer (some ⟨gx, 0, none⟩), .pointer (some ⟨gx, 1, none⟩), .int .i64 d, .pointer (some ⟨gy, 0, none⟩), .pointer (some ⟨gy, 0, none⟩), v86, v87, v88, v89, v90, v91, v92, v93, v94, v95, v96, v97, v98, v99, undef, undef, undef, undef, undef, undef, undef, undef, undef, undef, undef, undef, undef, undef, undef, undef, undef, undef, undef, undef, undef, undef, undef, undef, undef, undef, undef, undef, undef, undef, undef, undef, undef, undef, undef, undef, undef, undef, undef, undef], defers := [] } ∧ Hid (K16 W8 ad n c kr rs (upTo r d) (from_ r d) L_ w_ v86 v87 v88 v89 v90 v91 v92 v93 v94 v95 v96 v97 v98 v99 v17)) (by kernel_rfl) (by kernel_rfl) ?_ (AllSteps.cons ?_ (AllSteps.cons ?_ (AllSteps.cons ?_ (AllSteps.cons ?_ (AllSteps.cons ?_ (AllSteps.cons ?_ (AllSteps.cons ?_ (AllSteps.cons ?_ (AllSteps.cons ?_ (AllSteps.cons ?_ (AllSteps.cons ?_ (AllSteps.cons ?_ (AllSteps.cons ?_ (AllSteps.cons ?_ (AllSteps.cons ?_ AllSteps.nil))))))))))))))) ?_
  · exact ⟨_, _, _, _, _, _, _, _, _, _, _, _, _, _, _, rfl, Lib.hid ⟨(show Below W8.heap.size W8 W8.drew from ⟨rfl, rfl, rfl, Nat.le_refl _, fun _ _ => rfl⟩), (fun h => by cases h), (fun h => by cases h), (fun h => by cases h), (fun h => by cases h), (fun h => by cases h), (fun h => by cases h), (fun h => by cases h), (fun h => by cases h), (fun h => by cases h), (fun h => by cases h), (fun h => by cases h), (fun h => by cases h), (fun h => by cases h), (fun h => by cases h), (fun h => by cases h), (fun h => by cases h), (fun h => by cases h), (fun h => by cases h), (fun h => by cases h), (fun h => by cases h)⟩⟩
  · rintro L_ a_ w_ hL hd ⟨v86, v87, v88, v89, v90, v91, v92, v93, v94, v95, v96, v97, v98, v99, v17, rfl, HR⟩ K hK
    have HR2 := Lib.hid (HR.out.s0 hL)
    clear hd
    go_simp
    exact hK.out _ _ ⟨_, _, _, _, _, _, _, _, _, _, _, _, _, _, _, rfl, Lib.hid (HR2.out)⟩
  · rintro L_ a_ w_ hL hd ⟨v86, v87, v88, v89, v90, v91, v92, v93, v94, v95, v96, v97, v98, v99, v17, rfl, HR⟩ K hK
    clear hd
    go_simp
    exact hK.out _ _ ⟨_, _, _, _, _, _, _, _, _, _, _, _, _, _, _, rfl, Lib.hid (HR.out.s1 rfl)⟩
  · rintro L_ a_ w_ hL hd ⟨v86, v87, v88, v89, v90, v91, v92, v93, v94, v95, v96, v97, v98, v99, v17, rfl, HR⟩ K hK
    clear hd
    go_simp
    exact hK.out _ _ ⟨_, _, _, _, _, _, _, _, _, _, _, _, _, _, _, rfl, Lib.hid (HR.out.s2 rfl)⟩
  · rintro L_ a_ w_ hL hd ⟨v86, v87, v88, v89, v90, v91, v92, v93, v94, v95, v96, v97, v98, v99, v17, rfl, HR⟩ K hK
    have e1 := HR.out.f1 (hd ⟨1, .data⟩ (by simp) rfl)
    subst e1
    have e2 := HR.out.f2 (hd ⟨2, .data⟩ (by simp) rfl)
    subst e2
    clear hd
    go_simp
    exact hK.out _ _ ⟨_, _, _, _, _, _, _, _, _, _, _, _, _, _, _, rfl, Lib.hid (HR.out.s3 rfl)⟩
  · rintro L_ a_ w_ hL hd ⟨v86, v87, v88, v89, v90, v91, v92, v93, v94, v95, v96, v97, v98, v99, v17, rfl, HR⟩ K hK
    have e3 := HR.out.f3 (hd ⟨3, .data⟩ (by simp) rfl)
    subst e3
    have h0' := hd ⟨0, .data⟩ (by simp) rfl
    obtain ⟨g1, e0', hg1, _, ho⟩ := HR.out.f0 h0'
    subst e0'
    have HH := Lib.hid (And.intro h0' hg1)
    have HO1 := Lib.hid (ho hL)
    clear hd ho h0' hg1
    refine Slc.step_app w_ rfl (.tmp 86) (.tmp 89) rfl W8.heap.size (some ⟨g1, 0, none⟩) 0 0 [] rfl HO1.out (· < w_.heap.size) (some ad) kr c (rs.take kr) rfl (raws_take ((HG.out.below H8.out).below HR.out.e) (Nat.le_of_lt HKR.out)) (fun e => by cases e) kr (Nat.zero_add _) (by clear hk1; omega) HR.out.e.size ?_
    intro A7 c7 w7' hO7 hg7
    have HR2 := Lib.hid (HR.out.s4 hL HH.out.1 rfl HH.out.2 hO7 hg7)
    clear hO7 hg7
    exact hK.out _ _ ⟨_, _, _, _, _, _, _, _, _, _, _, _, _, _, _, rfl, Lib.hid (HR2.out)⟩
  · rintro L_ a_ w_ hL hd ⟨v86, v87, v88, v89, v90, v91, v92, v93, v94, v95, v96, v97, v98, v99, v17, rfl, HR⟩ K hK
    have hx := X8.out.keep HR.out.e
    have x0 := hx.c 0
    have x1 := hx.c 1
    have x2 := hx.c 2
    have x3 := hx.c 3
    have x4 := hx.c 4
    have x5 := hx.c 5
    have x6 := hx.c 6
    have x7 := hx.c 7
    have x8 := hx.c 8
    simp at x0 x1 x2 x3 x4 x5 x6 x7 x8
    clear hx
    clear hd
    go_simp
    exact hK.out _ _ ⟨_, _, _, _, _, _, _, _, _, _, _, _, _, _, _, rfl, Lib.hid (HR.out.s5 rfl)⟩
  · rintro L_ a_ w_ hL hd ⟨v86, v87, v88, v89, v90, v91, v92, v93, v94, v95, v96, v97, v98, v99, v17, rfl, HR⟩ K hK
    have hx := Y8.out.keep HR.out.e
    have y0 := hx.c 0
    have y1 := hx.c 1
    have y2 := hx.c 2
    have y3 := hx.c 3
    have y4 := hx.c 4
    have y5 := hx.c 5
    have y6 := hx.c 6
    have y7 := hx.c 7
    have y8 := hx.c 8
    simp at y0 y1 y2 y3 y4 y5 y6 y7 y8
    clear hx
    clear hd
    go_simp
    exact hK.out _ _ ⟨_, _, _, _, _, _, _, _, _, _, _, _, _, _, _, rfl, Lib.hid (HR.out.s6 rfl)⟩
  · rintro L_ a_ w_ hL hd ⟨v86, v87, v88, v89, v90, v91, v92, v93, v94, v95, v96, v97, v98, v99, v17, rfl, HR⟩ K hK
    have e5 := HR.out.f5 (hd ⟨5, .data⟩ (by simp) rfl)
    subst e5
    have e6 := HR.out.f6 (hd ⟨6, .data⟩ (by simp) rfl)
    subst e6
    have HR2 := Lib.hid (HR.out.s7 hL)
    clear hd
    go_simp
    exact hK.out _ _ ⟨_, _, _, _, _, _, _, _, _, _, _, _, _, _, _, rfl, Lib.hid (HR2.out)⟩
  · rintro L_ a_ w_ hL hd ⟨v86, v87, v88, v89, v90, v91, v92, v93, v94, v95, v96, v97, v98, v99, v17, rfl, HR⟩ K hK
    have h4' := hd ⟨4, .data⟩ (by simp) rfl
    have h7' := hd ⟨7, .data⟩ (by simp) rfl
    obtain ⟨A1, c1, e4', ho⟩ := HR.out.f4 h4'
    subst e4'
    obtain ⟨g2, e7', _, hsp, _⟩ := HR.out.f7 h7'
    subst e7'
    have HH := Lib.hid (And.intro h4' h7')
    have HO1 := Lib.hid (ho hL)
    have HSP := Lib.hid (hsp hL)
    clear hd ho h4' h7' hsp
    refine Slc.step_app w_ rfl (.tmp 90) (.tmp 93) rfl W8.heap.size A1 kr c1 (rs.take kr) rfl HO1.out (· = g2) (some ⟨g2, 0, none⟩) 2 2 [upTo r d, from_ r d] rfl HSP.out (fun e => by cases e) (kr + 2) rfl (by clear hk1; omega) HR.out.e.size ?_
    intro A7 c7 w7' hO7 hg7
    have HR2 := Lib.hid (HR.out.s8 hL HH.out.1 HH.out.2 HO1.out hO7 hg7)
    clear hO7 hg7
    exact hK.out _ _ ⟨_, _, _, _, _, _, _, _, _, _, _, _, _, _, _, rfl, Lib.hid (HR2.out)⟩
  · rintro L_ a_ w_ hL hd ⟨v86, v87, v88, v89, v90, v91, v92, v93, v94, v95, v96, v97, v98, v99, v17, rfl, HR⟩ K hK
    clear hd
    go_simp
    exact hK.out _ _ ⟨_, _, _, _, _, _, _, _, _, _, _, _, _, _, _, rfl, Lib.hid (HR.out.s9 rfl)⟩
  · rintro L_ a_ w_ hL hd ⟨v86, v87, v88, v89, v90, v91, v92, v93, v94, v95, v96, v97, v98, v99, v17, rfl, HR⟩ K hK
    clear hd
    go_simp
    exact hK.out _ _ ⟨_, _, _, _, _, _, _, _, _, _, _, _, _, _, _, rfl, Lib.hid (HR.out.s10 rfl)⟩
  · rintro L_ a_ w_ hL hd ⟨v86, v87, v88, v89, v90, v91, v92, v93, v94, v95, v96, v97, v98, v99, v17, rfl, HR⟩ K hK
    have e10 := HR.out.f10 (hd ⟨10, .data⟩ (by simp) rfl)
    subst e10
    clear hd
    go_simp
    have hk3 : IntKind.i64.wrap ((kr : Int) + 1) = ((kr + 1 : Nat) : Int) := by clear hk1; rw [IntWalk.i64_in _ (by omega)]; omega
    exact hK.out _ _ ⟨_, _, _, _, _, _, _, _, _, _, _, _, _, _, _, rfl, Lib.hid (HR.out.s11 (by rw [hk3]))⟩
  · rintro L_ a_ w_ hL hd ⟨v86, v87, v88, v89, v90, v91, v92, v93, v94, v95, v96, v97, v98, v99, v17, rfl, HR⟩ K hK
    have e9 := HR.out.f9 (hd ⟨9, .data⟩ (by simp) rfl)
    subst e9
    have e11 := HR.out.f11 (hd ⟨11, .data⟩ (by simp) rfl)
    subst e11
    clear hd
    go_simp
    exact hK.out _ _ ⟨_, _, _, _, _, _, _, _, _, _, _, _, _, _, _, rfl, Lib.hid (HR.out.s12 rfl)⟩
  · rintro L_ a_ w_ hL hd ⟨v86, v87, v88, v89, v90, v91, v92, v93, v94, v95, v96, v97, v98, v99, v17, rfl, HR⟩ K hK
    have e12 := HR.out.f12 (hd ⟨12, .data⟩ (by simp) rfl)
    subst e12
    have h8' := hd ⟨8, .data⟩ (by simp) rfl
    obtain ⟨A1, c1, e8', ho⟩ := HR.out.f8 h8'
    subst e8'
    have HH := Lib.hid h8'
    have HO1 := Lib.hid (ho hL)
    clear hd ho h8'
    refine Slc.step_app w_ rfl (.tmp 94) (.tmp 98) rfl W8.heap.size A1 (kr + 2) c1 (rs.take kr ++ [upTo r d, from_ r d]) rfl HO1.out (· < w_.heap.size) (if c = kr + 1 then some ad else some (ad.add ((kr + 1) * 9))) (n - (kr + 1)) (c - (kr + 1)) (rs.drop (kr + 1)) rfl (raws_end ((HG.out.below H8.out).below HR.out.e) HKR.out HF.out) (fun e => by split at e <;> cases e) (n + 1) (by clear hk1; omega) (by clear hk1; omega) HR.out.e.size ?_
    intro A7 c7 w7' hO7 hg7
    have HR2 := Lib.hid (HR.out.s13 hL HH.out HO1.out hO7 hg7)
    clear hO7 hg7
    exact hK.out _ _ ⟨_, _, _, _, _, _, _, _, _, _, _, _, _, _, _, rfl, Lib.hid (HR2.out)⟩
  · rintro L_ a_ w_ hL hd ⟨v86, v87, v88, v89, v90, v91, v92, v93, v94, v95, v96, v97, v98, v99, v17, rfl, HR⟩ K hK
    have h13' := hd ⟨13, .data⟩ (by simp) rfl
    have HH := Lib.hid h13'
    clear hd h13'
    go_simp
    exact hK.out _ _ ⟨_, _, _, _, _, _, _, _, _, _, _, _, _, _, _, rfl, Lib.hid (HR.out.s14 rfl HH.out)⟩
  · rintro L_ a_ w_ hL ⟨v86, v87, v88, v89, v90, v91, v92, v93, v94, v95, v96, v97, v98, v99, v17, rfl, HR⟩
    clear hk1
    obtain ⟨A9, c9, e99, hO9⟩ := HR.out.f13 (hL 13 (by decide))
    have e17 := HR.out.f14 (hL 14 (by decide))
    rw [e99] at e17
    subst e17 e99
    have H9 := Lib.hid (H8.out.trans (HR.out.e.mono H8.out.size))
    have R9 := Lib.hid (show Raws w_ (· < w_.heap.size) A9 (n + 1) (rs.take kr ++ [upTo r d, from_ r d] ++ rs.drop (kr + 1)) from hO9.raws.keep (fun _ _ => rfl) fun b hb => hb.2)
    have F9 := Lib.hid hO9.fits.1
    have E9 := Lib.hid (once_row (rs := rs) (kr := kr) (d := d) HOK.out HRR.out (by rw [HS.out.1]; exact HD.out.1) (by rw [HS.out.2]; exact HD.out.2) (by rw [HG.out.1]; have := HN.out; omega))
    clear HR hL hO9 H8 X8 Y8
    dsimp only [Exit.then]
    go_step
    obtain ⟨cs, hcs⟩ : ∃ cs, rs.take kr ++ [upTo r d, from_ r d] ++ rs.drop (kr + 1) = cs := ⟨_, rfl⟩
    rw [hcs] at R9 E9
    clear hcs
    have C1 := Lib.hid (HR A9 (n + 1) c9 cs w_ R9.out (by have := HN.out; omega) F9.out)
    go_wp2_with fail
    refine C1.out.mono ?_
    rintro e w10 ⟨rfl, hb⟩
    have H10 := Lib.hid (H9.out.trans (hb.mono H9.out.size))
    have R10 := Lib.hid (R9.out.below hb)
    clear hb C1 H9 R9
    have C1 := Lib.hid (HU (some ad) n c rs a w10 (HG.out.below H10.out) (by have := HN.out; omega) HF.out HA.out)
    go_wp2_with fail
    refine C1.out.mono ?_
    rintro e w11 ⟨rfl, hb⟩
    have H11 := Lib.hid (H10.out.trans (hb.mono H10.out.size))
    have R11 := Lib.hid (R10.out.below hb)
    clear hb C1 H10 R10
    have C1 := Lib.hid (HU A9 (n + 1) c9 cs a w11 R11.out (by have := HN.out; omega) F9.out HA.out)
    go_wp2_with fail
    refine C1.out.mono ?_
    rintro e w12 ⟨rfl, hb⟩
    have H12 := Lib.hid (H11.out.trans (hb.mono H11.out.size))
    clear hb C1 H11 R11
    obtain ⟨o1, o2⟩ := E9.out
    rw [upv_ok o1, o1, upv_ok (all_ok o1 a), all_ok o1 a, upv_ok (all_ok HOK.out a), all_ok HOK.out a, o2, o2]
    obtain ⟨s1, hs1⟩ : ∃ s1, hf (ern (rs.map Rw.v) 292195) = s1 := ⟨_, rfl⟩
    obtain ⟨s2, hs2⟩ : ∃ s2, hf (ern (rs.map Rw.v) a) = s2 := ⟨_, rfl⟩
    rw [hs1, hs2]
    clear o1 o2 hs1 hs2 E9
    have t5 : decide (s1 = s1) = true := decide_eq_true rfl
    have t6 : decide (s2 = s2) = true := decide_eq_true rfl
    go_wp2
    go_ret
    exact ⟨rfl, H12.out⟩

end Acr
end Go.Proofs.Ytjmbccdcnmmhgaa
