/-
  The document's At and Slices of what was known. Conditions: the history reads as meant, its lists are short.
-/
import Derived.Test.YtplenoaajokpjaaGreatMKa
import Derived.Test.YtplenoaajokpjaaGreatMFw
import Derived.Test.YtplenoaajokpjaaGreatMRb
import Derived.Test.YtplenoaajokpjaaGreatKInv
namespace Go.Proofs.YtplenoaajokpjaaGreat
open Go.RowKit Ba Cv Sp Te Ag Tm
namespace Kno
set_option linter.unusedVariables false
def fl (b : Int) (rs : List Rw) : List Rw := rs.filter fun r => decide (r.v.bk ≤ b)
theorem fl_yes {b : Int} {xs : List Rw} {k : Nat} {x : Rw} (h : xs[k]? = some x) (hx : decide (x.v.bk ≤ b) = true) : fl b (xs.take (k + 1)) = fl b (xs.take k) ++ [x] := by
 unfold fl; rw [take_get h, List.filter_append, List.filter_cons_of_pos (p := fun r : Rw => decide (r.v.bk ≤ b)) hx, List.filter_nil]
theorem fl_not {b : Int} {xs : List Rw} {k : Nat} {x : Rw} (h : xs[k]? = some x) (hx : decide (x.v.bk ≤ b) = false) : fl b (xs.take (k + 1)) = fl b (xs.take k) := by
 unfold fl; rw [take_get h, List.filter_append, List.filter_cons_of_neg (p := fun r : Rw => decide (r.v.bk ≤ b)) (by rw [hx]; decide), List.filter_nil, List.append_nil]
set_option maxRecDepth 100000 in
set_option maxHeartbeats 2000000 in
theorem rat_no (h : Hr) (b : Int) (w : World) (hb : b < h.bk) : Calls Tryz.prog 39 #[hg h, .int .i64 b] w fun e w' => e = .returned (.tuple #[hg zhr, .int .i64 7]) ∧ Below w.heap.size w w' := by
 obtain ⟨W, hW⟩ : ∃ W, (w.alloc (.cells (hc h) 35)).alloc (.cells zhc 35) = W := ⟨_, rfl⟩; have H0 := Lib.hid (show A3 w W h by rw [← hW]; exact A3.start w h); have HW := Lib.hid hW; have x1 := H0.out.x.c 1; simp at x1; have tb : decide (b < h.bk) = true := decide_eq_true hb; have f0 := H0.out.y.f; have y0 := H0.out.y.c 0; have y1 := H0.out.y.c 1; have y2 := H0.out.y.c 2; have y3 := H0.out.y.c 3; have y4 := H0.out.y.c 4; have y5 := H0.out.y.c 5; have y6 := H0.out.y.c 6; have y7 := H0.out.y.c 7; have y8 := H0.out.y.c 8; have y9 := H0.out.y.c 9; simp at y0 y1 y2 y3 y4 y5 y6 y7 y8 y9; clear hW; go_enter Tryz.func39, Tryz.ntmps39
 go_upto_region 1 with fail
 rw [HW.out]; go_wp2; clear y0 y1 y2 y3 y4 y5 y6 y7 y8 y9 f0 x1; change bodyPost _ _ _ _ _ (puth (w.heap.size + 1) zhr W); have hx := Bx.puth (h' := zhr) H0.out.y zhr; refine bodyPost_ret (v := .tuple #[hg zhr, .int .i64 7]) ?res rfl ⟨rfl, sets_below _ (by omega) 0 W H0.out.b⟩
 case res =>
  have x0 := hx.c 0; have x1 := hx.c 1; have x2 := hx.c 2; have x3 := hx.c 3; have x4 := hx.c 4; have x5 := hx.c 5; have x6 := hx.c 6; have x7 := hx.c 7; have x8 := hx.c 8; have x9 := hx.c 9; simp at x0 x1 x2 x3 x4 x5 x6 x7 x8 x9; simp [results, Tryz.results39, go_sem, x0, x1, x2, x3, x4, x5, x6, x7, x8, x9]
structure RJ (w W : World) (h : Hr) (A : Option Addr) (c : Nat) (l : List Rw) : Prop where
 b : Below w.heap.size w W
 x : Bx W w.heap.size 35 (hc h)
 y : Bx W (w.heap.size + 1) 35 zhc
 z : Bx W (w.heap.size + 2) 35 (hc (kh h h.A h.c A l.length c l))
 o : Tm.Own W (w.heap.size + 3) A l.length c l
structure K9 (w : World) (h : Hr) (ad : Addr) (i : Nat) (r : Rw) (A : Option Addr) (m c : Nat) (l : List Rw) (L : Nat → Bool) (w' : World) (v35 v36 v37 v38 v39 v40 v41 v42 v43 v44 : Value) : Prop where
 b : Below w.heap.size w w'
 x : Bx w' w.heap.size 35 (hc h)
 y : Bx w' (w.heap.size + 1) 35 zhc
 q : w.heap.size + 3 ≤ w'.heap.size
 o : L 8 = false → Tm.Own w' (w.heap.size + 3) A m c l
 z : L 10 = false → Bx w' (w.heap.size + 2) 35 (hc (kh h h.A h.c A m c l))
 f0 : L 0 = true → v35 = .pointer (some ⟨w.heap.size + 2, 9, none⟩)
 f1 : L 1 = true → v36 = .slice A m c
 f2 : L 2 = true → v37 = .pointer (some ⟨w.heap.size, 9, none⟩)
 f3 : L 3 = true → v38 = .slice (some ad) h.m h.d
 f4 : L 4 = true → v39 = .int .i64 (i : Int)
 f5 : L 5 = true → v40 = .pointer (some (ad.add (i * 9)))
 f6 : L 6 = true → v41 = Tm.vg r
 f7 : L 7 = true → ∃ g, v42 = .slice (some ⟨g, 0, none⟩) 1 1 ∧ (L 8 = false → Tm.Raws w' (· < w'.heap.size) (some ⟨g, 0, none⟩) 1 [r])
 f8 : L 8 = true → ∃ A' c', v43 = .slice A' (m + 1) c' ∧ Tm.Own w' (w.heap.size + 3) A' (m + 1) c' (l ++ [r]) ∧ (L 10 = true → Bx w' (w.heap.size + 2) 35 (hc (kh h h.A h.c A' (m + 1) c' (l ++ [r]))))
 f9 : L 9 = true → v44 = .pointer (some ⟨w.heap.size + 2, 9, none⟩)
 f10 : L 10 = true → True
 d10_8 : L 10 = true → L 8 = true
 d8_1 : L 8 = true → L 1 = true
theorem K9.up {w : World} {h : Hr} {ad : Addr} {i : Nat} {r : Rw} {A : Option Addr} {m c : Nat} {l : List Rw} {L : Nat → Bool} {w' w2 : World} {v35 v36 v37 v38 v39 v40 v41 v42 v43 v44 : Value} (H : K9 w h ad i r A m c l L w' v35 v36 v37 v38 v39 v40 v41 v42 v43 v44) (hb : Below w'.heap.size w' w2) : K9 w h ad i r A m c l L w2 v35 v36 v37 v38 v39 v40 v41 v42 v43 v44 :=
 ⟨H.b.trans (hb.mono H.b.size), H.x.keep hb, H.y.keep hb, Nat.le_trans H.q hb.size, (fun l => (H.o l).below hb), (fun l => (H.z l).keep hb), H.f0, H.f1, H.f2, H.f3, H.f4, H.f5, H.f6, (fun l => by obtain ⟨g, e, h1⟩ := H.f7 l; exact ⟨g, e, fun l3 => (h1 l3).below hb⟩), (fun l => by obtain ⟨A1, c1, e, h1, h2⟩ := H.f8 l; exact ⟨A1, c1, e, h1.below hb, fun l3 => (h2 l3).keep hb⟩), H.f9, H.f10, H.d10_8, H.d8_1⟩
theorem K9.s0 {w : World} {h : Hr} {ad : Addr} {i : Nat} {r : Rw} {A : Option Addr} {m c : Nat} {l : List Rw} {L : Nat → Bool} {w' : World} {v35 v36 v37 v38 v39 v40 v41 v42 v43 v44 : Value} (H : K9 w h ad i r A m c l L w' v35 v36 v37 v38 v39 v40 v41 v42 v43 v44) {z : Value} (k : z = .pointer (some ⟨w.heap.size + 2, 9, none⟩)) : K9 w h ad i r A m c l (fun j => j == 0 || L j) w' z v36 v37 v38 v39 v40 v41 v42 v43 v44 := ⟨H.b, H.x, H.y, H.q, H.o, H.z, fun _ => k, H.f1, H.f2, H.f3, H.f4, H.f5, H.f6, H.f7, H.f8, H.f9, H.f10, H.d10_8, H.d8_1⟩
theorem K9.s1 {w : World} {h : Hr} {ad : Addr} {i : Nat} {r : Rw} {A : Option Addr} {m c : Nat} {l : List Rw} {L : Nat → Bool} {w' : World} {v35 v36 v37 v38 v39 v40 v41 v42 v43 v44 : Value} (H : K9 w h ad i r A m c l L w' v35 v36 v37 v38 v39 v40 v41 v42 v43 v44) {z : Value} (k : z = .slice A m c) : K9 w h ad i r A m c l (fun j => j == 1 || L j) w' v35 z v37 v38 v39 v40 v41 v42 v43 v44 := ⟨H.b, H.x, H.y, H.q, H.o, H.z, H.f0, fun _ => k, H.f2, H.f3, H.f4, H.f5, H.f6, H.f7, H.f8, H.f9, H.f10, H.d10_8, fun _ => rfl⟩
theorem K9.s2 {w : World} {h : Hr} {ad : Addr} {i : Nat} {r : Rw} {A : Option Addr} {m c : Nat} {l : List Rw} {L : Nat → Bool} {w' : World} {v35 v36 v37 v38 v39 v40 v41 v42 v43 v44 : Value} (H : K9 w h ad i r A m c l L w' v35 v36 v37 v38 v39 v40 v41 v42 v43 v44) {z : Value} (k : z = .pointer (some ⟨w.heap.size, 9, none⟩)) : K9 w h ad i r A m c l (fun j => j == 2 || L j) w' v35 v36 z v38 v39 v40 v41 v42 v43 v44 := ⟨H.b, H.x, H.y, H.q, H.o, H.z, H.f0, H.f1, fun _ => k, H.f3, H.f4, H.f5, H.f6, H.f7, H.f8, H.f9, H.f10, H.d10_8, H.d8_1⟩
theorem K9.s3 {w : World} {h : Hr} {ad : Addr} {i : Nat} {r : Rw} {A : Option Addr} {m c : Nat} {l : List Rw} {L : Nat → Bool} {w' : World} {v35 v36 v37 v38 v39 v40 v41 v42 v43 v44 : Value} (H : K9 w h ad i r A m c l L w' v35 v36 v37 v38 v39 v40 v41 v42 v43 v44) {z : Value} (k : z = .slice (some ad) h.m h.d) : K9 w h ad i r A m c l (fun j => j == 3 || L j) w' v35 v36 v37 z v39 v40 v41 v42 v43 v44 := ⟨H.b, H.x, H.y, H.q, H.o, H.z, H.f0, H.f1, H.f2, fun _ => k, H.f4, H.f5, H.f6, H.f7, H.f8, H.f9, H.f10, H.d10_8, H.d8_1⟩
theorem K9.s4 {w : World} {h : Hr} {ad : Addr} {i : Nat} {r : Rw} {A : Option Addr} {m c : Nat} {l : List Rw} {L : Nat → Bool} {w' : World} {v35 v36 v37 v38 v39 v40 v41 v42 v43 v44 : Value} (H : K9 w h ad i r A m c l L w' v35 v36 v37 v38 v39 v40 v41 v42 v43 v44) {z : Value} (k : z = .int .i64 (i : Int)) : K9 w h ad i r A m c l (fun j => j == 4 || L j) w' v35 v36 v37 v38 z v40 v41 v42 v43 v44 := ⟨H.b, H.x, H.y, H.q, H.o, H.z, H.f0, H.f1, H.f2, H.f3, fun _ => k, H.f5, H.f6, H.f7, H.f8, H.f9, H.f10, H.d10_8, H.d8_1⟩
theorem K9.s5 {w : World} {h : Hr} {ad : Addr} {i : Nat} {r : Rw} {A : Option Addr} {m c : Nat} {l : List Rw} {L : Nat → Bool} {w' : World} {v35 v36 v37 v38 v39 v40 v41 v42 v43 v44 : Value} (H : K9 w h ad i r A m c l L w' v35 v36 v37 v38 v39 v40 v41 v42 v43 v44) {z : Value} (k : z = .pointer (some (ad.add (i * 9)))) : K9 w h ad i r A m c l (fun j => j == 5 || L j) w' v35 v36 v37 v38 v39 z v41 v42 v43 v44 := ⟨H.b, H.x, H.y, H.q, H.o, H.z, H.f0, H.f1, H.f2, H.f3, H.f4, fun _ => k, H.f6, H.f7, H.f8, H.f9, H.f10, H.d10_8, H.d8_1⟩
theorem K9.s6 {w : World} {h : Hr} {ad : Addr} {i : Nat} {r : Rw} {A : Option Addr} {m c : Nat} {l : List Rw} {L : Nat → Bool} {w' : World} {v35 v36 v37 v38 v39 v40 v41 v42 v43 v44 : Value} (H : K9 w h ad i r A m c l L w' v35 v36 v37 v38 v39 v40 v41 v42 v43 v44) {z : Value} (k : z = Tm.vg r) : K9 w h ad i r A m c l (fun j => j == 6 || L j) w' v35 v36 v37 v38 v39 v40 z v42 v43 v44 := ⟨H.b, H.x, H.y, H.q, H.o, H.z, H.f0, H.f1, H.f2, H.f3, H.f4, H.f5, fun _ => k, H.f7, H.f8, H.f9, H.f10, H.d10_8, H.d8_1⟩
theorem K9.s7 {w : World} {h : Hr} {ad : Addr} {i : Nat} {r : Rw} {A : Option Addr} {m c : Nat} {l : List Rw} {L : Nat → Bool} {w' : World} {v35 v36 v37 v38 v39 v40 v41 v42 v43 v44 : Value} (H : K9 w h ad i r A m c l L w' v35 v36 v37 v38 v39 v40 v41 v42 v43 v44) {z : Value} (k : ∃ g, z = .slice (some ⟨g, 0, none⟩) 1 1 ∧ (L 8 = false → Tm.Raws w' (· < w'.heap.size) (some ⟨g, 0, none⟩) 1 [r])) : K9 w h ad i r A m c l (fun j => j == 7 || L j) w' v35 v36 v37 v38 v39 v40 v41 z v43 v44 := ⟨H.b, H.x, H.y, H.q, H.o, H.z, H.f0, H.f1, H.f2, H.f3, H.f4, H.f5, H.f6, fun _ => k, H.f8, H.f9, H.f10, H.d10_8, H.d8_1⟩
theorem K9.s8 {w : World} {h : Hr} {ad : Addr} {i : Nat} {r : Rw} {A : Option Addr} {m c : Nat} {l : List Rw} {L : Nat → Bool} {w' w2 : World} {v35 v36 v37 v38 v39 v40 v41 v42 v43 v44 : Value} (H : K9 w h ad i r A m c l L w' v35 v36 v37 v38 v39 v40 v41 v42 v43 v44) (h8 : L 8 = false) (h01 : L 1 = true) {z43 : Value} {A' : Option Addr} {c' : Nat} (e : z43 = .slice A' (m + 1) c') (hO : Tm.Own w2 (w.heap.size + 3) A' (m + 1) c' (l ++ [r])) (hg : w'.grownBy w2 (Value.slice A m c).ownBlock) : K9 w h ad i r A m c l (fun j => j == 8 || L j) w2 v35 v36 v37 v38 v39 v40 v41 v42 z43 v44 := by
 have hq := H.q
 have h10 : L 10 = false := by
  cases h : L 10 with
  | false => rfl
  | true => have := H.d10_8 h; rw [h8] at this; cases this
 have hlow : ∀ k, (Value.slice A m c).ownBlock = some k → w.heap.size + 3 ≤ k := fun k hk => ((H.o h8).lt k hk).1
 have hset : ∀ k, k < w.heap.size + 3 → w2.heap[k]? = w'.heap[k]? := fun k hk => hg.block k (by omega) fun e => by have := hlow k e.symm; omega
 exact ⟨H.b.grown hg H.b.size fun k hk => by have := hlow k hk; omega, (hset _ (by omega)).trans H.x, (hset _ (by omega)).trans H.y, Nat.le_trans hq hg.size, (fun l => by cases l), fun l => (hset _ (by omega)).trans (H.z h10), H.f0, H.f1, H.f2, H.f3, H.f4, H.f5, H.f6, (fun l => by obtain ⟨g, e, h1⟩ := H.f7 l; exact ⟨g, e, fun l3 => by cases l3⟩), fun _ => ⟨A', c', e, hO, fun l => absurd (show L 10 = true from l) (by rw [h10]; decide)⟩, H.f9, fun _ => trivial, fun _ => rfl, fun _ => h01⟩
theorem K9.s9 {w : World} {h : Hr} {ad : Addr} {i : Nat} {r : Rw} {A : Option Addr} {m c : Nat} {l : List Rw} {L : Nat → Bool} {w' : World} {v35 v36 v37 v38 v39 v40 v41 v42 v43 v44 : Value} (H : K9 w h ad i r A m c l L w' v35 v36 v37 v38 v39 v40 v41 v42 v43 v44) {z : Value} (k : z = .pointer (some ⟨w.heap.size + 2, 9, none⟩)) : K9 w h ad i r A m c l (fun j => j == 9 || L j) w' v35 v36 v37 v38 v39 v40 v41 v42 v43 z := ⟨H.b, H.x, H.y, H.q, H.o, H.z, H.f0, H.f1, H.f2, H.f3, H.f4, H.f5, H.f6, H.f7, H.f8, fun _ => k, H.f10, H.d10_8, H.d8_1⟩
theorem K9.s10 {w : World} {h : Hr} {ad : Addr} {i : Nat} {r : Rw} {A : Option Addr} {m c : Nat} {l : List Rw} {L : Nat → Bool} {w' : World} {v35 v36 v37 v38 v39 v40 v41 v42 v43 v44 : Value} (H : K9 w h ad i r A m c l L w' v35 v36 v37 v38 v39 v40 v41 v42 v43 v44) (h10 : L 10 = false) (h8 : L 8 = true) : K9 w h ad i r A m c l (fun j => j == 10 || L j) (w'.setCell ⟨w.heap.size + 2, 9, none⟩ v43) v35 v36 v37 v38 v39 v40 v41 v42 v43 v44 := by
 have hq := H.q; have hset : ∀ k, k ≠ w.heap.size + 2 → (w'.setCell ⟨w.heap.size + 2, 9, none⟩ v43).heap[k]? = w'.heap[k]? := fun k hk => Below.heap_setCell w' _ _ k hk
 refine ⟨H.b.setCell (p := ⟨w.heap.size + 2, 9, none⟩) (by show w.heap.size ≤ w.heap.size + 2; omega) _, (hset _ (by omega)).trans H.x, (hset _ (by omega)).trans H.y, by rw [World.size_setCell]; exact hq, (fun l => absurd (show L 8 = false from l) (by rw [h8]; decide)), (fun l => by cases l), H.f0, H.f1, H.f2, H.f3, H.f4, H.f5, H.f6, (fun l => by obtain ⟨g, e, h1⟩ := H.f7 l; exact ⟨g, e, fun l3 => absurd (show L 8 = false from l3) (by rw [h8]; decide)⟩), fun _ => ?_, H.f9, fun _ => trivial, fun _ => h8, H.d8_1⟩; obtain ⟨A', c', e, hO, _⟩ := H.f8 h8; refine ⟨A', c', e, own_far hO (by show w.heap.size + 2 < _; omega) _, fun _ => ?_⟩; have := (H.z h10).set 9 v43; rw [e] at this ⊢; exact this
set_option maxRecDepth 100000 in
set_option maxHeartbeats 4000000 in
theorem rat_yes (h : Hr) (b : Int) (w : World) (hb : h.bk ≤ b) (M : HM w (· < w.heap.size) h) (S : HS h) : Calls Tryz.prog 39 #[hg h, .int .i64 b] w fun e w' => ∃ k : Hr, e = .returned (.tuple #[hg k, .int .i64 0]) ∧ k.v = ⟨h.id, h.bk, h.s, h.r, h.cs, h.v.hs.filter fun c => decide (c.bk ≤ b)⟩ ∧ HM w' (· < w'.heap.size) k ∧ HS k ∧ k.m ≤ h.m ∧ (k.n = h.n ∧ ∀ r ∈ k.rs, r ∈ h.rs) ∧ Below w.heap.size w w' := by
 obtain ⟨W, hW⟩ : ∃ W, (w.alloc (.cells (hc h) 35)).alloc (.cells zhc 35) = W := ⟨_, rfl⟩; have H0 := Lib.hid (show A3 w W h by rw [← hW]; exact A3.start w h); have HW := Lib.hid hW; have esz : W.heap.size = w.heap.size + 2 := by rw [← hW]; simp
 have ESZ := Lib.hid esz; have HMM := Lib.hid M; have HSS := Lib.hid S; have tb : decide (b < h.bk) = false := decide_eq_false (by omega); obtain ⟨W1, hW1⟩ : ∃ W1, W.alloc (.cells (hc (kh h h.A h.c none 0 0 [])) 35) = W1 := ⟨_, rfl⟩; have hb1 : Below W.heap.size W W1 := hW1 ▸ alloc_ _ _; have HJ := Lib.hid (show RJ w W1 h none 0 [] from ⟨H0.out.b.trans (hb1.mono (by omega)), H0.out.x.keep hb1, H0.out.y.keep hb1, by rw [← hW1, ← esz]; exact Bx.new W 35 _, Tm.Own.nil⟩); have HW1 := Lib.hid hW1; obtain ⟨Bv, hBv⟩ : ∃ Bv, h.B = Bv := ⟨_, rfl⟩; have HBv := Lib.hid hBv; have x0 := H0.out.x.c 0; have x1 := H0.out.x.c 1; have x2 := H0.out.x.c 2; have x3 := H0.out.x.c 3; have x4 := H0.out.x.c 4; have x5 := H0.out.x.c 5; have x6 := H0.out.x.c 6; have x7 := H0.out.x.c 7; have x8 := H0.out.x.c 8; have x9 := H0.out.x.c 9; simp at x0 x1 x2 x3 x4 x5 x6 x7 x8 x9; clear hW M S hW1 hb1 esz hb; go_enter Tryz.func39, Tryz.ntmps39
 go_upto_region 1 with fail
 rw [HW.out]
 go_upto_region 4 with fail
 rw [HW1.out, ESZ.out]; clear x0 x1 x2 x3 x4 x5 x6 x7 x8 x9 hBv; go_wp2
 go_loopw [7] (fun vi w' => ∃ (i : Nat) (V : World) (A : Option Addr) (c : Nat), i ≤ h.m ∧ vi = .int .i64 (i : Int) ∧ V = w' ∧ Hid (RJ w V h A c (fl b (h.rs.take i)))) (fun vi _ => h.m - (intOf vi).toNat)
 case atStart => exact ⟨0, W1, none, 0, Nat.zero_le _, rfl, rfl, HJ⟩
 case round =>
  clear HJ; obtain ⟨i, V, A, c, hi, rfl, rfl, HJ⟩ := hrel; have x9 := HJ.out.x.c 9; simp at x9; rw [HBv.out] at x9; by_cases hlt : i < h.m
  ·obtain ⟨ad, r, hB, hbl, hr, N, hcv, hv⟩ := (HMM.out.below HJ.out.b).get hlt; rw [HBv.out] at hB; subst hB; have hlt2 : (i : Int) < (h.m : Int) := by omega
   have hmb : h.m ≤ 2000 := HSS.out.m; have HR9 := Lib.hid hr
   have hN := Lib.hid (show ∀ W', Below w.heap.size w W' → Tm.Nin W' (ad.add (i * 9)) r by
    intro W' hW'; obtain ⟨ad', r', hB', _, hr', N', _, _⟩ := (HMM.out.below hW').get hlt; rw [HBv.out] at hB'; injection hB' with hB'
    rw [HR9.out] at hr'; injection hr' with hr'
    subst hB' hr'; exact N')
   have q0 := N.c0; clear hr N hcv hv hbl; cases hh : decide (r.v.bk ≤ b)
   ·have HH := Lib.hid hh; go_wp2; go_roundw
    case rel => exact ⟨i + 1, V, A, c, by omega, by go_num, rfl, Lib.hid (by rw [fl_not HR9.out HH.out]; exact HJ.out)⟩
    case measure => simp [intOf]; omega
   ·have HH := Lib.hid hh; obtain ⟨l, hl⟩ : ∃ l, fl b (h.rs.take i) = l := ⟨_, rfl⟩; rw [hl] at HJ; obtain ⟨m, hm⟩ : ∃ m, l.length = m := ⟨_, rfl⟩; have HM := Lib.hid hm; have HL := Lib.hid hl
    have hml : m ≤ 2000 := by
     have h1 : l.length ≤ (h.rs.take i).length := by rw [← hl]; exact List.length_filter_le _ _
     rw [List.length_take] at h1; have := HMM.out.r.1; omega
    clear hl hm
    go_upto_region 8 with fail
    clear q0 x9; refine wp_region_steps (fun L_ a_ w_ => ∃ (v35 v36 v37 v38 v39 v40 v41 v42 v43 v44 : Value), a_ = { tmps := #[hg h, .int .i64 b, .pointer (some ⟨w.heap.size, 0, none⟩), undef, .pointer (some ⟨w.heap.size + 1, 0, none⟩), .int .i64 0, .pointer (some ⟨w.heap.size + 2, 0, none⟩), .int .i64 (i : Int), .pointer (some ⟨w.heap.size, 1, none⟩), .int .i64 h.bk, .int .i64 b, .bool false, undef, .pointer (some ⟨w.heap.size, 0, none⟩), .int .i64 h.id, .pointer (some ⟨w.heap.size, 1, none⟩), .int .i64 h.bk, .pointer (some ⟨w.heap.size, 2, none⟩), .agg #[.int .i64 h.s.1, .int .i64 h.s.2, .int .i64 h.r.k, .int .i64 h.r.v, .int .i64 h.r.a, .int .i64 h.r.z, .slice h.A h.n h.c], .agg #[.int .i64 h.id, .int .i64 h.bk, .int .i64 h.s.1, .int .i64 h.s.2, .int .i64 h.r.k, .int .i64 h.r.v, .int .i64 h.r.a, .int .i64 h.r.z, .slice h.A h.n h.c, .slice none 0 0], .int .i64 (i : Int), .pointer (some ⟨w.heap.size, 9, none⟩), .slice (some ad) h.m h.d, .int .i64 (h.m : Int), .bool true, u25, u26, .pointer (some ⟨w.heap.size, 9, none⟩), .slice (some ad) h.m h.d, .int .i64 (i : Int), .pointer (some (ad.add (i * 9))), .pointer (some (ad.add (i * 9))), .int .i64 r.v.bk, .int .i64 b, .bool true, v35, v36, v37, v38, v39, v40, v41, v42, v43, v44, undef], defers := [] } ∧ Hid (K9 w h ad i r A m c l L_ w_ v35 v36 v37 v38 v39 v40 v41 v42 v43 v44)) (by kernel_rfl) (by kernel_rfl) ?_ (AllSteps.cons ?_ (AllSteps.cons ?_ (AllSteps.cons ?_ (AllSteps.cons ?_ (AllSteps.cons ?_ (AllSteps.cons ?_ (AllSteps.cons ?_ (AllSteps.cons ?_ (AllSteps.cons ?_ (AllSteps.cons ?_ (AllSteps.cons ?_ AllSteps.nil))))))))))) ?_
    ·exact ⟨_, _, _, _, _, _, _, _, _, _, rfl, Lib.hid ⟨(HJ.out.b.trans (show Below w.heap.size V V.drew from ⟨rfl, rfl, rfl, Nat.le_refl _, fun _ _ => rfl⟩)), HJ.out.x, HJ.out.y, HJ.out.z.lt, (fun _ => by have := HJ.out.o; rw [HM.out] at this; exact this), (fun _ => by have := HJ.out.z; rw [HM.out] at this; exact this), (fun h => by cases h), (fun h => by cases h), (fun h => by cases h), (fun h => by cases h), (fun h => by cases h), (fun h => by cases h), (fun h => by cases h), (fun h => by cases h), (fun h => by cases h), (fun h => by cases h), (fun h => by cases h), (fun h => by cases h), (fun h => by cases h)⟩⟩
    ·rintro L_ a_ w_ hL hd ⟨v35, v36, v37, v38, v39, v40, v41, v42, v43, v44, rfl, HR⟩ K hK; clear hd; go_simp; exact hK.out _ _ ⟨_, _, _, _, _, _, _, _, _, _, rfl, Lib.hid (HR.out.s0 rfl)⟩
    ·rintro L_ a_ w_ hL hd ⟨v35, v36, v37, v38, v39, v40, v41, v42, v43, v44, rfl, HR⟩ K hK; have e0 := HR.out.f0 (hd ⟨0, .data⟩ (by simp) rfl); subst e0
     have h10 : L_ 10 = false := by
      cases h : L_ 10 with
      | false => rfl
      | true =>
       have h1 := HR.out.d8_1 (HR.out.d10_8 h); rw [hL] at h1; cases h1
     have hx := HR.out.z h10; have z0 := hx.c 0; have z1 := hx.c 1; have z2 := hx.c 2; have z3 := hx.c 3; have z4 := hx.c 4; have z5 := hx.c 5; have z6 := hx.c 6; have z7 := hx.c 7; have z8 := hx.c 8; have z9 := hx.c 9; simp at z0 z1 z2 z3 z4 z5 z6 z7 z8 z9; clear hx; clear hd h10; go_simp; exact hK.out _ _ ⟨_, _, _, _, _, _, _, _, _, _, rfl, Lib.hid (HR.out.s1 rfl)⟩
    ·rintro L_ a_ w_ hL hd ⟨v35, v36, v37, v38, v39, v40, v41, v42, v43, v44, rfl, HR⟩ K hK; clear hd; go_simp; exact hK.out _ _ ⟨_, _, _, _, _, _, _, _, _, _, rfl, Lib.hid (HR.out.s2 rfl)⟩
    ·rintro L_ a_ w_ hL hd ⟨v35, v36, v37, v38, v39, v40, v41, v42, v43, v44, rfl, HR⟩ K hK; have e2 := HR.out.f2 (hd ⟨2, .data⟩ (by simp) rfl); subst e2; have hx := HR.out.x; have x0 := hx.c 0; have x1 := hx.c 1; have x2 := hx.c 2; have x3 := hx.c 3; have x4 := hx.c 4; have x5 := hx.c 5; have x6 := hx.c 6; have x7 := hx.c 7; have x8 := hx.c 8; have x9 := hx.c 9; simp at x0 x1 x2 x3 x4 x5 x6 x7 x8 x9; clear hx; rw [HBv.out] at x9; clear hd; go_simp; exact hK.out _ _ ⟨_, _, _, _, _, _, _, _, _, _, rfl, Lib.hid (HR.out.s3 rfl)⟩
    ·rintro L_ a_ w_ hL hd ⟨v35, v36, v37, v38, v39, v40, v41, v42, v43, v44, rfl, HR⟩ K hK; clear hd; go_simp; exact hK.out _ _ ⟨_, _, _, _, _, _, _, _, _, _, rfl, Lib.hid (HR.out.s4 rfl)⟩
    ·rintro L_ a_ w_ hL hd ⟨v35, v36, v37, v38, v39, v40, v41, v42, v43, v44, rfl, HR⟩ K hK; have e3 := HR.out.f3 (hd ⟨3, .data⟩ (by simp) rfl); subst e3; have e4 := HR.out.f4 (hd ⟨4, .data⟩ (by simp) rfl); subst e4; clear hd; go_simp; exact hK.out _ _ ⟨_, _, _, _, _, _, _, _, _, _, rfl, Lib.hid (HR.out.s5 rfl)⟩
    ·rintro L_ a_ w_ hL hd ⟨v35, v36, v37, v38, v39, v40, v41, v42, v43, v44, rfl, HR⟩ K hK; have e5 := HR.out.f5 (hd ⟨5, .data⟩ (by simp) rfl); subst e5; obtain ⟨q0, q1, q2, q3, q4, q5, q6, q7, q8⟩ := hN.out w_ HR.out.b; clear hd; go_simp; exact hK.out _ _ ⟨_, _, _, _, _, _, _, _, _, _, rfl, Lib.hid (HR.out.s6 rfl)⟩
    ·rintro L_ a_ w_ hL hd ⟨v35, v36, v37, v38, v39, v40, v41, v42, v43, v44, rfl, HR⟩ K hK; have e6 := HR.out.f6 (hd ⟨6, .data⟩ (by simp) rfl); subst e6; have HR2 := Lib.hid (HR.out.up (alloc_ w_ (.cells (Tm.vc r) 52))); have FF := Lib.hid ((Tm.Own.one w_ r).raws.keep (ok' := (· < (w_.alloc (.cells (Tm.vc r) 52)).heap.size)) (fun _ _ => rfl) fun b hb => hb.2); clear hd; go_simp; exact hK.out _ _ ⟨_, _, _, _, _, _, _, _, _, _, rfl, Lib.hid (HR2.out.s7 ⟨_, rfl, fun _ => FF.out⟩)⟩
    ·rintro L_ a_ w_ hL hd ⟨v35, v36, v37, v38, v39, v40, v41, v42, v43, v44, rfl, HR⟩ K hK; have e1 := HR.out.f1 (hd ⟨1, .data⟩ (by simp) rfl); subst e1; obtain ⟨g, e7, hsp⟩ := HR.out.f7 (hd ⟨7, .data⟩ (by simp) rfl); subst e7; have h1' := hd ⟨1, .data⟩ (by simp) rfl; have how := HR.out.o hL; have hsz := HR.out.q; have H01 := Lib.hid h1'; clear hd h1'; refine Tm.step_app w_ rfl (.tmp 36) (.tmp 42) rfl (w.heap.size + 3) A m c l rfl how (· < w_.heap.size) (some ⟨g, 0, none⟩) 1 1 [r] rfl (hsp hL) (fun e => by cases e) (m + 1) rfl (by omega) hsz ?_; intro A7 c7 w7' hO7 hg7; have HR2 := Lib.hid (HR.out.s8 hL H01.out rfl hO7 hg7); clear hO7 hg7 how hsp; exact hK.out _ _ ⟨_, _, _, _, _, _, _, _, _, _, rfl, Lib.hid (HR2.out)⟩
    ·rintro L_ a_ w_ hL hd ⟨v35, v36, v37, v38, v39, v40, v41, v42, v43, v44, rfl, HR⟩ K hK; clear hd; go_simp; exact hK.out _ _ ⟨_, _, _, _, _, _, _, _, _, _, rfl, Lib.hid (HR.out.s9 rfl)⟩
    ·rintro L_ a_ w_ hL hd ⟨v35, v36, v37, v38, v39, v40, v41, v42, v43, v44, rfl, HR⟩ K hK; have e9 := HR.out.f9 (hd ⟨9, .data⟩ (by simp) rfl); subst e9; have h8 := hd ⟨8, .data⟩ (by simp) rfl; obtain ⟨A7, c7, e8, h7, _⟩ := HR.out.f8 h8; subst e8; have hx := HR.out.z hL; have z0 := hx.c 0; have z1 := hx.c 1; have z2 := hx.c 2; have z3 := hx.c 3; have z4 := hx.c 4; have z5 := hx.c 5; have z6 := hx.c 6; have z7 := hx.c 7; have z8 := hx.c 8; have z9 := hx.c 9; simp at z0 z1 z2 z3 z4 z5 z6 z7 z8 z9; clear hx; have fz := (HR.out.z hL).f; clear hd h7; go_simp; exact hK.out _ _ ⟨_, _, _, _, _, _, _, _, _, _, rfl, Lib.hid (HR.out.s10 hL h8)⟩
    ·rintro L_ a_ w_ hL ⟨v35, v36, v37, v38, v39, v40, v41, v42, v43, v44, rfl, HR⟩; obtain ⟨A7, c7, rfl, hO7, hz7⟩ := HR.out.f8 (hL 8 (by decide)); obtain ⟨g9, rfl, _⟩ := HR.out.f7 (hL 7 (by decide)); obtain rfl := HR.out.f0 (hL 0 (by decide)); obtain rfl := HR.out.f1 (hL 1 (by decide)); obtain rfl := HR.out.f2 (hL 2 (by decide)); obtain rfl := HR.out.f3 (hL 3 (by decide)); obtain rfl := HR.out.f4 (hL 4 (by decide)); obtain rfl := HR.out.f5 (hL 5 (by decide)); obtain rfl := HR.out.f6 (hL 6 (by decide)); obtain rfl := HR.out.f9 (hL 9 (by decide)); have hz8 := hz7 (hL 10 (by decide))
     have HJ2 := Lib.hid (show RJ w w_ h A7 c7 (fl b (h.rs.take (i + 1))) by
      rw [fl_yes HR9.out HH.out, HL.out]; have e : (l ++ [r]).length = m + 1 := by rw [List.length_append, HM.out]; rfl
      exact ⟨HR.out.b, HR.out.x, HR.out.y, by rw [e]; exact hz8, by rw [e]; exact hO7⟩)
     clear HR hL hz7 hz8 hO7 HJ; dsimp only [Exit.then]; go_step; go_wp2; go_roundw
     case rel => exact ⟨i + 1, w_, A7, c7, by omega, by go_num, rfl, HJ2⟩
     case measure => simp [intOf]; omega
  ·obtain rfl : i = h.m := by omega
   have hl : h.rs.take h.m = h.rs := List.take_of_length_le (Nat.le_of_eq HMM.out.r.1); rw [hl] at HJ; obtain ⟨l, hl2⟩ : ∃ l, fl b h.rs = l := ⟨_, rfl⟩; rw [hl2] at HJ; have HL := Lib.hid hl2; obtain ⟨m, hm⟩ : ∃ m, l.length = m := ⟨_, rfl⟩; have hz := HJ.out.z; have ho := HJ.out.o; rw [hm] at hz ho; have HMm := Lib.hid (show m ≤ h.m by rw [← hm, ← hl2]; exact Nat.le_trans (List.length_filter_le _ _) (Nat.le_of_eq HMM.out.r.1)); have HO := Lib.hid ho; have HZ := Lib.hid hz; have z0 := HZ.out.c 0; have z1 := HZ.out.c 1; have z2 := HZ.out.c 2; have z3 := HZ.out.c 3; have z4 := HZ.out.c 4; have z5 := HZ.out.c 5; have z6 := HZ.out.c 6; have z7 := HZ.out.c 7; have z8 := HZ.out.c 8; have z9 := HZ.out.c 9; simp at z0 z1 z2 z3 z4 z5 z6 z7 z8 z9; have y0 := HJ.out.y.c 0; have y1 := HJ.out.y.c 1; have y2 := HJ.out.y.c 2; have y3 := HJ.out.y.c 3; have y4 := HJ.out.y.c 4; have y5 := HJ.out.y.c 5; have y6 := HJ.out.y.c 6; have y7 := HJ.out.y.c 7; have y8 := HJ.out.y.c 8; have y9 := HJ.out.y.c 9; simp at y0 y1 y2 y3 y4 y5 y6 y7 y8 y9; have fy := HJ.out.y.f; clear hl hl2 hm hz ho hlt; go_wp2; clear z0 z1 z2 z3 z4 z5 z6 z7 z8 z9 y0 y1 y2 y3 y4 y5 y6 y7 y8 y9 fy x9; change bodyPost _ _ _ _ _ (puth (w.heap.size + 1) (kh h h.A h.c A m c l) V); have hx := Bx.puth (h' := zhr) HJ.out.y (kh h h.A h.c A m c l); have hset : ∀ k, k ≠ w.heap.size + 1 → (puth (w.heap.size + 1) (kh h h.A h.c A m c l) V).heap[k]? = V.heap[k]? := fun k hk => sets_heap _ hk 0 V
   have hsz : (puth (w.heap.size + 1) (kh h h.A h.c A m c l) V).heap.size = V.heap.size := sets_size _ 0 V; have hbel : Below w.heap.size w (puth (w.heap.size + 1) (kh h h.A h.c A m c l) V) := sets_below _ (by omega) 0 V HJ.out.b; have hO := own_keep HO.out fun g hg => hset g (by omega)
   have hfit := own_fits hO; have hmem : ∀ r ∈ l, r ∈ h.rs := fun r hr => by rw [← HL.out] at hr; exact (List.mem_filter.1 hr).1
   refine bodyPost_ret (v := .tuple #[hg (kh h h.A h.c A m c l), .int .i64 0]) ?res rfl ⟨(kh h h.A h.c A m c l), rfl, ?val, ⟨HMM.out.t.keep (fun _ hp => hbel.cell hp) fun k hk => Nat.lt_of_lt_of_le hk hbel.size, hO.raws.keep (fun _ _ => rfl) fun k hk => hk.2, fun r hr => (HMM.out.k r (hmem r hr)).keep (fun _ hp => hbel.cell hp) fun k hk => Nat.lt_of_lt_of_le hk hbel.size⟩, ⟨HSS.out.n, by have h1 := HSS.out.m; have h2 := HMm.out; show m ≤ 2000; omega, fun r hr => HSS.out.k r (hmem r hr), hfit.2, hfit.1⟩, HMm.out, ⟨rfl, hmem⟩, hbel⟩
   case res =>
    have x0 := hx.c 0; have x1 := hx.c 1; have x2 := hx.c 2; have x3 := hx.c 3; have x4 := hx.c 4; have x5 := hx.c 5; have x6 := hx.c 6; have x7 := hx.c 7; have x8 := hx.c 8; have x9 := hx.c 9; simp at x0 x1 x2 x3 x4 x5 x6 x7 x8 x9; simp [results, Tryz.results39, go_sem, x0, x1, x2, x3, x4, x5, x6, x7, x8, x9]
   case val =>
    have e1 : l.map Rw.v = h.v.hs.filter fun c => decide (c.bk ≤ b) := by
     rw [← HL.out]; show _ = (h.rs.map Rw.v).filter _
     rw [List.filter_map]; rfl
    unfold Hr.v; rw [show (kh h h.A h.c A m c l).rs = l from rfl, e1]; rfl
def RatTo (w : World) (h : Hr) (b : Int) (e : Ending) (w' : World) : Prop := (b < h.bk ∧ e = .returned (.tuple #[hg zhr, .int .i64 7]) ∧ Below w.heap.size w w') ∨ (h.bk ≤ b ∧ ∃ k : Hr, e = .returned (.tuple #[hg k, .int .i64 0]) ∧ k.v = ⟨h.id, h.bk, h.s, h.r, h.cs, h.v.hs.filter fun c => decide (c.bk ≤ b)⟩ ∧ HM w' (· < w'.heap.size) k ∧ HS k ∧ k.m ≤ h.m ∧ (k.n = h.n ∧ ∀ r ∈ k.rs, r ∈ h.rs) ∧ Below w.heap.size w w')
theorem rat_ (h : Hr) (b : Int) (w : World) (M : HM w (· < w.heap.size) h) (S : HS h) : Calls Tryz.prog 39 #[hg h, .int .i64 b] w (RatTo w h b) := by
 rcases Int.lt_or_le b h.bk with hb | hb
 ·exact (rat_no h b w hb).mono fun e w' H => .inl ⟨hb, H⟩
 ·exact (rat_yes h b w hb M S).mono fun e w' H => .inr ⟨hb, H⟩
end Kno
open Tf Sl
namespace Slc
set_option maxRecDepth 100000 in
set_option maxHeartbeats 4000000 in
theorem rslices (h : Hr) (T : Option Addr) (nt ct : Nat) (vs : List Trf.Rw) (b : Int) (w : World) (M : HM w (· < w.heap.size) h) (S : HS h) (hm : h.m ≤ 100) (hcov : h.n ≤ 1000 ∧ ∀ r ∈ h.rs, r.n ≤ 1000) (V : Trf.Vers w T nt vs) (hnt : nt ≤ 1000) : Calls Tryz.prog 27 #[hg h, Trf.tg T nt ct, .int .i64 b] w (SlTo w h.v (vs.map Trf.Rw.v) b) := by
 obtain ⟨W, hW⟩ : ∃ W, (w.alloc (.cells (hc h) 35)).alloc (.cells #[.slice T nt ct] 38) = W := ⟨_, rfl⟩; have H0 := Lib.hid (show O2 w W h T nt ct by rw [← hW]; exact O2.start w h T nt ct); have HW := Lib.hid hW; have HV := Lib.hid V; have HA := Lib.hid (Kno.rat_ h b W (M.below H0.out.b) S); have HMM := Lib.hid hm; have x0 := H0.out.x.c 0; have x1 := H0.out.x.c 1; have x2 := H0.out.x.c 2; have x3 := H0.out.x.c 3; have x4 := H0.out.x.c 4; have x5 := H0.out.x.c 5; have x6 := H0.out.x.c 6; have x7 := H0.out.x.c 7; have x8 := H0.out.x.c 8; have x9 := H0.out.x.c 9; simp at x0 x1 x2 x3 x4 x5 x6 x7 x8 x9; clear V M S hm hW; go_enter Tryz.func27, Tryz.ntmps27
 go_upto_region 1 with fail
 rw [HW.out]; clear HW
 go_wp2_with fail
 refine HA.out.mono ?_; rintro e w1 (⟨hb, rfl, hb1⟩ | ⟨hb, k, rfl, hv, hM, hS, hkm, hkc, hb1⟩)
 ·have H1 := Lib.hid (H0.out.next hb1); clear hb1 HA x0 x1 x2 x3 x4 x5 x6 x7 x8 x9 H0; go_wp2; go_ret2; exact ⟨none, 0, 0, [], 7, rfl, Sls.nil, Nat.zero_le _, Nat.le_refl _, .none hb rfl rfl, H1.out.b.alloc H1.out.b.size _⟩
 ·have H1 := Lib.hid (H0.out.next hb1); have HB := Lib.hid hb; have HKV := Lib.hid hv; have HKM := Lib.hid hM; have HKS := Lib.hid hS; have HKL := Lib.hid hkm; have HKC := Lib.hid (show k.n ≤ 1000 ∧ ∀ r ∈ k.rs, r.n ≤ 1000 from ⟨by rw [hkc.1]; exact hcov.1, fun r hr => hcov.2 r (hkc.2 r hr)⟩); clear hb1 HA x0 x1 x2 x3 x4 x5 x6 x7 x8 x9 H0 hb hv hM hS hkm hkc; obtain ⟨W2, hW2⟩ : ∃ W2, w1.alloc (.cells (hc k) 35) = W2 := ⟨_, rfl⟩; have hb2 : Below w1.heap.size w1 W2 := hW2 ▸ alloc_ _ _; have HX2 := Lib.hid (show Bx W2 w1.heap.size 35 (hc k) from hW2 ▸ Bx.new w1 35 (hc k)); have H2 := Lib.hid (H1.out.next hb2); have HM2 := Lib.hid (HKM.out.below hb2); have HW2 := Lib.hid hW2; clear hb2 hW2
  go_upto_region 4 with fail
  rw [HW2.out]; clear HW2 H1 HKM; have x0 := HX2.out.c 0; have x1 := HX2.out.c 1; have x2 := HX2.out.c 2; have x3 := HX2.out.c 3; have x4 := HX2.out.c 4; have x5 := HX2.out.c 5; have x6 := HX2.out.c 6; have x7 := HX2.out.c 7; have x8 := HX2.out.c 8; have x9 := HX2.out.c 9; simp at x0 x1 x2 x3 x4 x5 x6 x7 x8 x9; have y0 := H2.out.y.c 0; simp at y0; have C := Lib.hid (rof k T nt ct vs W2 HM2.out HKS.out (Nat.le_trans HKL.out HMM.out) HKC.out (HV.out.below H2.out.b) hnt)
  go_wp2_with fail
  refine C.out.mono ?_; rintro e w3 ⟨A3, n3, c3, rs3, cd3, rfl, hs3, hn3, hc3, hi3, hb3⟩; have H3 := Lib.hid (H2.out.next hb3); have HL3 := Lib.hid hs3; have HI3 := Lib.hid hi3; clear hb3 hs3 hi3 C x0 x1 x2 x3 x4 x5 x6 x7 x8 x9 y0; go_wp2; go_ret2; refine ⟨A3, n3, c3, rs3, cd3, rfl, HL3.out, hn3, hc3, .known HB.out ?_, H3.out.b⟩; have := HI3.out; rw [HKV.out] at this; exact this
end Slc
end Go.Proofs.YtplenoaajokpjaaGreat
