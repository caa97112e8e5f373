/-
  The document's Moved. Conditions: a history of at most 100 changes, a tariff of at most 1000 versions, lists that are short.
-/
import Derived.Test.YtbjnjeidgdmdiaaGreatKKRs
import Derived.Test.YtbjnjeidgdmdiaaGreatKKRa
import Derived.Test.YtbjnjeidgdmdiaaGreatMKc
import Derived.Test.YtbjnjeidgdmdiaaGreatMSr
import Derived.Test.YtbjnjeidgdmdiaaGreatKInv
namespace Go.Proofs.YtbjnjeidgdmdiaaGreat
open Go.RowKit Ba Cv Sp Te Ag Tf Sl Tm
namespace Slc
set_option linter.unusedVariables false
structure Prs (s1 s2 : List Sc) (i k : Nat) (zs : List Sp) : Prop where
 a : ∀ d, hit zs d → lk s1 d ≠ lk s2 d
 b : ∀ (i' k' : Nat) (x y : Sc) (d : Int), (i' < i ∨ i' = i ∧ k' < k) → s1[i']? = some x → s2[k']? = some y → inn x.s d = true → inn y.s d = true → lk s1 d ≠ lk s2 d → hit zs d
theorem Prs.start (s1 s2 : List Sc) : Prs s1 s2 0 0 [] := ⟨fun d h => absurd h (hit_nil d), fun i' k' x y d h => by omega⟩
theorem Prs.line {s1 s2 : List Sc} {i : Nat} {zs : List Sp} (H : Prs s1 s2 i s2.length zs) : Prs s1 s2 (i + 1) 0 zs := by
 refine ⟨H.a, fun i' k' x y d h hx hy => H.b i' k' x y d ?_ hx hy⟩; have := (List.getElem?_eq_some_iff.1 hy).1; omega
theorem lk_same {f t : Int} {ss : List Sc} (R : Row f t ss) {i : Nat} {x : Sc} (hx : ss[i]? = some x) {d e : Int} (hd : inn x.s d = true) (he : inn x.s e = true) : lk ss d = lk ss e := by
 have h1 := (inn_iff _ _).1 hd; have h2 := (inn_iff _ _).1 he; rw [R.lk hx h1.2.2.1 h1.2.2.2, R.lk hx h2.2.2.1 h2.2.2.2]
theorem Prs.yes {f t : Int} {s1 s2 : List Sc} {i k : Nat} {zs : List Sp} (H : Prs s1 s2 i k zs) (R1 : Row f t s1) (R2 : Row f t s2) {x y : Sc} (hx : s1[i]? = some x) (hy : s2[k]? = some y) (hh : has (ct x.s y.s) = true) (hn : lk s1 (ct x.s y.s).1 ≠ lk s2 (ct x.s y.s).1) : Prs s1 s2 i (k + 1) (zs ++ [ct x.s y.s]) := by
 have hc := (has_iff _).1 hh; have h0 := (ct_inn x.s y.s (ct x.s y.s).1).1 ((inn_iff _ _).2 ⟨hc.1, hc.2.2, Int.le_refl _, hc.2.1⟩); refine ⟨fun d hd => ?_, fun i' k' x' y' d h g1 g2 g3 g4 g5 => ?_⟩
 ·rcases (hit_append zs [ct x.s y.s] d).1 hd with hd | hd
  ·exact H.a d hd
  ·rcases (hit_cons _ _ d).1 hd with hd | hd
   ·have h1 := (ct_inn x.s y.s d).1 hd; rw [lk_same R1 hx h1.1 h0.1, lk_same R2 hy h1.2 h0.2]; exact hn
   ·exact absurd hd (hit_nil d)
 ·rw [hit_append]; by_cases hik : i' = i ∧ k' = k
  ·obtain ⟨rfl, rfl⟩ := hik; rw [hx] at g1; rw [hy] at g2; injection g1 with g1; injection g2 with g2
   subst g1 g2; exact .inr ((hit_cons _ _ d).2 (.inl ((ct_inn _ _ d).2 ⟨g3, g4⟩)))
  ·exact .inl (H.b i' k' x' y' d (by omega) g1 g2 g3 g4 g5)
theorem Prs.no {f t : Int} {s1 s2 : List Sc} {i k : Nat} {zs : List Sp} (H : Prs s1 s2 i k zs) (R1 : Row f t s1) (R2 : Row f t s2) {x y : Sc} (hx : s1[i]? = some x) (hy : s2[k]? = some y) (hn : ¬ (has (ct x.s y.s) = true ∧ lk s1 (ct x.s y.s).1 ≠ lk s2 (ct x.s y.s).1)) : Prs s1 s2 i (k + 1) zs := by
 refine ⟨H.a, fun i' k' x' y' d h g1 g2 g3 g4 g5 => ?_⟩; by_cases hik : i' = i ∧ k' = k
 ·obtain ⟨rfl, rfl⟩ := hik; rw [hx] at g1; rw [hy] at g2; injection g1 with g1; injection g2 with g2
  subst g1 g2; have hcd := (ct_inn x.s y.s d).2 ⟨g3, g4⟩; have hh := inn_has hcd; have hc := (has_iff _).1 hh; have h0 := (ct_inn x.s y.s (ct x.s y.s).1).1 ((inn_iff _ _).2 ⟨hc.1, hc.2.2, Int.le_refl _, hc.2.1⟩); rw [lk_same R1 hx g3 h0.1, lk_same R2 hy g4 h0.2] at g5; exact absurd ⟨hh, g5⟩ hn
 ·exact H.b i' k' x' y' d (by omega) g1 g2 g3 g4 g5
theorem Prs.all {f t : Int} {s1 s2 : List Sc} {zs : List Sp} (H : Prs s1 s2 s1.length 0 zs) (R1 : Row f t s1) (R2 : Row f t s2) (d : Int) : hit zs d ↔ lk s1 d ≠ lk s2 d := by
 refine ⟨H.a d, fun hn => ?_⟩; by_cases hd : f ≤ d ∧ d < t
 ·obtain ⟨i, x, hx, x1, x2⟩ := R1.in_ hd.1 hd.2; obtain ⟨k, y, hy, y1, y2⟩ := R2.in_ hd.1 hd.2; have hxa := R1.at hx; have hya := R2.at hy; have hf := R1.f; have ht := R1.t; have hl := (List.getElem?_eq_some_iff.1 hx).1; exact H.b i k x y d (.inl hl) hx hy ((inn_iff _ _).2 ⟨by omega, by omega, x1, x2⟩) ((inn_iff _ _).2 ⟨by omega, by omega, y1, y2⟩) hn
 ·rw [R1.out hd, R2.out hd] at hn; exact absurd rfl hn
structure MJ (w W : World) (A : Option Addr) (m c : Nat) (zs : List Sp) : Prop where
 b : Below w.heap.size w W
 o : Spn.Own W w.heap.size A m c zs
theorem MJ.next {w W W' : World} {A : Option Addr} {m c : Nat} {zs : List Sp} (H : MJ w W A m c zs) (hb : Below W.heap.size W W') : MJ w W' A m c zs := ⟨H.b.trans (hb.mono H.b.size), H.o.below hb⟩
structure K14 (w W : World) (ad ad2 : Addr) (i kk : Nat) (n1 c1 n2 c2 : Nat) (x y : Rw) (cs : Sp) (A : Option Addr) (m c : Nat) (zs : List Sp) (L : Nat → Bool) (w' : World) (v50 v51 v52 v53 v54 v55 v56 v57 v58 v59 v60 v17 : Value) : Prop where
 j : MJ w w' A m c zs
 q : W.heap.size ≤ w'.heap.size
 q2 : w.heap.size ≤ W.heap.size
 r : ∀ b, (Value.slice A m c).ownBlock = some b → b < W.heap.size
 f0 : L 0 = true → v50 = .slice (some ad) n1 c1
 f1 : L 1 = true → v51 = .int .i64 (i : Int)
 f2 : L 2 = true → v52 = .pointer (some (ad.add (i * 9)))
 f3 : L 3 = true → v53 = .pointer (some (ad.add (i * 9)))
 f4 : L 4 = true → v54 = Spn.ag x.v.s
 f5 : L 5 = true → v55 = .slice (some ad2) n2 c2
 f6 : L 6 = true → v56 = .int .i64 (kk : Int)
 f7 : L 7 = true → v57 = .pointer (some (ad2.add (kk * 9)))
 f8 : L 8 = true → v58 = .pointer (some (ad2.add (kk * 9)))
 f9 : L 9 = true → v59 = Spn.ag y.v.s
 f10 : L 10 = true → v60 = Spn.ag cs
 f11 : L 11 = true → ∃ g, v17 = .pointer (some ⟨g, 0, none⟩) ∧ W.heap.size ≤ g ∧ (L 12 = false → Spn.Bx w' g 0 0) ∧ (L 12 = true → Spn.Bx w' g cs.1 cs.2)
 f12 : L 12 = true → True
 d12_11 : L 12 = true → L 11 = true
theorem K14.up {w W : World} {ad ad2 : Addr} {i kk : Nat} {n1 c1 n2 c2 : Nat} {x y : Rw} {cs : Sp} {A : Option Addr} {m c : Nat} {zs : List Sp} {L : Nat → Bool} {w' w2 : World} {v50 v51 v52 v53 v54 v55 v56 v57 v58 v59 v60 v17 : Value} (H : K14 w W ad ad2 i kk n1 c1 n2 c2 x y cs A m c zs L w' v50 v51 v52 v53 v54 v55 v56 v57 v58 v59 v60 v17) (hb : Below w'.heap.size w' w2) : K14 w W ad ad2 i kk n1 c1 n2 c2 x y cs A m c zs L w2 v50 v51 v52 v53 v54 v55 v56 v57 v58 v59 v60 v17 :=
 ⟨H.j.next hb, Nat.le_trans H.q hb.size, H.q2, H.r, H.f0, H.f1, H.f2, H.f3, H.f4, H.f5, H.f6, H.f7, H.f8, H.f9, H.f10, (fun l => by obtain ⟨g, e, h0, h1, h2⟩ := H.f11 l; exact ⟨g, e, h0, fun l3 => (h1 l3).keep hb, fun l3 => (h2 l3).keep hb⟩), H.f12, H.d12_11⟩
theorem K14.s0 {w W : World} {ad ad2 : Addr} {i kk : Nat} {n1 c1 n2 c2 : Nat} {x y : Rw} {cs : Sp} {A : Option Addr} {m c : Nat} {zs : List Sp} {L : Nat → Bool} {w' : World} {v50 v51 v52 v53 v54 v55 v56 v57 v58 v59 v60 v17 : Value} (H : K14 w W ad ad2 i kk n1 c1 n2 c2 x y cs A m c zs L w' v50 v51 v52 v53 v54 v55 v56 v57 v58 v59 v60 v17) {z : Value} (k : z = .slice (some ad) n1 c1) : K14 w W ad ad2 i kk n1 c1 n2 c2 x y cs A m c zs (fun j => j == 0 || L j) w' z v51 v52 v53 v54 v55 v56 v57 v58 v59 v60 v17 := ⟨H.j, H.q, H.q2, H.r, fun _ => k, H.f1, H.f2, H.f3, H.f4, H.f5, H.f6, H.f7, H.f8, H.f9, H.f10, H.f11, H.f12, H.d12_11⟩
theorem K14.s1 {w W : World} {ad ad2 : Addr} {i kk : Nat} {n1 c1 n2 c2 : Nat} {x y : Rw} {cs : Sp} {A : Option Addr} {m c : Nat} {zs : List Sp} {L : Nat → Bool} {w' : World} {v50 v51 v52 v53 v54 v55 v56 v57 v58 v59 v60 v17 : Value} (H : K14 w W ad ad2 i kk n1 c1 n2 c2 x y cs A m c zs L w' v50 v51 v52 v53 v54 v55 v56 v57 v58 v59 v60 v17) {z : Value} (k : z = .int .i64 (i : Int)) : K14 w W ad ad2 i kk n1 c1 n2 c2 x y cs A m c zs (fun j => j == 1 || L j) w' v50 z v52 v53 v54 v55 v56 v57 v58 v59 v60 v17 := ⟨H.j, H.q, H.q2, H.r, H.f0, fun _ => k, H.f2, H.f3, H.f4, H.f5, H.f6, H.f7, H.f8, H.f9, H.f10, H.f11, H.f12, H.d12_11⟩
theorem K14.s2 {w W : World} {ad ad2 : Addr} {i kk : Nat} {n1 c1 n2 c2 : Nat} {x y : Rw} {cs : Sp} {A : Option Addr} {m c : Nat} {zs : List Sp} {L : Nat → Bool} {w' : World} {v50 v51 v52 v53 v54 v55 v56 v57 v58 v59 v60 v17 : Value} (H : K14 w W ad ad2 i kk n1 c1 n2 c2 x y cs A m c zs L w' v50 v51 v52 v53 v54 v55 v56 v57 v58 v59 v60 v17) {z : Value} (k : z = .pointer (some (ad.add (i * 9)))) : K14 w W ad ad2 i kk n1 c1 n2 c2 x y cs A m c zs (fun j => j == 2 || L j) w' v50 v51 z v53 v54 v55 v56 v57 v58 v59 v60 v17 := ⟨H.j, H.q, H.q2, H.r, H.f0, H.f1, fun _ => k, H.f3, H.f4, H.f5, H.f6, H.f7, H.f8, H.f9, H.f10, H.f11, H.f12, H.d12_11⟩
theorem K14.s3 {w W : World} {ad ad2 : Addr} {i kk : Nat} {n1 c1 n2 c2 : Nat} {x y : Rw} {cs : Sp} {A : Option Addr} {m c : Nat} {zs : List Sp} {L : Nat → Bool} {w' : World} {v50 v51 v52 v53 v54 v55 v56 v57 v58 v59 v60 v17 : Value} (H : K14 w W ad ad2 i kk n1 c1 n2 c2 x y cs A m c zs L w' v50 v51 v52 v53 v54 v55 v56 v57 v58 v59 v60 v17) {z : Value} (k : z = .pointer (some (ad.add (i * 9)))) : K14 w W ad ad2 i kk n1 c1 n2 c2 x y cs A m c zs (fun j => j == 3 || L j) w' v50 v51 v52 z v54 v55 v56 v57 v58 v59 v60 v17 := ⟨H.j, H.q, H.q2, H.r, H.f0, H.f1, H.f2, fun _ => k, H.f4, H.f5, H.f6, H.f7, H.f8, H.f9, H.f10, H.f11, H.f12, H.d12_11⟩
theorem K14.s4 {w W : World} {ad ad2 : Addr} {i kk : Nat} {n1 c1 n2 c2 : Nat} {x y : Rw} {cs : Sp} {A : Option Addr} {m c : Nat} {zs : List Sp} {L : Nat → Bool} {w' : World} {v50 v51 v52 v53 v54 v55 v56 v57 v58 v59 v60 v17 : Value} (H : K14 w W ad ad2 i kk n1 c1 n2 c2 x y cs A m c zs L w' v50 v51 v52 v53 v54 v55 v56 v57 v58 v59 v60 v17) {z : Value} (k : z = Spn.ag x.v.s) : K14 w W ad ad2 i kk n1 c1 n2 c2 x y cs A m c zs (fun j => j == 4 || L j) w' v50 v51 v52 v53 z v55 v56 v57 v58 v59 v60 v17 := ⟨H.j, H.q, H.q2, H.r, H.f0, H.f1, H.f2, H.f3, fun _ => k, H.f5, H.f6, H.f7, H.f8, H.f9, H.f10, H.f11, H.f12, H.d12_11⟩
theorem K14.s5 {w W : World} {ad ad2 : Addr} {i kk : Nat} {n1 c1 n2 c2 : Nat} {x y : Rw} {cs : Sp} {A : Option Addr} {m c : Nat} {zs : List Sp} {L : Nat → Bool} {w' : World} {v50 v51 v52 v53 v54 v55 v56 v57 v58 v59 v60 v17 : Value} (H : K14 w W ad ad2 i kk n1 c1 n2 c2 x y cs A m c zs L w' v50 v51 v52 v53 v54 v55 v56 v57 v58 v59 v60 v17) {z : Value} (k : z = .slice (some ad2) n2 c2) : K14 w W ad ad2 i kk n1 c1 n2 c2 x y cs A m c zs (fun j => j == 5 || L j) w' v50 v51 v52 v53 v54 z v56 v57 v58 v59 v60 v17 := ⟨H.j, H.q, H.q2, H.r, H.f0, H.f1, H.f2, H.f3, H.f4, fun _ => k, H.f6, H.f7, H.f8, H.f9, H.f10, H.f11, H.f12, H.d12_11⟩
theorem K14.s6 {w W : World} {ad ad2 : Addr} {i kk : Nat} {n1 c1 n2 c2 : Nat} {x y : Rw} {cs : Sp} {A : Option Addr} {m c : Nat} {zs : List Sp} {L : Nat → Bool} {w' : World} {v50 v51 v52 v53 v54 v55 v56 v57 v58 v59 v60 v17 : Value} (H : K14 w W ad ad2 i kk n1 c1 n2 c2 x y cs A m c zs L w' v50 v51 v52 v53 v54 v55 v56 v57 v58 v59 v60 v17) {z : Value} (k : z = .int .i64 (kk : Int)) : K14 w W ad ad2 i kk n1 c1 n2 c2 x y cs A m c zs (fun j => j == 6 || L j) w' v50 v51 v52 v53 v54 v55 z v57 v58 v59 v60 v17 := ⟨H.j, H.q, H.q2, H.r, H.f0, H.f1, H.f2, H.f3, H.f4, H.f5, fun _ => k, H.f7, H.f8, H.f9, H.f10, H.f11, H.f12, H.d12_11⟩
theorem K14.s7 {w W : World} {ad ad2 : Addr} {i kk : Nat} {n1 c1 n2 c2 : Nat} {x y : Rw} {cs : Sp} {A : Option Addr} {m c : Nat} {zs : List Sp} {L : Nat → Bool} {w' : World} {v50 v51 v52 v53 v54 v55 v56 v57 v58 v59 v60 v17 : Value} (H : K14 w W ad ad2 i kk n1 c1 n2 c2 x y cs A m c zs L w' v50 v51 v52 v53 v54 v55 v56 v57 v58 v59 v60 v17) {z : Value} (k : z = .pointer (some (ad2.add (kk * 9)))) : K14 w W ad ad2 i kk n1 c1 n2 c2 x y cs A m c zs (fun j => j == 7 || L j) w' v50 v51 v52 v53 v54 v55 v56 z v58 v59 v60 v17 := ⟨H.j, H.q, H.q2, H.r, H.f0, H.f1, H.f2, H.f3, H.f4, H.f5, H.f6, fun _ => k, H.f8, H.f9, H.f10, H.f11, H.f12, H.d12_11⟩
theorem K14.s8 {w W : World} {ad ad2 : Addr} {i kk : Nat} {n1 c1 n2 c2 : Nat} {x y : Rw} {cs : Sp} {A : Option Addr} {m c : Nat} {zs : List Sp} {L : Nat → Bool} {w' : World} {v50 v51 v52 v53 v54 v55 v56 v57 v58 v59 v60 v17 : Value} (H : K14 w W ad ad2 i kk n1 c1 n2 c2 x y cs A m c zs L w' v50 v51 v52 v53 v54 v55 v56 v57 v58 v59 v60 v17) {z : Value} (k : z = .pointer (some (ad2.add (kk * 9)))) : K14 w W ad ad2 i kk n1 c1 n2 c2 x y cs A m c zs (fun j => j == 8 || L j) w' v50 v51 v52 v53 v54 v55 v56 v57 z v59 v60 v17 := ⟨H.j, H.q, H.q2, H.r, H.f0, H.f1, H.f2, H.f3, H.f4, H.f5, H.f6, H.f7, fun _ => k, H.f9, H.f10, H.f11, H.f12, H.d12_11⟩
theorem K14.s9 {w W : World} {ad ad2 : Addr} {i kk : Nat} {n1 c1 n2 c2 : Nat} {x y : Rw} {cs : Sp} {A : Option Addr} {m c : Nat} {zs : List Sp} {L : Nat → Bool} {w' : World} {v50 v51 v52 v53 v54 v55 v56 v57 v58 v59 v60 v17 : Value} (H : K14 w W ad ad2 i kk n1 c1 n2 c2 x y cs A m c zs L w' v50 v51 v52 v53 v54 v55 v56 v57 v58 v59 v60 v17) {z : Value} (k : z = Spn.ag y.v.s) : K14 w W ad ad2 i kk n1 c1 n2 c2 x y cs A m c zs (fun j => j == 9 || L j) w' v50 v51 v52 v53 v54 v55 v56 v57 v58 z v60 v17 := ⟨H.j, H.q, H.q2, H.r, H.f0, H.f1, H.f2, H.f3, H.f4, H.f5, H.f6, H.f7, H.f8, fun _ => k, H.f10, H.f11, H.f12, H.d12_11⟩
theorem K14.s10 {w W : World} {ad ad2 : Addr} {i kk : Nat} {n1 c1 n2 c2 : Nat} {x y : Rw} {cs : Sp} {A : Option Addr} {m c : Nat} {zs : List Sp} {L : Nat → Bool} {w' : World} {v50 v51 v52 v53 v54 v55 v56 v57 v58 v59 v60 v17 : Value} (H : K14 w W ad ad2 i kk n1 c1 n2 c2 x y cs A m c zs L w' v50 v51 v52 v53 v54 v55 v56 v57 v58 v59 v60 v17) {z : Value} (k : z = Spn.ag cs) : K14 w W ad ad2 i kk n1 c1 n2 c2 x y cs A m c zs (fun j => j == 10 || L j) w' v50 v51 v52 v53 v54 v55 v56 v57 v58 v59 z v17 := ⟨H.j, H.q, H.q2, H.r, H.f0, H.f1, H.f2, H.f3, H.f4, H.f5, H.f6, H.f7, H.f8, H.f9, fun _ => k, H.f11, H.f12, H.d12_11⟩
theorem K14.s11 {w W : World} {ad ad2 : Addr} {i kk : Nat} {n1 c1 n2 c2 : Nat} {x y : Rw} {cs : Sp} {A : Option Addr} {m c : Nat} {zs : List Sp} {L : Nat → Bool} {w' : World} {v50 v51 v52 v53 v54 v55 v56 v57 v58 v59 v60 v17 : Value} (H : K14 w W ad ad2 i kk n1 c1 n2 c2 x y cs A m c zs L w' v50 v51 v52 v53 v54 v55 v56 v57 v58 v59 v60 v17) {z : Value} (k : ∃ g, z = .pointer (some ⟨g, 0, none⟩) ∧ W.heap.size ≤ g ∧ (L 12 = false → Spn.Bx w' g 0 0) ∧ (L 12 = true → Spn.Bx w' g cs.1 cs.2)) : K14 w W ad ad2 i kk n1 c1 n2 c2 x y cs A m c zs (fun j => j == 11 || L j) w' v50 v51 v52 v53 v54 v55 v56 v57 v58 v59 v60 z := ⟨H.j, H.q, H.q2, H.r, H.f0, H.f1, H.f2, H.f3, H.f4, H.f5, H.f6, H.f7, H.f8, H.f9, H.f10, fun _ => k, H.f12, fun _ => rfl⟩
theorem K14.s12 {w W : World} {ad ad2 : Addr} {i kk : Nat} {n1 c1 n2 c2 : Nat} {x y : Rw} {cs : Sp} {A : Option Addr} {m c : Nat} {zs : List Sp} {L : Nat → Bool} {w' : World} {v50 v51 v52 v53 v54 v55 v56 v57 v58 v59 v60 v17 : Value} (H : K14 w W ad ad2 i kk n1 c1 n2 c2 x y cs A m c zs L w' v50 v51 v52 v53 v54 v55 v56 v57 v58 v59 v60 v17) (h12 : L 12 = false) (h11 : L 11 = true) {g : Nat} (e : v17 = .pointer (some ⟨g, 0, none⟩)) (hg0 : W.heap.size ≤ g) (hbx : Spn.Bx w' g 0 0) : K14 w W ad ad2 i kk n1 c1 n2 c2 x y cs A m c zs (fun j => j == 12 || L j) ((w'.setCell ⟨g, 0, none⟩ (.int .i64 cs.1)).setCell ⟨g, 1, none⟩ (.int .i64 cs.2)) v50 v51 v52 v53 v54 v55 v56 v57 v58 v59 v60 v17 := by
 have hq2 := H.q2; have hset : ∀ k, k ≠ g → ((w'.setCell ⟨g, 0, none⟩ (.int .i64 cs.1)).setCell ⟨g, 1, none⟩ (.int .i64 cs.2)).heap[k]? = w'.heap[k]? := fun k hk => (Below.heap_setCell _ _ _ k hk).trans (Below.heap_setCell _ _ _ k hk)
 have hsz : ((w'.setCell ⟨g, 0, none⟩ (.int .i64 cs.1)).setCell ⟨g, 1, none⟩ (.int .i64 cs.2)).heap.size = w'.heap.size := by rw [World.size_setCell, World.size_setCell]
 refine ⟨⟨(H.j.b.setCell (p := ⟨g, 0, none⟩) (by show w.heap.size ≤ g; omega) _).setCell (p := ⟨g, 1, none⟩) (by show w.heap.size ≤ g; omega) _, ⟨H.j.o.1, ?_⟩⟩, by rw [hsz]; exact H.q, hq2, H.r, H.f0, H.f1, H.f2, H.f3, H.f4, H.f5, H.f6, H.f7, H.f8, H.f9, H.f10, fun _ => ⟨g, e, hg0, (fun l => by cases l), fun _ => (hbx.set0 _).set1 _⟩, fun _ => trivial, fun _ => h11⟩; rcases H.j.o.2 with h | ⟨b, cap, cur, e1, hb', hh, q⟩
 ·exact .inl h
 ·refine .inr ⟨b, cap, cur, e1, hb', (hset b fun e2 => ?_).trans hh, q⟩; injection e1 with e1
  have := H.r b (by rw [e1]; rfl); omega
set_option maxRecDepth 100000 in
set_option maxHeartbeats 4000000 in
theorem rmoved (h : Hr) (T : Option Addr) (nt ct : Nat) (vs : List Trf.Rw) (a b : Int) (w : World) (M : HM w (· < w.heap.size) h) (S : HS h) (hm : h.m ≤ 100) (hcov : h.n ≤ 1000 ∧ ∀ r ∈ h.rs, r.n ≤ 1000) (V : Trf.Vers w T nt vs) (hnt : nt ≤ 1000) : Calls Tryz.prog 16 #[hg h, Trf.tg T nt ct, .int .i64 a, .int .i64 b] w fun e w' => ∃ A n c zs code, e = .returned (.tuple #[.slice A n c, .int .i64 code]) ∧ Spn.Spans w' w'.heap.size A n zs ∧ MvIs h.v (vs.map Trf.Rw.v) a b code zs ∧ Below w.heap.size w w' := by
 obtain ⟨W, hW⟩ : ∃ W, (w.alloc (.cells (hc h) 31)).alloc (.cells #[.slice T nt ct] 34) = W := ⟨_, rfl⟩; have H0 := Lib.hid (show O2 w W h T nt ct by rw [← hW]; exact O2.start w h T nt ct); have HW := Lib.hid hW; have HV := Lib.hid V; have HMM := Lib.hid M; have HSS := Lib.hid S; have C := fun d (W : World) (H : Below w.heap.size w W) => Lib.hid (rslices h T nt ct vs d W (HMM.out.below H) HSS.out hm hcov (HV.out.below H) hnt)
 clear hW V M S hcov; have x0 := H0.out.x.c 0; have x1 := H0.out.x.c 1; have x2 := H0.out.x.c 2; have x3 := H0.out.x.c 3; have x4 := H0.out.x.c 4; have x5 := H0.out.x.c 5; have x6 := H0.out.x.c 6; have x7 := H0.out.x.c 7; have x8 := H0.out.x.c 8; have x9 := H0.out.x.c 9; have y0 := H0.out.y.c 0; simp at x0 x1 x2 x3 x4 x5 x6 x7 x8 x9 y0; go_enter Tryz.func16, Tryz.ntmps16
 go_upto_region 1 with fail
 rw [HW.out]; clear HW
 go_wp2_with fail
 refine (C a W H0.out.b).out.mono ?_; rintro e w1 ⟨A1, n1, c1, rs1, cd1, rfl, hs1, hn1, hc1, hi1, hb1⟩; have H1 := Lib.hid (H0.out.next hb1); have HL1 := Lib.hid hs1; have HI1 := Lib.hid hi1; clear hb1 hs1 hi1 x0 x1 x2 x3 x4 x5 x6 x7 x8 x9 y0 H0; by_cases h0 : cd1 = 0
 ·subst h0; have x0 := H1.out.x.c 0; have x1 := H1.out.x.c 1; have x2 := H1.out.x.c 2; have x3 := H1.out.x.c 3; have x4 := H1.out.x.c 4; have x5 := H1.out.x.c 5; have x6 := H1.out.x.c 6; have x7 := H1.out.x.c 7; have x8 := H1.out.x.c 8; have x9 := H1.out.x.c 9; have y0 := H1.out.y.c 0; simp at x0 x1 x2 x3 x4 x5 x6 x7 x8 x9 y0
  go_wp2_with fail
  refine (C b w1 H1.out.b).out.mono ?_; rintro e w2 ⟨A2, n2, c2, rs2, cd2, rfl, hs2, hn2, hc2, hi2, hb2⟩; have H2 := Lib.hid (H1.out.next hb2); have HL2 := Lib.hid hs2; have HI2 := Lib.hid hi2; have HL1' := Lib.hid (HL1.out.below hb2); clear hb2 hs2 hi2 x0 x1 x2 x3 x4 x5 x6 x7 x8 x9 y0 H1 HL1 C hc1 hc2; by_cases h0 : cd2 = 0
  ·subst h0; have HR1 := Lib.hid HI1.out.row; have HR2 := Lib.hid HI2.out.row; have hl1 : (rs1.map Rw.v).length = n1 := by rw [List.length_map]; exact HL1'.out.r.1
   have hl2 : (rs2.map Rw.v).length = n2 := by rw [List.length_map]; exact HL2.out.r.1
   have HL9 := Lib.hid (And.intro hl1 hl2); clear hl1 hl2; go_wp2
   go_loopw [14, 15] (fun zl vi w' => ∃ (i : Nat) (A : Option Addr) (m c : Nat) (zs : List Sp) (V : World), i ≤ n1 ∧ zl = .slice A m c ∧ vi = .int .i64 (i : Int) ∧ V = w' ∧ m ≤ i * 1100 ∧ Hid (MJ w2 V A m c zs) ∧ Hid (Prs (rs1.map Rw.v) (rs2.map Rw.v) i 0 zs)) (fun _ vi _ => n1 - (intOf vi).toNat)
   case atStart => exact ⟨0, none, 0, 0, [], w2, Nat.zero_le _, rfl, rfl, rfl, Nat.zero_le _, Lib.hid ⟨Below.refl _ _, Spn.Own.nil⟩, Lib.hid (Prs.start _ _)⟩
   case round =>
    obtain ⟨i, A, m, c, zs, V, hi, rfl, rfl, rfl, hmi, HJ, HP⟩ := hrel; by_cases hlt : i < n1
    ·have hlt2 : (i : Int) < (n1 : Int) := by omega
     go_wp2
     go_loopw [14, 16] (fun zl vi w' => ∃ (k : Nat) (A : Option Addr) (m c : Nat) (zs : List Sp) (V : World), k ≤ n2 ∧ zl = .slice A m c ∧ vi = .int .i64 (k : Int) ∧ V = w' ∧ m ≤ i * 1100 + k ∧ Hid (MJ w2 V A m c zs) ∧ Hid (Prs (rs1.map Rw.v) (rs2.map Rw.v) i k zs)) (fun _ vi _ => n2 - (intOf vi).toNat)
     case atStart => exact ⟨0, A, m, c, zs, V, Nat.zero_le _, rfl, rfl, rfl, by omega, HJ, HP⟩
     case round =>
      clear HJ HP hmi; obtain ⟨k, A, m, c, zs, V, hk, rfl, rfl, rfl, hmi, HJ, HP⟩ := hrel; by_cases hlt3 : k < n2
      ·obtain ⟨ad, x, rfl, _, hx, _⟩ := (HL1'.out.below HJ.out.b).r.get hlt; obtain ⟨ad2, y, rfl, _, hy, _⟩ := (HL2.out.below HJ.out.b).r.get hlt3; have hlt4 : (k : Int) < (n2 : Int) := by omega
       have HNX := Lib.hid (show ∀ W', Below w2.heap.size w2 W' → Nin W' (ad.add (i * 9)) x by
        intro W' hW'; obtain ⟨ad', x', e1, _, hx1, N7⟩ := (HL1'.out.below hW').r.get hlt; rw [hx] at hx1; injection e1 with e1
        injection hx1 with hx1
        subst e1 hx1; exact N7)
       have HNY := Lib.hid (show ∀ W', Below w2.heap.size w2 W' → Nin W' (ad2.add (k * 9)) y by
        intro W' hW'; obtain ⟨ad', x', e1, _, hx1, N7⟩ := (HL2.out.below hW').r.get hlt3; rw [hy] at hx1; injection e1 with e1
        injection hx1 with hx1
        subst e1 hx1; exact N7)
       have HX := Lib.hid (show (rs1.map Rw.v)[i]? = some x.v by rw [List.getElem?_map, hx]; rfl); have HY := Lib.hid (show (rs2.map Rw.v)[k]? = some y.v by rw [List.getElem?_map, hy]; rfl); obtain ⟨cs, hcs⟩ : ∃ cs, Sp.ct x.v.s y.v.s = cs := ⟨_, rfl⟩; have CC := fun W => Lib.hid (Spn.rcut x.v.s y.v.s W)
       have HCS := Lib.hid (show Sp.ct x.v.s y.v.s = cs from hcs); simp only [HCS.out] at CC; have hmm : m ≤ 1300000 := by omega
       clear hx hy hcs
       go_upto_region 14 with fail
       refine wp_region_steps (fun L_ a_ w_ => ∃ (v50 v51 v52 v53 v54 v55 v56 v57 v58 v59 v60 v17 : Value), a_ = { tmps := #[hg h, Trf.tg T nt ct, .int .i64 a, .int .i64 b, .pointer (some ⟨w.heap.size, 0, none⟩), .pointer (some ⟨w.heap.size + 1, 0, none⟩), undef, undef, .slice none 0 0, .int .i64 0, .slice (some ad) n1 c1, .int .i64 0, .slice (some ad2) n2 c2, .int .i64 0, .slice A m c, .int .i64 (i : Int), .int .i64 (k : Int), v17, .tuple #[.slice (some ad) n1 c1, .int .i64 0], .agg #[.int .i64 h.id, .int .i64 h.bk, .int .i64 h.s.1, .int .i64 h.s.2, .int .i64 h.r.k, .int .i64 h.r.v, .int .i64 h.r.a, .int .i64 h.r.z, .slice h.A h.n h.c, .slice h.B h.m h.d], .agg #[.slice T nt ct], .int .i64 a, .tuple #[.slice (some ad) n1 c1, .int .i64 0], .slice (some ad) n1 c1, .int .i64 0, .int .i64 0, .bool false, undef, .tuple #[.slice (some ad2) n2 c2, .int .i64 0], .agg #[.int .i64 h.id, .int .i64 h.bk, .int .i64 h.s.1, .int .i64 h.s.2, .int .i64 h.r.k, .int .i64 h.r.v, .int .i64 h.r.a, .int .i64 h.r.z, .slice h.A h.n h.c, .slice h.B h.m h.d], .agg #[.slice T nt ct], .int .i64 b, .tuple #[.slice (some ad2) n2 c2, .int .i64 0], .slice (some ad2) n2 c2, .int .i64 0, .int .i64 0, .bool false, undef, .int .i64 (i : Int), .slice (some ad) n1 c1, .int .i64 (n1 : Int), .bool true, u42, u43, .int .i64 (k : Int), .slice (some ad2) n2 c2, .int .i64 (n2 : Int), .bool true, u48, u49, v50, v51, v52, v53, v54, v55, v56, v57, v58, v59, v60, u61, u62, u63, u64, u65, u66, u67, u68, u69, u70, u71, u72, u73, u74, u75, undef, undef], defers := [] } ∧ Hid (K14 w2 V ad ad2 i k n1 c1 n2 c2 x y cs A m c zs L_ w_ v50 v51 v52 v53 v54 v55 v56 v57 v58 v59 v60 v17)) (by kernel_rfl) (by kernel_rfl) ?_ (AllSteps.cons ?_ (AllSteps.cons ?_ (AllSteps.cons ?_ (AllSteps.cons ?_ (AllSteps.cons ?_ (AllSteps.cons ?_ (AllSteps.cons ?_ (AllSteps.cons ?_ (AllSteps.cons ?_ (AllSteps.cons ?_ (AllSteps.cons ?_ (AllSteps.cons ?_ (AllSteps.cons ?_ AllSteps.nil))))))))))))) ?_
       ·exact ⟨_, _, _, _, _, _, _, _, _, _, _, _, rfl, Lib.hid ⟨(HJ.out.next (W' := V.drew) ⟨rfl, rfl, rfl, Nat.le_refl _, fun _ _ => rfl⟩), Nat.le_refl _, HJ.out.b.size, (fun b hb => (Spn.Own.lt HJ.out.o b hb).2), (fun h => by cases h), (fun h => by cases h), (fun h => by cases h), (fun h => by cases h), (fun h => by cases h), (fun h => by cases h), (fun h => by cases h), (fun h => by cases h), (fun h => by cases h), (fun h => by cases h), (fun h => by cases h), (fun h => by cases h), (fun h => by cases h), (fun h => by cases h)⟩⟩
       ·rintro L_ a_ w_ hL hd ⟨v50, v51, v52, v53, v54, v55, v56, v57, v58, v59, v60, v17, rfl, HR⟩ K hK; clear hd; go_simp; exact hK.out _ _ ⟨_, _, _, _, _, _, _, _, _, _, _, _, rfl, Lib.hid (HR.out.s0 rfl)⟩
       ·rintro L_ a_ w_ hL hd ⟨v50, v51, v52, v53, v54, v55, v56, v57, v58, v59, v60, v17, rfl, HR⟩ K hK; clear hd; go_simp; exact hK.out _ _ ⟨_, _, _, _, _, _, _, _, _, _, _, _, rfl, Lib.hid (HR.out.s1 rfl)⟩
       ·rintro L_ a_ w_ hL hd ⟨v50, v51, v52, v53, v54, v55, v56, v57, v58, v59, v60, v17, rfl, HR⟩ K hK; have e0 := HR.out.f0 (hd ⟨0, .data⟩ (by simp) rfl); subst e0; have e1 := HR.out.f1 (hd ⟨1, .data⟩ (by simp) rfl); subst e1; clear hd; go_simp; exact hK.out _ _ ⟨_, _, _, _, _, _, _, _, _, _, _, _, rfl, Lib.hid (HR.out.s2 rfl)⟩
       ·rintro L_ a_ w_ hL hd ⟨v50, v51, v52, v53, v54, v55, v56, v57, v58, v59, v60, v17, rfl, HR⟩ K hK; have e2 := HR.out.f2 (hd ⟨2, .data⟩ (by simp) rfl); subst e2; clear hd; go_simp; exact hK.out _ _ ⟨_, _, _, _, _, _, _, _, _, _, _, _, rfl, Lib.hid (HR.out.s3 rfl)⟩
       ·rintro L_ a_ w_ hL hd ⟨v50, v51, v52, v53, v54, v55, v56, v57, v58, v59, v60, v17, rfl, HR⟩ K hK; have e3 := HR.out.f3 (hd ⟨3, .data⟩ (by simp) rfl); subst e3; obtain ⟨q0, q1, q2, q3, q4, q5, q6, q7, q8⟩ := HNX.out w_ HR.out.j.b; clear hd; go_simp; exact hK.out _ _ ⟨_, _, _, _, _, _, _, _, _, _, _, _, rfl, Lib.hid (HR.out.s4 rfl)⟩
       ·rintro L_ a_ w_ hL hd ⟨v50, v51, v52, v53, v54, v55, v56, v57, v58, v59, v60, v17, rfl, HR⟩ K hK; clear hd; go_simp; exact hK.out _ _ ⟨_, _, _, _, _, _, _, _, _, _, _, _, rfl, Lib.hid (HR.out.s5 rfl)⟩
       ·rintro L_ a_ w_ hL hd ⟨v50, v51, v52, v53, v54, v55, v56, v57, v58, v59, v60, v17, rfl, HR⟩ K hK; clear hd; go_simp; exact hK.out _ _ ⟨_, _, _, _, _, _, _, _, _, _, _, _, rfl, Lib.hid (HR.out.s6 rfl)⟩
       ·rintro L_ a_ w_ hL hd ⟨v50, v51, v52, v53, v54, v55, v56, v57, v58, v59, v60, v17, rfl, HR⟩ K hK; have e5 := HR.out.f5 (hd ⟨5, .data⟩ (by simp) rfl); subst e5; have e6 := HR.out.f6 (hd ⟨6, .data⟩ (by simp) rfl); subst e6; clear hd; go_simp; exact hK.out _ _ ⟨_, _, _, _, _, _, _, _, _, _, _, _, rfl, Lib.hid (HR.out.s7 rfl)⟩
       ·rintro L_ a_ w_ hL hd ⟨v50, v51, v52, v53, v54, v55, v56, v57, v58, v59, v60, v17, rfl, HR⟩ K hK; have e7 := HR.out.f7 (hd ⟨7, .data⟩ (by simp) rfl); subst e7; clear hd; go_simp; exact hK.out _ _ ⟨_, _, _, _, _, _, _, _, _, _, _, _, rfl, Lib.hid (HR.out.s8 rfl)⟩
       ·rintro L_ a_ w_ hL hd ⟨v50, v51, v52, v53, v54, v55, v56, v57, v58, v59, v60, v17, rfl, HR⟩ K hK; have e8 := HR.out.f8 (hd ⟨8, .data⟩ (by simp) rfl); subst e8; obtain ⟨q0, q1, q2, q3, q4, q5, q6, q7, q8⟩ := HNY.out w_ HR.out.j.b; clear hd; go_simp; exact hK.out _ _ ⟨_, _, _, _, _, _, _, _, _, _, _, _, rfl, Lib.hid (HR.out.s9 rfl)⟩
       ·rintro L_ a_ w_ hL hd ⟨v50, v51, v52, v53, v54, v55, v56, v57, v58, v59, v60, v17, rfl, HR⟩ K hK; have e4 := HR.out.f4 (hd ⟨4, .data⟩ (by simp) rfl); subst e4; have e9 := HR.out.f9 (hd ⟨9, .data⟩ (by simp) rfl); subst e9; clear hd; go_simp; refine (CC w_).out.mono ?_; rintro e w5 ⟨rfl, hb5⟩; have HR2 := Lib.hid (HR.out.up hb5); clear hb5
        try go_simp
        exact hK.out _ _ ⟨_, _, _, _, _, _, _, _, _, _, _, _, rfl, Lib.hid (HR2.out.s10 rfl)⟩
       ·rintro L_ a_ w_ hL hd ⟨v50, v51, v52, v53, v54, v55, v56, v57, v58, v59, v60, v17, rfl, HR⟩ K hK; have HR2 := Lib.hid (HR.out.up (alloc_ w_ (.cells #[.int .i64 0, .int .i64 0] 23))); have FF := Lib.hid (Spn.Bx.new w_ 0 0); have HQ := Lib.hid HR.out.q; have HNO : L_ 12 = false := (by cases h : L_ 12 with | false => rfl | true => have h9 := HR.out.d12_11 h; rw [hL] at h9; cases h9); have HNO2 := Lib.hid HNO; clear hd HNO; go_simp; exact hK.out _ _ ⟨_, _, _, _, _, _, _, _, _, _, _, _, rfl, Lib.hid (HR2.out.s11 ⟨_, rfl, HQ.out, fun _ => FF.out, fun h => absurd (show L_ 12 = true from h) (by rw [HNO2.out]; decide)⟩)⟩
       ·rintro L_ a_ w_ hL hd ⟨v50, v51, v52, v53, v54, v55, v56, v57, v58, v59, v60, v17, rfl, HR⟩ K hK; have e10 := HR.out.f10 (hd ⟨10, .data⟩ (by simp) rfl); subst e10; have h11 := hd ⟨11, .data⟩ (by simp) rfl; obtain ⟨g, e11, hg0, hbx, _⟩ := HR.out.f11 h11; subst e11; have hbx' := hbx hL; have q0 := hbx'.c0; have q1 := hbx'.c1; have fq := hbx'.f; have HBX := Lib.hid hbx'; have HG0 := Lib.hid hg0; clear hd hbx hbx' hg0; go_simp; exact hK.out _ _ ⟨_, _, _, _, _, _, _, _, _, _, _, _, rfl, Lib.hid (HR.out.s12 hL h11 rfl HG0.out HBX.out)⟩
       ·rintro L_ a_ w_ hL ⟨v50, v51, v52, v53, v54, v55, v56, v57, v58, v59, v60, v17, rfl, HR⟩; obtain rfl := HR.out.f0 (hL 0 (by decide)); obtain rfl := HR.out.f1 (hL 1 (by decide)); obtain rfl := HR.out.f2 (hL 2 (by decide)); obtain rfl := HR.out.f3 (hL 3 (by decide)); obtain rfl := HR.out.f4 (hL 4 (by decide)); obtain rfl := HR.out.f5 (hL 5 (by decide)); obtain rfl := HR.out.f6 (hL 6 (by decide)); obtain rfl := HR.out.f7 (hL 7 (by decide)); obtain rfl := HR.out.f8 (hL 8 (by decide)); obtain rfl := HR.out.f9 (hL 9 (by decide)); obtain rfl := HR.out.f10 (hL 10 (by decide)); obtain ⟨g, rfl, hg0, _, hbx⟩ := HR.out.f11 (hL 11 (by decide)); have HB := Lib.hid (hbx (hL 12 (by decide))); have HJ2 := Lib.hid HR.out.j; clear HR hL hg0 hbx HJ CC HNX HNY; dsimp only [Exit.then]; go_step; have q0 := HB.out.c0; have q1 := HB.out.c1; obtain ⟨y9, hy9⟩ : ∃ y9, mn cs = y9 := ⟨_, rfl⟩; have D := fun W => Lib.hid (Spn.rmany cs W)
        simp only [hy9] at D; have HY9 := Lib.hid hy9; clear hy9
        go_wp2_with fail
        refine (D w_).out.mono ?_; rintro e w6 ⟨rfl, hb6⟩; have HB6 := Lib.hid (HB.out.keep hb6); have HJ6 := Lib.hid (HJ2.out.next hb6); clear hb6 D q0 q1 HB HJ2; by_cases h9 : 0 < y9
        ·have t9 : decide (0 < y9) = true := decide_eq_true h9; have HH9 := Lib.hid (show Sp.has (Sp.ct x.v.s y.v.s) = true by rw [HCS.out]; unfold Sp.has; rw [HY9.out]; exact t9); have q0 := HB6.out.c0; have q1 := HB6.out.c1; have E := Lib.hid (ralike (some ad) (some ad2) n1 n2 c1 c2 rs1 rs2 cs.1 w6 (HL1'.out.below HJ6.out.b) (HL2.out.below HJ6.out.b) (by omega) (by omega)); obtain ⟨u, hu⟩ : ∃ u, decide (lk (rs1.map Rw.v) cs.1 = lk (rs2.map Rw.v) cs.1) = u := ⟨_, rfl⟩; rw [hu] at E; have HU := Lib.hid hu; clear hu
         go_wp2_with fail
         refine E.out.mono ?_; rintro e w7 ⟨rfl, hb7⟩; have HB7 := Lib.hid (HB6.out.keep hb7); have HJ7 := Lib.hid (HJ6.out.next hb7); clear hb7 E q0 q1 HB6 HJ6; cases u
         ·have q0 := HB7.out.c0; have q1 := HB7.out.c1; have HP2 := Lib.hid (HP.out.yes HR1.out HR2.out HX.out HY.out HH9.out (by rw [HCS.out]; exact of_decide_eq_false HU.out)); rw [HCS.out] at HP2; have hsz := HJ7.out.b.size; clear HP HU HH9 h9
          go_wp2_with (at_builtin; refine Spn.wpList_app _ rfl (.tmp 72) (.tmp 74) rfl w2.heap.size A m c zs rfl (Spn.Own.below HJ7.out.o (alloc_ _ _)) (w7.heap.size + 1) (some ⟨w7.heap.size, 0, none⟩) 1 1 [(cs.1, cs.2)] rfl (by have := Spn.spans_new1 w7 cs.1 cs.2; rwa [World.size_alloc] at this) (fun h => by cases h) (by omega) (by simp; omega) ?_; intro A8 c8 w8 hO8 hg8; have HJ8 := Lib.hid (show MJ w2 w8 A8 (m + 1) c8 (zs ++ [cs]) from ⟨HJ7.out.b.trans (((Below.refl _ w7).alloc hsz _).grown hg8 (by simp; omega) fun j hj => (Spn.Own.lt HJ7.out.o j hj).1), hO8⟩); clear hO8 hg8)
          go_wp2; go_roundw
          case rel => exact ⟨k + 1, A8, m + 1, c8, zs ++ [cs], w8, by omega, rfl, by go_num, rfl, by omega, HJ8, HP2⟩
          case measure => simp [intOf]; omega
         ·have HP2 := Lib.hid (HP.out.no HR1.out HR2.out HX.out HY.out (by rintro ⟨_, h2⟩; rw [HCS.out] at h2; exact h2 (of_decide_eq_true HU.out))); clear HP HU HH9 h9; go_wp2; go_roundw
          case rel => exact ⟨k + 1, A, m, c, zs, w7, by omega, rfl, by go_num, rfl, by omega, HJ7, HP2⟩
          case measure => simp [intOf]; omega
        ·have t9 : decide (0 < y9) = false := decide_eq_false h9; have HP2 := Lib.hid (HP.out.no HR1.out HR2.out HX.out HY.out (by rintro ⟨h1, _⟩; rw [HCS.out] at h1; unfold Sp.has at h1; rw [HY9.out] at h1; exact h9 (of_decide_eq_true h1))); clear HP h9; go_wp2; go_roundw
         case rel => exact ⟨k + 1, A, m, c, zs, w6, by omega, rfl, by go_num, rfl, by omega, HJ6, HP2⟩
         case measure => simp [intOf]; omega
      ·obtain rfl : k = n2 := by omega
       have HP2 := Lib.hid (show Prs (rs1.map Rw.v) (rs2.map Rw.v) (i + 1) 0 zs from by
        have h1 := HP.out; rw [← HL9.out.2] at h1; exact h1.line)
       clear HP hlt3; go_wp2; go_roundw
       case rel => exact ⟨i + 1, A, m, c, zs, V, by omega, rfl, by go_num, rfl, by omega, HJ, HP2⟩
       case measure => simp [intOf]; omega
    ·obtain rfl : i = n1 := by omega
     have HALL := Lib.hid (show ∀ d, hit zs d ↔ lk (rs1.map Rw.v) d ≠ lk (rs2.map Rw.v) d from fun d => by
      have h1 := HP.out; rw [← HL9.out.1] at h1; exact h1.all HR1.out HR2.out d)
     have E := Lib.hid (Spn.rjoin A m c zs V (Spn.Own.spans HJ.out.o).1 (by omega)); clear HP hlt
     go_wp2_with fail
     refine E.out.mono ?_; rintro e w9 ⟨zt, hj, _, A9, n9, c9, rfl, hs9, _, hb9⟩; have H9 := Lib.hid (And.intro hs9 (And.intro (show MvIs h.v (vs.map Trf.Rw.v) a b 0 zt from .told _ _ HI1.out HI2.out rfl hj.apart fun d => (hj.same d).trans (HALL.out d)) (H2.out.b.trans ((HJ.out.b.trans (hb9.mono HJ.out.b.size)).mono H2.out.b.size)))); clear hj hs9 hb9 E HALL HJ; go_wp2; go_ret2; exact ⟨A9, n9, c9, zt, 0, rfl, H9.out.1, H9.out.2.1, H9.out.2.2⟩
  ·have t0 : decide (cd2 = 0) = false := decide_eq_false h0; have HNE := Lib.hid h0; go_wp2; go_ret2; exact ⟨none, 0, 0, [], cd2, rfl, Spn.Spans.nil, .second _ _ HI1.out HI2.out HNE.out rfl, H2.out.b⟩
 ·have t0 : decide (cd1 = 0) = false := decide_eq_false h0; have HNE := Lib.hid h0; go_wp2; go_ret2; exact ⟨none, 0, 0, [], cd1, rfl, Spn.Spans.nil, .first _ HI1.out HNE.out rfl, H1.out.b⟩
end Slc
end Go.Proofs.YtbjnjeidgdmdiaaGreat
