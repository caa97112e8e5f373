/-
  Rows of ints that are sorted in place. Conditions: those of each theorem.
-/
import Derived.Test.YtplenoaajokpjaaGreatMTm
import Derived.Test.YtplenoaajokpjaaGreatMMath
import Derived.BigRegion
import Derived.Maps.AppendAt
namespace Go.Proofs.YtplenoaajokpjaaGreat
open Go.RowKit Ba Cv Sp Te
namespace Tm
set_option linter.unusedVariables false
structure At (w0 : World) (ad : Addr) (xs : List Int) (W : World) : Prop where
 g : w0.grownBy W (some ad.block)
 c : ∀ (j : Nat) (x : Int), xs[j]? = some x → W.cell? (ad.add j) = some (.int .i64 x)
 f : ∀ j, j < xs.length → W.frozen? (ad.add j) = false
 lt : ad.block < w0.heap.size
section
variable {w0 W W' : World} {ad : Addr} {xs : List Int}
theorem add_ne (ad : Addr) {i j : Nat} (h : i ≠ j) : ad.add i ≠ ad.add j := by
 unfold Addr.add; by_cases hi : i = 0 <;> by_cases hj : j = 0
 ·omega
 ·intro e; rw [if_pos hi, if_neg hj] at e; have := congrArg Addr.off e; simp at this; omega
 ·intro e; rw [if_neg hi, if_pos hj] at e; have := congrArg Addr.off e; simp at this; omega
 ·intro e; rw [if_neg hi, if_neg hj] at e; have := congrArg Addr.off e; simp at this; omega
theorem At.put (h : At w0 ad xs W) (j : Nat) (y : Int) (hj : j < xs.length) : At w0 ad (xs.set j y) (W.setCell (ad.add j) (.int .i64 y)) := by
 have hb : Below ad.block W (W.setCell (ad.add j) (.int .i64 y)) := (Below.refl _ _).setCell (p := ad.add j) (by rw [add_block]; exact Nat.le_refl _) _; refine ⟨⟨hb.os.trans h.g.os, hb.tape.trans h.g.tape, hb.output.trans h.g.output, Nat.le_trans h.g.size hb.size, fun k hk hne => ?_⟩, fun i x hi => ?_, fun i hi => ?_, h.lt⟩
 ·refine (Below.heap_setCell W (ad.add j) (.int .i64 y) k (fun e => hne ?_)).trans (h.g.block k hk hne); rw [e, add_block]
 ·by_cases hij : i = j
  ·subst hij; rw [List.getElem?_set_self hj] at hi; injection hi with hi
   subst hi; exact World.cell?_setCell_same _ _ _ (h.c i xs[i] (List.getElem?_eq_getElem hj))
  ·rw [List.getElem?_set_ne (Ne.symm hij)] at hi; rw [World.cell?_setCell_other _ _ _ _ (add_ne ad (Ne.symm hij))]; exact h.c i x hi
 ·rw [World.frozen?_setCell]; exact h.f i (by simpa using hi)
theorem At.next (h : At w0 ad xs W) (hb : Below W.heap.size W W') : At w0 ad xs W' := by
 have hl := Nat.lt_of_lt_of_le h.lt h.g.size; refine ⟨⟨hb.os.trans h.g.os, hb.tape.trans h.g.tape, hb.output.trans h.g.output, Nat.le_trans h.g.size hb.size, fun k hk hne => (hb.block k (Nat.lt_of_lt_of_le hk h.g.size)).trans (h.g.block k hk hne)⟩, fun j x hj => (hb.cell (by rw [add_block]; exact hl)).trans (h.c j x hj), fun j hj => (hb.frozen (by rw [add_block]; exact hl)).trans (h.f j hj), h.lt⟩
theorem At.drew (h : At w0 ad xs W) (n : Nat) : At w0 ad xs (W.drewN n) := h.next ⟨rfl, rfl, rfl, Nat.le_refl _, fun _ _ => rfl⟩
theorem At.swap (h : At w0 ad xs W) {i j : Nat} {x y : Int} (hi : xs[i]? = some x) (hj : xs[j]? = some y) : At w0 ad ((xs.set i y).set j x) ((W.setCell (ad.add i) (.int .i64 y)).setCell (ad.add j) (.int .i64 x)) :=
 (h.put i y (List.getElem?_eq_some_iff.1 hi).1).put j x (by have := (List.getElem?_eq_some_iff.1 hj).1; simpa using this)
end
def To (w0 : World) (ad : Addr) (xs : List Int) (e : Ending) (w' : World) : Prop := e = .returned (.tuple #[]) ∧ At w0 ad xs w'
set_option maxRecDepth 100000 in
set_option maxHeartbeats 2000000 in
theorem swapRange (w0 : World) (ad : Addr) (n c : Nat) (p A M B q : List Int) (m a b : Nat) (V : Value) (w : World) (h : At w0 ad (p ++ A ++ M ++ B ++ q) w) (h1 : A.length = m) (h2 : B.length = m) (ha : p.length = a) (hb : p.length + m + M.length = b)
  (hn : (p ++ A ++ M ++ B ++ q).length = n) (hm : n ≤ 4000000) :
  Calls Tryz.prog 157 #[.slice (some ad) n c, .int .i64 (a : Int), .int .i64 (b : Int), .int .i64 (m : Int), V] w (To w0 ad (p ++ B ++ M ++ A ++ q)) := by
 have hl : p.length + m + M.length + m + q.length = n := by rw [← hn]; simp; omega
 have HL := Lib.hid hl; have HA := Lib.hid (And.intro h1 (And.intro h2 (And.intro ha hb))); have H0 := Lib.hid (show At w0 ad (St.half p A M B q 0) w by rw [St.half_zero]; exact h); clear h h1 h2 hn hl ha hb; go_enter Tryz.func157, Tryz.ntmps157; go_wp2
 go_loopw [10] (fun i w' => ∃ (k : Nat) (W : World), k ≤ m ∧ i = .int .i64 (k : Int) ∧ W = w' ∧ Hid (At w0 ad (St.half p A M B q k) W)) (fun i _ => m - (intOf i).toNat)
 case atStart => exact ⟨0, w, Nat.zero_le _, rfl, rfl, H0⟩
 case round =>
  obtain ⟨k, W, hk, rfl, rfl, H⟩ := hrel; clear H0; by_cases hlt : k < m
  ·obtain ⟨x, y, hx, hy, hs⟩ := St.half_next (p := p) (q := q) HA.out.1 HA.out.2.1 hlt HA.out.2.2.1 HA.out.2.2.2; obtain ⟨i, hi⟩ : ∃ i, a + k = i := ⟨_, rfl⟩; obtain ⟨j, hj⟩ : ∃ j, b + k = j := ⟨_, rfl⟩; rw [hi] at hx hs; rw [hj] at hy hs; have hin : i < n := by have := HA.out; have := HL.out; omega
   have hjn : j < n := by have := HA.out; have := HL.out; omega
   have e1 : (a : Int) + (k : Int) = (i : Int) := by omega
   have e2 : (b : Int) + (k : Int) = (j : Int) := by omega
   have c1 := H.out.c i x hx; have c2 := H.out.c j y hy; have f1 := H.out.f i (List.getElem?_eq_some_iff.1 hx).1; have f2 := H.out.f j (List.getElem?_eq_some_iff.1 hy).1; have c3 : (W.setCell (ad.add i) (.int .i64 y)).cell? (ad.add j) = some (.int .i64 y) := by rw [World.cell?_setCell_other _ _ _ _ (add_ne ad (by have := HA.out; omega))]; exact c2
   have b1 : (i : Int) < (n : Int) := by omega
   have b2 : (j : Int) < (n : Int) := by omega
   have hlt2 : (k : Int) < (m : Int) := by omega
   have HS := Lib.hid (show At w0 ad (St.half p A M B q (k + 1)) _ from hs ▸ H.out.swap hx hy); have HK := Lib.hid hlt; clear hx hy hs hi hj hlt; go_wp2
   go_region
   go_wp2; go_roundw
   case rel => exact ⟨k + 1, _, by have := HK.out; omega, by go_num, rfl, Lib.hid (HS.out.drew _)⟩
   case measure => have := HK.out; simp [intOf]; omega
  ·obtain rfl : k = m := by omega
   have HF := Lib.hid (show At w0 ad (p ++ B ++ M ++ A ++ q) W by have := H.out; rwa [St.half_all HA.out.1 HA.out.2.1] at this); go_wp2
   go_end0
   exact ⟨rfl, HF.out⟩
set_option maxRecDepth 100000 in
set_option maxHeartbeats 4000000 in
theorem rotate (w0 : World) (ad : Addr) (n c : Nat) (X A B Y : List Int) (a m b : Nat) (V : Value) (w : World) (h : At w0 ad (X ++ A ++ B ++ Y) w) (hA : 0 < A.length) (hB : 0 < B.length) (ha : X.length = a) (hm : X.length + A.length = m) (hb : X.length + A.length + B.length = b)
  (hn : (X ++ A ++ B ++ Y).length = n) (hn2 : n ≤ 4000000) :
  Calls Tryz.prog 149 #[.slice (some ad) n c, .int .i64 (a : Int), .int .i64 (m : Int), .int .i64 (b : Int), V] w (To w0 ad (X ++ B ++ A ++ Y)) := by
 obtain ⟨R, hR⟩ : ∃ R, X ++ B ++ A ++ Y = R := ⟨_, rfl⟩; rw [hR]; obtain ⟨i, hi⟩ : ∃ i, A.length = i := ⟨_, rfl⟩; obtain ⟨j, hj⟩ : ∃ j, B.length = j := ⟨_, rfl⟩; have e1 : (m : Int) - (a : Int) = (i : Int) := by omega
 have e2 : (b : Int) - (m : Int) = (j : Int) := by omega
 have hin : i ≤ 4000000 := by rw [← hn] at hn2; simp at hn2; omega
 have hjn : j ≤ 4000000 := by rw [← hn] at hn2; simp at hn2; omega
 have hmn : m ≤ 4000000 := by rw [← hn] at hn2; simp at hn2; omega
 have han : a ≤ 4000000 := by omega
 have hbn : b ≤ 4000000 := by rw [← hn] at hn2; simp at hn2; omega
 have H0 := Lib.hid (show At w0 ad (X ++ A ++ B ++ Y) w ∧ X ++ B ++ A ++ Y = R ∧ A.length = i ∧ B.length = j ∧ 0 < i ∧ 0 < j ∧ X.length + i = m ∧ i + j ≤ 8000000 ∧ (X ++ A ++ B ++ Y).length = n from ⟨h, hR, hi, hj, by omega, by omega, by omega, by omega, hn⟩); clear h hA hB ha hm hb hn hR hi hj; go_enter Tryz.func149, Tryz.ntmps149; go_wp2
 go_loopw [10, 11] (fun vi vj w' => ∃ (i j : Nat) (X A B Y : List Int) (W : World), vi = .int .i64 (i : Int) ∧ vj = .int .i64 (j : Int) ∧ W = w' ∧ Hid (At w0 ad (X ++ A ++ B ++ Y) W ∧ X ++ B ++ A ++ Y = R ∧ A.length = i ∧ B.length = j ∧ 0 < i ∧ 0 < j ∧ X.length + i = m ∧ i + j ≤ 8000000 ∧ (X ++ A ++ B ++ Y).length = n)) (fun vi vj _ => (intOf vi).toNat + (intOf vj).toNat)
 case atStart => exact ⟨i, j, X, A, B, Y, w, rfl, rfl, rfl, H0⟩
 case round =>
  clear e1 e2 hin hjn H0; obtain ⟨i, j, X, A, B, Y, W, rfl, rfl, rfl, H⟩ := hrel; obtain ⟨h1, h2, h3, h4, h5, h6, h7, h8, h9⟩ := H.out; obtain ⟨u, hu⟩ : ∃ u, X.length = u := ⟨_, rfl⟩; have e1 : (m : Int) - (i : Int) = (u : Int) := by omega
  have hun : u ≤ 4000000 := by omega
  by_cases hij : i = j
  ·subst hij; have HS := Lib.hid (swapRange w0 ad n c X A [] B Y i u m V W (by simpa using h1) h3 h4 hu (by simp; omega) (by simpa using h9) hn2); have HR := Lib.hid (show X ++ B ++ [] ++ A ++ Y = R by simpa using h2); clear h1 h2 h3 h4 h7 h9 hu H
   go_wp2_with fail
   refine HS.out.mono ?_; rintro e w1 ⟨rfl, hAt⟩; rw [HR.out] at hAt; have HA := Lib.hid hAt; clear hAt HS; go_wp2
   go_end0
   exact ⟨rfl, HA.out⟩
  ·have t1 : ((i : Int) == (j : Int)) = false := by rw [beq_eq_false_iff_ne]; omega
   by_cases hlt : j < i
   ·obtain ⟨d, hd⟩ : ∃ d, i - j = d := ⟨_, rfl⟩; have e2 : (i : Int) - (j : Int) = (d : Int) := by omega
    have hlt2 : (j : Int) < (i : Int) := by omega
    have t2 : decide ((j : Int) < (i : Int)) = true := decide_eq_true hlt2; have hAe : A.take j ++ A.drop j = A := List.take_append_drop j A; have HS := Lib.hid (swapRange w0 ad n c X (A.take j) (A.drop j) B Y j u m V W (by simpa [List.append_assoc, ← List.append_assoc (A.take j)] using h1) (by simp; omega) h4 hu (by simp; omega) (by simpa [List.append_assoc, ← List.append_assoc (A.take j)] using h9) hn2); have HN := Lib.hid (show (X ++ B) ++ A.take j ++ A.drop j ++ Y = R by rw [← h2]; simp [List.append_assoc, ← List.append_assoc (A.take j)]); have HL := Lib.hid (show (A.drop j).length = d ∧ (A.take j).length = j ∧ (X ++ B).length + d = m by simp; omega); have HD := Lib.hid hd; clear h1 h2 h3 h4 h7 hu H hd
    go_wp2_with fail
    refine HS.out.mono ?_; rintro e w1 ⟨rfl, hAt⟩; have HA := Lib.hid (show At w0 ad ((X ++ B) ++ A.drop j ++ A.take j ++ Y) w1 by simpa using hAt); clear hAt HS; go_wp2; go_roundw
    case rel => exact ⟨d, j, X ++ B, A.drop j, A.take j, Y, w1, rfl, rfl, rfl, Lib.hid ⟨HA.out, HN.out, HL.out.1, HL.out.2.1, by have := HD.out; omega, h6, HL.out.2.2, by have := HD.out; omega, by rw [← h9]; simp; omega⟩⟩
    case measure => have := HD.out; simp [intOf]; omega
   ·obtain ⟨d, hd⟩ : ∃ d, j - i = d := ⟨_, rfl⟩; obtain ⟨s, hs⟩ : ∃ s, m + j = s := ⟨_, rfl⟩; obtain ⟨t, ht⟩ : ∃ t, s - i = t := ⟨_, rfl⟩; have e2 : (j : Int) - (i : Int) = (d : Int) := by omega
    have e3 : (m : Int) + (j : Int) = (s : Int) := by omega
    have e4 : (s : Int) - (i : Int) = (t : Int) := by omega
    have t2 : decide ((j : Int) < (i : Int)) = false := decide_eq_false (by omega); have hBe : B.take d ++ B.drop d = B := List.take_append_drop d B; have HS := Lib.hid (swapRange w0 ad n c X A (B.take d) (B.drop d) Y i u t V W (by simpa [List.append_assoc, ← List.append_assoc (B.take d)] using h1) h3 (by simp; omega) hu (by simp; omega) (by simpa [List.append_assoc, ← List.append_assoc (B.take d)] using h9) hn2); have HN := Lib.hid (show X ++ B.take d ++ B.drop d ++ (A ++ Y) = R by rw [← h2]; simp [List.append_assoc, ← List.append_assoc (B.take d)]); have HL := Lib.hid (show (B.drop d).length = i ∧ (B.take d).length = d by simp; omega); have HD := Lib.hid (show d + i = j by omega); have h10 : s ≤ 20000000 := by omega
    have h11 : t ≤ 20000000 := by omega
    have HX := Lib.hid h7; clear h1 h2 h3 h4 h7 hu H hd hs ht
    go_wp2_with fail
    refine HS.out.mono ?_; rintro e w1 ⟨rfl, hAt⟩; have HA := Lib.hid (show At w0 ad (X ++ B.drop d ++ B.take d ++ (A ++ Y)) w1 by simpa using hAt); clear hAt HS; go_wp2; go_roundw
    case rel => exact ⟨i, d, X, B.drop d, B.take d, A ++ Y, w1, rfl, rfl, rfl, Lib.hid ⟨HA.out, HN.out, HL.out.1, HL.out.2, h5, by have := HD.out; omega, HX.out, by have := HD.out; omega, by rw [← h9]; have := HL.out; simp at this ⊢; omega⟩⟩
    case measure => have := HD.out; simp [intOf]; omega
end Tm
end Go.Proofs.YtplenoaajokpjaaGreat
namespace Go.Proofs.YtplenoaajokpjaaGreat
open Go.RowKit Ba Cv Sp Te
namespace Tm
set_option linter.unusedVariables false
def Clo (w0 : World) (ad : Addr) (key : Int → Int) (V : Int → Prop) (pt : Value) : Prop := ∀ (W : World) (x y : Int), w0.grownBy W (some ad.block) → V x → V y →
 Calls Tryz.prog 93 #[.int .i64 x, .int .i64 y, pt] W fun e w' => e = .returned (.int .i64 (St.cf (key x) (key y))) ∧ Below W.heap.size W w'
def Puts (w0 : World) (ad : Addr) (key : Int → Int) (P D Q : List Int) (e : Ending) (w' : World) : Prop := e = .returned (.tuple #[]) ∧ ∃ S, St.Good key S D ∧ At w0 ad (P ++ S ++ Q) w'
abbrev clv (pt : Value) : Value := .func (.func 93) #[] #[pt]
structure In1 (w0 : World) (ad : Addr) (key : Int → Int) (P T : List Int) (x : Int) (R : List Int) (a j : Nat) (T1 T2 : List Int) (W : World) : Prop where
 at_ : At w0 ad (P ++ T1 ++ x :: (T2 ++ R)) W
 e : T1 ++ T2 = T
 o : ∀ y ∈ T2, St.lt key x y
 j : a + T1.length = j
structure Out1 (w0 : World) (ad : Addr) (key : Int → Int) (P D Q : List Int) (k : Nat) (T : List Int) (W : World) : Prop where
 at_ : At w0 ad (P ++ T ++ (D.drop k ++ Q)) W
 g : St.Good key T (D.take k)
theorem Out1.last {w0 W : World} {ad : Addr} {key : Int → Int} {P D Q T : List Int} {k : Nat} (h : Out1 w0 ad key P D Q k T W) (hk : D.length ≤ k) : ∃ S, St.Good key S D ∧ At w0 ad (P ++ S ++ Q) W := by
 refine ⟨T, ?_, ?_⟩
 ·have := h.g; rwa [List.take_of_length_le hk] at this
 ·have := h.at_; rwa [List.drop_of_length_le hk, List.nil_append] at this
theorem Out1.next {w0 W : World} {ad : Addr} {key : Int → Int} {P D Q T T1 T2 : List Int} {k a j : Nat} {x : Int} (g : St.Good key T (D.take k)) (hx : D[k]? = some x) (h : In1 w0 ad key P T x (D.drop (k + 1) ++ Q) a j T1 T2 W) (hy : ∀ y ∈ T1, St.lt key y x) : ∃ T', Out1 w0 ad key P D Q (k + 1) T' W := by
 obtain ⟨hk, e⟩ := List.getElem?_eq_some_iff.1 hx; refine ⟨T1 ++ x :: T2, ⟨?_, ?_⟩⟩
 ·have := h.at_; simpa using this
 ·have e1 : D.take (k + 1) = D.take k ++ [x] := by rw [← List.take_concat_get hk, e]; simp
  rw [e1]; have hg := g; rw [← h.e] at hg; exact St.ins_end hg.2 hg.1 h.o hy
set_option maxRecDepth 100000 in
set_option maxHeartbeats 4000000 in
theorem insertion (w0 : World) (ad : Addr) (n c : Nat) (key : Int → Int) (V : Int → Prop) (pt : Value) (P D Q : List Int) (a b : Nat) (w : World) (h : At w0 ad (P ++ D ++ Q) w) (ha : P.length = a) (hb : a + D.length = b) (hn : (P ++ D ++ Q).length = n) (hn2 : n ≤ 4000000)
  (hD : D.Pairwise (· < ·)) (hV : ∀ x ∈ D, V x) (CL : Clo w0 ad key V pt) :
  Calls Tryz.prog 132 #[.slice (some ad) n c, .int .i64 (a : Int), .int .i64 (b : Int), clv pt] w (Puts w0 ad key P D Q) := by
 have hl : a + D.length + Q.length = n := by rw [← hn, ← ha]; simp; omega
 have HL := Lib.hid (And.intro ha (And.intro hb hl)); have HD := Lib.hid hD; have HV := Lib.hid hV; have HC := Lib.hid CL; obtain ⟨i1, hi1⟩ : ∃ i1, a + 1 = i1 := ⟨_, rfl⟩; have e0 : (a : Int) + 1 = (i1 : Int) := by omega
 have han : a ≤ 4000000 := by omega
 have hbn : b ≤ 4000000 := by omega
 have H0 := Lib.hid (show Out1 w0 ad key P D Q 1 (D.take 1) w from ⟨by
   have e : P ++ D.take 1 ++ (D.drop 1 ++ Q) = P ++ D ++ Q := by rw [List.append_assoc, ← List.append_assoc (D.take 1), List.take_append_drop, List.append_assoc]
   rw [e]; exact h, ⟨List.Perm.refl _, by
   match D with
   | [] => simp
   | [x] => simp
   | x :: y :: l => simp⟩⟩)
 have HI := Lib.hid hi1; clear h ha hb hn hD hV CL hl hi1; go_enter Tryz.func132, Tryz.ntmps132; go_wp2
 go_loopw [8] (fun vi w' => ∃ (i k : Nat) (T : List Int) (W : World), a + k = i ∧ 1 ≤ k ∧ (k ≤ D.length ∨ k = 1) ∧ vi = .int .i64 (i : Int) ∧ W = w' ∧ Hid (Out1 w0 ad key P D Q k T W)) (fun vi _ => b - (intOf vi).toNat)
 case atStart => exact ⟨i1, 1, D.take 1, w, HI.out, by omega, .inr rfl, rfl, rfl, H0⟩
 case round =>
  clear e0 H0; obtain ⟨i, k, T, W, hi, hk1, hk2, rfl, rfl, H⟩ := hrel; by_cases hlt : i < b
  ·have hkD : k < D.length := by have := HL.out.2.1; omega
   obtain ⟨x, hx⟩ : ∃ x, D[k]? = some x := ⟨_, List.getElem?_eq_getElem hkD⟩; have hlt2 : (i : Int) < (b : Int) := by omega
   have HX := Lib.hid hx
   have H1 := Lib.hid (show In1 w0 ad key P T x (D.drop (k + 1) ++ Q) a i T [] W from ⟨by
    have := H.out.at_; rw [List.drop_eq_getElem_cons hkD, (List.getElem?_eq_some_iff.1 hx).2] at this; simpa using this, by simp, (by intro y hy; cases hy), by rw [H.out.g.len, List.length_take, Nat.min_eq_left (by omega)]; exact hi⟩)
   have HLT := Lib.hid (show ∀ u ∈ T, u < x by
    intro u hu; have hm := H.out.g.mem hu; obtain ⟨j, hj⟩ := List.mem_iff_getElem?.1 hm; by_cases hjk : j < k
    ·rw [List.getElem?_take_of_lt hjk] at hj; obtain ⟨h1, e1⟩ := List.getElem?_eq_some_iff.1 hj; obtain ⟨h2, e2⟩ := List.getElem?_eq_some_iff.1 hx; have := List.pairwise_iff_getElem.1 HD.out j k h1 h2 hjk; rwa [e1, e2] at this
    ·rw [List.getElem?_take, if_neg hjk] at hj; cases hj)
   have HVT := Lib.hid (show (∀ u ∈ T, V u) ∧ V x from ⟨fun u hu => HV.out u (List.mem_of_mem_take (H.out.g.mem hu)), HV.out x (List.mem_of_getElem? hx)⟩); have HG := Lib.hid H.out.g; have HK := Lib.hid (And.intro hi (And.intro hkD hlt)); clear hx hi hk1 hk2 hlt hkD H; go_wp2
   go_loopw [9] (fun vj w' => ∃ (j : Nat) (T1 T2 : List Int) (W : World), vj = .int .i64 (j : Int) ∧ W = w' ∧ Hid (In1 w0 ad key P T x (D.drop (k + 1) ++ Q) a j T1 T2 W)) (fun vj _ => (intOf vj).toNat)
   case atStart => exact ⟨i, T, [], W, rfl, rfl, H1⟩
   case round =>
    clear H1; obtain ⟨j, T1, T2, W, rfl, rfl, H⟩ := hrel; rcases List.eq_nil_or_concat T1 with rfl | ⟨T0, u, hT⟩
    ·have hj : j = a := by have := H.out.j; simp at this; omega
     subst hj; have hq : (j : Int) < (j : Int) ↔ False := by simp
     have t1 : decide ((j : Int) < (j : Int)) = false := by simp
     obtain ⟨T', hT'⟩ := Out1.next HG.out HX.out H.out (by intro y hy; cases hy); have HT := Lib.hid hT'; clear hT' H; go_wp2; have ne : Nonempty (Ext W) := ⟨⟨W, Below.refl _ _⟩⟩; refine quietE (by kernel_rfl) (by kernel_rfl) ?_
     repeat (first | go_big_quiet_skip | quiet_step (fail))
     refine wpQuiet_nil ?_; rintro _ ⟨p, rfl⟩; have HT2 := Lib.hid (show Out1 w0 ad key P D Q (k + 1) T' p.W from ⟨HT.out.at_.next p.b, HT.out.g⟩); generalize p.W = W1 at HT2 ⊢; clear HT ne; go_wp2; go_roundw
     case rel => exact ⟨i + 1, k + 1, T', W1, by have := HK.out; omega, by omega, .inl (by have := HK.out; omega), by go_num, rfl, HT2⟩
     case measure => have := HK.out; simp [intOf]; omega
    ·rw [List.concat_eq_append] at hT; subst hT; obtain ⟨j1, hj1⟩ : ∃ j1, a + T0.length = j1 := ⟨_, rfl⟩; have hj : j1 + 1 = j := by have := H.out.j; simp at this; omega
     have hxn : j < n := by
      have h1 := H.out.e; have h2 := HK.out; have h3 := HL.out; have h4 := H.out.j; have h5 := congrArg List.length h1; have h6 := HG.out.len; rw [List.length_take, Nat.min_eq_left (by omega)] at h6; rw [List.length_append] at h5; omega
     have er : P ++ (T0 ++ [u]) ++ x :: (T2 ++ (D.drop (k + 1) ++ Q)) = (P ++ T0) ++ u :: ([] ++ x :: (T2 ++ (D.drop (k + 1) ++ Q))) := by simp
     obtain ⟨g1, g2, _, g4⟩ := St.swap_at (p := P ++ T0) (m := []) (q := T2 ++ (D.drop (k + 1) ++ Q)) (x := u) (y := x) (i := j1) (j := j) (by simp; have := HL.out; omega) (by simp; have := HL.out; omega); have hA := H.out.at_; rw [er] at hA; have huT : u ∈ T := by rw [← H.out.e]; simp
     have hux := HLT.out u huT; have hVu := HVT.out.1 u huT; have hVx := HVT.out.2; obtain ⟨q, hq⟩ : ∃ q, St.cf (key x) (key u) = q := ⟨_, rfl⟩; have hqk : decide (q < 0) = decide (key x < key u) := by rw [← hq]; exact St.cf_neg _ _
     have CQ : ∀ p : Ext W, Hid (Calls Tryz.prog 93 #[.int .i64 x, .int .i64 u, pt] p.W fun e w' => e = .returned (.int .i64 q) ∧ Below p.W.heap.size p.W w') := fun p => Lib.hid (by rw [← hq]; exact HC.out p.W x u (hA.next p.b).g hVx hVu)
     have c1 : ∀ p : Ext W, p.W.cell? (ad.add j1) = some (.int .i64 u) := fun p => (hA.next p.b).c j1 u g1
     have c2 : ∀ p : Ext W, p.W.cell? (ad.add j) = some (.int .i64 x) := fun p => (hA.next p.b).c j x g2
     have t0 : decide ((a : Int) < (j : Int)) = true := decide_eq_true (by have := H.out.j; simp at this; omega); have t0n : decide (a < j) = true := decide_eq_true (by have := H.out.j; simp at this; omega); obtain ⟨v, hv⟩ : ∃ v : Int, (j : Int) - 1 = v := ⟨_, rfl⟩; have v1 : IntKind.i64.wrap v = v := (IntWalk.i64_left _).trans (IntWalk.wrap64_in _ ⟨by omega, by omega⟩); have v2 : 0 ≤ v := by omega
     have v3 : v < (n : Int) := by omega
     have v4 : v.toNat = j1 := by omega
     have b1 : (j : Int) < (n : Int) := by omega
     have b2 : (j1 : Int) < (n : Int) := by omega
     have HS := Lib.hid g4; have HA := Lib.hid hA; have HJ := Lib.hid (And.intro hj hj1); have HE := Lib.hid (And.intro H.out.e H.out.o); have HQ := Lib.hid hqk; have HG1 := Lib.hid (And.intro (List.getElem?_eq_some_iff.1 g1).1 (List.getElem?_eq_some_iff.1 g2).1); have HG2 := Lib.hid (And.intro g1 g2); have HU := Lib.hid hux; have HIN := Lib.hid H.out; clear hj hj1 hxn er g1 g2 g4 hA huT hux hVu hVx hq hqk H; have ne : Nonempty (Ext W) := ⟨⟨W, Below.refl _ _⟩⟩; go_wp2; refine quietE (by kernel_rfl) (by kernel_rfl) ?_
     repeat (first | go_big_quiet_skip | quiet_step (first
      | (go_at_call 93; with_reducible exact ext_of (CQ _).out)
      | fail))
     refine wpQuiet_nil ?_; rintro _ ⟨p, rfl⟩; have HA1 := Lib.hid (HA.out.next p.b); have HIN1 := Lib.hid (show In1 w0 ad key P T x (D.drop (k + 1) ++ Q) a j (T0 ++ [u]) T2 p.W from ⟨HIN.out.at_.next p.b, HIN.out.e, HIN.out.o, HIN.out.j⟩); generalize p.W = W1 at HA1 HIN1 ⊢; clear CQ c1 c2 ne HA HIN v1 v2 v3 v4 hv; have e1 : (j : Int) - 1 = (j1 : Int) := by have := HJ.out; omega
     by_cases hk : key x < key u
     ·have t1 : decide (q < 0) = true := HQ.out.trans (decide_eq_true hk); have c1 := HA1.out.c j1 u HG2.out.1; have c2 := HA1.out.c j x HG2.out.2; have f1 := HA1.out.f j1 HG1.out.1; have f2 := HA1.out.f j HG1.out.2; have c3 : (W1.setCell (ad.add j) (.int .i64 u)).cell? (ad.add j1) = some (.int .i64 u) := by rw [World.cell?_setCell_other _ _ _ _ (add_ne ad (by have := HJ.out; omega))]; exact c1
      have HN := Lib.hid (show In1 w0 ad key P T x (D.drop (k + 1) ++ Q) a j1 T0 (u :: T2) ((W1.setCell (ad.add j) (.int .i64 u)).setCell (ad.add j1) (.int .i64 x)) from ⟨by
       have := HA1.out.swap HG2.out.2 HG2.out.1; rw [HS.out] at this; simpa using this, by have := HE.out.1; simpa using this, (by
       intro y hy; rcases List.mem_cons.1 hy with rfl | hy
       ·exact .inl hk
       ·exact HE.out.2 y hy), HJ.out.2⟩)
      clear hk; rw [t1]; go_wp2
      go_region
      go_wp2; go_roundw
      case rel => exact ⟨j1, T0, u :: T2, _, rfl, rfl, Lib.hid ⟨HN.out.at_.drew _, HN.out.e, HN.out.o, HN.out.j⟩⟩
      case measure => have := HJ.out; simp [intOf]; omega
     ·have t1 : decide (q < 0) = false := HQ.out.trans (decide_eq_false hk); rw [t1]; obtain ⟨T', hT'⟩ := Out1.next HG.out HX.out HIN1.out (St.ins_all (by have := HG.out.2; rw [← HE.out.1, List.append_assoc] at this; exact this) ((St.lt_nkey HU.out).2 hk)); have HT := Lib.hid hT'; clear hT' hk; go_wp2; go_roundw
      case rel => exact ⟨i + 1, k + 1, T', W1, by have := HK.out; omega, by omega, .inl (by have := HK.out; omega), by go_num, rfl, HT⟩
      case measure => have := HK.out; simp [intOf]; omega
  ·have HF := Lib.hid (H.out.last (by have := HL.out; omega)); have hge : ¬ (i : Int) < (b : Int) := by omega
   clear hlt; go_wp2
   go_end0
   exact ⟨rfl, HF.out⟩
end Tm
end Go.Proofs.YtplenoaajokpjaaGreat
