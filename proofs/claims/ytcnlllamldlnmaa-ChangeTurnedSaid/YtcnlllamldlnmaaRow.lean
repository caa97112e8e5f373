/-
  A row of places in memory that is put in order in its place; swapRangeCmpFunc, rotateCmpFunc of package slices. Conditions: those of each theorem.
-/
import Derived.Test.YtcnlllamldlnmaaBase
import Derived.Test.YtcnlllamldlnmaaSt
import Derived.BigRegion
import Derived.Maps.AppendAt
namespace Go.Proofs.Ytcnlllamldlnmaa
open Go.RowKit Ba Cv Sp Te
namespace Tm
set_option linter.unusedVariables false

/-- A world that is as it was but for one row, which lies as these. -/
structure At (w0 : World) (ad : Addr) (xs : List Int) (W : World) : Prop where
  g : w0.grownBy W (some ad.block)
  c : ∀ (j : Nat) (x : Int), xs[j]? = some x → W.cell? (ad.add j) = some (.int .i64 x)
  f : ∀ j, j < xs.length → W.frozen? (ad.add j) = false
  lt : ad.block < w0.heap.size
section
variable {w0 W W' : World} {ad : Addr} {xs : List Int}
theorem add_ne (ad : Addr) {i j : Nat} (h : i ≠ j) : ad.add i ≠ ad.add j := by
  unfold Addr.add
  by_cases hi : i = 0 <;> by_cases hj : j = 0
  · omega
  · intro e; rw [if_pos hi, if_neg hj] at e; have := congrArg Addr.off e; simp at this; omega
  · intro e; rw [if_neg hi, if_pos hj] at e; have := congrArg Addr.off e; simp at this; omega
  · intro e; rw [if_neg hi, if_neg hj] at e; have := congrArg Addr.off e; simp at this; omega
theorem At.put (h : At w0 ad xs W) (j : Nat) (y : Int) (hj : j < xs.length) : At w0 ad (xs.set j y) (W.setCell (ad.add j) (.int .i64 y)) := by
  have hb : Below ad.block W (W.setCell (ad.add j) (.int .i64 y)) := (Below.refl _ _).setCell (p := ad.add j) (by rw [add_block]; exact Nat.le_refl _) _
  refine ⟨⟨hb.os.trans h.g.os, hb.tape.trans h.g.tape, hb.output.trans h.g.output, Nat.le_trans h.g.size hb.size, fun k hk hne => ?_⟩, fun i x hi => ?_, fun i hi => ?_, h.lt⟩
  · refine (Below.heap_setCell W (ad.add j) (.int .i64 y) k (fun e => hne ?_)).trans (h.g.block k hk hne)
    rw [e, add_block]
  · by_cases hij : i = j
    · subst hij
      rw [List.getElem?_set_self hj] at hi
      injection hi with hi
      subst hi
      exact World.cell?_setCell_same _ _ _ (h.c i xs[i] (List.getElem?_eq_getElem hj))
    · rw [List.getElem?_set_ne (Ne.symm hij)] at hi
      rw [World.cell?_setCell_other _ _ _ _ (add_ne ad (Ne.symm hij))]
      exact h.c i x hi
  · rw [World.frozen?_setCell]
    exact h.f i (by simpa using hi)
theorem At.next (h : At w0 ad xs W) (hb : Below W.heap.size W W') : At w0 ad xs W' := by
  have hl := Nat.lt_of_lt_of_le h.lt h.g.size
  refine ⟨⟨hb.os.trans h.g.os, hb.tape.trans h.g.tape, hb.output.trans h.g.output, Nat.le_trans h.g.size hb.size, fun k hk hne => (hb.block k (Nat.lt_of_lt_of_le hk h.g.size)).trans (h.g.block k hk hne)⟩, fun j x hj => (hb.cell (by rw [add_block]; exact hl)).trans (h.c j x hj), fun j hj => (hb.frozen (by rw [add_block]; exact hl)).trans (h.f j hj), h.lt⟩
theorem At.drew (h : At w0 ad xs W) (n : Nat) : At w0 ad xs (W.drewN n) := h.next ⟨rfl, rfl, rfl, Nat.le_refl _, fun _ _ => rfl⟩
theorem At.swap (h : At w0 ad xs W) {i j : Nat} {x y : Int} (hi : xs[i]? = some x) (hj : xs[j]? = some y) : At w0 ad ((xs.set i y).set j x) ((W.setCell (ad.add i) (.int .i64 y)).setCell (ad.add j) (.int .i64 x)) :=
  (h.put i y (List.getElem?_eq_some_iff.1 hi).1).put j x (by have := (List.getElem?_eq_some_iff.1 hj).1; simpa using this)
end
/-- What a step of the sort leaves. -/
def To (w0 : World) (ad : Addr) (xs : List Int) (e : Ending) (w' : World) : Prop := e = .returned (.tuple #[]) ∧ At w0 ad xs w'

set_option maxRecDepth 100000 in
set_option maxHeartbeats 2000000 in
theorem swapRange (w0 : World) (ad : Addr) (n c : Nat) (p A M B q : List Int) (m a b : Nat) (V : Value) (w : World) (h : At w0 ad (p ++ A ++ M ++ B ++ q) w) (h1 : A.length = m) (h2 : B.length = m) (ha : p.length = a) (hb : p.length + m + M.length = b)
    (hn : (p ++ A ++ M ++ B ++ q).length = n) (hm : n ≤ 4000000) :
    Calls Try.prog 76 #[.slice (some ad) n c, .int .i64 (a : Int), .int .i64 (b : Int), .int .i64 (m : Int), V] w (To w0 ad (p ++ B ++ M ++ A ++ q)) := by
  have hl : p.length + m + M.length + m + q.length = n := by rw [← hn]; simp; omega
  have HL := Lib.hid hl
  have HA := Lib.hid (And.intro h1 (And.intro h2 (And.intro ha hb)))
  have H0 := Lib.hid (show At w0 ad (St.half p A M B q 0) w by rw [St.half_zero]; exact h)
  clear h h1 h2 hn hl ha hb
  go_enter Try.func76, Try.ntmps76
  go_wp2
  go_loopw [10] (fun i w' => ∃ (k : Nat) (W : World), k ≤ m ∧ i = .int .i64 (k : Int) ∧ W = w' ∧ Hid (At w0 ad (St.half p A M B q k) W)) (fun i _ => m - (intOf i).toNat)
  case atStart => exact ⟨0, w, Nat.zero_le _, rfl, rfl, H0⟩
  case round =>
    obtain ⟨k, W, hk, rfl, rfl, H⟩ := hrel
    clear H0
    by_cases hlt : k < m
    · obtain ⟨x, y, hx, hy, hs⟩ := St.half_next (p := p) (q := q) HA.out.1 HA.out.2.1 hlt HA.out.2.2.1 HA.out.2.2.2
      obtain ⟨i, hi⟩ : ∃ i, a + k = i := ⟨_, rfl⟩
      obtain ⟨j, hj⟩ : ∃ j, b + k = j := ⟨_, rfl⟩
      rw [hi] at hx hs
      rw [hj] at hy hs
      have hin : i < n := by have := HA.out; have := HL.out; omega
      have hjn : j < n := by have := HA.out; have := HL.out; omega
      have e1 : (a : Int) + (k : Int) = (i : Int) := by omega
      have e2 : (b : Int) + (k : Int) = (j : Int) := by omega
      have c1 := H.out.c i x hx
      have c2 := H.out.c j y hy
      have f1 := H.out.f i (List.getElem?_eq_some_iff.1 hx).1
      have f2 := H.out.f j (List.getElem?_eq_some_iff.1 hy).1
      have c3 : (W.setCell (ad.add i) (.int .i64 y)).cell? (ad.add j) = some (.int .i64 y) := by rw [World.cell?_setCell_other _ _ _ _ (add_ne ad (by have := HA.out; omega))]; exact c2
      have b1 : (i : Int) < (n : Int) := by omega
      have b2 : (j : Int) < (n : Int) := by omega
      have hlt2 : (k : Int) < (m : Int) := by omega
      have HS := Lib.hid (show At w0 ad (St.half p A M B q (k + 1)) _ from hs ▸ H.out.swap hx hy)
      have HK := Lib.hid hlt
      clear hx hy hs hi hj hlt
      go_wp2
      go_region
      go_wp2
      go_roundw
      case rel => exact ⟨k + 1, _, by have := HK.out; omega, by go_num, rfl, Lib.hid (HS.out.drew _)⟩
      case measure => have := HK.out; simp [intOf]; omega
    · obtain rfl : k = m := by omega
      have HF := Lib.hid (show At w0 ad (p ++ B ++ M ++ A ++ q) W by have := H.out; rwa [St.half_all HA.out.1 HA.out.2.1] at this)
      go_wp2
      go_end0
      exact ⟨rfl, HF.out⟩

set_option maxRecDepth 100000 in
set_option maxHeartbeats 4000000 in
theorem rotate (w0 : World) (ad : Addr) (n c : Nat) (X A B Y : List Int) (a m b : Nat) (V : Value) (w : World) (h : At w0 ad (X ++ A ++ B ++ Y) w) (hA : 0 < A.length) (hB : 0 < B.length) (ha : X.length = a) (hm : X.length + A.length = m) (hb : X.length + A.length + B.length = b)
    (hn : (X ++ A ++ B ++ Y).length = n) (hn2 : n ≤ 4000000) :
    Calls Try.prog 75 #[.slice (some ad) n c, .int .i64 (a : Int), .int .i64 (m : Int), .int .i64 (b : Int), V] w (To w0 ad (X ++ B ++ A ++ Y)) := by
  obtain ⟨R, hR⟩ : ∃ R, X ++ B ++ A ++ Y = R := ⟨_, rfl⟩
  rw [hR]
  obtain ⟨i, hi⟩ : ∃ i, A.length = i := ⟨_, rfl⟩
  obtain ⟨j, hj⟩ : ∃ j, B.length = j := ⟨_, rfl⟩
  have e1 : (m : Int) - (a : Int) = (i : Int) := by omega
  have e2 : (b : Int) - (m : Int) = (j : Int) := by omega
  have hin : i ≤ 4000000 := by rw [← hn] at hn2; simp at hn2; omega
  have hjn : j ≤ 4000000 := by rw [← hn] at hn2; simp at hn2; omega
  have hmn : m ≤ 4000000 := by rw [← hn] at hn2; simp at hn2; omega
  have han : a ≤ 4000000 := by omega
  have hbn : b ≤ 4000000 := by rw [← hn] at hn2; simp at hn2; omega
  have H0 := Lib.hid (show At w0 ad (X ++ A ++ B ++ Y) w ∧ X ++ B ++ A ++ Y = R ∧ A.length = i ∧ B.length = j ∧ 0 < i ∧ 0 < j ∧ X.length + i = m ∧ i + j ≤ 8000000 ∧ (X ++ A ++ B ++ Y).length = n from ⟨h, hR, hi, hj, by omega, by omega, by omega, by omega, hn⟩)
  clear h hA hB ha hm hb hn hR hi hj
  go_enter Try.func75, Try.ntmps75
  go_wp2
  go_loopw [10, 11] (fun vi vj w' => ∃ (i j : Nat) (X A B Y : List Int) (W : World), vi = .int .i64 (i : Int) ∧ vj = .int .i64 (j : Int) ∧ W = w' ∧ Hid (At w0 ad (X ++ A ++ B ++ Y) W ∧ X ++ B ++ A ++ Y = R ∧ A.length = i ∧ B.length = j ∧ 0 < i ∧ 0 < j ∧ X.length + i = m ∧ i + j ≤ 8000000 ∧ (X ++ A ++ B ++ Y).length = n)) (fun vi vj _ => (intOf vi).toNat + (intOf vj).toNat)
  case atStart => exact ⟨i, j, X, A, B, Y, w, rfl, rfl, rfl, H0⟩
  case round =>
    clear e1 e2 hin hjn H0
    obtain ⟨i, j, X, A, B, Y, W, rfl, rfl, rfl, H⟩ := hrel
    obtain ⟨h1, h2, h3, h4, h5, h6, h7, h8, h9⟩ := H.out
    obtain ⟨u, hu⟩ : ∃ u, X.length = u := ⟨_, rfl⟩
    have e1 : (m : Int) - (i : Int) = (u : Int) := by omega
    have hun : u ≤ 4000000 := by omega
    by_cases hij : i = j
    · subst hij
      have HS := Lib.hid (swapRange w0 ad n c X A [] B Y i u m V W (by simpa using h1) h3 h4 hu (by simp; omega) (by simpa using h9) hn2)
      have HR := Lib.hid (show X ++ B ++ [] ++ A ++ Y = R by simpa using h2)
      clear h1 h2 h3 h4 h7 h9 hu H
      go_wp2_with fail
      refine HS.out.mono ?_
      rintro e w1 ⟨rfl, hAt⟩
      rw [HR.out] at hAt
      have HA := Lib.hid hAt
      clear hAt HS
      go_wp2
      go_end0
      exact ⟨rfl, HA.out⟩
    · have t1 : ((i : Int) == (j : Int)) = false := by rw [beq_eq_false_iff_ne]; omega
      by_cases hlt : j < i
      · obtain ⟨d, hd⟩ : ∃ d, i - j = d := ⟨_, rfl⟩
        have e2 : (i : Int) - (j : Int) = (d : Int) := by omega
        have hlt2 : (j : Int) < (i : Int) := by omega
        have t2 : decide ((j : Int) < (i : Int)) = true := decide_eq_true hlt2
        have hAe : A.take j ++ A.drop j = A := List.take_append_drop j A
        have HS := Lib.hid (swapRange w0 ad n c X (A.take j) (A.drop j) B Y j u m V W (by simpa [List.append_assoc, ← List.append_assoc (A.take j)] using h1) (by simp; omega) h4 hu (by simp; omega) (by simpa [List.append_assoc, ← List.append_assoc (A.take j)] using h9) hn2)
        have HN := Lib.hid (show (X ++ B) ++ A.take j ++ A.drop j ++ Y = R by rw [← h2]; simp [List.append_assoc, ← List.append_assoc (A.take j)])
        have HL := Lib.hid (show (A.drop j).length = d ∧ (A.take j).length = j ∧ (X ++ B).length + d = m by simp; omega)
        have HD := Lib.hid hd
        clear h1 h2 h3 h4 h7 hu H hd
        go_wp2_with fail
        refine HS.out.mono ?_
        rintro e w1 ⟨rfl, hAt⟩
        have HA := Lib.hid (show At w0 ad ((X ++ B) ++ A.drop j ++ A.take j ++ Y) w1 by simpa using hAt)
        clear hAt HS
        go_wp2
        go_roundw
        case rel => exact ⟨d, j, X ++ B, A.drop j, A.take j, Y, w1, rfl, rfl, rfl, Lib.hid ⟨HA.out, HN.out, HL.out.1, HL.out.2.1, by have := HD.out; omega, h6, HL.out.2.2, by have := HD.out; omega, by rw [← h9]; simp; omega⟩⟩
        case measure => have := HD.out; simp [intOf]; omega
      · obtain ⟨d, hd⟩ : ∃ d, j - i = d := ⟨_, rfl⟩
        obtain ⟨s, hs⟩ : ∃ s, m + j = s := ⟨_, rfl⟩
        obtain ⟨t, ht⟩ : ∃ t, s - i = t := ⟨_, rfl⟩
        have e2 : (j : Int) - (i : Int) = (d : Int) := by omega
        have e3 : (m : Int) + (j : Int) = (s : Int) := by omega
        have e4 : (s : Int) - (i : Int) = (t : Int) := by omega
        have t2 : decide ((j : Int) < (i : Int)) = false := decide_eq_false (by omega)
        have hBe : B.take d ++ B.drop d = B := List.take_append_drop d B
        have HS := Lib.hid (swapRange w0 ad n c X A (B.take d) (B.drop d) Y i u t V W (by simpa [List.append_assoc, ← List.append_assoc (B.take d)] using h1) h3 (by simp; omega) hu (by simp; omega) (by simpa [List.append_assoc, ← List.append_assoc (B.take d)] using h9) hn2)
        have HN := Lib.hid (show X ++ B.take d ++ B.drop d ++ (A ++ Y) = R by rw [← h2]; simp [List.append_assoc, ← List.append_assoc (B.take d)])
        have HL := Lib.hid (show (B.drop d).length = i ∧ (B.take d).length = d by simp; omega)
        have HD := Lib.hid (show d + i = j by omega)
        have h10 : s ≤ 20000000 := by omega
        have h11 : t ≤ 20000000 := by omega
        have HX := Lib.hid h7
        clear h1 h2 h3 h4 h7 hu H hd hs ht
        go_wp2_with fail
        refine HS.out.mono ?_
        rintro e w1 ⟨rfl, hAt⟩
        have HA := Lib.hid (show At w0 ad (X ++ B.drop d ++ B.take d ++ (A ++ Y)) w1 by simpa using hAt)
        clear hAt HS
        go_wp2
        go_roundw
        case rel => exact ⟨i, d, X, B.drop d, B.take d, A ++ Y, w1, rfl, rfl, rfl, Lib.hid ⟨HA.out, HN.out, HL.out.1, HL.out.2, h5, by have := HD.out; omega, HX.out, by have := HD.out; omega, by rw [← h9]; have := HL.out; simp at this ⊢; omega⟩⟩
        case measure => have := HD.out; simp [intOf]; omega

end Tm
end Go.Proofs.Ytcnlllamldlnmaa
