/-
  num.Split: what it gives (in memory of its own) for any amount and any parts. Conditions: the amount is a number of 64 bits; the parts read as a list of ints.
-/
import Derived.Test.YtncndofhecdgnaaDoorDeal
import Derived.Deep.OwnRows
namespace Go.Proofs.YtncndofhecdgnaaDoor
open Go.RowKit NumMath NumBits
namespace Num

/-- Block g is a row of just these ints. -/
def Row (w : World) (g : Nat) (xs : List Int) : Prop := w.heap[g]? = some (.cells (xs.map (Value.int .i64)).toArray 3 (0, 0))

section
variable {w w' : World} {g : Nat} {xs : List Int}
theorem Row.lt (h : Row w g xs) : g < w.heap.size := by
  rcases Nat.lt_or_ge g w.heap.size with hlt | hge
  · exact hlt
  · unfold Row at h; rw [Array.getElem?_eq_none hge] at h; cases h
theorem Row.cell (h : Row w g xs) {k : Nat} {x : Int} (hk : xs[k]? = some x) : w.cell? ⟨g, k, none⟩ = some (.int .i64 x) := by
  rw [cell_of_row w g k _ _ _ h]; simp [hk]
theorem Row.frozen (h : Row w g xs) (k : Nat) : w.frozen? ⟨g, k, none⟩ = false := frozen_of_row w g k _ _ h
theorem Row.keep (h : Row w g xs) (e : w'.heap[g]? = w.heap[g]?) : Row w' g xs := e.trans h
theorem Row.set (h : Row w g xs) (k : Nat) (y : Int) : Row (w.setCell ⟨g, k, none⟩ (.int .i64 y)) g (xs.set k y) := by
  unfold Row at h ⊢
  rw [heap_setCell_same w g k _ _ _ h]
  simp [List.map_set]
theorem Row.ints (h : Row w g xs) {B : Nat} (hB : g < B) : Ints w B (some ⟨g, 0, none⟩) xs.length xs :=
  ⟨rfl, fun _ => ⟨_, rfl, hB, fun j x hx => by
    have : (⟨g, 0, none⟩ : Addr).add j = ⟨g, j, none⟩ := by unfold Addr.add; split <;> simp_all
    rw [this]; exact h.cell hx⟩⟩
end

/-- What the first k of n places hold, and 0 behind them. -/
def rowOf (S : Nat → Int) (n k : Nat) : List Int := (List.range n).map (fun j => if j < k then S j else 0)
theorem rowOf_len (S : Nat → Int) (n k : Nat) : (rowOf S n k).length = n := by simp [rowOf]
theorem rowOf_set (S : Nat → Int) (n k : Nat) : (rowOf S n k).set k (S k) = rowOf S n (k + 1) := by
  apply List.ext_getElem
  · simp [rowOf]
  · intro i h1 h2
    simp only [rowOf, List.getElem_set, List.getElem_map, List.getElem_range]
    by_cases e : k = i
    · subst e; simp
    · simp only [e, if_false]
      by_cases hh : i < k
      · rw [if_pos hh, if_pos (by omega)]
      · rw [if_neg hh, if_neg (by omega)]
theorem rowOf_full (S : Nat → Int) (n : Nat) : rowOf S n n = (List.range n).map S := by
  unfold rowOf
  apply List.map_congr_left
  intro j hj
  rw [if_pos (List.mem_range.1 hj)]
theorem rowOf_get (S : Nat → Int) (n k : Nat) (hk : k < n) : (rowOf S n k)[k]? = some 0 := by simp [rowOf, hk]

/-- What the k-th part gets. -/
def share (m : Int) (xs : List Int) (k : Nat) : Int := dnV m (sumL (xs.take (k + 1))) (sumL xs) - dnV m (sumL (xs.take k)) (sumL xs)
def shares (m : Int) (xs : List Int) : List Int := (List.range xs.length).map (share m xs)
def splitE (m : Int) (xs : List Int) : Int :=
  if m < 0 ∨ 2000 < xs.length ∨ anyNeg xs = true then 1 else if 4000000000000000000 < sumL xs ∨ 4000000000000000000 < m then 5 else if sumL xs = 0 then 6 else 0
def splitL (m : Int) (xs : List Int) : List Int := if splitE m xs = 0 then shares m xs else []

theorem dn_val {m v all : Int} (hm : 0 ≤ m ∧ m ≤ 4000000000000000000) (hv : 0 ≤ v) (hva : v ≤ all) (ha : 0 < all) :
    dnV m v all = m * v / all ∧ 0 ≤ m * v / all ∧ m * v / all ≤ m := by
  obtain ⟨m, rfl⟩ := Int.eq_ofNat_of_zero_le hm.1
  obtain ⟨v, rfl⟩ := Int.eq_ofNat_of_zero_le hv
  obtain ⟨all, rfl⟩ := Int.eq_ofNat_of_zero_le (a := all) (by omega)
  have hq : m * v / all ≤ m := by
    refine Nat.div_le_of_le_mul ?_
    rw [Nat.mul_comm]
    exact Nat.mul_le_mul_right m (by omega)
  have e : ((m : Int) * (v : Int)) / (all : Int) = ((m * v / all : Nat) : Int) := by rw [← Int.natCast_mul, Int.natCast_ediv]
  refine ⟨?_, ?_, ?_⟩
  · rw [dnV, nums_ok (by omega) (by rw [quo_down]; omega), quo_down, e]
  · rw [e]; exact Int.natCast_nonneg _
  · rw [e]; exact Int.ofNat_le.2 hq
theorem dn_zero {m all : Int} (hm : 0 ≤ m ∧ m ≤ 4000000000000000000) (ha : 0 < all) : dnV m 0 all = 0 := by
  rw [(dn_val hm (by omega) (by omega) ha).1]; simp

theorem info_int : (Tryd.prog.info? 3).map (fun i => (i.zero, i.size, i.bytes)) = some (some (.int .i64 0), 1, 8) := by kernel_rfl

theorem rowOf_zero (S : Nat → Int) (n : Nat) : rowOf S n 0 = List.replicate n 0 := by
  unfold rowOf
  apply List.ext_getElem
  · simp
  · intro i h1 h2; simp

def zeros (n : Nat) : Array Value := (List.map (Value.int .i64) (List.replicate n 0)).toArray
theorem make_ints (n : Nat) (hn : n ≤ 1000000) (w : World) : (Instr.makeSlice 59 (.int .i64 (n : Int)) (.int .i64 (n : Int))).run Tryd.prog w = .ok (.slice (some ⟨w.heap.size, 0, none⟩) n n) (w.alloc (.cells (zeros n) 3)) := by
  rw [run_make_row' (P := Tryd.prog) 59 3 (.int .i64 0) 8 Tryd.underlying59 info_int rfl .i64 .i64 n (by omega) (by omega) w]
  have e : madeCells #[Value.int .i64 0] n = zeros n := by
    unfold zeros
    apply Array.ext
    · simp [size_madeCells]
    · intro i h1 h2
      simp [madeCells, Nat.mod_one]
  rw [e]

def SplitPost (w : World) (l : List Int) (code : Int) (e : Ending) (w' : World) : Prop :=
  ∃ (A : Option Addr) (k c : Nat), e = .returned (.tuple #[.slice A k c, .int .i64 code]) ∧ Ints w' w'.heap.size A k l ∧ k ≤ c ∧ Below w.heap.size w w' ∧ ∀ ad : Addr, A = some ad → w.heap.size ≤ ad.block

theorem SplitPost.empty {w w' : World} {code : Int} (hb : Below w.heap.size w w') : SplitPost w [] code (.returned (.tuple #[.slice none 0 0, .int .i64 code])) w' :=
  ⟨none, 0, 0, rfl, Ints.nil, Nat.le_refl _, hb, fun _ h => by cases h⟩

/-- What holds at the head of each round of the dealing. -/
structure SplitI (w w' : World) (gs n k : Nat) (xs : List Int) (m all u d : Int) : Prop where
  deals : Deals w' w.heap.size m all u d
  row : Row w' gs (rowOf (share m xs) n k)
  below : Below w.heap.size w w'
  hu : u = sumL (xs.take k)
  hd : d = dnV m u all

section
variable (A : Option Addr) (n c B : Nat) (xs : List Int) (m : Int) (w : World)

set_option maxHeartbeats 1000000 in
theorem split_arg (h : Ints w B A n xs) (hn : n ≤ maxLen) (hb : m < 0 ∨ 2000 < n ∨ anyNeg xs = true) :
    Calls Tryd.prog 41 #[.int .i64 m, .slice A n c] w (SplitPost w [] 1) := by
  have H := Lib.hid (anyBelow A n c B xs w h hn)
  unfold maxLen at hn
  clear h
  by_cases h1 : m < 0
  · have t1 : decide (m < 0) = true := by simpa using h1
    clear hb H
    go_enter Tryd.func41, Tryd.ntmps41
    go_wp2
    go_ret2
    exact .empty (Below.refl _ _)
  · have t1 : decide (m < 0) = false := by simpa using h1
    by_cases h2 : 2000 < n
    · have t2 : decide (2000 < n) = true := by simpa using h2
      clear hb H
      go_enter Tryd.func41, Tryd.ntmps41
      go_wp2
      go_ret2
      exact .empty (Below.refl _ _)
    · have t2 : decide (2000 < n) = false := by simpa using h2
      have h3 : anyNeg xs = true := by
        rcases hb with h | h | h
        · exact absurd h h1
        · exact absurd h h2
        · exact h
      rw [h3] at H
      clear hb h3
      go_enter Tryd.func41, Tryd.ntmps41
      go_wp2_with (go_at_call 50; refine H.out.mono ?_; rintro e w1 ⟨rfl, rfl⟩)
      go_ret2
      exact .empty (Below.refl _ _)

set_option maxRecDepth 100000 in
set_option maxHeartbeats 1000000 in
theorem split_over (h : Ints w B A n xs) (hn : n ≤ 2000) (hm : 0 ≤ m) (hp : nonneg xs) (ho : 4000000000000000000 < sumL xs ∨ 4000000000000000000 < m) :
    Calls Tryd.prog 41 #[.int .i64 m, .slice A n c] w (SplitPost w [] 5) := by
  have H := Lib.hid (anyBelow A n c B xs w h (by unfold maxLen; omega))
  have S := Lib.hid (sum A n c B xs w h (by unfold maxLen; omega) hp)
  rw [anyNeg_false.2 hp] at H
  have t1 : decide (m < 0) = false := by simpa using hm
  have t2 : decide (2000 < n) = false := by simpa using hn
  clear h hp
  by_cases h1 : 4000000000000000000 < sumL xs
  · rw [sumVal, if_neg (by omega)] at S
    clear ho h1
    go_enter Tryd.func41, Tryd.ntmps41
    go_wp2_with (first | (go_at_call 50; refine H.out.mono ?_; rintro e w1 ⟨rfl, rfl⟩) | (go_at_call 51; refine S.out.mono ?_; rintro e w1 ⟨rfl, rfl⟩))
    go_ret2
    exact .empty (Below.refl _ _)
  · rw [sumVal, if_pos (by omega)] at S
    have h2 : 4000000000000000000 < m := by omega
    have t3 : decide (4000000000000000000 < m) = true := by simpa using h2
    generalize sumL xs = s at *
    clear ho h1 h2
    go_enter Tryd.func41, Tryd.ntmps41
    go_wp2_with (first | (go_at_call 50; refine H.out.mono ?_; rintro e w1 ⟨rfl, rfl⟩) | (go_at_call 51; refine S.out.mono ?_; rintro e w1 ⟨rfl, rfl⟩))
    go_ret2
    exact .empty (Below.refl _ _)

set_option maxRecDepth 100000 in
set_option maxHeartbeats 1000000 in
theorem split_zero (h : Ints w B A n xs) (hn : n ≤ 2000) (hm : 0 ≤ m) (hm2 : m ≤ 4000000000000000000) (hp : nonneg xs) (ho : sumL xs = 0) :
    Calls Tryd.prog 41 #[.int .i64 m, .slice A n c] w (SplitPost w [] 6) := by
  have H := Lib.hid (anyBelow A n c B xs w h (by unfold maxLen; omega))
  have S := Lib.hid (sum A n c B xs w h (by unfold maxLen; omega) hp)
  rw [anyNeg_false.2 hp] at H
  have t1 : decide (m < 0) = false := by simpa using hm
  have t2 : decide (2000 < n) = false := by simpa using hn
  have t3 : decide (4000000000000000000 < m) = false := by simpa using hm2
  clear h hp
  rw [sumVal, if_pos (by omega), ho] at S
  clear ho
  go_enter Tryd.func41, Tryd.ntmps41
  go_wp2_with (first | (go_at_call 50; refine H.out.mono ?_; rintro e w1 ⟨rfl, rfl⟩) | (go_at_call 51; refine S.out.mono ?_; rintro e w1 ⟨rfl, rfl⟩))
  go_ret2
  exact .empty (Below.refl _ _)

set_option maxRecDepth 100000 in
set_option maxHeartbeats 2000000 in
theorem split_ok (h : Ints w w.heap.size A n xs) (hn : n ≤ 2000) (hm : 0 ≤ m) (hm2 : m ≤ 4000000000000000000) (hp : nonneg xs) (all : Int) (ha : Hid (sumL xs = all)) (ha0 : 0 < all) (ha1 : all ≤ 4000000000000000000) :
    Calls Tryd.prog 41 #[.int .i64 m, .slice A n c] w (SplitPost w (shares m xs) 0) := by
  have H := Lib.hid (anyBelow A n c _ xs w h (by unfold maxLen; omega))
  have S := Lib.hid (sum A n c _ xs w h (by unfold maxLen; omega) hp)
  rw [anyNeg_false.2 hp] at H
  have t1 : decide (m < 0) = false := by simpa using hm
  have t2 : decide (2000 < n) = false := by simpa using hn
  have t3 : decide (4000000000000000000 < m) = false := by simpa using hm2
  have t4 : (all == 0) = false := by rw [beq_eq_false_iff_ne]; omega
  have t5 : decide ((2000 : Int) < (n : Int)) = false := by simp; omega
  rw [sumVal, ha.out, if_pos ha1] at S
  have hmk := make_ints n (by omega)
  have D := Lib.hid (dealer m all w)
  have HI := Lib.hid h
  have HP := Lib.hid hp
  clear h hp
  go_enter Tryd.func41, Tryd.ntmps41
  go_wp2_with (first | (go_at_call 50; refine H.out.mono ?_; rintro e w1 ⟨rfl, rfl⟩) | (go_at_call 51; refine S.out.mono ?_; rintro e w1 ⟨rfl, rfl⟩) | (go_at_call 52; refine D.out.mono ?_; rintro e w1 ⟨rfl, hd, hbw, hsz⟩; have HD := Lib.hid hd; have HB := Lib.hid hbw; have HS := Lib.hid hsz; clear hd hbw hsz))
  go_loopw [44] (fun i w' => ∃ (k : Nat) (u d : Int), k ≤ n ∧ i = .int .i64 (k : Int) ∧ 0 ≤ u ∧ u ≤ all ∧ 0 ≤ d ∧ d ≤ 4000000000000000000 ∧ Hid (SplitI w w' w1.heap.size n k xs m all u d)) (fun i _ => n - (intOf i).toNat)
  case atStart =>
    refine ⟨0, 0, 0, Nat.zero_le _, rfl, by omega, by omega, by omega, by omega, Lib.hid ⟨?_, ?_, ?_, by simp [sumL], (dn_zero ⟨hm, hm2⟩ ha0).symm⟩⟩
    · obtain ⟨d1, d2, d3, d4⟩ := HD.out
      exact ⟨d1.keep (alloc_lt _ _ _ d1.lt), d2.keep (alloc_lt _ _ _ d2.lt), d3.keep (alloc_lt _ _ _ d3.lt), d4.keep (alloc_lt _ _ _ d4.lt)⟩
    · rw [rowOf_zero]; exact alloc_at _ _ _ rfl
    · exact HB.out.alloc HB.out.size _
  case round =>
    obtain ⟨k, u, d, hk, rfl, hu0, hu1, hd0, hd1, HR⟩ := hrel
    clear H S D hmk
    by_cases hlt : k < n
    · obtain ⟨ad, x, rfl, hb, hx, hc⟩ := (HI.out.below HR.out.below (Nat.le_refl _)).get hlt
      have hx0 : 0 ≤ x := HP.out x (mem_of_get hx)
      have hux : u + x = sumL (xs.take (k + 1)) := by rw [take_more hx, sumL_snoc, ← HR.out.hu]
      have hua : u + x ≤ all := by have := sumL_take_le HP.out (k + 1); rw [ha.out] at this; omega
      obtain ⟨v1, v2, v3⟩ := dn_val (m := m) (v := u + x) (all := all) ⟨hm, hm2⟩ (by omega) hua ha0
      obtain ⟨due, hdue⟩ : ∃ due, due = dnV m (u + x) all := ⟨_, rfl⟩
      rw [← v1, ← hdue] at v2 v3
      have DC := Lib.hid (deal w.heap.size m all u d x due wr HR.out.deals ⟨hm, hm2⟩ ⟨ha0, ha1⟩ hu0 hx0 hua ⟨hd0, hd1⟩ ⟨v2, by omega⟩ (Lib.hid hdue.symm))
      have HX := Lib.hid hux
      have HE := Lib.hid hdue
      clear hux hdue v1 hx
      go_wp2_with fail
      refine DC.out.mono ?_
      rintro e w2 ⟨rfl, hdt⟩
      have hne2 : w1.heap.size ≠ w.heap.size + 2 := by have := HS.out; omega
      have hne3 : w1.heap.size ≠ w.heap.size + 3 := by have := HS.out; omega
      have row2 : Row w2 w1.heap.size (rowOf (share m xs) n k) := HR.out.row.keep (hdt.2.block _ HR.out.row.lt hne2 hne3)
      have rc := row2.cell (rowOf_get (share m xs) n k hlt)
      have rf := row2.frozen k
      have HDT := Lib.hid hdt
      have HR2 := Lib.hid row2
      clear hdt row2 hne2 hne3
      go_wp2
      go_roundw
      case rel =>
        have esh : due - d = share m xs k := by rw [share, ← HX.out, ← HR.out.hu, ha.out, HE.out, HR.out.hd]
        obtain ⟨⟨e1, e2, e3, e4⟩, T⟩ := HDT.out
        have hs4 := HS.out
        have hbl : Below w.heap.size w w2 :=
          ⟨T.os.trans HR.out.below.os, T.tape.trans HR.out.below.tape, T.output.trans HR.out.below.output, Nat.le_trans HR.out.below.size T.size,
            fun i hi => (T.block i (Nat.lt_of_lt_of_le hi HR.out.below.size) (by omega) (by omega)).trans (HR.out.below.block i hi)⟩
        refine ⟨k + 1, u + x, due, by omega, by go_num, by omega, by omega, by omega, by omega, Lib.hid ⟨?_, ?_, ?_, HX.out, HE.out⟩⟩
        · exact ⟨e1.keep (heap_setCell_other _ _ _ _ (by show w.heap.size ≠ w1.heap.size; omega)), e2.keep (heap_setCell_other _ _ _ _ (by show w.heap.size + 1 ≠ w1.heap.size; omega)),
            e3.keep (heap_setCell_other _ _ _ _ (by show w.heap.size + 2 ≠ w1.heap.size; omega)), e4.keep (heap_setCell_other _ _ _ _ (by show w.heap.size + 3 ≠ w1.heap.size; omega))⟩
        · rw [esh, ← rowOf_set]
          exact HR2.out.set k _
        · exact hbl.setCell (p := ⟨w1.heap.size, k, none⟩) (by show w.heap.size ≤ w1.heap.size; omega) _
      case measure => simp [intOf]; omega
    · obtain rfl : n = k := by omega
      go_wp2
      go_ret2
      have hr := HR.out.row
      rw [rowOf_full] at hr
      have hi := hr.ints hr.lt
      have el : n = xs.length := HI.out.1.symm
      have es : (List.range n).map (share m xs) = shares m xs := by rw [shares, el]
      rw [List.length_map, List.length_range, es] at hi
      exact ⟨_, _, _, rfl, hi, Nat.le_refl _, HR.out.below, fun ad e => by injection e with e; subst e; show w.heap.size ≤ w1.heap.size; have := HS.out; omega⟩
end

theorem split (A : Option Addr) (n c : Nat) (xs : List Int) (m : Int) (w : World) (h : Ints w w.heap.size A n xs) (hn : n ≤ maxLen) :
    Calls Tryd.prog 41 #[.int .i64 m, .slice A n c] w (SplitPost w (splitL m xs) (splitE m xs)) := by
  have hl := h.1
  by_cases h1 : m < 0 ∨ 2000 < xs.length ∨ anyNeg xs = true
  · have e : splitE m xs = 1 := by rw [splitE, if_pos h1]
    rw [splitL, e, if_neg (by decide)]
    exact split_arg A n c _ xs m w h hn (by rw [← hl]; exact h1)
  · have hp : nonneg xs := anyNeg_false.1 (by cases hh : anyNeg xs; rfl; exact absurd (Or.inr (Or.inr hh)) h1)
    have hn2 : n ≤ 2000 := by omega
    have hm : 0 ≤ m := by omega
    by_cases h2 : 4000000000000000000 < sumL xs ∨ 4000000000000000000 < m
    · have e : splitE m xs = 5 := by rw [splitE, if_neg h1, if_pos h2]
      rw [splitL, e, if_neg (by decide)]
      exact split_over A n c _ xs m w h hn2 hm hp h2
    · by_cases h3 : sumL xs = 0
      · have e : splitE m xs = 6 := by rw [splitE, if_neg h1, if_neg h2, if_pos h3]
        rw [splitL, e, if_neg (by decide)]
        exact split_zero A n c _ xs m w h hn2 hm (by omega) hp h3
      · have e : splitE m xs = 0 := by rw [splitE, if_neg h1, if_neg h2, if_neg h3]
        rw [splitL, e, if_pos rfl]
        have := sumL_nonneg hp
        exact split_ok A n c xs m w h hn2 hm (by omega) hp _ (Lib.hid rfl) (by omega) (by omega)



end Num
end Go.Proofs.YtncndofhecdgnaaDoor
