/-
  A split by parts that are all as many times as great; a split by one part; a split whose first parts are taken together: plain facts on lists of ints. Conditions: those of each theorem.
-/
import Derived.Test.YtdamojbjamolaaaGivenN
namespace Go.Proofs.Ytdamojbjamolaaa
namespace Num

def times (q : Int) (xs : List Int) : List Int := xs.map (q * ·)

theorem times_take (q : Int) (xs : List Int) (k : Nat) : (times q xs).take k = times q (xs.take k) := by unfold times; rw [List.map_take]
theorem times_sum (q : Int) (xs : List Int) : sumL (times q xs) = q * sumL xs := by
  induction xs with
  | nil => simp [times, sumL]
  | cons x xs ih =>
    have : times q (x :: xs) = q * x :: times q xs := rfl
    rw [this, sumL_cons, sumL_cons, ih, Int.mul_add]
theorem times_len (q : Int) (xs : List Int) : (times q xs).length = xs.length := by simp [times]

theorem sum_bound {xs : List Int} {B : Int} (h : ∀ x ∈ xs, 0 ≤ x ∧ x ≤ B) : sumL xs ≤ xs.length * B := by
  induction xs with
  | nil => simp [sumL]
  | cons x xs ih =>
    have h1 := h x (by simp)
    have h2 := ih (fun y hy => h y (by simp [hy]))
    have e : (((x :: xs).length : Nat) : Int) * B = (xs.length : Int) * B + B := by rw [List.length_cons, Int.natCast_add, Int.add_mul]; simp
    rw [sumL_cons, e]
    omega

theorem times_nonneg {q : Int} {xs : List Int} (hq : 1 ≤ q) (hx : ∀ x ∈ xs, 0 ≤ x ∧ x ≤ 1099511627776) : nonneg xs ∧ nonneg (times q xs) := by
  refine ⟨fun x h => (hx x h).1, fun y hy => ?_⟩
  obtain ⟨x, h, rfl⟩ := List.mem_map.1 hy
  exact Int.mul_nonneg (by omega) (hx x h).1

section
variable {m q : Int} {xs : List Int}
theorem times_small (hq : 1 ≤ q) (hq1 : q ≤ 1000) (hn : xs.length ≤ 300) (hx : ∀ x ∈ xs, 0 ≤ x ∧ x ≤ 1099511627776) : 0 ≤ sumL xs ∧ sumL xs ≤ 330000000000000 ∧ 0 ≤ q * sumL xs ∧ q * sumL xs ≤ 330000000000000000 := by
  have h0 : 0 ≤ sumL xs := sumL_nonneg (fun x h => (hx x h).1)
  have h1 := sum_bound (B := 1099511627776) hx
  have h2 : sumL xs ≤ 330000000000000 := by omega
  have h3 : q * sumL xs ≤ 1000 * sumL xs := Int.mul_le_mul_of_nonneg_right hq1 h0
  have h4 : 0 ≤ q * sumL xs := Int.mul_nonneg (by omega) h0
  omega
theorem times_code (hq : 1 ≤ q) (hq1 : q ≤ 1000) (hn : xs.length ≤ 300) (hx : ∀ x ∈ xs, 0 ≤ x ∧ x ≤ 1099511627776) : splitE m (times q xs) = splitE m xs := by
  obtain ⟨s0, s1, s2, s3⟩ := times_small hq hq1 hn hx
  obtain ⟨p1, p2⟩ := times_nonneg hq hx
  unfold splitE
  rw [times_len, anyNeg_false.2 p1, anyNeg_false.2 p2, times_sum]
  have e1 : (4000000000000000000 < q * sumL xs ∨ 4000000000000000000 < m) ↔ (4000000000000000000 < sumL xs ∨ 4000000000000000000 < m) := by omega
  have e2 : q * sumL xs = 0 ↔ sumL xs = 0 := by
    constructor
    · intro h
      rcases Int.mul_eq_zero.1 h with h | h
      · omega
      · exact h
    · intro h; rw [h]; simp
  simp only [e1, e2]
theorem times_list (hq : 1 ≤ q) (hq1 : q ≤ 1000) (hn : xs.length ≤ 300) (hx : ∀ x ∈ xs, 0 ≤ x ∧ x ≤ 1099511627776) : splitL m (times q xs) = splitL m xs := by
  by_cases hE : splitE m xs = 0
  · have M := made_of hE
    have hE2 : splitE m (times q xs) = 0 := by rw [times_code hq hq1 hn hx]; exact hE
    have M2 := made_of hE2
    rw [splitL_ok hE, splitL_ok hE2]
    unfold shares
    rw [times_len]
    apply List.map_congr_left
    intro k _
    have each : ∀ j, cum m (times q xs) j = cum m xs j := by
      intro j
      rw [(M2.cum_val j).1, (M.cum_val j).1, times_take, times_sum, times_sum, Int.mul_left_comm, Int.mul_ediv_mul_of_pos _ _ (by omega)]
    rw [share_cum, share_cum, each, each]
  · rw [splitL_no hE, splitL_no (by rw [times_code hq hq1 hn hx]; exact hE)]
end

theorem one_ok {m q : Int} (hq : 1 ≤ q) (hq1 : q ≤ 1000) (h0 : 0 ≤ m) (h1 : m ≤ 4000000000000000000) : splitE m [q] = 0 ∧ splitL m [q] = [m] := by
  have e1 : sumL [q] = q := by simp [sumL]
  have M : Made m [q] := ⟨h0, h1, by simp, by intro x hx; simp at hx; omega, by rw [e1]; omega, by rw [e1]; omega⟩
  have hE := made_to M
  refine ⟨hE, ?_⟩
  rw [splitL_ok hE]
  unfold shares
  have : List.range [q].length = [0] := rfl
  rw [this, List.map_cons, List.map_nil, share_cum, M.cum_zero, M.cum_all (by simp)]
  simp
theorem one_no {m q : Int} (h : m < 0 ∨ 4000000000000000000 < m) : splitE m [q] ≠ 0 := by
  intro hE
  have M := made_of hE
  have := M.m0
  have := M.m1
  omega

end Num
end Go.Proofs.Ytdamojbjamolaaa
