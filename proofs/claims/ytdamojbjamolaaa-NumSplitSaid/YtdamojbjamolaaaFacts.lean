/-
  What follows of a split that was made: plain facts on lists of ints. Conditions: those of each theorem.
-/
import Derived.Test.YtdamojbjamolaaaGiven
namespace Go.Proofs.Ytdamojbjamolaaa
namespace Num

/-- A split that was made. -/
structure Made (m : Int) (xs : List Int) : Prop where
  m0 : 0 ≤ m
  m1 : m ≤ 4000000000000000000
  rows : xs.length ≤ 2000
  pos : nonneg xs
  s0 : 0 < sumL xs
  s1 : sumL xs ≤ 4000000000000000000

theorem made_of {m : Int} {xs : List Int} (h : splitE m xs = 0) : Made m xs := by
  unfold splitE at h
  split at h
  · cases h
  · rename_i h1
    split at h
    · cases h
    · rename_i h2
      split at h
      · cases h
      · rename_i h3
        have hp : nonneg xs := anyNeg_false.1 (by cases hh : anyNeg xs; rfl; exact absurd (Or.inr (Or.inr hh)) h1)
        have := sumL_nonneg hp
        exact ⟨by omega, by omega, by omega, hp, by omega, by omega⟩
theorem made_to {m : Int} {xs : List Int} (M : Made m xs) : splitE m xs = 0 := by
  have a := M.m0; have b := M.m1; have c := M.rows; have d := M.s0; have e := M.s1
  have hp := anyNeg_false.2 M.pos
  rw [splitE, if_neg (by rw [hp]; simp; omega), if_neg (by omega), if_neg (by omega)]

theorem cum_step {xs : List Int} {k : Nat} {p : Int} (h : xs[k]? = some p) : sumL (xs.take (k + 1)) = sumL (xs.take k) + p := by rw [take_more h, sumL_snoc]

/-- What the first k get together. -/
def cum (m : Int) (xs : List Int) (k : Nat) : Int := dnV m (sumL (xs.take k)) (sumL xs)
theorem share_cum (m : Int) (xs : List Int) (k : Nat) : share m xs k = cum m xs (k + 1) - cum m xs k := rfl

section
variable {m : Int} {xs : List Int}
theorem Made.cum_val (M : Made m xs) (k : Nat) : cum m xs k = m * sumL (xs.take k) / sumL xs ∧ 0 ≤ cum m xs k ∧ cum m xs k ≤ m := by
  have h := dn_val (m := m) (v := sumL (xs.take k)) (all := sumL xs) ⟨M.m0, M.m1⟩ (sumL_nonneg (nonneg_take M.pos k)) (sumL_take_le M.pos k) M.s0
  unfold cum
  rw [h.1]
  exact ⟨rfl, h.2⟩
theorem Made.cum_zero (M : Made m xs) : cum m xs 0 = 0 := by
  have := (M.cum_val 0).1
  simpa [sumL] using this
theorem Made.cum_all (M : Made m xs) {k : Nat} (hk : xs.length ≤ k) : cum m xs k = m := by
  rw [(M.cum_val k).1, List.take_of_length_le hk]
  exact Int.mul_ediv_cancel _ (by have := M.s0; omega)
theorem Made.cum_mono (M : Made m xs) (k : Nat) : cum m xs k ≤ cum m xs (k + 1) := by
  rw [(M.cum_val k).1, (M.cum_val (k + 1)).1]
  refine Int.ediv_le_ediv M.s0 (Int.mul_le_mul_of_nonneg_left ?_ M.m0)
  have e : xs.take k = (xs.take (k + 1)).take k := by rw [List.take_take, Nat.min_eq_left (by omega)]
  rw [e]
  exact sumL_take_le (nonneg_take M.pos (k + 1)) k
theorem Made.share_pos (M : Made m xs) (k : Nat) : 0 ≤ share m xs k ∧ share m xs k ≤ m := by
  have a := M.cum_mono k; have b := M.cum_val k; have c := M.cum_val (k + 1)
  rw [share_cum]; omega
end

theorem share_zero {m : Int} {xs : List Int} {k : Nat} (h : xs[k]? = some 0) : share m xs k = 0 := by
  rw [share_cum, cum, cum, cum_step h]; simp
theorem shares_len (m : Int) (xs : List Int) : (shares m xs).length = xs.length := by simp [shares]
theorem shares_get {m : Int} {xs : List Int} {k : Nat} {v : Int} (h : (shares m xs)[k]? = some v) : v = share m xs k ∧ k < xs.length := by
  unfold shares at h
  rw [List.getElem?_map] at h
  by_cases hk : k < xs.length
  · rw [List.getElem?_range hk] at h
    simp at h
    exact ⟨h.symm, hk⟩
  · rw [List.getElem?_eq_none (by simp; omega)] at h
    cases h
theorem splitL_ok {m : Int} {xs : List Int} (h : splitE m xs = 0) : splitL m xs = shares m xs := by rw [splitL, if_pos h]
theorem splitL_no {m : Int} {xs : List Int} (h : splitE m xs ≠ 0) : splitL m xs = [] := by rw [splitL, if_neg h]
theorem splitE_bd (m : Int) (xs : List Int) : 0 ≤ splitE m xs ∧ splitE m xs ≤ 6 := by
  unfold splitE; split <;> (try split) <;> (try split) <;> omega

/-- The floors of two numbers, and of their sum. -/
theorem floors (A B c : Int) (hc : 0 < c) : A / c + B / c ≤ (A + B) / c ∧ (A + B) / c ≤ A / c + B / c + 1 := by
  have h1 := Int.mul_ediv_add_emod A c
  have h2 := Int.mul_ediv_add_emod B c
  have a0 := Int.emod_nonneg A (show c ≠ 0 by omega)
  have b0 := Int.emod_nonneg B (show c ≠ 0 by omega)
  have a1 := Int.emod_lt_of_pos A hc
  have b1 := Int.emod_lt_of_pos B hc
  constructor
  · rw [Int.le_ediv_iff_mul_le hc, Int.add_mul, Int.mul_comm (A / c), Int.mul_comm (B / c)]
    omega
  · have : (A + B) / c < A / c + B / c + 2 := by
      rw [Int.ediv_lt_iff_lt_mul hc, Int.add_mul, Int.add_mul, Int.mul_comm (A / c), Int.mul_comm (B / c)]
      omega
    omega

section
variable {m : Int} {xs : List Int}
theorem Made.fair (M : Made m xs) {k : Nat} {p : Int} (h : xs[k]? = some p) : m * p / sumL xs ≤ share m xs k ∧ share m xs k ≤ m * p / sumL xs + 1 := by
  rw [share_cum, (M.cum_val k).1, (M.cum_val (k + 1)).1, cum_step h, Int.mul_add]
  have := floors (m * sumL (xs.take k)) (m * p) (sumL xs) M.s0
  omega
theorem Made.part_le (M : Made m xs) {k : Nat} {p : Int} (h : xs[k]? = some p) : 0 ≤ p ∧ p ≤ sumL xs := by
  have h1 := M.pos p (mem_of_get h)
  have h2 := sumL_take_le M.pos (k + 1)
  rw [cum_step h] at h2
  have h3 := sumL_nonneg (nonneg_take M.pos k)
  omega
end

end Num
end Go.Proofs.Ytdamojbjamolaaa
