/-
  A split whose first parts are taken together as one: plain facts on lists of ints; slices of slices of ints. Conditions: those of each theorem.
-/
import Derived.Test.YtdamojbjamolaaaGivenN
namespace Go.Proofs.Ytdamojbjamolaaa
open Go.RowKit
namespace Num

theorem add_add (a : Addr) (i j : Nat) : (a.add i).add j = a.add (i + j) := by
  unfold Addr.add
  by_cases hi : i = 0 <;> by_cases hj : j = 0 <;> simp [hi, hj, Nat.add_assoc]

section
variable {w : World} {B n r : Nat} {xs : List Int}
theorem Ints.take_ {A : Option Addr} (h : Ints w B A n xs) (hr : r ≤ n) : Ints w B A r (xs.take r) := by
  refine ⟨by rw [List.length_take, h.1]; omega, fun hp => ?_⟩
  obtain ⟨ad, e, hb, hc⟩ := h.2 (by omega)
  refine ⟨ad, e, hb, fun j x hx => hc j x ?_⟩
  have hj : j < r := by
    have := (List.getElem?_eq_some_iff.1 hx).1
    rw [List.length_take] at this
    omega
  rw [List.getElem?_take_of_lt hj] at hx
  exact hx
theorem Ints.drop_ {ad : Addr} (h : Ints w B (some ad) n xs) : Ints w B (some (ad.add r)) (n - r) (xs.drop r) := by
  refine ⟨by rw [List.length_drop, h.1], fun hp => ?_⟩
  obtain ⟨ad', e, hb, hc⟩ := h.2 (by omega)
  injection e with e
  subst e
  refine ⟨_, rfl, by rw [add_block]; exact hb, fun j x hx => ?_⟩
  rw [add_add]
  exact hc _ x (by rw [← hx, List.getElem?_drop])
end

/-- The first r parts as one. -/
def joinF (r : Nat) (xs : List Int) : List Int := sumL (xs.take r) :: xs.drop r

theorem join_sum (r : Nat) (xs : List Int) : sumL (joinF r xs) = sumL xs := by
  unfold joinF
  rw [sumL_cons, ← sumL_append, List.take_append_drop]
theorem join_take (r j : Nat) (xs : List Int) : sumL ((joinF r xs).take (j + 1)) = sumL (xs.take (r + j)) := by
  unfold joinF
  rw [List.take_succ_cons, sumL_cons, ← sumL_append, List.take_add]
theorem join_len (r : Nat) (xs : List Int) (_hr : r ≤ xs.length) : (joinF r xs).length = xs.length - r + 1 := by simp [joinF]
theorem join_cum (m : Int) (r j : Nat) (xs : List Int) : cum m (joinF r xs) (j + 1) = cum m xs (r + j) := by
  unfold cum; rw [join_take, join_sum]
theorem join_made {m : Int} {xs : List Int} {r : Nat} (M : Made m xs) (hr : 1 ≤ r) (hr2 : r < xs.length) : Made m (joinF r xs) := by
  refine ⟨M.m0, M.m1, ?_, ?_, by rw [join_sum]; exact M.s0, by rw [join_sum]; exact M.s1⟩
  · have := M.rows
    rw [join_len r xs (by omega)]; omega
  · intro x hx
    rcases List.mem_cons.1 hx with rfl | hx
    · exact sumL_nonneg (nonneg_take M.pos r)
    · exact M.pos x (List.mem_of_mem_drop hx)
theorem join_first {m : Int} {xs : List Int} {r : Nat} (M : Made m xs) (hr : 1 ≤ r) (hr2 : r < xs.length) : (shares m (joinF r xs))[0]? = some (cum m xs r) := by
  have M2 := join_made M hr hr2
  unfold shares
  rw [List.getElem?_map, List.getElem?_range (by rw [join_len r xs (by omega)]; omega)]
  show some (share m (joinF r xs) 0) = _
  rw [share_cum, M2.cum_zero, join_cum m r 0 xs]
  simp
theorem join_rest {m : Int} {xs : List Int} {r : Nat} (hr2 : r < xs.length) : (shares m (joinF r xs)).drop 1 = (shares m xs).drop r := by
  apply List.ext_getElem
  · simp only [List.length_drop, shares_len]
    rw [join_len r xs (by omega)]
    omega
  · intro i h1 h2
    rw [List.getElem_drop, List.getElem_drop]
    simp only [shares, List.getElem_map, List.getElem_range]
    rw [share_cum, share_cum, Nat.add_comm 1 i, join_cum, join_cum]
    rfl
theorem made_good {m : Int} {xs : List Int} (M : Made m xs) (r : Nat) : nonneg (xs.take r) ∧ sumL (xs.take r) ≤ 4000000000000000000 := by
  have := sumL_take_le M.pos r
  have := M.s1
  exact ⟨nonneg_take M.pos r, by omega⟩

end Num
end Go.Proofs.Ytdamojbjamolaaa
