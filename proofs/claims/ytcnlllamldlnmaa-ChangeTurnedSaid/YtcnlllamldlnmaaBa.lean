/-
  Risks without the model: which may be. Conditions: those of each theorem.
-/
namespace Ba
abbrev Pr := Int × Int

/-- From low to high. -/
def wi (n lo hi : Int) : Bool := decide (lo ≤ n ∧ n ≤ hi)
theorem wi_iff {n lo hi : Int} : wi n lo hi = true ↔ lo ≤ n ∧ n ≤ hi := by unfold wi; exact decide_eq_true_iff
theorem wi_no {n lo hi : Int} (h : ¬ (lo ≤ n ∧ n ≤ hi)) : wi n lo hi = false := by unfold wi; exact decide_eq_false h

/-- A risk may be. -/
def rk (k v a z : Int) : Bool := wi k 0 3 && (wi v 1 1000000000000000 && (wi a 0 200 && wi z 0 99))
theorem rk_iff {k v a z : Int} : rk k v a z = true ↔ (0 ≤ k ∧ k ≤ 3) ∧ (1 ≤ v ∧ v ≤ 1000000000000000) ∧ (0 ≤ a ∧ a ≤ 200) ∧ (0 ≤ z ∧ z ≤ 99) := by
  unfold rk; rw [Bool.and_eq_true, Bool.and_eq_true, Bool.and_eq_true, wi_iff, wi_iff, wi_iff, wi_iff]
theorem rk_yes {k v a z : Int} (h : (0 ≤ k ∧ k ≤ 3) ∧ (1 ≤ v ∧ v ≤ 1000000000000000) ∧ (0 ≤ a ∧ a ≤ 200) ∧ (0 ≤ z ∧ z ≤ 99)) : rk k v a z = true := rk_iff.2 h
theorem rk_no {k v a z : Int} (h : ¬ ((0 ≤ k ∧ k ≤ 3) ∧ (1 ≤ v ∧ v ≤ 1000000000000000) ∧ (0 ≤ a ∧ a ≤ 200) ∧ (0 ≤ z ∧ z ≤ 99))) : rk k v a z = false := by
  cases e : rk k v a z
  · rfl
  · exact absurd (rk_iff.1 e) h

theorem drop_get {α : Type} {l : List α} {k : Nat} {x : α} (h : l[k]? = some x) : l.drop k = x :: l.drop (k + 1) := by
  obtain ⟨hk, rfl⟩ := List.getElem?_eq_some_iff.1 h
  exact List.drop_eq_getElem_cons hk
theorem take_get {α : Type} {l : List α} {k : Nat} {x : α} (h : l[k]? = some x) : l.take (k + 1) = l.take k ++ [x] := by
  obtain ⟨hk, rfl⟩ := List.getElem?_eq_some_iff.1 h
  exact List.take_succ_eq_append_getElem hk

end Ba
