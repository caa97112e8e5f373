/-
  Covers without the model: which may be. Conditions: those of each theorem. No model.
-/
import Derived.Test.YtcnlllamldlnmaaRows
namespace Go.Proofs.Ytcnlllamldlnmaa
namespace Cv

/-- A cover: peril, limit, aggregate, deductible, share. -/
structure Co where
  p : Int
  l : Int
  g : Int
  d : Int
  s : Int

/-- A cover may be. -/
def Ok (c : Co) : Prop := 0 ≤ c.p ∧ c.p ≤ 7 ∧ 1 ≤ c.s ∧ c.s ≤ 10000 ∧ 0 ≤ c.d ∧ c.d < c.l ∧ c.l ≤ c.g ∧ c.g ≤ 1000000000000000
instance (c : Co) : Decidable (Ok c) := by unfold Ok; infer_instance
def ok (c : Co) : Bool := decide (Ok c)
theorem ok_yes {c : Co} (h : Ok c) : ok c = true := by simpa [ok] using h
theorem ok_no {c : Co} (h : ¬ Ok c) : ok c = false := by simpa [ok] using h
theorem ok_iff {c : Co} : ok c = true ↔ Ok c := by simp [ok]

end Cv
end Go.Proofs.Ytcnlllamldlnmaa
