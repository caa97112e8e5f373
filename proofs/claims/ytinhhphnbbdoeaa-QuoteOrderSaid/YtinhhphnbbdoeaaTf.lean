/-
  Versions without the model: which may be. Conditions: those of each theorem.
-/
import Derived.Test.YtinhhphnbbdoeaaBa
namespace Tf
open Ba

/-- A version: its numbers and its lists. -/
structure Ve where
  fr : Int
  b0 : Int
  b1 : Int
  b2 : Int
  b3 : Int
  ag : List Pr
  zn : List Int
  pe : List Int
  mn : Int

def zeroV : Ve := ⟨0, 0, 0, 0, 0, [], [], [], 0⟩

/-- All are factors. -/
def fac : List Int → Bool
  | [] => true
  | x :: xs => wi x 0 100000 && fac xs
theorem fac_no {x : Int} {xs : List Int} (h : wi x 0 100000 = false) : fac (x :: xs) = false := by simp only [fac]; rw [h]; rfl
theorem fac_yes {x : Int} {xs : List Int} (h : wi x 0 100000 = true) : fac (x :: xs) = fac xs := by simp only [fac]; rw [h]; rfl

/-- A version may be. -/
def ver (v : Ve) : Bool := wi v.fr 1 292194 && (wi v.mn 0 1000000000000000 && (wi (v.zn.length : Int) 1 100 && (decide (v.pe.length = 8) && (fac [v.b0, v.b1, v.b2, v.b3] && (fac v.zn && (fac v.pe && bds v.ag))))))
theorem ver_fr {v : Ve} (h : ver v = true) : 1 ≤ v.fr ∧ v.fr ≤ 292194 := by
  unfold ver at h
  rw [Bool.and_eq_true] at h
  exact wi_iff.1 h.1

end Tf
