/-
  What a slice of ints that came in reads as; an int's bounds. Conditions: none.
-/
import Derived.Test.YtdamojbjamolaaaAlive
import Derived.ProofKit
import Derived.OpenShut
import Derived.ChangeOld
import Derived.Below
namespace Go.Proofs.Ytdamojbjamolaaa
open Go.ChangeShapes Go.WideShapes Go.ChangeAt Go.RowKit
namespace Num

theorem i64_of {n : Int} (h : (Lit.int .i64 n).wf = true) : -9223372036854775808 ≤ n ∧ n ≤ 9223372036854775807 := by
  simpa [Lit.wf, IntKind.min, IntKind.max, IntKind.signed, IntKind.bits] using h

/-- A slice of ints that came in: it reads as this list; each fits its kind. -/
structure Given (w : World) (A : Option Addr) (n c : Nat) (xs : List Int) : Prop where
  ints : Ints w w.heap.size A n xs
  cap : n ≤ c
  len : n ≤ maxLen
  fits : ∀ x ∈ xs, -9223372036854775808 ≤ x ∧ x ≤ 9223372036854775807

theorem Given.nil {w : World} : Given w none 0 0 [] := ⟨Ints.nil, Nat.le_refl _, by unfold maxLen; omega, fun _ h => by cases h⟩
theorem Given.of {w : World} {x : Addr} {len cap : Nat} {zs : List Int} (hl : len ≤ cap) (hm : cap ≤ maxLen) (hz : zs.length = cap)
    (hcell : ∀ i, i < zs.length → w.cell? (x.add i) = some (.int .i64 (zs.getD i 0))) (hw : ∀ n ∈ zs, (Lit.int .i64 n).wf = true) : Given w (some x) len cap (zs.take len) := by
  refine ⟨⟨by rw [List.length_take]; omega, fun h => ⟨x, rfl, ?_, fun j y hj => ?_⟩⟩, hl, Nat.le_trans hl hm, fun y hy => i64_of (hw y (List.mem_of_mem_take hy))⟩
  · have h0 := hcell 0 (by omega)
    have := World.block_lt_of_cell? _ _ h0
    rwa [add_block] at this
  · obtain ⟨hlt, e⟩ := List.getElem?_eq_some_iff.1 hj
    rw [List.length_take] at hlt
    rw [hcell j (by omega)]
    rw [List.getElem_take] at e
    simp only [List.getD_eq_getElem?_getD, List.getElem?_eq_getElem (show j < zs.length by omega), Option.getD_some, e]

end Num
end Go.Proofs.Ytdamojbjamolaaa
