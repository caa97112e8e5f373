/-
  What a slice of ints that came in reads as, nil told apart. Conditions: none.
-/
import Derived.Test.YtdamojbjamolaaaRefSplit
namespace Go.Proofs.Ytdamojbjamolaaa
open Go.RowKit
namespace Num

/-- A slice of ints that came in: it reads as this list; each fits its kind; a nil one has no room. -/
structure GivenN (w : World) (A : Option Addr) (n c : Nat) (xs : List Int) : Prop where
  given : Given w A n c xs
  noroom : A = none → n = 0 ∧ c = 0

theorem GivenN.nil {w : World} : GivenN w none 0 0 [] := ⟨Given.nil, fun _ => ⟨rfl, rfl⟩⟩
theorem GivenN.of {w : World} {x : Addr} {len cap : Nat} {zs : List Int} (hl : len ≤ cap) (hm : cap ≤ maxLen) (hz : zs.length = cap)
    (hcell : ∀ i, i < zs.length → w.cell? (x.add i) = some (.int .i64 (zs.getD i 0))) (hw : ∀ n ∈ zs, (Lit.int .i64 n).wf = true) : GivenN w (some x) len cap (zs.take len) :=
  ⟨Given.of hl hm hz hcell hw, fun h => by cases h⟩

end Num
end Go.Proofs.Ytdamojbjamolaaa
