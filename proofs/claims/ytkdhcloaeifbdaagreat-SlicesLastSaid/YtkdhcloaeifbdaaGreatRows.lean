/-
  No cell of these rows narrows 'for every input' (looked for: loops, veiled, ifaces, maps, wideKeys, modest, calm, conditions, laid).
  DERIVED. THE GIVEN ROWS OF THIS SEAT. 7 by the template 'for every input the law returns true; each argument reads behind the call as it read before'; 0 by the template 'total and deterministic' (their statements: YtkdhcloaeifbdaaGreatTotals.lean).
  GIVEN WITH THE SEED: the statements are not yours to turn. If you find one false, say at which input.
  Laid BY PROGRAM, IN A SANDBOX (cutbox-rows.mjs): the forced cells as the released guide's own fill.sh prints them over the translation 5a6b041e0f46ac6a… (all of the seat's roots in one cut). By AI agents, Wed Nov 11 2026. No macro, syntax, notation, axiom, sorry.
-/
import Derived.Test.YtkdhcloaeifbdaaGreatChecked
import GoSem.Claim
import GoSem.ClaimJoined
import GoSem.ClaimMapViews
import Derived.JoinedTies
import Derived.KernelRfl
namespace Go.Proofs.YtkdhcloaeifbdaaGreat
/- THE CELL 'sum', in the pinned program and in every row, IS THE sha256 OF THE DUMP (.gsa) THAT YtkdhcloaeifbdaaGreatProg.lean LOADS. Nothing in Lean hashes anything: it is a label: what it is worth is what the hold of that sum in a sandbox is worth. -/
noncomputable def Tryz.pinned : Pinned := { name := "ytkdhcloaeifbdaagreat", sum := "5a6b041e0f46ac6ae85e332c7aeb1911d812b0f8ecac27348cc66655563a7ab0", checked := Tryz.checked }
namespace Rows
def none {H : Type} : Left H := { results := [], args := [] }

/-- 'bordereaulaw12.SlicesTells': WHATEVER THE INPUT: true; the input reads as it did. -/
def slicesTellsSpec : ChangeSpec := { name := "slicesTells", fn := fun _ => fun
  | [d1, d2] => { results := [.lit (.bool true)], args := [d1, d2] }
  | _ => none }
def slicesTellsRow : OpenClaim := { program := "ytkdhcloaeifbdaagreat", sum := "5a6b041e0f46ac6ae85e332c7aeb1911d812b0f8ecac27348cc66655563a7ab0", func := "bordereau/bordereaulaw12.SlicesTells", spec := "slicesTells", unfollowed := true, recurses := true, named := ["math/bits.divideError", "math/bits.overflowError"], apart := false }
def SlicesTellsSaid : Prop := slicesTellsRow.holds Tryz.pinned (OpenSpec.ofChange slicesTellsSpec)

/-- ITS FALSE NEIGHBOUR: 'it returns false'. Refute it at one input. -/
def slicesTellsWrong : ChangeSpec := { name := "slicesTells", fn := fun _ => fun
  | [d1, d2] => { results := [.lit (.bool false)], args := [d1, d2] }
  | _ => none }
def SlicesTellsWrongFalsely : Prop := slicesTellsRow.holds Tryz.pinned (OpenSpec.ofChange slicesTellsWrong)

/-- 'bordereaulaw12.SlicesAt': WHATEVER THE INPUT: true; the input reads as it did. -/
def slicesAtSpec : ChangeSpec := { name := "slicesAt", fn := fun _ => fun
  | [d1, d2, d3] => { results := [.lit (.bool true)], args := [d1, d2, d3] }
  | _ => none }
def slicesAtRow : OpenClaim := { program := "ytkdhcloaeifbdaagreat", sum := "5a6b041e0f46ac6ae85e332c7aeb1911d812b0f8ecac27348cc66655563a7ab0", func := "bordereau/bordereaulaw12.SlicesAt", spec := "slicesAt", unfollowed := true, recurses := true, named := ["math/bits.divideError", "math/bits.overflowError"], apart := false }
def SlicesAtSaid : Prop := slicesAtRow.holds Tryz.pinned (OpenSpec.ofChange slicesAtSpec)

/-- ITS FALSE NEIGHBOUR: 'it returns false'. Refute it at one input. -/
def slicesAtWrong : ChangeSpec := { name := "slicesAt", fn := fun _ => fun
  | [d1, d2, d3] => { results := [.lit (.bool false)], args := [d1, d2, d3] }
  | _ => none }
def SlicesAtWrongFalsely : Prop := slicesAtRow.holds Tryz.pinned (OpenSpec.ofChange slicesAtWrong)

/-- 'bordereaulaw12.SlicesWhole': WHATEVER THE INPUT: true; the input reads as it did. -/
def slicesWholeSpec : ChangeSpec := { name := "slicesWhole", fn := fun _ => fun
  | [d1, d2, d3] => { results := [.lit (.bool true)], args := [d1, d2, d3] }
  | _ => none }
def slicesWholeRow : OpenClaim := { program := "ytkdhcloaeifbdaagreat", sum := "5a6b041e0f46ac6ae85e332c7aeb1911d812b0f8ecac27348cc66655563a7ab0", func := "bordereau/bordereaulaw12.SlicesWhole", spec := "slicesWhole", unfollowed := true, recurses := true, named := ["math/bits.divideError", "math/bits.overflowError"], apart := false }
def SlicesWholeSaid : Prop := slicesWholeRow.holds Tryz.pinned (OpenSpec.ofChange slicesWholeSpec)

/-- ITS FALSE NEIGHBOUR: 'it returns false'. Refute it at one input. -/
def slicesWholeWrong : ChangeSpec := { name := "slicesWhole", fn := fun _ => fun
  | [d1, d2, d3] => { results := [.lit (.bool false)], args := [d1, d2, d3] }
  | _ => none }
def SlicesWholeWrongFalsely : Prop := slicesWholeRow.holds Tryz.pinned (OpenSpec.ofChange slicesWholeWrong)

/-- 'bordereaulaw12.SlicesOrder': WHATEVER THE INPUT: true; the input reads as it did. -/
def slicesOrderSpec : ChangeSpec := { name := "slicesOrder", fn := fun _ => fun
  | [d1, d2] => { results := [.lit (.bool true)], args := [d1, d2] }
  | _ => none }
def slicesOrderRow : OpenClaim := { program := "ytkdhcloaeifbdaagreat", sum := "5a6b041e0f46ac6ae85e332c7aeb1911d812b0f8ecac27348cc66655563a7ab0", func := "bordereau/bordereaulaw12.SlicesOrder", spec := "slicesOrder", unfollowed := true, recurses := true, named := ["math/bits.divideError", "math/bits.overflowError"], apart := false }
def SlicesOrderSaid : Prop := slicesOrderRow.holds Tryz.pinned (OpenSpec.ofChange slicesOrderSpec)

/-- ITS FALSE NEIGHBOUR: 'it returns false'. Refute it at one input. -/
def slicesOrderWrong : ChangeSpec := { name := "slicesOrder", fn := fun _ => fun
  | [d1, d2] => { results := [.lit (.bool false)], args := [d1, d2] }
  | _ => none }
def SlicesOrderWrongFalsely : Prop := slicesOrderRow.holds Tryz.pinned (OpenSpec.ofChange slicesOrderWrong)

/-- 'bordereaulaw12.SlicesAhead': WHATEVER THE INPUT: true; the input reads as it did. -/
def slicesAheadSpec : ChangeSpec := { name := "slicesAhead", fn := fun _ => fun
  | [d1, d2, d3, d4] => { results := [.lit (.bool true)], args := [d1, d2, d3, d4] }
  | _ => none }
def slicesAheadRow : OpenClaim := { program := "ytkdhcloaeifbdaagreat", sum := "5a6b041e0f46ac6ae85e332c7aeb1911d812b0f8ecac27348cc66655563a7ab0", func := "bordereau/bordereaulaw12.SlicesAhead", spec := "slicesAhead", unfollowed := true, recurses := true, named := ["math/bits.divideError", "math/bits.overflowError"], apart := false }
def SlicesAheadSaid : Prop := slicesAheadRow.holds Tryz.pinned (OpenSpec.ofChange slicesAheadSpec)

/-- ITS FALSE NEIGHBOUR: 'it returns false'. Refute it at one input. -/
def slicesAheadWrong : ChangeSpec := { name := "slicesAhead", fn := fun _ => fun
  | [d1, d2, d3, d4] => { results := [.lit (.bool false)], args := [d1, d2, d3, d4] }
  | _ => none }
def SlicesAheadWrongFalsely : Prop := slicesAheadRow.holds Tryz.pinned (OpenSpec.ofChange slicesAheadWrong)

/-- 'bordereaulaw12.SlicesCosts': WHATEVER THE INPUT: true; the input reads as it did. -/
def slicesCostsSpec : ChangeSpec := { name := "slicesCosts", fn := fun _ => fun
  | [d1, d2, d3] => { results := [.lit (.bool true)], args := [d1, d2, d3] }
  | _ => none }
def slicesCostsRow : OpenClaim := { program := "ytkdhcloaeifbdaagreat", sum := "5a6b041e0f46ac6ae85e332c7aeb1911d812b0f8ecac27348cc66655563a7ab0", func := "bordereau/bordereaulaw12.SlicesCosts", spec := "slicesCosts", unfollowed := true, recurses := true, named := ["math/bits.divideError", "math/bits.overflowError"], apart := false }
def SlicesCostsSaid : Prop := slicesCostsRow.holds Tryz.pinned (OpenSpec.ofChange slicesCostsSpec)

/-- ITS FALSE NEIGHBOUR: 'it returns false'. Refute it at one input. -/
def slicesCostsWrong : ChangeSpec := { name := "slicesCosts", fn := fun _ => fun
  | [d1, d2, d3] => { results := [.lit (.bool false)], args := [d1, d2, d3] }
  | _ => none }
def SlicesCostsWrongFalsely : Prop := slicesCostsRow.holds Tryz.pinned (OpenSpec.ofChange slicesCostsWrong)

/-- 'bordereaulaw12.SlicesLast': WHATEVER THE INPUT: true; the input reads as it did. -/
def slicesLastSpec : ChangeSpec := { name := "slicesLast", fn := fun _ => fun
  | [d1, d2] => { results := [.lit (.bool true)], args := [d1, d2] }
  | _ => none }
def slicesLastRow : OpenClaim := { program := "ytkdhcloaeifbdaagreat", sum := "5a6b041e0f46ac6ae85e332c7aeb1911d812b0f8ecac27348cc66655563a7ab0", func := "bordereau/bordereaulaw12.SlicesLast", spec := "slicesLast", unfollowed := true, recurses := true, named := ["math/bits.divideError", "math/bits.overflowError"], apart := false }
def SlicesLastSaid : Prop := slicesLastRow.holds Tryz.pinned (OpenSpec.ofChange slicesLastSpec)

/-- ITS FALSE NEIGHBOUR: 'it returns false'. Refute it at one input. -/
def slicesLastWrong : ChangeSpec := { name := "slicesLast", fn := fun _ => fun
  | [d1, d2] => { results := [.lit (.bool false)], args := [d1, d2] }
  | _ => none }
def SlicesLastWrongFalsely : Prop := slicesLastRow.holds Tryz.pinned (OpenSpec.ofChange slicesLastWrong)

/- THE SECOND FORM. 'bulk': how many values and letters a reading holds, each counted each time it is reached (what is shared counts as often as it is met; a slice's spare places count too). A statement '..UptoSaid' is the law's where the arguments, and the package variables that the reading takes, are together of bulk at most 1048576: NARROWER than '..Said'. Prove '..Said' where nothing that the law and all that it calls make is longer than what came in: it says more and counts as full. Else prove '..UptoSaid'. A law counts once. -/
mutual
def uptoBulk {H : Type} : DataW H → Nat
  | .lit (.string bytes) => bytes.length + 1
  | .lit _ => 1
  | .nil => 1
  | .ptr d => uptoBulk d + 1
  | .slice elems spare => uptoBulkAll elems + uptoBulkAll spare + 1
  | .agg parts => uptoBulkAll parts + 1
  | .iface _ d => uptoBulk d + 1
  | .map entries => uptoBulkEntries entries + 1
  | .held _ => 1
def uptoBulkAll {H : Type} : List (DataW H) → Nat
  | [] => 0
  | d :: r => uptoBulk d + uptoBulkAll r
def uptoBulkEntries {H : Type} : List (Lit × DataW H) → Nat
  | [] => 0
  | x :: r => uptoBulkEntry x + uptoBulkEntries r
def uptoBulkEntry {H : Type} : Lit × DataW H → Nat
  | (.string bytes, d) => bytes.length + uptoBulk d + 1
  | (_, d) => uptoBulk d + 1
 end
def uptoSmall : (H : Type) → List (DataW H) → Bool := fun _ ds => decide (uptoBulkAll ds ≤ 1048576)
def OpenSpec.upto (s : _root_.Go.ChangeSpec) : _root_.Go.OpenSpec := { _root_.Go.OpenSpec.ofChange s with cond := some uptoSmall }

/-- 'bordereaulaw12.SlicesTells', WHERE WHAT IT READS IS OF BULK AT MOST 1048576: true; the input reads as it did. -/
def slicesTellsUptoRow : OpenClaim := { program := "ytkdhcloaeifbdaagreat", sum := "5a6b041e0f46ac6ae85e332c7aeb1911d812b0f8ecac27348cc66655563a7ab0", func := "bordereau/bordereaulaw12.SlicesTells", spec := "slicesTells", unfollowed := true, recurses := true, named := ["math/bits.divideError", "math/bits.overflowError"], apart := false, narrowed := true }
def SlicesTellsUptoSaid : Prop := slicesTellsUptoRow.holds Tryz.pinned (OpenSpec.upto slicesTellsSpec)

/-- 'bordereaulaw12.SlicesAt', WHERE WHAT IT READS IS OF BULK AT MOST 1048576: true; the input reads as it did. -/
def slicesAtUptoRow : OpenClaim := { program := "ytkdhcloaeifbdaagreat", sum := "5a6b041e0f46ac6ae85e332c7aeb1911d812b0f8ecac27348cc66655563a7ab0", func := "bordereau/bordereaulaw12.SlicesAt", spec := "slicesAt", unfollowed := true, recurses := true, named := ["math/bits.divideError", "math/bits.overflowError"], apart := false, narrowed := true }
def SlicesAtUptoSaid : Prop := slicesAtUptoRow.holds Tryz.pinned (OpenSpec.upto slicesAtSpec)

/-- 'bordereaulaw12.SlicesWhole', WHERE WHAT IT READS IS OF BULK AT MOST 1048576: true; the input reads as it did. -/
def slicesWholeUptoRow : OpenClaim := { program := "ytkdhcloaeifbdaagreat", sum := "5a6b041e0f46ac6ae85e332c7aeb1911d812b0f8ecac27348cc66655563a7ab0", func := "bordereau/bordereaulaw12.SlicesWhole", spec := "slicesWhole", unfollowed := true, recurses := true, named := ["math/bits.divideError", "math/bits.overflowError"], apart := false, narrowed := true }
def SlicesWholeUptoSaid : Prop := slicesWholeUptoRow.holds Tryz.pinned (OpenSpec.upto slicesWholeSpec)

/-- 'bordereaulaw12.SlicesOrder', WHERE WHAT IT READS IS OF BULK AT MOST 1048576: true; the input reads as it did. -/
def slicesOrderUptoRow : OpenClaim := { program := "ytkdhcloaeifbdaagreat", sum := "5a6b041e0f46ac6ae85e332c7aeb1911d812b0f8ecac27348cc66655563a7ab0", func := "bordereau/bordereaulaw12.SlicesOrder", spec := "slicesOrder", unfollowed := true, recurses := true, named := ["math/bits.divideError", "math/bits.overflowError"], apart := false, narrowed := true }
def SlicesOrderUptoSaid : Prop := slicesOrderUptoRow.holds Tryz.pinned (OpenSpec.upto slicesOrderSpec)

/-- 'bordereaulaw12.SlicesAhead', WHERE WHAT IT READS IS OF BULK AT MOST 1048576: true; the input reads as it did. -/
def slicesAheadUptoRow : OpenClaim := { program := "ytkdhcloaeifbdaagreat", sum := "5a6b041e0f46ac6ae85e332c7aeb1911d812b0f8ecac27348cc66655563a7ab0", func := "bordereau/bordereaulaw12.SlicesAhead", spec := "slicesAhead", unfollowed := true, recurses := true, named := ["math/bits.divideError", "math/bits.overflowError"], apart := false, narrowed := true }
def SlicesAheadUptoSaid : Prop := slicesAheadUptoRow.holds Tryz.pinned (OpenSpec.upto slicesAheadSpec)

/-- 'bordereaulaw12.SlicesCosts', WHERE WHAT IT READS IS OF BULK AT MOST 1048576: true; the input reads as it did. -/
def slicesCostsUptoRow : OpenClaim := { program := "ytkdhcloaeifbdaagreat", sum := "5a6b041e0f46ac6ae85e332c7aeb1911d812b0f8ecac27348cc66655563a7ab0", func := "bordereau/bordereaulaw12.SlicesCosts", spec := "slicesCosts", unfollowed := true, recurses := true, named := ["math/bits.divideError", "math/bits.overflowError"], apart := false, narrowed := true }
def SlicesCostsUptoSaid : Prop := slicesCostsUptoRow.holds Tryz.pinned (OpenSpec.upto slicesCostsSpec)

/-- 'bordereaulaw12.SlicesLast', WHERE WHAT IT READS IS OF BULK AT MOST 1048576: true; the input reads as it did. -/
def slicesLastUptoRow : OpenClaim := { program := "ytkdhcloaeifbdaagreat", sum := "5a6b041e0f46ac6ae85e332c7aeb1911d812b0f8ecac27348cc66655563a7ab0", func := "bordereau/bordereaulaw12.SlicesLast", spec := "slicesLast", unfollowed := true, recurses := true, named := ["math/bits.divideError", "math/bits.overflowError"], apart := false, narrowed := true }
def SlicesLastUptoSaid : Prop := slicesLastUptoRow.holds Tryz.pinned (OpenSpec.upto slicesLastSpec)

end Rows
end Go.Proofs.YtkdhcloaeifbdaaGreat
