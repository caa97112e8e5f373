/-
  No cell of these rows narrows 'for every input' (looked for: loops, veiled, ifaces, maps, wideKeys, modest, calm, conditions, laid).
  DERIVED. THE GIVEN ROWS OF THIS SEAT. 4 by the template 'for every input the law returns true; each argument reads behind the call as it read before'; 0 by the template 'total and deterministic' (their statements: YtjmbccdcnmmhgaaTotals.lean).
  GIVEN WITH THE SEED: the statements are not yours to turn. If you find one false, say at which input.
  Laid BY PROGRAM, IN A SANDBOX (cutbox-rows.mjs): the forced cells as the released guide's own fill.sh prints them over the translation 8dab86cca034f05e… (all of the seat's roots in one cut). By AI agents, Wed Nov 11 2026. No macro, syntax, notation, axiom, sorry.
-/
import Derived.Test.YtjmbccdcnmmhgaaChecked
import GoSem.Claim
import GoSem.ClaimJoined
import GoSem.ClaimMapViews
import Derived.JoinedTies
import Derived.KernelRfl
namespace Go.Proofs.Ytjmbccdcnmmhgaa
/- THE CELL 'sum', in the pinned program and in every row, IS THE sha256 OF THE DUMP (.gsa) THAT YtjmbccdcnmmhgaaProg.lean LOADS. Nothing in Lean hashes anything: it is a label: what it is worth is what the hold of that sum in a sandbox is worth. -/
noncomputable def Try.pinned : Pinned := { name := "ytjmbccdcnmmhgaa", sum := "8dab86cca034f05e4738e550e19c5bbdcf776bbdbeaf47711b3ffcb3f9b108a8", checked := Try.checked }
namespace Rows
def none {H : Type} : Left H := { results := [], args := [] }

/-- 'bordereaulaw14.AccrueRises': WHATEVER THE INPUT: true; the input reads as it did. -/
def accrueRisesSpec : ChangeSpec := { name := "accrueRises", fn := fun _ => fun
  | [d1, d2, d3] => { results := [.lit (.bool true)], args := [d1, d2, d3] }
  | _ => none }
def accrueRisesRow : OpenClaim := { program := "ytjmbccdcnmmhgaa", sum := "8dab86cca034f05e4738e550e19c5bbdcf776bbdbeaf47711b3ffcb3f9b108a8", func := "bordereau/bordereaulaw14.AccrueRises", spec := "accrueRises", unfollowed := true, recurses := true, named := ["math/bits.divideError", "math/bits.overflowError"], apart := false }
def AccrueRisesSaid : Prop := accrueRisesRow.holds Try.pinned (OpenSpec.ofChange accrueRisesSpec)

/-- ITS FALSE NEIGHBOUR: 'it returns false'. Refute it at one input. -/
def accrueRisesWrong : ChangeSpec := { name := "accrueRises", fn := fun _ => fun
  | [d1, d2, d3] => { results := [.lit (.bool false)], args := [d1, d2, d3] }
  | _ => none }
def AccrueRisesWrongFalsely : Prop := accrueRisesRow.holds Try.pinned (OpenSpec.ofChange accrueRisesWrong)

/-- 'bordereaulaw14.AccrueCuts': WHATEVER THE INPUT: true; the input reads as it did. -/
def accrueCutsSpec : ChangeSpec := { name := "accrueCuts", fn := fun _ => fun
  | [d1, d2, d3] => { results := [.lit (.bool true)], args := [d1, d2, d3] }
  | _ => none }
def accrueCutsRow : OpenClaim := { program := "ytjmbccdcnmmhgaa", sum := "8dab86cca034f05e4738e550e19c5bbdcf776bbdbeaf47711b3ffcb3f9b108a8", func := "bordereau/bordereaulaw14.AccrueCuts", spec := "accrueCuts", unfollowed := true, recurses := true, named := ["math/bits.divideError", "math/bits.overflowError"], apart := false }
def AccrueCutsSaid : Prop := accrueCutsRow.holds Try.pinned (OpenSpec.ofChange accrueCutsSpec)

/-- ITS FALSE NEIGHBOUR: 'it returns false'. Refute it at one input. -/
def accrueCutsWrong : ChangeSpec := { name := "accrueCuts", fn := fun _ => fun
  | [d1, d2, d3] => { results := [.lit (.bool false)], args := [d1, d2, d3] }
  | _ => none }
def AccrueCutsWrongFalsely : Prop := accrueCutsRow.holds Try.pinned (OpenSpec.ofChange accrueCutsWrong)

/-- 'bordereaulaw14.AccrueEven': WHATEVER THE INPUT: true; the input reads as it did. -/
def accrueEvenSpec : ChangeSpec := { name := "accrueEven", fn := fun _ => fun
  | [d1, d2] => { results := [.lit (.bool true)], args := [d1, d2] }
  | _ => none }
def accrueEvenRow : OpenClaim := { program := "ytjmbccdcnmmhgaa", sum := "8dab86cca034f05e4738e550e19c5bbdcf776bbdbeaf47711b3ffcb3f9b108a8", func := "bordereau/bordereaulaw14.AccrueEven", spec := "accrueEven", unfollowed := true, recurses := true, named := ["math/bits.divideError", "math/bits.overflowError"], apart := false }
def AccrueEvenSaid : Prop := accrueEvenRow.holds Try.pinned (OpenSpec.ofChange accrueEvenSpec)

/-- ITS FALSE NEIGHBOUR: 'it returns false'. Refute it at one input. -/
def accrueEvenWrong : ChangeSpec := { name := "accrueEven", fn := fun _ => fun
  | [d1, d2] => { results := [.lit (.bool false)], args := [d1, d2] }
  | _ => none }
def AccrueEvenWrongFalsely : Prop := accrueEvenRow.holds Try.pinned (OpenSpec.ofChange accrueEvenWrong)

/-- 'bordereaulaw14.AccrueOnce': WHATEVER THE INPUT: true; the input reads as it did. -/
def accrueOnceSpec : ChangeSpec := { name := "accrueOnce", fn := fun _ => fun
  | [d1, d2, d3, d4] => { results := [.lit (.bool true)], args := [d1, d2, d3, d4] }
  | _ => none }
def accrueOnceRow : OpenClaim := { program := "ytjmbccdcnmmhgaa", sum := "8dab86cca034f05e4738e550e19c5bbdcf776bbdbeaf47711b3ffcb3f9b108a8", func := "bordereau/bordereaulaw14.AccrueOnce", spec := "accrueOnce", unfollowed := true, recurses := true, named := ["math/bits.divideError", "math/bits.overflowError"], apart := false }
def AccrueOnceSaid : Prop := accrueOnceRow.holds Try.pinned (OpenSpec.ofChange accrueOnceSpec)

/-- ITS FALSE NEIGHBOUR: 'it returns false'. Refute it at one input. -/
def accrueOnceWrong : ChangeSpec := { name := "accrueOnce", fn := fun _ => fun
  | [d1, d2, d3, d4] => { results := [.lit (.bool false)], args := [d1, d2, d3, d4] }
  | _ => none }
def AccrueOnceWrongFalsely : Prop := accrueOnceRow.holds Try.pinned (OpenSpec.ofChange accrueOnceWrong)

/- THE SECOND FORM. 'bulk': how many values and letters a reading holds, each counted each time it is reached (what is shared counts as often as it is met; a slice's spare places count too). A statement '..UptoSaid' is the law's where the arguments, and the package variables that the reading takes, are together of bulk at most 1048576: NARROWER than '..Said'. Prove '..Said' where nothing that the law and all that it calls make is longer than what came in: it says more and counts as full. Else prove '..UptoSaid'. A law counts once. -/
mutual
def uptoBulk {H : Type} : DataW H → Nat
  | .lit (.string bytes) => bytes.length + 1
  | .lit _ => 1
  | .nil => 1
  | .ptr d => uptoBulk d + 1
  | .slice elems spare => uptoBulkAll elems + uptoBulkAll spare + 1
  | .agg parts => uptoBulkAll parts + 1
  | .iface _ d => uptoBulk d + 1
  | .map entries => uptoBulkEntries entries + 1
  | .held _ => 1
def uptoBulkAll {H : Type} : List (DataW H) → Nat
  | [] => 0
  | d :: r => uptoBulk d + uptoBulkAll r
def uptoBulkEntries {H : Type} : List (Lit × DataW H) → Nat
  | [] => 0
  | x :: r => uptoBulkEntry x + uptoBulkEntries r
def uptoBulkEntry {H : Type} : Lit × DataW H → Nat
  | (.string bytes, d) => bytes.length + uptoBulk d + 1
  | (_, d) => uptoBulk d + 1
 end
def uptoSmall : (H : Type) → List (DataW H) → Bool := fun _ ds => decide (uptoBulkAll ds ≤ 1048576)
def OpenSpec.upto (s : _root_.Go.ChangeSpec) : _root_.Go.OpenSpec := { _root_.Go.OpenSpec.ofChange s with cond := some uptoSmall }

/-- 'bordereaulaw14.AccrueRises', WHERE WHAT IT READS IS OF BULK AT MOST 1048576: true; the input reads as it did. -/
def accrueRisesUptoRow : OpenClaim := { program := "ytjmbccdcnmmhgaa", sum := "8dab86cca034f05e4738e550e19c5bbdcf776bbdbeaf47711b3ffcb3f9b108a8", func := "bordereau/bordereaulaw14.AccrueRises", spec := "accrueRises", unfollowed := true, recurses := true, named := ["math/bits.divideError", "math/bits.overflowError"], apart := false, narrowed := true }
def AccrueRisesUptoSaid : Prop := accrueRisesUptoRow.holds Try.pinned (OpenSpec.upto accrueRisesSpec)

/-- 'bordereaulaw14.AccrueCuts', WHERE WHAT IT READS IS OF BULK AT MOST 1048576: true; the input reads as it did. -/
def accrueCutsUptoRow : OpenClaim := { program := "ytjmbccdcnmmhgaa", sum := "8dab86cca034f05e4738e550e19c5bbdcf776bbdbeaf47711b3ffcb3f9b108a8", func := "bordereau/bordereaulaw14.AccrueCuts", spec := "accrueCuts", unfollowed := true, recurses := true, named := ["math/bits.divideError", "math/bits.overflowError"], apart := false, narrowed := true }
def AccrueCutsUptoSaid : Prop := accrueCutsUptoRow.holds Try.pinned (OpenSpec.upto accrueCutsSpec)

/-- 'bordereaulaw14.AccrueEven', WHERE WHAT IT READS IS OF BULK AT MOST 1048576: true; the input reads as it did. -/
def accrueEvenUptoRow : OpenClaim := { program := "ytjmbccdcnmmhgaa", sum := "8dab86cca034f05e4738e550e19c5bbdcf776bbdbeaf47711b3ffcb3f9b108a8", func := "bordereau/bordereaulaw14.AccrueEven", spec := "accrueEven", unfollowed := true, recurses := true, named := ["math/bits.divideError", "math/bits.overflowError"], apart := false, narrowed := true }
def AccrueEvenUptoSaid : Prop := accrueEvenUptoRow.holds Try.pinned (OpenSpec.upto accrueEvenSpec)

/-- 'bordereaulaw14.AccrueOnce', WHERE WHAT IT READS IS OF BULK AT MOST 1048576: true; the input reads as it did. -/
def accrueOnceUptoRow : OpenClaim := { program := "ytjmbccdcnmmhgaa", sum := "8dab86cca034f05e4738e550e19c5bbdcf776bbdbeaf47711b3ffcb3f9b108a8", func := "bordereau/bordereaulaw14.AccrueOnce", spec := "accrueOnce", unfollowed := true, recurses := true, named := ["math/bits.divideError", "math/bits.overflowError"], apart := false, narrowed := true }
def AccrueOnceUptoSaid : Prop := accrueOnceUptoRow.holds Try.pinned (OpenSpec.upto accrueOnceSpec)

end Rows
end Go.Proofs.Ytjmbccdcnmmhgaa
