/-
  No cell of these rows narrows 'for every input' (looked for: loops, veiled, ifaces, maps, wideKeys, modest, calm, conditions, laid).
  DERIVED. THE GIVEN ROWS OF THIS SEAT. 7 by the template 'for every input the law returns true; each argument reads behind the call as it read before'; 0 by the template 'total and deterministic' (their statements: YtfidmphajohljaaGreatTotals.lean).
  GIVEN WITH THE SEED: the statements are not yours to turn. If you find one false, say at which input.
  Laid BY PROGRAM, IN A SANDBOX (cutbox-rows.mjs): the forced cells as the released guide's own fill.sh prints them over the translation 9e7591870616e4fe… (all of the seat's roots in one cut). By AI agents, Wed Nov 11 2026. No macro, syntax, notation, axiom, sorry.
-/
import Derived.Test.YtfidmphajohljaaGreatChecked
import GoSem.Claim
import GoSem.ClaimJoined
import GoSem.ClaimMapViews
import Derived.JoinedTies
import Derived.KernelRfl
namespace Go.Proofs.YtfidmphajohljaaGreat
/- THE CELL 'sum', in the pinned program and in every row, IS THE sha256 OF THE DUMP (.gsa) THAT YtfidmphajohljaaGreatProg.lean LOADS. Nothing in Lean hashes anything: it is a label: what it is worth is what the hold of that sum in a sandbox is worth. -/
noncomputable def Tryz.pinned : Pinned := { name := "ytfidmphajohljaagreat", sum := "9e7591870616e4fee80ebc852b47d59c12965be34b8c4585e8e6fd8b74bae2ed", checked := Tryz.checked }
namespace Rows
def none {H : Type} : Left H := { results := [], args := [] }

/-- 'bordereaulaw15.RefundKept': WHATEVER THE INPUT: true; the input reads as it did. -/
def refundKeptSpec : ChangeSpec := { name := "refundKept", fn := fun _ => fun
  | [d1, d2] => { results := [.lit (.bool true)], args := [d1, d2] }
  | _ => none }
def refundKeptRow : OpenClaim := { program := "ytfidmphajohljaagreat", sum := "9e7591870616e4fee80ebc852b47d59c12965be34b8c4585e8e6fd8b74bae2ed", func := "bordereau/bordereaulaw15.RefundKept", spec := "refundKept", unfollowed := true, recurses := true, named := ["math/bits.divideError", "math/bits.overflowError"], apart := false }
def RefundKeptSaid : Prop := refundKeptRow.holds Tryz.pinned (OpenSpec.ofChange refundKeptSpec)

/-- ITS FALSE NEIGHBOUR: 'it returns false'. Refute it at one input. -/
def refundKeptWrong : ChangeSpec := { name := "refundKept", fn := fun _ => fun
  | [d1, d2] => { results := [.lit (.bool false)], args := [d1, d2] }
  | _ => none }
def RefundKeptWrongFalsely : Prop := refundKeptRow.holds Tryz.pinned (OpenSpec.ofChange refundKeptWrong)

/-- 'bordereaulaw15.RefundDue': WHATEVER THE INPUT: true; the input reads as it did. -/
def refundDueSpec : ChangeSpec := { name := "refundDue", fn := fun _ => fun
  | [d1, d2] => { results := [.lit (.bool true)], args := [d1, d2] }
  | _ => none }
def refundDueRow : OpenClaim := { program := "ytfidmphajohljaagreat", sum := "9e7591870616e4fee80ebc852b47d59c12965be34b8c4585e8e6fd8b74bae2ed", func := "bordereau/bordereaulaw15.RefundDue", spec := "refundDue", unfollowed := true, recurses := true, named := ["math/bits.divideError", "math/bits.overflowError"], apart := false }
def RefundDueSaid : Prop := refundDueRow.holds Tryz.pinned (OpenSpec.ofChange refundDueSpec)

/-- ITS FALSE NEIGHBOUR: 'it returns false'. Refute it at one input. -/
def refundDueWrong : ChangeSpec := { name := "refundDue", fn := fun _ => fun
  | [d1, d2] => { results := [.lit (.bool false)], args := [d1, d2] }
  | _ => none }
def RefundDueWrongFalsely : Prop := refundDueRow.holds Tryz.pinned (OpenSpec.ofChange refundDueWrong)

/-- 'bordereaulaw15.RefundGiven': WHATEVER THE INPUT: true; the input reads as it did. -/
def refundGivenSpec : ChangeSpec := { name := "refundGiven", fn := fun _ => fun
  | [d1, d2, d3] => { results := [.lit (.bool true)], args := [d1, d2, d3] }
  | _ => none }
def refundGivenRow : OpenClaim := { program := "ytfidmphajohljaagreat", sum := "9e7591870616e4fee80ebc852b47d59c12965be34b8c4585e8e6fd8b74bae2ed", func := "bordereau/bordereaulaw15.RefundGiven", spec := "refundGiven", unfollowed := true, recurses := true, named := ["math/bits.divideError", "math/bits.overflowError"], apart := false }
def RefundGivenSaid : Prop := refundGivenRow.holds Tryz.pinned (OpenSpec.ofChange refundGivenSpec)

/-- ITS FALSE NEIGHBOUR: 'it returns false'. Refute it at one input. -/
def refundGivenWrong : ChangeSpec := { name := "refundGiven", fn := fun _ => fun
  | [d1, d2, d3] => { results := [.lit (.bool false)], args := [d1, d2, d3] }
  | _ => none }
def RefundGivenWrongFalsely : Prop := refundGivenRow.holds Tryz.pinned (OpenSpec.ofChange refundGivenWrong)

/-- 'bordereaulaw15.RefundDays': WHATEVER THE INPUT: true; the input reads as it did. -/
def refundDaysSpec : ChangeSpec := { name := "refundDays", fn := fun _ => fun
  | [d1, d2, d3] => { results := [.lit (.bool true)], args := [d1, d2, d3] }
  | _ => none }
def refundDaysRow : OpenClaim := { program := "ytfidmphajohljaagreat", sum := "9e7591870616e4fee80ebc852b47d59c12965be34b8c4585e8e6fd8b74bae2ed", func := "bordereau/bordereaulaw15.RefundDays", spec := "refundDays", unfollowed := true, recurses := true, named := ["math/bits.divideError", "math/bits.overflowError"], apart := false }
def RefundDaysSaid : Prop := refundDaysRow.holds Tryz.pinned (OpenSpec.ofChange refundDaysSpec)

/-- ITS FALSE NEIGHBOUR: 'it returns false'. Refute it at one input. -/
def refundDaysWrong : ChangeSpec := { name := "refundDays", fn := fun _ => fun
  | [d1, d2, d3] => { results := [.lit (.bool false)], args := [d1, d2, d3] }
  | _ => none }
def RefundDaysWrongFalsely : Prop := refundDaysRow.holds Tryz.pinned (OpenSpec.ofChange refundDaysWrong)

/-- 'bordereaulaw15.RefundBack': WHATEVER THE INPUT: true; the input reads as it did. -/
def refundBackSpec : ChangeSpec := { name := "refundBack", fn := fun _ => fun
  | [d1, d2, d3] => { results := [.lit (.bool true)], args := [d1, d2, d3] }
  | _ => none }
def refundBackRow : OpenClaim := { program := "ytfidmphajohljaagreat", sum := "9e7591870616e4fee80ebc852b47d59c12965be34b8c4585e8e6fd8b74bae2ed", func := "bordereau/bordereaulaw15.RefundBack", spec := "refundBack", unfollowed := true, recurses := true, named := ["math/bits.divideError", "math/bits.overflowError"], apart := false }
def RefundBackSaid : Prop := refundBackRow.holds Tryz.pinned (OpenSpec.ofChange refundBackSpec)

/-- ITS FALSE NEIGHBOUR: 'it returns false'. Refute it at one input. -/
def refundBackWrong : ChangeSpec := { name := "refundBack", fn := fun _ => fun
  | [d1, d2, d3] => { results := [.lit (.bool false)], args := [d1, d2, d3] }
  | _ => none }
def RefundBackWrongFalsely : Prop := refundBackRow.holds Tryz.pinned (OpenSpec.ofChange refundBackWrong)

/-- 'bordereaulaw15.RefundSums': WHATEVER THE INPUT: true; the input reads as it did. -/
def refundSumsSpec : ChangeSpec := { name := "refundSums", fn := fun _ => fun
  | [d1, d2, d3] => { results := [.lit (.bool true)], args := [d1, d2, d3] }
  | _ => none }
def refundSumsRow : OpenClaim := { program := "ytfidmphajohljaagreat", sum := "9e7591870616e4fee80ebc852b47d59c12965be34b8c4585e8e6fd8b74bae2ed", func := "bordereau/bordereaulaw15.RefundSums", spec := "refundSums", unfollowed := true, recurses := true, named := ["math/bits.divideError", "math/bits.overflowError"], apart := false }
def RefundSumsSaid : Prop := refundSumsRow.holds Tryz.pinned (OpenSpec.ofChange refundSumsSpec)

/-- ITS FALSE NEIGHBOUR: 'it returns false'. Refute it at one input. -/
def refundSumsWrong : ChangeSpec := { name := "refundSums", fn := fun _ => fun
  | [d1, d2, d3] => { results := [.lit (.bool false)], args := [d1, d2, d3] }
  | _ => none }
def RefundSumsWrongFalsely : Prop := refundSumsRow.holds Tryz.pinned (OpenSpec.ofChange refundSumsWrong)

/-- 'bordereaulaw15.RefundLeast': WHATEVER THE INPUT: true; the input reads as it did. -/
def refundLeastSpec : ChangeSpec := { name := "refundLeast", fn := fun _ => fun
  | [d1, d2] => { results := [.lit (.bool true)], args := [d1, d2] }
  | _ => none }
def refundLeastRow : OpenClaim := { program := "ytfidmphajohljaagreat", sum := "9e7591870616e4fee80ebc852b47d59c12965be34b8c4585e8e6fd8b74bae2ed", func := "bordereau/bordereaulaw15.RefundLeast", spec := "refundLeast", unfollowed := true, recurses := true, named := ["math/bits.divideError", "math/bits.overflowError"], apart := false }
def RefundLeastSaid : Prop := refundLeastRow.holds Tryz.pinned (OpenSpec.ofChange refundLeastSpec)

/-- ITS FALSE NEIGHBOUR: 'it returns false'. Refute it at one input. -/
def refundLeastWrong : ChangeSpec := { name := "refundLeast", fn := fun _ => fun
  | [d1, d2] => { results := [.lit (.bool false)], args := [d1, d2] }
  | _ => none }
def RefundLeastWrongFalsely : Prop := refundLeastRow.holds Tryz.pinned (OpenSpec.ofChange refundLeastWrong)

/- THE SECOND FORM. 'bulk': how many values and letters a reading holds, each counted each time it is reached (what is shared counts as often as it is met; a slice's spare places count too). A statement '..UptoSaid' is the law's where the arguments, and the package variables that the reading takes, are together of bulk at most 1048576: NARROWER than '..Said'. Prove '..Said' where nothing that the law and all that it calls make is longer than what came in: it says more and counts as full. Else prove '..UptoSaid'. A law counts once. -/
mutual
def uptoBulk {H : Type} : DataW H → Nat
  | .lit (.string bytes) => bytes.length + 1
  | .lit _ => 1
  | .nil => 1
  | .ptr d => uptoBulk d + 1
  | .slice elems spare => uptoBulkAll elems + uptoBulkAll spare + 1
  | .agg parts => uptoBulkAll parts + 1
  | .iface _ d => uptoBulk d + 1
  | .map entries => uptoBulkEntries entries + 1
  | .held _ => 1
def uptoBulkAll {H : Type} : List (DataW H) → Nat
  | [] => 0
  | d :: r => uptoBulk d + uptoBulkAll r
def uptoBulkEntries {H : Type} : List (Lit × DataW H) → Nat
  | [] => 0
  | x :: r => uptoBulkEntry x + uptoBulkEntries r
def uptoBulkEntry {H : Type} : Lit × DataW H → Nat
  | (.string bytes, d) => bytes.length + uptoBulk d + 1
  | (_, d) => uptoBulk d + 1
 end
def uptoSmall : (H : Type) → List (DataW H) → Bool := fun _ ds => decide (uptoBulkAll ds ≤ 1048576)
def OpenSpec.upto (s : _root_.Go.ChangeSpec) : _root_.Go.OpenSpec := { _root_.Go.OpenSpec.ofChange s with cond := some uptoSmall }

/-- 'bordereaulaw15.RefundKept', WHERE WHAT IT READS IS OF BULK AT MOST 1048576: true; the input reads as it did. -/
def refundKeptUptoRow : OpenClaim := { program := "ytfidmphajohljaagreat", sum := "9e7591870616e4fee80ebc852b47d59c12965be34b8c4585e8e6fd8b74bae2ed", func := "bordereau/bordereaulaw15.RefundKept", spec := "refundKept", unfollowed := true, recurses := true, named := ["math/bits.divideError", "math/bits.overflowError"], apart := false, narrowed := true }
def RefundKeptUptoSaid : Prop := refundKeptUptoRow.holds Tryz.pinned (OpenSpec.upto refundKeptSpec)

/-- 'bordereaulaw15.RefundDue', WHERE WHAT IT READS IS OF BULK AT MOST 1048576: true; the input reads as it did. -/
def refundDueUptoRow : OpenClaim := { program := "ytfidmphajohljaagreat", sum := "9e7591870616e4fee80ebc852b47d59c12965be34b8c4585e8e6fd8b74bae2ed", func := "bordereau/bordereaulaw15.RefundDue", spec := "refundDue", unfollowed := true, recurses := true, named := ["math/bits.divideError", "math/bits.overflowError"], apart := false, narrowed := true }
def RefundDueUptoSaid : Prop := refundDueUptoRow.holds Tryz.pinned (OpenSpec.upto refundDueSpec)

/-- 'bordereaulaw15.RefundGiven', WHERE WHAT IT READS IS OF BULK AT MOST 1048576: true; the input reads as it did. -/
def refundGivenUptoRow : OpenClaim := { program := "ytfidmphajohljaagreat", sum := "9e7591870616e4fee80ebc852b47d59c12965be34b8c4585e8e6fd8b74bae2ed", func := "bordereau/bordereaulaw15.RefundGiven", spec := "refundGiven", unfollowed := true, recurses := true, named := ["math/bits.divideError", "math/bits.overflowError"], apart := false, narrowed := true }
def RefundGivenUptoSaid : Prop := refundGivenUptoRow.holds Tryz.pinned (OpenSpec.upto refundGivenSpec)

/-- 'bordereaulaw15.RefundDays', WHERE WHAT IT READS IS OF BULK AT MOST 1048576: true; the input reads as it did. -/
def refundDaysUptoRow : OpenClaim := { program := "ytfidmphajohljaagreat", sum := "9e7591870616e4fee80ebc852b47d59c12965be34b8c4585e8e6fd8b74bae2ed", func := "bordereau/bordereaulaw15.RefundDays", spec := "refundDays", unfollowed := true, recurses := true, named := ["math/bits.divideError", "math/bits.overflowError"], apart := false, narrowed := true }
def RefundDaysUptoSaid : Prop := refundDaysUptoRow.holds Tryz.pinned (OpenSpec.upto refundDaysSpec)

/-- 'bordereaulaw15.RefundBack', WHERE WHAT IT READS IS OF BULK AT MOST 1048576: true; the input reads as it did. -/
def refundBackUptoRow : OpenClaim := { program := "ytfidmphajohljaagreat", sum := "9e7591870616e4fee80ebc852b47d59c12965be34b8c4585e8e6fd8b74bae2ed", func := "bordereau/bordereaulaw15.RefundBack", spec := "refundBack", unfollowed := true, recurses := true, named := ["math/bits.divideError", "math/bits.overflowError"], apart := false, narrowed := true }
def RefundBackUptoSaid : Prop := refundBackUptoRow.holds Tryz.pinned (OpenSpec.upto refundBackSpec)

/-- 'bordereaulaw15.RefundSums', WHERE WHAT IT READS IS OF BULK AT MOST 1048576: true; the input reads as it did. -/
def refundSumsUptoRow : OpenClaim := { program := "ytfidmphajohljaagreat", sum := "9e7591870616e4fee80ebc852b47d59c12965be34b8c4585e8e6fd8b74bae2ed", func := "bordereau/bordereaulaw15.RefundSums", spec := "refundSums", unfollowed := true, recurses := true, named := ["math/bits.divideError", "math/bits.overflowError"], apart := false, narrowed := true }
def RefundSumsUptoSaid : Prop := refundSumsUptoRow.holds Tryz.pinned (OpenSpec.upto refundSumsSpec)

/-- 'bordereaulaw15.RefundLeast', WHERE WHAT IT READS IS OF BULK AT MOST 1048576: true; the input reads as it did. -/
def refundLeastUptoRow : OpenClaim := { program := "ytfidmphajohljaagreat", sum := "9e7591870616e4fee80ebc852b47d59c12965be34b8c4585e8e6fd8b74bae2ed", func := "bordereau/bordereaulaw15.RefundLeast", spec := "refundLeast", unfollowed := true, recurses := true, named := ["math/bits.divideError", "math/bits.overflowError"], apart := false, narrowed := true }
def RefundLeastUptoSaid : Prop := refundLeastUptoRow.holds Tryz.pinned (OpenSpec.upto refundLeastSpec)

end Rows
end Go.Proofs.YtfidmphajohljaaGreat
