/-
  No cell of these rows narrows 'for every input' (looked for: loops, veiled, ifaces, maps, wideKeys, modest, calm, conditions, laid).
  DERIVED. THE GIVEN ROWS OF THIS SEAT. 6 by the template 'for every input the law returns true; each argument reads behind the call as it read before'; 0 by the template 'total and deterministic' (their statements: YtplenoaajokpjaaGreatTotals.lean).
  GIVEN WITH THE SEED: the statements are not yours to turn. If you find one false, say at which input.
  Laid BY PROGRAM, IN A SANDBOX (cutbox-rows.mjs): the forced cells as the released guide's own fill.sh prints them over the translation 6869af20c78d36ff… (all of the seat's roots in one cut). By AI agents, Wed Nov 11 2026. No macro, syntax, notation, axiom, sorry.
-/
import Derived.Test.YtplenoaajokpjaaGreatChecked
import GoSem.Claim
import GoSem.ClaimJoined
import GoSem.ClaimMapViews
import Derived.JoinedTies
import Derived.KernelRfl
namespace Go.Proofs.YtplenoaajokpjaaGreat
/- THE CELL 'sum', in the pinned program and in every row, IS THE sha256 OF THE DUMP (.gsa) THAT YtplenoaajokpjaaGreatProg.lean LOADS. Nothing in Lean hashes anything: it is a label: what it is worth is what the hold of that sum in a sandbox is worth. -/
noncomputable def Tryz.pinned : Pinned := { name := "ytplenoaajokpjaagreat", sum := "6869af20c78d36ffe035616dd32d45a873346c08142ac916e0a91af2b1c92a94", checked := Tryz.checked }
namespace Rows
def none {H : Type} : Left H := { results := [], args := [] }

/-- 'bordereaulaw17.NoticeRight': WHATEVER THE INPUT: true; the input reads as it did. -/
def noticeRightSpec : ChangeSpec := { name := "noticeRight", fn := fun _ => fun
  | [d] => { results := [.lit (.bool true)], args := [d] }
  | _ => none }
def noticeRightRow : OpenClaim := { program := "ytplenoaajokpjaagreat", sum := "6869af20c78d36ffe035616dd32d45a873346c08142ac916e0a91af2b1c92a94", func := "bordereau/bordereaulaw17.NoticeRight", spec := "noticeRight", unfollowed := true, recurses := true, named := ["math/bits.divideError", "math/bits.overflowError"], apart := false }
def NoticeRightSaid : Prop := noticeRightRow.holds Tryz.pinned (OpenSpec.ofChange noticeRightSpec)

/-- ITS FALSE NEIGHBOUR: 'it returns false'. Refute it at one input. -/
def noticeRightWrong : ChangeSpec := { name := "noticeRight", fn := fun _ => fun
  | [d] => { results := [.lit (.bool false)], args := [d] }
  | _ => none }
def NoticeRightWrongFalsely : Prop := noticeRightRow.holds Tryz.pinned (OpenSpec.ofChange noticeRightWrong)

/-- 'bordereaulaw17.NoticeCovered': WHATEVER THE INPUT: true; the input reads as it did. -/
def noticeCoveredSpec : ChangeSpec := { name := "noticeCovered", fn := fun _ => fun
  | [d1, d2, d3] => { results := [.lit (.bool true)], args := [d1, d2, d3] }
  | _ => none }
def noticeCoveredRow : OpenClaim := { program := "ytplenoaajokpjaagreat", sum := "6869af20c78d36ffe035616dd32d45a873346c08142ac916e0a91af2b1c92a94", func := "bordereau/bordereaulaw17.NoticeCovered", spec := "noticeCovered", unfollowed := true, recurses := true, named := ["math/bits.divideError", "math/bits.overflowError"], apart := false }
def NoticeCoveredSaid : Prop := noticeCoveredRow.holds Tryz.pinned (OpenSpec.ofChange noticeCoveredSpec)

/-- ITS FALSE NEIGHBOUR: 'it returns false'. Refute it at one input. -/
def noticeCoveredWrong : ChangeSpec := { name := "noticeCovered", fn := fun _ => fun
  | [d1, d2, d3] => { results := [.lit (.bool false)], args := [d1, d2, d3] }
  | _ => none }
def NoticeCoveredWrongFalsely : Prop := noticeCoveredRow.holds Tryz.pinned (OpenSpec.ofChange noticeCoveredWrong)

/-- 'bordereaulaw17.NoticeWhy': WHATEVER THE INPUT: true; the input reads as it did. -/
def noticeWhySpec : ChangeSpec := { name := "noticeWhy", fn := fun _ => fun
  | [d1, d2, d3] => { results := [.lit (.bool true)], args := [d1, d2, d3] }
  | _ => none }
def noticeWhyRow : OpenClaim := { program := "ytplenoaajokpjaagreat", sum := "6869af20c78d36ffe035616dd32d45a873346c08142ac916e0a91af2b1c92a94", func := "bordereau/bordereaulaw17.NoticeWhy", spec := "noticeWhy", unfollowed := true, recurses := true, named := ["math/bits.divideError", "math/bits.overflowError"], apart := false }
def NoticeWhySaid : Prop := noticeWhyRow.holds Tryz.pinned (OpenSpec.ofChange noticeWhySpec)

/-- ITS FALSE NEIGHBOUR: 'it returns false'. Refute it at one input. -/
def noticeWhyWrong : ChangeSpec := { name := "noticeWhy", fn := fun _ => fun
  | [d1, d2, d3] => { results := [.lit (.bool false)], args := [d1, d2, d3] }
  | _ => none }
def NoticeWhyWrongFalsely : Prop := noticeWhyRow.holds Tryz.pinned (OpenSpec.ofChange noticeWhyWrong)

/-- 'bordereaulaw17.NoticeStays': WHATEVER THE INPUT: true; the input reads as it did. -/
def noticeStaysSpec : ChangeSpec := { name := "noticeStays", fn := fun _ => fun
  | [d1, d2, d3, d4] => { results := [.lit (.bool true)], args := [d1, d2, d3, d4] }
  | _ => none }
def noticeStaysRow : OpenClaim := { program := "ytplenoaajokpjaagreat", sum := "6869af20c78d36ffe035616dd32d45a873346c08142ac916e0a91af2b1c92a94", func := "bordereau/bordereaulaw17.NoticeStays", spec := "noticeStays", unfollowed := true, recurses := true, named := ["math/bits.divideError", "math/bits.overflowError"], apart := false }
def NoticeStaysSaid : Prop := noticeStaysRow.holds Tryz.pinned (OpenSpec.ofChange noticeStaysSpec)

/-- ITS FALSE NEIGHBOUR: 'it returns false'. Refute it at one input. -/
def noticeStaysWrong : ChangeSpec := { name := "noticeStays", fn := fun _ => fun
  | [d1, d2, d3, d4] => { results := [.lit (.bool false)], args := [d1, d2, d3, d4] }
  | _ => none }
def NoticeStaysWrongFalsely : Prop := noticeStaysRow.holds Tryz.pinned (OpenSpec.ofChange noticeStaysWrong)

/-- 'bordereaulaw17.NoticeOwn': WHATEVER THE INPUT: true; the input reads as it did. -/
def noticeOwnSpec : ChangeSpec := { name := "noticeOwn", fn := fun _ => fun
  | [d1, d2, d3] => { results := [.lit (.bool true)], args := [d1, d2, d3] }
  | _ => none }
def noticeOwnRow : OpenClaim := { program := "ytplenoaajokpjaagreat", sum := "6869af20c78d36ffe035616dd32d45a873346c08142ac916e0a91af2b1c92a94", func := "bordereau/bordereaulaw17.NoticeOwn", spec := "noticeOwn", unfollowed := true, recurses := true, named := ["math/bits.divideError", "math/bits.overflowError"], apart := false }
def NoticeOwnSaid : Prop := noticeOwnRow.holds Tryz.pinned (OpenSpec.ofChange noticeOwnSpec)

/-- ITS FALSE NEIGHBOUR: 'it returns false'. Refute it at one input. -/
def noticeOwnWrong : ChangeSpec := { name := "noticeOwn", fn := fun _ => fun
  | [d1, d2, d3] => { results := [.lit (.bool false)], args := [d1, d2, d3] }
  | _ => none }
def NoticeOwnWrongFalsely : Prop := noticeOwnRow.holds Tryz.pinned (OpenSpec.ofChange noticeOwnWrong)

/-- 'bordereaulaw17.NoticeOn': WHATEVER THE INPUT: true; the input reads as it did. -/
def noticeOnSpec : ChangeSpec := { name := "noticeOn", fn := fun _ => fun
  | [d1, d2, d3] => { results := [.lit (.bool true)], args := [d1, d2, d3] }
  | _ => none }
def noticeOnRow : OpenClaim := { program := "ytplenoaajokpjaagreat", sum := "6869af20c78d36ffe035616dd32d45a873346c08142ac916e0a91af2b1c92a94", func := "bordereau/bordereaulaw17.NoticeOn", spec := "noticeOn", unfollowed := true, recurses := true, named := ["math/bits.divideError", "math/bits.overflowError"], apart := false }
def NoticeOnSaid : Prop := noticeOnRow.holds Tryz.pinned (OpenSpec.ofChange noticeOnSpec)

/-- ITS FALSE NEIGHBOUR: 'it returns false'. Refute it at one input. -/
def noticeOnWrong : ChangeSpec := { name := "noticeOn", fn := fun _ => fun
  | [d1, d2, d3] => { results := [.lit (.bool false)], args := [d1, d2, d3] }
  | _ => none }
def NoticeOnWrongFalsely : Prop := noticeOnRow.holds Tryz.pinned (OpenSpec.ofChange noticeOnWrong)

/- THE SECOND FORM. 'bulk': how many values and letters a reading holds, each counted each time it is reached (what is shared counts as often as it is met; a slice's spare places count too). A statement '..UptoSaid' is the law's where the arguments, and the package variables that the reading takes, are together of bulk at most 1048576: NARROWER than '..Said'. Prove '..Said' where nothing that the law and all that it calls make is longer than what came in: it says more and counts as full. Else prove '..UptoSaid'. A law counts once. -/
mutual
def uptoBulk {H : Type} : DataW H → Nat
  | .lit (.string bytes) => bytes.length + 1
  | .lit _ => 1
  | .nil => 1
  | .ptr d => uptoBulk d + 1
  | .slice elems spare => uptoBulkAll elems + uptoBulkAll spare + 1
  | .agg parts => uptoBulkAll parts + 1
  | .iface _ d => uptoBulk d + 1
  | .map entries => uptoBulkEntries entries + 1
  | .held _ => 1
def uptoBulkAll {H : Type} : List (DataW H) → Nat
  | [] => 0
  | d :: r => uptoBulk d + uptoBulkAll r
def uptoBulkEntries {H : Type} : List (Lit × DataW H) → Nat
  | [] => 0
  | x :: r => uptoBulkEntry x + uptoBulkEntries r
def uptoBulkEntry {H : Type} : Lit × DataW H → Nat
  | (.string bytes, d) => bytes.length + uptoBulk d + 1
  | (_, d) => uptoBulk d + 1
 end
def uptoSmall : (H : Type) → List (DataW H) → Bool := fun _ ds => decide (uptoBulkAll ds ≤ 1048576)
def OpenSpec.upto (s : _root_.Go.ChangeSpec) : _root_.Go.OpenSpec := { _root_.Go.OpenSpec.ofChange s with cond := some uptoSmall }

/-- 'bordereaulaw17.NoticeRight', WHERE WHAT IT READS IS OF BULK AT MOST 1048576: true; the input reads as it did. -/
def noticeRightUptoRow : OpenClaim := { program := "ytplenoaajokpjaagreat", sum := "6869af20c78d36ffe035616dd32d45a873346c08142ac916e0a91af2b1c92a94", func := "bordereau/bordereaulaw17.NoticeRight", spec := "noticeRight", unfollowed := true, recurses := true, named := ["math/bits.divideError", "math/bits.overflowError"], apart := false, narrowed := true }
def NoticeRightUptoSaid : Prop := noticeRightUptoRow.holds Tryz.pinned (OpenSpec.upto noticeRightSpec)

/-- 'bordereaulaw17.NoticeCovered', WHERE WHAT IT READS IS OF BULK AT MOST 1048576: true; the input reads as it did. -/
def noticeCoveredUptoRow : OpenClaim := { program := "ytplenoaajokpjaagreat", sum := "6869af20c78d36ffe035616dd32d45a873346c08142ac916e0a91af2b1c92a94", func := "bordereau/bordereaulaw17.NoticeCovered", spec := "noticeCovered", unfollowed := true, recurses := true, named := ["math/bits.divideError", "math/bits.overflowError"], apart := false, narrowed := true }
def NoticeCoveredUptoSaid : Prop := noticeCoveredUptoRow.holds Tryz.pinned (OpenSpec.upto noticeCoveredSpec)

/-- 'bordereaulaw17.NoticeWhy', WHERE WHAT IT READS IS OF BULK AT MOST 1048576: true; the input reads as it did. -/
def noticeWhyUptoRow : OpenClaim := { program := "ytplenoaajokpjaagreat", sum := "6869af20c78d36ffe035616dd32d45a873346c08142ac916e0a91af2b1c92a94", func := "bordereau/bordereaulaw17.NoticeWhy", spec := "noticeWhy", unfollowed := true, recurses := true, named := ["math/bits.divideError", "math/bits.overflowError"], apart := false, narrowed := true }
def NoticeWhyUptoSaid : Prop := noticeWhyUptoRow.holds Tryz.pinned (OpenSpec.upto noticeWhySpec)

/-- 'bordereaulaw17.NoticeStays', WHERE WHAT IT READS IS OF BULK AT MOST 1048576: true; the input reads as it did. -/
def noticeStaysUptoRow : OpenClaim := { program := "ytplenoaajokpjaagreat", sum := "6869af20c78d36ffe035616dd32d45a873346c08142ac916e0a91af2b1c92a94", func := "bordereau/bordereaulaw17.NoticeStays", spec := "noticeStays", unfollowed := true, recurses := true, named := ["math/bits.divideError", "math/bits.overflowError"], apart := false, narrowed := true }
def NoticeStaysUptoSaid : Prop := noticeStaysUptoRow.holds Tryz.pinned (OpenSpec.upto noticeStaysSpec)

/-- 'bordereaulaw17.NoticeOwn', WHERE WHAT IT READS IS OF BULK AT MOST 1048576: true; the input reads as it did. -/
def noticeOwnUptoRow : OpenClaim := { program := "ytplenoaajokpjaagreat", sum := "6869af20c78d36ffe035616dd32d45a873346c08142ac916e0a91af2b1c92a94", func := "bordereau/bordereaulaw17.NoticeOwn", spec := "noticeOwn", unfollowed := true, recurses := true, named := ["math/bits.divideError", "math/bits.overflowError"], apart := false, narrowed := true }
def NoticeOwnUptoSaid : Prop := noticeOwnUptoRow.holds Tryz.pinned (OpenSpec.upto noticeOwnSpec)

/-- 'bordereaulaw17.NoticeOn', WHERE WHAT IT READS IS OF BULK AT MOST 1048576: true; the input reads as it did. -/
def noticeOnUptoRow : OpenClaim := { program := "ytplenoaajokpjaagreat", sum := "6869af20c78d36ffe035616dd32d45a873346c08142ac916e0a91af2b1c92a94", func := "bordereau/bordereaulaw17.NoticeOn", spec := "noticeOn", unfollowed := true, recurses := true, named := ["math/bits.divideError", "math/bits.overflowError"], apart := false, narrowed := true }
def NoticeOnUptoSaid : Prop := noticeOnUptoRow.holds Tryz.pinned (OpenSpec.upto noticeOnSpec)

end Rows
end Go.Proofs.YtplenoaajokpjaaGreat
