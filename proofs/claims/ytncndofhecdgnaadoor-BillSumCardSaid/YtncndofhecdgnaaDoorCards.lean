/-
  DERIVED. GIVEN WITH THE SEED: THE CARDS: each row of YtncndofhecdgnaaDoorRows.lean that lists a variable, with what it lists TIED to the program's text (the seventh form; the later family's looks); each row that meets fmt, with fmt's text TOLD by the authors' own Lean function (tested against real Go, not proved from fmt's source: count such statements apart). THE CARD IS WHAT COUNTS. Prove the row's statement (the work); the ties are given (YtncndofhecdgnaaDoorTie.lean); close each card by the builder's one call (the guide's Derived/Test/ToyasCard.lean, 'card_holds'). Laid BY PROGRAM, IN A SANDBOX (cutbox-door.mjs). By AI agents, Wed Nov 11 2026. No macro, syntax, notation, axiom, sorry.
-/
import Derived.Test.YtncndofhecdgnaaDoorRows
import GoSem.ClaimSeven
namespace Go.Proofs.YtncndofhecdgnaaDoor
namespace Rows

/-- THE TIED CARD OF 'bordereaulaw16.BillPlans'. -/
def billPlansCard : Claim7 := { stood := { row := billPlansRow, standIns := [], harness := (true, "0e9558a7cdc5cc3f78c67ac7f8c3af533a18c7b1a219287f8277af766b638554"), looks := false }, kinds := [], alts := [], laidByText := true, laidKinds := [.data], laidTests := true, laidLooks := .later }
def BillPlansCardSaid : Prop := Claim7.holds Tryd.pinned (.plain (OpenSpec.ofChange billPlansSpec)) billPlansCard

/-- THE TIED CARD OF 'bordereaulaw16.BillPays'. -/
def billPaysCard : Claim7 := { stood := { row := billPaysRow, standIns := [], harness := (true, "0e9558a7cdc5cc3f78c67ac7f8c3af533a18c7b1a219287f8277af766b638554"), looks := false }, kinds := [], alts := [], laidByText := true, laidKinds := [.data], laidTests := true, laidLooks := .later }
def BillPaysCardSaid : Prop := Claim7.holds Tryd.pinned (.plain (OpenSpec.ofChange billPaysSpec)) billPaysCard

/-- THE TIED CARD OF 'bordereaulaw16.BillTurns'. -/
def billTurnsCard : Claim7 := { stood := { row := billTurnsRow, standIns := [], harness := (true, "0e9558a7cdc5cc3f78c67ac7f8c3af533a18c7b1a219287f8277af766b638554"), looks := false }, kinds := [], alts := [], laidByText := true, laidKinds := [.data], laidTests := true, laidLooks := .later }
def BillTurnsCardSaid : Prop := Claim7.holds Tryd.pinned (.plain (OpenSpec.ofChange billTurnsSpec)) billTurnsCard

/-- THE TIED CARD OF 'bordereaulaw16.BillWhole'. -/
def billWholeCard : Claim7 := { stood := { row := billWholeRow, standIns := [], harness := (true, "0e9558a7cdc5cc3f78c67ac7f8c3af533a18c7b1a219287f8277af766b638554"), looks := false }, kinds := [], alts := [], laidByText := true, laidKinds := [.data], laidTests := true, laidLooks := .later }
def BillWholeCardSaid : Prop := Claim7.holds Tryd.pinned (.plain (OpenSpec.ofChange billWholeSpec)) billWholeCard

/-- THE TIED CARD OF 'bordereaulaw16.BillOldest'. -/
def billOldestCard : Claim7 := { stood := { row := billOldestRow, standIns := [], harness := (true, "0e9558a7cdc5cc3f78c67ac7f8c3af533a18c7b1a219287f8277af766b638554"), looks := false }, kinds := [], alts := [], laidByText := true, laidKinds := [.data], laidTests := true, laidLooks := .later }
def BillOldestCardSaid : Prop := Claim7.holds Tryd.pinned (.plain (OpenSpec.ofChange billOldestSpec)) billOldestCard

/-- THE TIED CARD OF 'bordereaulaw16.BillTwice'. -/
def billTwiceCard : Claim7 := { stood := { row := billTwiceRow, standIns := [], harness := (true, "0e9558a7cdc5cc3f78c67ac7f8c3af533a18c7b1a219287f8277af766b638554"), looks := false }, kinds := [], alts := [], laidByText := true, laidKinds := [.data], laidTests := true, laidLooks := .later }
def BillTwiceCardSaid : Prop := Claim7.holds Tryd.pinned (.plain (OpenSpec.ofChange billTwiceSpec)) billTwiceCard

/-- THE TIED CARD OF 'bordereaulaw16.BillOpens'. -/
def billOpensCard : Claim7 := { stood := { row := billOpensRow, standIns := [], harness := (true, "0e9558a7cdc5cc3f78c67ac7f8c3af533a18c7b1a219287f8277af766b638554"), looks := false }, kinds := [], alts := [], laidByText := true, laidKinds := [.data], laidTests := true, laidLooks := .later }
def BillOpensCardSaid : Prop := Claim7.holds Tryd.pinned (.plain (OpenSpec.ofChange billOpensSpec)) billOpensCard

/-- THE TIED CARD OF 'bordereaulaw16.BillSum'. -/
def billSumCard : Claim7 := { stood := { row := billSumRow, standIns := [], harness := (true, "0e9558a7cdc5cc3f78c67ac7f8c3af533a18c7b1a219287f8277af766b638554"), looks := false }, kinds := [], alts := [], laidByText := true, laidKinds := [.data], laidTests := true, laidLooks := .later }
def BillSumCardSaid : Prop := Claim7.holds Tryd.pinned (.plain (OpenSpec.ofChange billSumSpec)) billSumCard

/-- THE SECOND FORM's CARD OF 'bordereaulaw16.BillPlans'. -/
def billPlansUptoCard : Claim7 := { stood := { row := billPlansUptoRow, standIns := [], harness := (true, "0e9558a7cdc5cc3f78c67ac7f8c3af533a18c7b1a219287f8277af766b638554"), looks := false }, kinds := [], alts := [], laidByText := true, laidKinds := [.data], laidTests := true, laidLooks := .later }
def BillPlansUptoCardSaid : Prop := Claim7.holds Tryd.pinned (.plain (OpenSpec.upto billPlansSpec)) billPlansUptoCard

/-- THE SECOND FORM's CARD OF 'bordereaulaw16.BillPays'. -/
def billPaysUptoCard : Claim7 := { stood := { row := billPaysUptoRow, standIns := [], harness := (true, "0e9558a7cdc5cc3f78c67ac7f8c3af533a18c7b1a219287f8277af766b638554"), looks := false }, kinds := [], alts := [], laidByText := true, laidKinds := [.data], laidTests := true, laidLooks := .later }
def BillPaysUptoCardSaid : Prop := Claim7.holds Tryd.pinned (.plain (OpenSpec.upto billPaysSpec)) billPaysUptoCard

/-- THE SECOND FORM's CARD OF 'bordereaulaw16.BillTurns'. -/
def billTurnsUptoCard : Claim7 := { stood := { row := billTurnsUptoRow, standIns := [], harness := (true, "0e9558a7cdc5cc3f78c67ac7f8c3af533a18c7b1a219287f8277af766b638554"), looks := false }, kinds := [], alts := [], laidByText := true, laidKinds := [.data], laidTests := true, laidLooks := .later }
def BillTurnsUptoCardSaid : Prop := Claim7.holds Tryd.pinned (.plain (OpenSpec.upto billTurnsSpec)) billTurnsUptoCard

/-- THE SECOND FORM's CARD OF 'bordereaulaw16.BillWhole'. -/
def billWholeUptoCard : Claim7 := { stood := { row := billWholeUptoRow, standIns := [], harness := (true, "0e9558a7cdc5cc3f78c67ac7f8c3af533a18c7b1a219287f8277af766b638554"), looks := false }, kinds := [], alts := [], laidByText := true, laidKinds := [.data], laidTests := true, laidLooks := .later }
def BillWholeUptoCardSaid : Prop := Claim7.holds Tryd.pinned (.plain (OpenSpec.upto billWholeSpec)) billWholeUptoCard

/-- THE SECOND FORM's CARD OF 'bordereaulaw16.BillOldest'. -/
def billOldestUptoCard : Claim7 := { stood := { row := billOldestUptoRow, standIns := [], harness := (true, "0e9558a7cdc5cc3f78c67ac7f8c3af533a18c7b1a219287f8277af766b638554"), looks := false }, kinds := [], alts := [], laidByText := true, laidKinds := [.data], laidTests := true, laidLooks := .later }
def BillOldestUptoCardSaid : Prop := Claim7.holds Tryd.pinned (.plain (OpenSpec.upto billOldestSpec)) billOldestUptoCard

/-- THE SECOND FORM's CARD OF 'bordereaulaw16.BillTwice'. -/
def billTwiceUptoCard : Claim7 := { stood := { row := billTwiceUptoRow, standIns := [], harness := (true, "0e9558a7cdc5cc3f78c67ac7f8c3af533a18c7b1a219287f8277af766b638554"), looks := false }, kinds := [], alts := [], laidByText := true, laidKinds := [.data], laidTests := true, laidLooks := .later }
def BillTwiceUptoCardSaid : Prop := Claim7.holds Tryd.pinned (.plain (OpenSpec.upto billTwiceSpec)) billTwiceUptoCard

/-- THE SECOND FORM's CARD OF 'bordereaulaw16.BillOpens'. -/
def billOpensUptoCard : Claim7 := { stood := { row := billOpensUptoRow, standIns := [], harness := (true, "0e9558a7cdc5cc3f78c67ac7f8c3af533a18c7b1a219287f8277af766b638554"), looks := false }, kinds := [], alts := [], laidByText := true, laidKinds := [.data], laidTests := true, laidLooks := .later }
def BillOpensUptoCardSaid : Prop := Claim7.holds Tryd.pinned (.plain (OpenSpec.upto billOpensSpec)) billOpensUptoCard

/-- THE SECOND FORM's CARD OF 'bordereaulaw16.BillSum'. -/
def billSumUptoCard : Claim7 := { stood := { row := billSumUptoRow, standIns := [], harness := (true, "0e9558a7cdc5cc3f78c67ac7f8c3af533a18c7b1a219287f8277af766b638554"), looks := false }, kinds := [], alts := [], laidByText := true, laidKinds := [.data], laidTests := true, laidLooks := .later }
def BillSumUptoCardSaid : Prop := Claim7.holds Tryd.pinned (.plain (OpenSpec.upto billSumSpec)) billSumUptoCard
end Rows
end Go.Proofs.YtncndofhecdgnaaDoor
