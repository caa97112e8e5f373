/-
  DERIVED. GIVEN WITH THE SEED: THE CARDS: each row of YtpcflkhiimclbaaDoorRows.lean that lists a variable, with what it lists TIED to the program's text (the seventh form; the later family's looks); each row that meets fmt, with fmt's text TOLD by the authors' own Lean function (tested against real Go, not proved from fmt's source: count such statements apart). THE CARD IS WHAT COUNTS. Prove the row's statement (the work); the ties are given (YtpcflkhiimclbaaDoorTie.lean); close each card by the builder's one call (the guide's Derived/Test/ToyasCard.lean, 'card_holds'). Laid BY PROGRAM, IN A SANDBOX (cutbox-door.mjs). By AI agents, Wed Nov 11 2026. No macro, syntax, notation, axiom, sorry.
-/
import Derived.Test.YtpcflkhiimclbaaDoorRows
import GoSem.ClaimSeven
namespace Go.Proofs.YtpcflkhiimclbaaDoor
namespace Rows

/-- THE TIED CARD OF 'bordereaulaw02.DayNumbers'. -/
def dayNumbersCard : Claim7 := { stood := { row := dayNumbersRow, standIns := [], harness := (true, "0d0c1c32c8900cf58ef4dbff73ea3e777abc26be34945349d325ec12e76e930c"), looks := false }, kinds := [], alts := [], laidByText := true, laidKinds := [.data], laidTests := true, laidLooks := .later }
def DayNumbersCardSaid : Prop := Claim7.holds Tryd.pinned (.plain (OpenSpec.ofChange dayNumbersSpec)) dayNumbersCard

/-- THE TIED CARD OF 'bordereaulaw02.DayTells'. -/
def dayTellsCard : Claim7 := { stood := { row := dayTellsRow, standIns := [], harness := (true, "0d0c1c32c8900cf58ef4dbff73ea3e777abc26be34945349d325ec12e76e930c"), looks := false }, kinds := [], alts := [], laidByText := true, laidKinds := [.data], laidTests := true, laidLooks := .later }
def DayTellsCardSaid : Prop := Claim7.holds Tryd.pinned (.plain (OpenSpec.ofChange dayTellsSpec)) dayTellsCard

/-- THE TIED CARD OF 'bordereaulaw02.DayShifts'. -/
def dayShiftsCard : Claim7 := { stood := { row := dayShiftsRow, standIns := [], harness := (true, "0d0c1c32c8900cf58ef4dbff73ea3e777abc26be34945349d325ec12e76e930c"), looks := false }, kinds := [], alts := [], laidByText := true, laidKinds := [.data], laidTests := true, laidLooks := .later }
def DayShiftsCardSaid : Prop := Claim7.holds Tryd.pinned (.plain (OpenSpec.ofChange dayShiftsSpec)) dayShiftsCard

/-- THE TIED CARD OF 'bordereaulaw02.DayBack'. -/
def dayBackCard : Claim7 := { stood := { row := dayBackRow, standIns := [], harness := (true, "0d0c1c32c8900cf58ef4dbff73ea3e777abc26be34945349d325ec12e76e930c"), looks := false }, kinds := [], alts := [], laidByText := true, laidKinds := [.data], laidTests := true, laidLooks := .later }
def DayBackCardSaid : Prop := Claim7.holds Tryd.pinned (.plain (OpenSpec.ofChange dayBackSpec)) dayBackCard

/-- THE TIED CARD OF 'bordereaulaw02.DayNext'. -/
def dayNextCard : Claim7 := { stood := { row := dayNextRow, standIns := [], harness := (true, "0d0c1c32c8900cf58ef4dbff73ea3e777abc26be34945349d325ec12e76e930c"), looks := false }, kinds := [], alts := [], laidByText := true, laidKinds := [.data], laidTests := true, laidLooks := .later }
def DayNextCardSaid : Prop := Claim7.holds Tryd.pinned (.plain (OpenSpec.ofChange dayNextSpec)) dayNextCard

/-- THE TIED CARD OF 'bordereaulaw02.DayOrder'. -/
def dayOrderCard : Claim7 := { stood := { row := dayOrderRow, standIns := [], harness := (true, "0d0c1c32c8900cf58ef4dbff73ea3e777abc26be34945349d325ec12e76e930c"), looks := false }, kinds := [], alts := [], laidByText := true, laidKinds := [.data], laidTests := true, laidLooks := .later }
def DayOrderCardSaid : Prop := Claim7.holds Tryd.pinned (.plain (OpenSpec.ofChange dayOrderSpec)) dayOrderCard

/-- THE TIED CARD OF 'bordereaulaw02.DayYears'. -/
def dayYearsCard : Claim7 := { stood := { row := dayYearsRow, standIns := [], harness := (true, "0d0c1c32c8900cf58ef4dbff73ea3e777abc26be34945349d325ec12e76e930c"), looks := false }, kinds := [], alts := [], laidByText := true, laidKinds := [.data], laidTests := true, laidLooks := .later }
def DayYearsCardSaid : Prop := Claim7.holds Tryd.pinned (.plain (OpenSpec.ofChange dayYearsSpec)) dayYearsCard

/-- THE TIED CARD OF 'bordereaulaw02.DayCycle'. -/
def dayCycleCard : Claim7 := { stood := { row := dayCycleRow, standIns := [], harness := (true, "0d0c1c32c8900cf58ef4dbff73ea3e777abc26be34945349d325ec12e76e930c"), looks := false }, kinds := [], alts := [], laidByText := true, laidKinds := [.data], laidTests := true, laidLooks := .later }
def DayCycleCardSaid : Prop := Claim7.holds Tryd.pinned (.plain (OpenSpec.ofChange dayCycleSpec)) dayCycleCard

/-- THE TIED CARD OF 'bordereaulaw02.DayMonths'. -/
def dayMonthsCard : Claim7 := { stood := { row := dayMonthsRow, standIns := [], harness := (true, "0d0c1c32c8900cf58ef4dbff73ea3e777abc26be34945349d325ec12e76e930c"), looks := false }, kinds := [], alts := [], laidByText := true, laidKinds := [.data], laidTests := true, laidLooks := .later }
def DayMonthsCardSaid : Prop := Claim7.holds Tryd.pinned (.plain (OpenSpec.ofChange dayMonthsSpec)) dayMonthsCard

/-- THE SECOND FORM's CARD OF 'bordereaulaw02.DayNumbers'. -/
def dayNumbersUptoCard : Claim7 := { stood := { row := dayNumbersUptoRow, standIns := [], harness := (true, "0d0c1c32c8900cf58ef4dbff73ea3e777abc26be34945349d325ec12e76e930c"), looks := false }, kinds := [], alts := [], laidByText := true, laidKinds := [.data], laidTests := true, laidLooks := .later }
def DayNumbersUptoCardSaid : Prop := Claim7.holds Tryd.pinned (.plain (OpenSpec.upto dayNumbersSpec)) dayNumbersUptoCard

/-- THE SECOND FORM's CARD OF 'bordereaulaw02.DayTells'. -/
def dayTellsUptoCard : Claim7 := { stood := { row := dayTellsUptoRow, standIns := [], harness := (true, "0d0c1c32c8900cf58ef4dbff73ea3e777abc26be34945349d325ec12e76e930c"), looks := false }, kinds := [], alts := [], laidByText := true, laidKinds := [.data], laidTests := true, laidLooks := .later }
def DayTellsUptoCardSaid : Prop := Claim7.holds Tryd.pinned (.plain (OpenSpec.upto dayTellsSpec)) dayTellsUptoCard

/-- THE SECOND FORM's CARD OF 'bordereaulaw02.DayShifts'. -/
def dayShiftsUptoCard : Claim7 := { stood := { row := dayShiftsUptoRow, standIns := [], harness := (true, "0d0c1c32c8900cf58ef4dbff73ea3e777abc26be34945349d325ec12e76e930c"), looks := false }, kinds := [], alts := [], laidByText := true, laidKinds := [.data], laidTests := true, laidLooks := .later }
def DayShiftsUptoCardSaid : Prop := Claim7.holds Tryd.pinned (.plain (OpenSpec.upto dayShiftsSpec)) dayShiftsUptoCard

/-- THE SECOND FORM's CARD OF 'bordereaulaw02.DayBack'. -/
def dayBackUptoCard : Claim7 := { stood := { row := dayBackUptoRow, standIns := [], harness := (true, "0d0c1c32c8900cf58ef4dbff73ea3e777abc26be34945349d325ec12e76e930c"), looks := false }, kinds := [], alts := [], laidByText := true, laidKinds := [.data], laidTests := true, laidLooks := .later }
def DayBackUptoCardSaid : Prop := Claim7.holds Tryd.pinned (.plain (OpenSpec.upto dayBackSpec)) dayBackUptoCard

/-- THE SECOND FORM's CARD OF 'bordereaulaw02.DayNext'. -/
def dayNextUptoCard : Claim7 := { stood := { row := dayNextUptoRow, standIns := [], harness := (true, "0d0c1c32c8900cf58ef4dbff73ea3e777abc26be34945349d325ec12e76e930c"), looks := false }, kinds := [], alts := [], laidByText := true, laidKinds := [.data], laidTests := true, laidLooks := .later }
def DayNextUptoCardSaid : Prop := Claim7.holds Tryd.pinned (.plain (OpenSpec.upto dayNextSpec)) dayNextUptoCard

/-- THE SECOND FORM's CARD OF 'bordereaulaw02.DayOrder'. -/
def dayOrderUptoCard : Claim7 := { stood := { row := dayOrderUptoRow, standIns := [], harness := (true, "0d0c1c32c8900cf58ef4dbff73ea3e777abc26be34945349d325ec12e76e930c"), looks := false }, kinds := [], alts := [], laidByText := true, laidKinds := [.data], laidTests := true, laidLooks := .later }
def DayOrderUptoCardSaid : Prop := Claim7.holds Tryd.pinned (.plain (OpenSpec.upto dayOrderSpec)) dayOrderUptoCard

/-- THE SECOND FORM's CARD OF 'bordereaulaw02.DayYears'. -/
def dayYearsUptoCard : Claim7 := { stood := { row := dayYearsUptoRow, standIns := [], harness := (true, "0d0c1c32c8900cf58ef4dbff73ea3e777abc26be34945349d325ec12e76e930c"), looks := false }, kinds := [], alts := [], laidByText := true, laidKinds := [.data], laidTests := true, laidLooks := .later }
def DayYearsUptoCardSaid : Prop := Claim7.holds Tryd.pinned (.plain (OpenSpec.upto dayYearsSpec)) dayYearsUptoCard

/-- THE SECOND FORM's CARD OF 'bordereaulaw02.DayCycle'. -/
def dayCycleUptoCard : Claim7 := { stood := { row := dayCycleUptoRow, standIns := [], harness := (true, "0d0c1c32c8900cf58ef4dbff73ea3e777abc26be34945349d325ec12e76e930c"), looks := false }, kinds := [], alts := [], laidByText := true, laidKinds := [.data], laidTests := true, laidLooks := .later }
def DayCycleUptoCardSaid : Prop := Claim7.holds Tryd.pinned (.plain (OpenSpec.upto dayCycleSpec)) dayCycleUptoCard

/-- THE SECOND FORM's CARD OF 'bordereaulaw02.DayMonths'. -/
def dayMonthsUptoCard : Claim7 := { stood := { row := dayMonthsUptoRow, standIns := [], harness := (true, "0d0c1c32c8900cf58ef4dbff73ea3e777abc26be34945349d325ec12e76e930c"), looks := false }, kinds := [], alts := [], laidByText := true, laidKinds := [.data], laidTests := true, laidLooks := .later }
def DayMonthsUptoCardSaid : Prop := Claim7.holds Tryd.pinned (.plain (OpenSpec.upto dayMonthsSpec)) dayMonthsUptoCard
end Rows
end Go.Proofs.YtpcflkhiimclbaaDoor
