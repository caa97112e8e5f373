/-
  NARROWER THAN 'FOR EVERY INPUT', by the rows' own cells (each row's printed sentence says how): DayNumbers: laid · DayTells: laid · DayShifts: laid · DayBack: laid · DayNext: laid · DayOrder: laid · DayYears: laid · DayCycle: laid · DayMonths: laid.
  DERIVED. THE GIVEN ROWS OF THIS SEAT. 9 by the template 'for every input the law returns true; each argument reads behind the call as it read before'; 0 by the template 'total and deterministic' (their statements: YtpcflkhiimclbaaDoorTotals.lean).
  GIVEN WITH THE SEED: the statements are not yours to turn. If you find one false, say at which input.
  Laid BY PROGRAM, IN A SANDBOX (cutbox-rows.mjs): the forced cells as the released guide's own fill.sh prints them over the translation 31bbf584a5f380e1… (all of the seat's roots in one cut). By AI agents, Wed Nov 11 2026. No macro, syntax, notation, axiom, sorry.
-/
import Derived.Test.YtpcflkhiimclbaaDoorChecked
import GoSem.Claim
import GoSem.ClaimJoined
import GoSem.ClaimMapViews
import Derived.JoinedTies
import Derived.KernelRfl
namespace Go.Proofs.YtpcflkhiimclbaaDoor
/- THE CELL 'sum', in the pinned program and in every row, IS THE sha256 OF THE DUMP (.gsa) THAT YtpcflkhiimclbaaDoorProg.lean LOADS. Nothing in Lean hashes anything: it is a label: what it is worth is what the hold of that sum in a sandbox is worth. -/
noncomputable def Tryd.pinned : Pinned := { name := "ytpcflkhiimclbaadoor", sum := "31bbf584a5f380e1ca60df6d3506fc1f360a1008418701364adbc29b81395f47", checked := Tryd.checked }
namespace Rows
def none {H : Type} : Left H := { results := [], args := [] }

/- WHAT THE LISTED PACKAGE-LEVEL VARIABLES READ AS WHEN THE CALL BEGINS. Each datum BY PROGRAM (the guide's laid-datum.mjs) off the statement by which the dump's own 'gosem.cut.vars' lays the variable. In a bare row this is a premise. The card (YtpcflkhiimclbaaDoorCards.lean) ties it to the program's text. -/
def laid_bordereau_day_monthDays {H : Type} : DataW H := .agg [.lit (.int .i64 31), .lit (.int .i64 28), .lit (.int .i64 31), .lit (.int .i64 30), .lit (.int .i64 31), .lit (.int .i64 30), .lit (.int .i64 31), .lit (.int .i64 31), .lit (.int .i64 30), .lit (.int .i64 31), .lit (.int .i64 30), .lit (.int .i64 31)]

/-- 'bordereaulaw02.DayNumbers': WHATEVER THE INPUT: true; the input reads as it did. -/
def dayNumbersSpec : ChangeSpec := { name := "dayNumbers", fn := fun _ => fun
  | [d] => { results := [.lit (.bool true)], args := [d] }
  | _ => none }
def dayNumbersRow : OpenClaim := { program := "ytpcflkhiimclbaadoor", sum := "31bbf584a5f380e1ca60df6d3506fc1f360a1008418701364adbc29b81395f47", func := "bordereau/bordereaulaw02.DayNumbers", spec := "dayNumbers", named := ["bordereau/day.monthDays"], apart := false, laid := [("bordereau/day.monthDays", laid_bordereau_day_monthDays)] }
def DayNumbersSaid : Prop := dayNumbersRow.holds Tryd.pinned (OpenSpec.ofChange dayNumbersSpec)

/-- ITS FALSE NEIGHBOUR: 'it returns false'. Refute it at one input. -/
def dayNumbersWrong : ChangeSpec := { name := "dayNumbers", fn := fun _ => fun
  | [d] => { results := [.lit (.bool false)], args := [d] }
  | _ => none }
def DayNumbersWrongFalsely : Prop := dayNumbersRow.holds Tryd.pinned (OpenSpec.ofChange dayNumbersWrong)

/-- 'bordereaulaw02.DayTells': WHATEVER THE INPUT: true; the input reads as it did. -/
def dayTellsSpec : ChangeSpec := { name := "dayTells", fn := fun _ => fun
  | [d1, d2] => { results := [.lit (.bool true)], args := [d1, d2] }
  | _ => none }
def dayTellsRow : OpenClaim := { program := "ytpcflkhiimclbaadoor", sum := "31bbf584a5f380e1ca60df6d3506fc1f360a1008418701364adbc29b81395f47", func := "bordereau/bordereaulaw02.DayTells", spec := "dayTells", named := ["bordereau/day.monthDays"], apart := false, laid := [("bordereau/day.monthDays", laid_bordereau_day_monthDays)] }
def DayTellsSaid : Prop := dayTellsRow.holds Tryd.pinned (OpenSpec.ofChange dayTellsSpec)

/-- ITS FALSE NEIGHBOUR: 'it returns false'. Refute it at one input. -/
def dayTellsWrong : ChangeSpec := { name := "dayTells", fn := fun _ => fun
  | [d1, d2] => { results := [.lit (.bool false)], args := [d1, d2] }
  | _ => none }
def DayTellsWrongFalsely : Prop := dayTellsRow.holds Tryd.pinned (OpenSpec.ofChange dayTellsWrong)

/-- 'bordereaulaw02.DayShifts': WHATEVER THE INPUT: true; the input reads as it did. -/
def dayShiftsSpec : ChangeSpec := { name := "dayShifts", fn := fun _ => fun
  | [d1, d2] => { results := [.lit (.bool true)], args := [d1, d2] }
  | _ => none }
def dayShiftsRow : OpenClaim := { program := "ytpcflkhiimclbaadoor", sum := "31bbf584a5f380e1ca60df6d3506fc1f360a1008418701364adbc29b81395f47", func := "bordereau/bordereaulaw02.DayShifts", spec := "dayShifts", named := ["bordereau/day.monthDays"], apart := false, laid := [("bordereau/day.monthDays", laid_bordereau_day_monthDays)] }
def DayShiftsSaid : Prop := dayShiftsRow.holds Tryd.pinned (OpenSpec.ofChange dayShiftsSpec)

/-- ITS FALSE NEIGHBOUR: 'it returns false'. Refute it at one input. -/
def dayShiftsWrong : ChangeSpec := { name := "dayShifts", fn := fun _ => fun
  | [d1, d2] => { results := [.lit (.bool false)], args := [d1, d2] }
  | _ => none }
def DayShiftsWrongFalsely : Prop := dayShiftsRow.holds Tryd.pinned (OpenSpec.ofChange dayShiftsWrong)

/-- 'bordereaulaw02.DayBack': WHATEVER THE INPUT: true; the input reads as it did. -/
def dayBackSpec : ChangeSpec := { name := "dayBack", fn := fun _ => fun
  | [d1, d2] => { results := [.lit (.bool true)], args := [d1, d2] }
  | _ => none }
def dayBackRow : OpenClaim := { program := "ytpcflkhiimclbaadoor", sum := "31bbf584a5f380e1ca60df6d3506fc1f360a1008418701364adbc29b81395f47", func := "bordereau/bordereaulaw02.DayBack", spec := "dayBack", named := ["bordereau/day.monthDays"], apart := false, laid := [("bordereau/day.monthDays", laid_bordereau_day_monthDays)] }
def DayBackSaid : Prop := dayBackRow.holds Tryd.pinned (OpenSpec.ofChange dayBackSpec)

/-- ITS FALSE NEIGHBOUR: 'it returns false'. Refute it at one input. -/
def dayBackWrong : ChangeSpec := { name := "dayBack", fn := fun _ => fun
  | [d1, d2] => { results := [.lit (.bool false)], args := [d1, d2] }
  | _ => none }
def DayBackWrongFalsely : Prop := dayBackRow.holds Tryd.pinned (OpenSpec.ofChange dayBackWrong)

/-- 'bordereaulaw02.DayNext': WHATEVER THE INPUT: true; the input reads as it did. -/
def dayNextSpec : ChangeSpec := { name := "dayNext", fn := fun _ => fun
  | [d] => { results := [.lit (.bool true)], args := [d] }
  | _ => none }
def dayNextRow : OpenClaim := { program := "ytpcflkhiimclbaadoor", sum := "31bbf584a5f380e1ca60df6d3506fc1f360a1008418701364adbc29b81395f47", func := "bordereau/bordereaulaw02.DayNext", spec := "dayNext", named := ["bordereau/day.monthDays"], apart := false, laid := [("bordereau/day.monthDays", laid_bordereau_day_monthDays)] }
def DayNextSaid : Prop := dayNextRow.holds Tryd.pinned (OpenSpec.ofChange dayNextSpec)

/-- ITS FALSE NEIGHBOUR: 'it returns false'. Refute it at one input. -/
def dayNextWrong : ChangeSpec := { name := "dayNext", fn := fun _ => fun
  | [d] => { results := [.lit (.bool false)], args := [d] }
  | _ => none }
def DayNextWrongFalsely : Prop := dayNextRow.holds Tryd.pinned (OpenSpec.ofChange dayNextWrong)

/-- 'bordereaulaw02.DayOrder': WHATEVER THE INPUT: true; the input reads as it did. -/
def dayOrderSpec : ChangeSpec := { name := "dayOrder", fn := fun _ => fun
  | [d1, d2] => { results := [.lit (.bool true)], args := [d1, d2] }
  | _ => none }
def dayOrderRow : OpenClaim := { program := "ytpcflkhiimclbaadoor", sum := "31bbf584a5f380e1ca60df6d3506fc1f360a1008418701364adbc29b81395f47", func := "bordereau/bordereaulaw02.DayOrder", spec := "dayOrder", named := ["bordereau/day.monthDays"], apart := false, laid := [("bordereau/day.monthDays", laid_bordereau_day_monthDays)] }
def DayOrderSaid : Prop := dayOrderRow.holds Tryd.pinned (OpenSpec.ofChange dayOrderSpec)

/-- ITS FALSE NEIGHBOUR: 'it returns false'. Refute it at one input. -/
def dayOrderWrong : ChangeSpec := { name := "dayOrder", fn := fun _ => fun
  | [d1, d2] => { results := [.lit (.bool false)], args := [d1, d2] }
  | _ => none }
def DayOrderWrongFalsely : Prop := dayOrderRow.holds Tryd.pinned (OpenSpec.ofChange dayOrderWrong)

/-- 'bordereaulaw02.DayYears': WHATEVER THE INPUT: true; the input reads as it did. -/
def dayYearsSpec : ChangeSpec := { name := "dayYears", fn := fun _ => fun
  | [d1, d2] => { results := [.lit (.bool true)], args := [d1, d2] }
  | _ => none }
def dayYearsRow : OpenClaim := { program := "ytpcflkhiimclbaadoor", sum := "31bbf584a5f380e1ca60df6d3506fc1f360a1008418701364adbc29b81395f47", func := "bordereau/bordereaulaw02.DayYears", spec := "dayYears", named := ["bordereau/day.monthDays"], apart := false, laid := [("bordereau/day.monthDays", laid_bordereau_day_monthDays)] }
def DayYearsSaid : Prop := dayYearsRow.holds Tryd.pinned (OpenSpec.ofChange dayYearsSpec)

/-- ITS FALSE NEIGHBOUR: 'it returns false'. Refute it at one input. -/
def dayYearsWrong : ChangeSpec := { name := "dayYears", fn := fun _ => fun
  | [d1, d2] => { results := [.lit (.bool false)], args := [d1, d2] }
  | _ => none }
def DayYearsWrongFalsely : Prop := dayYearsRow.holds Tryd.pinned (OpenSpec.ofChange dayYearsWrong)

/-- 'bordereaulaw02.DayCycle': WHATEVER THE INPUT: true; the input reads as it did. -/
def dayCycleSpec : ChangeSpec := { name := "dayCycle", fn := fun _ => fun
  | [d] => { results := [.lit (.bool true)], args := [d] }
  | _ => none }
def dayCycleRow : OpenClaim := { program := "ytpcflkhiimclbaadoor", sum := "31bbf584a5f380e1ca60df6d3506fc1f360a1008418701364adbc29b81395f47", func := "bordereau/bordereaulaw02.DayCycle", spec := "dayCycle", named := ["bordereau/day.monthDays"], apart := false, laid := [("bordereau/day.monthDays", laid_bordereau_day_monthDays)] }
def DayCycleSaid : Prop := dayCycleRow.holds Tryd.pinned (OpenSpec.ofChange dayCycleSpec)

/-- ITS FALSE NEIGHBOUR: 'it returns false'. Refute it at one input. -/
def dayCycleWrong : ChangeSpec := { name := "dayCycle", fn := fun _ => fun
  | [d] => { results := [.lit (.bool false)], args := [d] }
  | _ => none }
def DayCycleWrongFalsely : Prop := dayCycleRow.holds Tryd.pinned (OpenSpec.ofChange dayCycleWrong)

/-- 'bordereaulaw02.DayMonths': WHATEVER THE INPUT: true; the input reads as it did. -/
def dayMonthsSpec : ChangeSpec := { name := "dayMonths", fn := fun _ => fun
  | [d1, d2, d3, d4] => { results := [.lit (.bool true)], args := [d1, d2, d3, d4] }
  | _ => none }
def dayMonthsRow : OpenClaim := { program := "ytpcflkhiimclbaadoor", sum := "31bbf584a5f380e1ca60df6d3506fc1f360a1008418701364adbc29b81395f47", func := "bordereau/bordereaulaw02.DayMonths", spec := "dayMonths", named := ["bordereau/day.monthDays"], apart := false, laid := [("bordereau/day.monthDays", laid_bordereau_day_monthDays)] }
def DayMonthsSaid : Prop := dayMonthsRow.holds Tryd.pinned (OpenSpec.ofChange dayMonthsSpec)

/-- ITS FALSE NEIGHBOUR: 'it returns false'. Refute it at one input. -/
def dayMonthsWrong : ChangeSpec := { name := "dayMonths", fn := fun _ => fun
  | [d1, d2, d3, d4] => { results := [.lit (.bool false)], args := [d1, d2, d3, d4] }
  | _ => none }
def DayMonthsWrongFalsely : Prop := dayMonthsRow.holds Tryd.pinned (OpenSpec.ofChange dayMonthsWrong)

/- THE SECOND FORM. 'bulk': how many values and letters a reading holds, each counted each time it is reached (what is shared counts as often as it is met; a slice's spare places count too). A statement '..UptoSaid' is the law's where the arguments, and the package variables that the reading takes, are together of bulk at most 1048576: NARROWER than '..Said'. Prove '..Said' where nothing that the law and all that it calls make is longer than what came in: it says more and counts as full. Else prove '..UptoSaid'. A law counts once. -/
mutual
def uptoBulk {H : Type} : DataW H → Nat
  | .lit (.string bytes) => bytes.length + 1
  | .lit _ => 1
  | .nil => 1
  | .ptr d => uptoBulk d + 1
  | .slice elems spare => uptoBulkAll elems + uptoBulkAll spare + 1
  | .agg parts => uptoBulkAll parts + 1
  | .iface _ d => uptoBulk d + 1
  | .map entries => uptoBulkEntries entries + 1
  | .held _ => 1
def uptoBulkAll {H : Type} : List (DataW H) → Nat
  | [] => 0
  | d :: r => uptoBulk d + uptoBulkAll r
def uptoBulkEntries {H : Type} : List (Lit × DataW H) → Nat
  | [] => 0
  | x :: r => uptoBulkEntry x + uptoBulkEntries r
def uptoBulkEntry {H : Type} : Lit × DataW H → Nat
  | (.string bytes, d) => bytes.length + uptoBulk d + 1
  | (_, d) => uptoBulk d + 1
 end
def uptoSmall : (H : Type) → List (DataW H) → Bool := fun _ ds => decide (uptoBulkAll ds ≤ 1048576)
def OpenSpec.upto (s : _root_.Go.ChangeSpec) : _root_.Go.OpenSpec := { _root_.Go.OpenSpec.ofChange s with cond := some uptoSmall }

/-- 'bordereaulaw02.DayNumbers', WHERE WHAT IT READS IS OF BULK AT MOST 1048576: true; the input reads as it did. -/
def dayNumbersUptoRow : OpenClaim := { program := "ytpcflkhiimclbaadoor", sum := "31bbf584a5f380e1ca60df6d3506fc1f360a1008418701364adbc29b81395f47", func := "bordereau/bordereaulaw02.DayNumbers", spec := "dayNumbers", named := ["bordereau/day.monthDays"], apart := false, laid := [("bordereau/day.monthDays", laid_bordereau_day_monthDays)], narrowed := true }
def DayNumbersUptoSaid : Prop := dayNumbersUptoRow.holds Tryd.pinned (OpenSpec.upto dayNumbersSpec)

/-- 'bordereaulaw02.DayTells', WHERE WHAT IT READS IS OF BULK AT MOST 1048576: true; the input reads as it did. -/
def dayTellsUptoRow : OpenClaim := { program := "ytpcflkhiimclbaadoor", sum := "31bbf584a5f380e1ca60df6d3506fc1f360a1008418701364adbc29b81395f47", func := "bordereau/bordereaulaw02.DayTells", spec := "dayTells", named := ["bordereau/day.monthDays"], apart := false, laid := [("bordereau/day.monthDays", laid_bordereau_day_monthDays)], narrowed := true }
def DayTellsUptoSaid : Prop := dayTellsUptoRow.holds Tryd.pinned (OpenSpec.upto dayTellsSpec)

/-- 'bordereaulaw02.DayShifts', WHERE WHAT IT READS IS OF BULK AT MOST 1048576: true; the input reads as it did. -/
def dayShiftsUptoRow : OpenClaim := { program := "ytpcflkhiimclbaadoor", sum := "31bbf584a5f380e1ca60df6d3506fc1f360a1008418701364adbc29b81395f47", func := "bordereau/bordereaulaw02.DayShifts", spec := "dayShifts", named := ["bordereau/day.monthDays"], apart := false, laid := [("bordereau/day.monthDays", laid_bordereau_day_monthDays)], narrowed := true }
def DayShiftsUptoSaid : Prop := dayShiftsUptoRow.holds Tryd.pinned (OpenSpec.upto dayShiftsSpec)

/-- 'bordereaulaw02.DayBack', WHERE WHAT IT READS IS OF BULK AT MOST 1048576: true; the input reads as it did. -/
def dayBackUptoRow : OpenClaim := { program := "ytpcflkhiimclbaadoor", sum := "31bbf584a5f380e1ca60df6d3506fc1f360a1008418701364adbc29b81395f47", func := "bordereau/bordereaulaw02.DayBack", spec := "dayBack", named := ["bordereau/day.monthDays"], apart := false, laid := [("bordereau/day.monthDays", laid_bordereau_day_monthDays)], narrowed := true }
def DayBackUptoSaid : Prop := dayBackUptoRow.holds Tryd.pinned (OpenSpec.upto dayBackSpec)

/-- 'bordereaulaw02.DayNext', WHERE WHAT IT READS IS OF BULK AT MOST 1048576: true; the input reads as it did. -/
def dayNextUptoRow : OpenClaim := { program := "ytpcflkhiimclbaadoor", sum := "31bbf584a5f380e1ca60df6d3506fc1f360a1008418701364adbc29b81395f47", func := "bordereau/bordereaulaw02.DayNext", spec := "dayNext", named := ["bordereau/day.monthDays"], apart := false, laid := [("bordereau/day.monthDays", laid_bordereau_day_monthDays)], narrowed := true }
def DayNextUptoSaid : Prop := dayNextUptoRow.holds Tryd.pinned (OpenSpec.upto dayNextSpec)

/-- 'bordereaulaw02.DayOrder', WHERE WHAT IT READS IS OF BULK AT MOST 1048576: true; the input reads as it did. -/
def dayOrderUptoRow : OpenClaim := { program := "ytpcflkhiimclbaadoor", sum := "31bbf584a5f380e1ca60df6d3506fc1f360a1008418701364adbc29b81395f47", func := "bordereau/bordereaulaw02.DayOrder", spec := "dayOrder", named := ["bordereau/day.monthDays"], apart := false, laid := [("bordereau/day.monthDays", laid_bordereau_day_monthDays)], narrowed := true }
def DayOrderUptoSaid : Prop := dayOrderUptoRow.holds Tryd.pinned (OpenSpec.upto dayOrderSpec)

/-- 'bordereaulaw02.DayYears', WHERE WHAT IT READS IS OF BULK AT MOST 1048576: true; the input reads as it did. -/
def dayYearsUptoRow : OpenClaim := { program := "ytpcflkhiimclbaadoor", sum := "31bbf584a5f380e1ca60df6d3506fc1f360a1008418701364adbc29b81395f47", func := "bordereau/bordereaulaw02.DayYears", spec := "dayYears", named := ["bordereau/day.monthDays"], apart := false, laid := [("bordereau/day.monthDays", laid_bordereau_day_monthDays)], narrowed := true }
def DayYearsUptoSaid : Prop := dayYearsUptoRow.holds Tryd.pinned (OpenSpec.upto dayYearsSpec)

/-- 'bordereaulaw02.DayCycle', WHERE WHAT IT READS IS OF BULK AT MOST 1048576: true; the input reads as it did. -/
def dayCycleUptoRow : OpenClaim := { program := "ytpcflkhiimclbaadoor", sum := "31bbf584a5f380e1ca60df6d3506fc1f360a1008418701364adbc29b81395f47", func := "bordereau/bordereaulaw02.DayCycle", spec := "dayCycle", named := ["bordereau/day.monthDays"], apart := false, laid := [("bordereau/day.monthDays", laid_bordereau_day_monthDays)], narrowed := true }
def DayCycleUptoSaid : Prop := dayCycleUptoRow.holds Tryd.pinned (OpenSpec.upto dayCycleSpec)

/-- 'bordereaulaw02.DayMonths', WHERE WHAT IT READS IS OF BULK AT MOST 1048576: true; the input reads as it did. -/
def dayMonthsUptoRow : OpenClaim := { program := "ytpcflkhiimclbaadoor", sum := "31bbf584a5f380e1ca60df6d3506fc1f360a1008418701364adbc29b81395f47", func := "bordereau/bordereaulaw02.DayMonths", spec := "dayMonths", named := ["bordereau/day.monthDays"], apart := false, laid := [("bordereau/day.monthDays", laid_bordereau_day_monthDays)], narrowed := true }
def DayMonthsUptoSaid : Prop := dayMonthsUptoRow.holds Tryd.pinned (OpenSpec.upto dayMonthsSpec)

end Rows
end Go.Proofs.YtpcflkhiimclbaaDoor
