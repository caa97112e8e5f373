/-
  What the laws ask of the program, as propositions. Conditions: those of each.
-/
import Derived.Test.YtncndofhecdgnaaDoorBr
import Derived.Test.YtncndofhecdgnaaDoorDay
namespace Go.Proofs.YtncndofhecdgnaaDoor
open Go.RowKit
namespace Bil
set_option linter.unusedVariables false

abbrev sg (s : Int × Int) : Value := .agg #[.int .i64 s.1, .int .i64 s.2]
def In (x : Int) : Prop := -9223372036854775808 ≤ x ∧ x ≤ 9223372036854775807
/-- Paid, if they may be. -/
def pay (l : List Bi) (a : Int) : List Bi × Int := if rt l = true ∧ 0 ≤ a then py l a else (l, a)
def opn (l : List Bi) (y : Int) : Int := if rt l = true then op y l else 0
/-- Bills are told. -/
def Gb (w : World) (l : List Bi) (v : Value) (w' : World) : Prop := ∃ A c, v = .slice A l.length c ∧ Raws w' (· < w'.heap.size) A l.length l ∧ Below w.heap.size w w'
def RiC : Prop := ∀ (A : Option Addr) (n c : Nat) (l : List Bi) (w : World), Raws w (· < w.heap.size) A n l → n ≤ 200 → Calls Tryd.prog 17 #[.slice A n c] w (Yes w (rt l))
def PlTo (w : World) (x : Int) (s : Int × Int) (m : Int) (e : Ending) (w' : World) : Prop := ∃ l v k, e = .returned (.tuple #[v, .int .i64 k]) ∧ PlIs x s m l k ∧ Gb w l v w'
def PlC : Prop := ∀ (x : Int) (s : Int × Int) (m : Int) (w : World), Day.Tab w → In x → In s.1 → In s.2 → In m → Calls Tryd.prog 12 #[.int .i64 x, sg s, .int .i64 m] w (PlTo w x s m)
def PaTo (w : World) (l : List Bi) (a : Int) (e : Ending) (w' : World) : Prop := ∃ v, e = .returned (.tuple #[v, .int .i64 (pay l a).2]) ∧ Gb w (pay l a).1 v w'
/-- The same, of a list that has room for itself. -/
def Gc (w : World) (l : List Bi) (v : Value) (w' : World) : Prop := ∃ A c, v = .slice A l.length c ∧ l.length ≤ c ∧ Raws w' (· < w'.heap.size) A l.length l ∧ Below w.heap.size w w'
def PaTc (w : World) (l : List Bi) (a : Int) (e : Ending) (w' : World) : Prop := ∃ v, e = .returned (.tuple #[v, .int .i64 (pay l a).2]) ∧ Gc w (pay l a).1 v w'
def PaC : Prop := ∀ (A : Option Addr) (n c : Nat) (l : List Bi) (a : Int) (w : World), Raws w (· < w.heap.size) A n l → n ≤ 200 → In a → Calls Tryd.prog 15 #[.slice A n c, .int .i64 a] w (PaTc w l a)
def OpC : Prop := ∀ (A : Option Addr) (n c : Nat) (l : List Bi) (y : Int) (w : World), Raws w (· < w.heap.size) A n l → n ≤ 200 → n ≤ c → In y → Calls Tryd.prog 19 #[.slice A n c, .int .i64 y] w fun e w' => e = .returned (.int .i64 (opn l y)) ∧ Below w.heap.size w w'
def TuTo (w : World) (l : List Bi) (x y : Int) (e : Ending) (w' : World) : Prop := ∃ v, e = .returned (.tuple #[v, .int .i64 (tc l x y)]) ∧ Gb w (tl l x y) v w'
def TuC : Prop := ∀ (A : Option Addr) (n c : Nat) (l : List Bi) (x y : Int) (w : World), Raws w (· < w.heap.size) A n l → n ≤ 200 → In x → In y → Calls Tryd.prog 21 #[.slice A n c, .int .i64 x, .int .i64 y] w (TuTo w l x y)
/-- All that the laws ask. -/
structure Asks : Prop where
  ri : RiC
  pl : PlC
  pa : PaC
  op : OpC
  tu : TuC

end Bil
end Go.Proofs.YtncndofhecdgnaaDoor
