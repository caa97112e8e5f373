/-
  Set of package step. Conditions: the rows read as lists of ints.
-/
import Derived.Test.YtjmbccdcnmmhgaaZIter
import Derived.Test.YtjmbccdcnmmhgaaZApp
import Derived.Test.YtjmbccdcnmmhgaaZVal
import Derived.Deep.RegionLaw
namespace Go.Proofs.Ytjmbccdcnmmhgaa
open Go.RowKit Stm
namespace Stp
set_option linter.unusedVariables false

theorem cal {w : World} {p : Addr} {v : Value} {o : Obj} (h : w.cell? p = some v) : (w.alloc o).cell? p = some v := ((Below.refl _ _).alloc (Nat.le_refl _) o : Below w.heap.size w (w.alloc o)).cell (World.block_lt_of_cell? _ _ h) |>.trans h
theorem cst {w : World} {p q r : Addr} {v a b : Value} (h : w.cell? p = some v) (h1 : p.block ≠ q.block) (h2 : p.block ≠ r.block) : ((w.setCell q a).setCell r b).cell? p = some v :=
  (World.cell?_of_block (Below.heap_setCell _ _ _ _ h2)).trans ((World.cell?_of_block (Below.heap_setCell _ _ _ _ h1)).trans h)

theorem enters_changes : ∀ args w, (callFunc 42 args).run Try.prog w = .ok (.enter 42 args) w := enters_of Try.func42 (by kernel_rfl) rfl
/-- The world behind the call of changes, and what its iterator reads there. -/
abbrev chW (W : World) (s : Pr) (A : Option Addr) (la ca : Nat) (B : Option Addr) (lb cb : Nat) : World :=
  ((W.alloc (.cells #[.int .i64 s.1, .int .i64 s.2] 30)).alloc (.cells #[.slice A la ca] 31)).alloc (.cells #[.slice B lb cb] 31)
theorem chW_below (W : World) (s : Pr) (A : Option Addr) (la ca : Nat) (B : Option Addr) (lb cb : Nat) : Below W.heap.size W (chW W s A la ca B lb cb) :=
  (((Below.refl _ _).alloc (Nat.le_refl _) _).alloc (by simp) _).alloc (by simp <;> omega) _
theorem chW_good {W : World} {s : Pr} {A : Option Addr} {la ca : Nat} {B : Option Addr} {lb cb : Nat} {xs ys : List Int} (ha : Ints W W.heap.size A la xs) (hb : Ints W W.heap.size B lb ys) :
    Good (chW W s A la ca B lb cb) (W.heap.size + 1) (W.heap.size + 2) W.heap.size A la ca B lb cb s xs ys := by
  have hB := chW_below W s A la ca B lb cb
  have b0 := Bx.new W 30 (.int .i64 s.1) (.int .i64 s.2)
  have b1 := Boxed.new (W.alloc (.cells #[.int .i64 s.1, .int .i64 s.2] 30)) 31 (.slice A la ca)
  have b2 := Boxed.new ((W.alloc (.cells #[.int .i64 s.1, .int .i64 s.2] 30)).alloc (.cells #[.slice A la ca] 31)) 31 (.slice B lb cb)
  simp only [World.size_alloc] at b1 b2
  have b0' := (b0.alloc (.cells #[.slice A la ca] 31)).alloc (.cells #[.slice B lb cb] 31)
  exact ⟨(b1.alloc _).cell, b2.cell, b0'.c0, b0'.c1, (ha.below hB (Nat.le_refl _)).wide hB.size, (hb.below hB (Nat.le_refl _)).wide hB.size⟩
theorem Good.keep {w w' : World} {ba bb bs : Nat} {A : Option Addr} {la ca : Nat} {B : Option Addr} {lb cb : Nat} {s : Pr} {xs ys : List Int} (h : Good w ba bb bs A la ca B lb cb s xs ys) (hb : Below w.heap.size w w') : Good w' ba bb bs A la ca B lb cb s xs ys := by
  have k : ∀ {p : Addr} {v : Value}, w.cell? p = some v → w'.cell? p = some v := fun {p v} hp => (hb.cell (World.block_lt_of_cell? _ _ hp)).trans hp
  exact ⟨k h.ca, k h.cb, k h.s0, k h.s1, (h.a.below hb (Nat.le_refl _)).wide hb.size, (h.b.below hb (Nat.le_refl _)).wide hb.size⟩
theorem chW_stops {W : World} {s : Pr} {A : Option Addr} {la ca : Nat} {B : Option Addr} {lb cb : Nat} {xs ys : List Int} (ha : Ints W W.heap.size A la xs) (hb : Ints W W.heap.size B lb ys) (hla : la ≤ 1000000) (hlb : lb ≤ 1000000) :
    SeqStopsK Fence.wide 9 Try.prog 42 #[.pointer (some ⟨W.heap.size + 1, 0, none⟩), .pointer (some ⟨W.heap.size + 2, 0, none⟩), .pointer (some ⟨W.heap.size, 0, none⟩)] (fun x : Int => #[.int .i64 x]) (Below (chW W s A la ca B lb cb).heap.size) (fun zs => zs = chg s xs ys) (fun _ => True) (chg s xs ys).length (chW W s A la ca B lb cb) :=
  changes_stops (W.heap.size + 1) (W.heap.size + 2) W.heap.size A la ca B lb cb s xs ys hla hlb _ _ (fun _ _ _ h k => h.trans k) (fun a b h k => k.mono h) (fun _ _ h => h.size) (fun W' h => (chW_good ha hb).keep h)

end Stp
end Go.Proofs.Ytjmbccdcnmmhgaa
