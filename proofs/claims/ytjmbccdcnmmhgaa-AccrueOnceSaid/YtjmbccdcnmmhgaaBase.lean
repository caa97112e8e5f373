/-
  Spans, risks and covers by value, boxes. Conditions: those of each theorem.
-/
import Derived.Test.YtjmbccdcnmmhgaaRows
import Derived.Test.YtjmbccdcnmmhgaaMa
import Derived.WalkKit
import Derived.WalkLawsBesides
import Derived.Lib.Hide
import Derived.Deep.QuietTactic
import Derived.BigQuiet
import Derived.Deep.DeepCutAuto
import Derived.Deep.CutBlock
import Derived.Deep.RegionHeld3
import Derived.WalkSmall
import Derived.IntWalk
import Derived.Below
import Derived.Lib.SliceRun
import Derived.Laws.AppendOwnNone
import Derived.OwnWalk
import Derived.Maps.AppendAt
import Derived.ArgAppend
import Derived.Deep.AppendLies
import Derived.Laws.EntriesVeiled
import Derived.Defers
import Derived.StillTailTactics
namespace Go.Proofs.Ytjmbccdcnmmhgaa
open Go.RowKit Ba Cv Sp Te
namespace Tm
set_option linter.unusedVariables false

theorem bcell {W w1 : World} (hb : Below W.heap.size W w1) : (∀ b o, b < W.heap.size → w1.cell? ⟨b, o, none⟩ = W.cell? ⟨b, o, none⟩) ∧ (∀ b o, b < W.heap.size → w1.frozen? ⟨b, o, none⟩ = W.frozen? ⟨b, o, none⟩) :=
  ⟨fun b o h => hb.cell (p := ⟨b, o, none⟩) h, fun b o h => hb.frozen (p := ⟨b, o, none⟩) h⟩
theorem add_block (a : Addr) (n : Nat) : (a.add n).block = a.block := by unfold Addr.add; split <;> rfl
theorem add_one (a : Addr) (i : Nat) : a.add (i + 1) = ⟨(a.add i).block, (a.add i).off + 1, none⟩ := by
  unfold Addr.add
  by_cases hi : i = 0 <;> simp [hi, Nat.add_assoc]
theorem add_two (a : Addr) (i : Nat) : a.add (i + 2) = ⟨(a.add i).block, (a.add i).off + 2, none⟩ := by
  unfold Addr.add
  by_cases hi : i = 0 <;> simp [hi, Nat.add_assoc]

/-- Block b is these cells of a struct. -/
def Bx (w : World) (b : Nat) (t : TypeId) (xs : Array Value) : Prop := w.heap[b]? = some (.cells xs t (0, 0))
section
variable {w w1 : World} {b B : Nat} {t : TypeId} {xs : Array Value}
theorem Bx.lt (h : Bx w b t xs) : b < w.heap.size := by
  rcases Nat.lt_or_ge b w.heap.size with hlt | hge
  · exact hlt
  · unfold Bx at h; rw [Array.getElem?_eq_none hge] at h; cases h
theorem Bx.c (h : Bx w b t xs) (o : Nat) : w.cell? ⟨b, o, none⟩ = xs[o]? := by rw [cell_of_row w b o _ _ _ h]
theorem Bx.f (h : Bx w b t xs) (o : Nat) : w.frozen? ⟨b, o, none⟩ = false := by unfold Bx at h; simp [World.frozen?, h]
theorem Bx.below (h : Bx w b t xs) (hb : Below B w w1) (hB : b < B) : Bx w1 b t xs := (hb.block b hB).trans h
theorem Bx.keep (h : Bx w b t xs) (hb : Below w.heap.size w w1) : Bx w1 b t xs := h.below hb h.lt
theorem Bx.alloc (h : Bx w b t xs) (o : Obj) : Bx (w.alloc o) b t xs := (Below.heap_alloc w o b h.lt).trans h
theorem Bx.new (w : World) (t : TypeId) (xs : Array Value) : Bx (w.alloc (.cells xs t)) w.heap.size t xs := heap_alloc_new w _
theorem Bx.set (h : Bx w b t xs) (o : Nat) (z : Value) : Bx (w.setCell ⟨b, o, none⟩ z) b t (xs.setIfInBounds o z) := by
  unfold Bx at h ⊢; rw [heap_setCell_same w b o _ _ _ h]
theorem Bx.far (h : Bx w b t xs) {a : Addr} (hp : b ≠ a.block) (u : Value) : Bx (w.setCell a u) b t xs := (Below.heap_setCell w a u b hp).trans h
end
theorem bx1 {w w1 : World} {t : TypeId} {xs : Array Value} (hb : Below (w.alloc (.cells xs t)).heap.size (w.alloc (.cells xs t)) w1) : Bx w1 w.heap.size t xs ∧ Below w.heap.size w w1 :=
  ⟨(Bx.new w t xs).keep hb, ((Below.refl _ _).alloc (Nat.le_refl _) _).trans (hb.mono (by simp))⟩
theorem alloc_ (w : World) (o : Obj) : Below w.heap.size w (w.alloc o) := (Below.refl _ _).alloc (Nat.le_refl _) _

theorem add_more (a : Addr) (i k : Nat) : a.add (i + (k + 1)) = ⟨(a.add i).block, (a.add i).off + (k + 1), none⟩ := by
  unfold Addr.add
  by_cases hi : i = 0 <;> simp [hi, Nat.add_assoc]

theorem grown_of_below {W W' : World} (h : Below W.heap.size W W') : W.grownBy W' none := ⟨h.os, h.tape, h.output, h.size, fun k hk _ => h.block k hk⟩
theorem below_of_grown {w w' : World} (h : w.grownBy w' none) : Below w.heap.size w w' := (Below.refl _ w).grown h (Nat.le_refl _) (fun k hk => by cases hk)

abbrev Yes (w : World) (b : Bool) (e : Ending) (w' : World) : Prop := e = .returned (.bool b) ∧ Below w.heap.size w w'
theorem below_drewN {B : Nat} {w w' : World} (h : Below B w w') (n : Nat) : Below B w (w'.drewN n) := ⟨h.os, h.tape, h.output, h.size, h.block⟩
theorem below_alloc {w w' : World} {o : Obj} (h : Below (w.alloc o).heap.size (w.alloc o) w') : Below w.heap.size w w' := (alloc_ w o).trans (h.mono (by simp))
theorem undrew {w w' : World} (h : Below w.drew.heap.size w.drew w') : Below w.heap.size w w' := ⟨h.os, h.tape, h.output, h.size, h.block⟩

/-- A span by value, and its cells. -/
abbrev sc (x : Sp) : Array Value := #[.int .i64 x.1, .int .i64 x.2]
abbrev sg (x : Sp) : Value := .agg (sc x)
/-- A risk by value, and its cells; a cover by value, and its cells. -/
abbrev rc (r : Ri) : Array Value := #[.int .i64 r.k, .int .i64 r.v, .int .i64 r.a, .int .i64 r.z]
abbrev rg (r : Ri) : Value := .agg (rc r)
abbrev cc (c : Co) : Array Value := #[.int .i64 c.p, .int .i64 c.l, .int .i64 c.g, .int .i64 c.d, .int .i64 c.s]
abbrev cg (c : Co) : Value := .agg (cc c)

/-- Terms by value, and their cells. -/
abbrev tc (s : Sp) (r : Ri) (A : Option Addr) (n c : Nat) : Array Value := #[.int .i64 s.1, .int .i64 s.2, .int .i64 r.k, .int .i64 r.v, .int .i64 r.a, .int .i64 r.z, .slice A n c]
abbrev tg (s : Sp) (r : Ri) (A : Option Addr) (n c : Nat) : Value := .agg (tc s r A n c)

/-- A world in which all that lay in w lies as it lay. -/
structure Ext (w : World) where
  W : World
  b : Below w.heap.size w W
theorem quietE {P : Program} {id : Nat} {Q : Exit → Act → World → Prop} {a : Act} {w : World} {l : List Oper} (hm : P.follows .mixedOrders = true) (hB : Region.lexB .any l.toArray = true)
    (h : wpQuiet P l.toArray (fun w' => ∃ p : Ext w, w' = p.W) (fun a' => ∀ w', (∃ p : Ext w, w' = p.W) → Q .normal a' w') l a) : (Code.region id l.toArray true).wp P Q a w :=
  wp_region_quiet (C := fun w' => ∃ p : Ext w, w' = p.W) hm hB ⟨⟨{ w with drawn := w.drawn + 1 }, ⟨rfl, rfl, rfl, Nat.le_refl _, fun _ _ => rfl⟩⟩, rfl⟩ (by simpa using h)
theorem ext_of {P : Program} {f : FuncId} {args : Array Value} {w : World} {p : Ext w} {v : Value} (h : Calls P f args p.W fun e w' => e = .returned v ∧ Below p.W.heap.size p.W w') :
    Calls P f args p.W fun e w'' => e = .returned v ∧ ∃ q : Ext w, w'' = q.W := h.mono fun _ _ ⟨he, hb⟩ => ⟨he, ⟨_, p.b.trans (hb.mono p.b.size)⟩, rfl⟩
theorem Bx.ext {w : World} {b : Nat} {t : TypeId} {xs : Array Value} (h : Bx w b t xs) (p : Ext w) (o : Nat) : p.W.cell? ⟨b, o, none⟩ = xs[o]? := (h.keep p.b).c o
end Tm
end Go.Proofs.Ytjmbccdcnmmhgaa
