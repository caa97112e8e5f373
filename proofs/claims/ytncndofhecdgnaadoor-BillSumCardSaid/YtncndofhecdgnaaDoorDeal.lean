/-
  num.dealer and the closure that it hands back: what each call gives, and what it leaves in the closure's own cells. Conditions: those of each theorem.
-/
import Derived.Test.YtncndofhecdgnaaDoorInts
namespace Go.Proofs.YtncndofhecdgnaaDoor
open Go.RowKit NumMath NumBits
namespace Num

/-- Block g is one cell that holds this int. -/
def C1 (w : World) (g : Nat) (x : Int) : Prop := w.heap[g]? = some (.cells #[.int .i64 x] 3 (0, 0))

section
variable {w w' : World} {g : Nat} {x : Int}
theorem C1.lt (h : C1 w g x) : g < w.heap.size := by
  rcases Nat.lt_or_ge g w.heap.size with hlt | hge
  · exact hlt
  · unfold C1 at h; rw [Array.getElem?_eq_none hge] at h; cases h
theorem C1.cell (h : C1 w g x) : w.cell? ⟨g, 0, none⟩ = some (.int .i64 x) := by rw [cell_of_row w g 0 _ _ _ h]; rfl
theorem C1.frozen (h : C1 w g x) : w.frozen? ⟨g, 0, none⟩ = false := by unfold C1 at h; simp [World.frozen?, h]
theorem C1.keep (h : C1 w g x) (e : w'.heap[g]? = w.heap[g]?) : C1 w' g x := e.trans h
theorem C1.set (h : C1 w g x) (y : Int) : C1 (w.setCell ⟨g, 0, none⟩ (.int .i64 y)) g y := by
  unfold C1 at h ⊢
  rw [heap_setCell_same w g 0 _ _ _ h]
  rfl
end

/-- Only the closure's two running cells, and what is new, may have turned. -/
structure Turned (g : Nat) (w w' : World) : Prop where
  os : w'.os = w.os
  tape : w'.tape = w.tape
  output : w'.output = w.output
  size : w.heap.size ≤ w'.heap.size
  block : ∀ i, i < w.heap.size → i ≠ g + 2 → i ≠ g + 3 → w'.heap[i]? = w.heap[i]?

/-- The closure's four cells. -/
structure Deals (w : World) (g : Nat) (m all u d : Int) : Prop where
  m : C1 w g m
  all : C1 w (g + 1) all
  u : C1 w (g + 2) u
  d : C1 w (g + 3) d

abbrev dealFn (g : Nat) : Value := .func (.func 56) #[] #[.pointer (some ⟨g + 2, 0, none⟩), .pointer (some ⟨g, 0, none⟩), .pointer (some ⟨g + 1, 0, none⟩), .pointer (some ⟨g + 3, 0, none⟩)]

theorem alloc_lt (w : World) (o : Obj) (i : Nat) (h : i < w.heap.size) : (w.alloc o).heap[i]? = w.heap[i]? := Below.heap_alloc w o i h
theorem alloc_at (w : World) (o : Obj) (i : Nat) (h : i = w.heap.size) : (w.alloc o).heap[i]? = some o := by subst h; exact heap_alloc_new w o

set_option maxHeartbeats 1000000 in
theorem dealer (m all : Int) (w : World) :
    Calls Tryd.prog 52 #[.int .i64 m, .int .i64 all] w fun e w' => e = .returned (dealFn w.heap.size) ∧ Deals w' w.heap.size m all 0 0 ∧ Below w.heap.size w w' ∧ w'.heap.size = w.heap.size + 4 := by
  go_enter Tryd.func52, Tryd.ntmps52
  go_wp2
  go_ret
  refine ⟨rfl, ⟨?_, ?_, ?_, ?_⟩, ?_, by simp⟩
  · exact (alloc_lt _ _ _ (by simp; omega)).trans ((alloc_lt _ _ _ (by simp; omega)).trans ((alloc_lt _ _ _ (by simp)).trans (alloc_at _ _ _ rfl)))
  · exact (alloc_lt _ _ _ (by simp)).trans ((alloc_lt _ _ _ (by simp)).trans (alloc_at _ _ _ (by simp)))
  · exact (alloc_lt _ _ _ (by simp)).trans (alloc_at _ _ _ (by simp))
  · exact alloc_at _ _ _ (by simp)
  · exact ((((Below.refl _ _).alloc (Nat.le_refl _) _).alloc (by simp) _).alloc (by simp; omega) _).alloc (by simp; omega) _

def DealtTo (w : World) (g : Nat) (m all u d : Int) (w' : World) : Prop := Deals w' g m all u d ∧ Turned g w w'

set_option maxHeartbeats 1000000 in
theorem deal (g : Nat) (m all u d p due : Int) (w : World) (h : Deals w g m all u d) (hm : 0 ≤ m ∧ m ≤ 4000000000000000000) (ha : 0 < all ∧ all ≤ 4000000000000000000)
    (hu : 0 ≤ u) (hp : 0 ≤ p) (hup : u + p ≤ all) (hd : 0 ≤ d ∧ d ≤ 4000000000000000000) (hdue : 0 ≤ due ∧ due ≤ 4000000000000000000) (edue : Hid (dnV m (u + p) all = due)) :
    Calls Tryd.prog 56 #[.int .i64 p, .pointer (some ⟨g + 2, 0, none⟩), .pointer (some ⟨g, 0, none⟩), .pointer (some ⟨g + 1, 0, none⟩), .pointer (some ⟨g + 3, 0, none⟩)] w
      fun e w' => e = .returned (.int .i64 (due - d)) ∧ DealtTo w g m all (u + p) due w' := by
  obtain ⟨h1, h2, h3, h4⟩ := h
  have c1 := h1.cell
  have c2 := h2.cell
  have c3 := h3.cell
  have c4 := h4.cell
  have f3 := h3.frozen
  have f4 := h4.frozen
  have l4 := h4.lt
  have HD := Lib.hid (And.intro h1 (And.intro h2 (And.intro h3 h4)))
  clear h1 h2 h3 h4
  have H := fun w => Lib.hid (down m (u + p) all w (by omega) (by omega) (by omega))
  go_enter Tryd.func56, Tryd.ntmps56
  go_wp2_with fail
  refine (H _).out.mono ?_
  rintro e w1 ⟨rfl, hb⟩
  rw [edue.out]
  have k4 : w1.cell? ⟨g + 3, 0, none⟩ = some (.int .i64 d) := by
    rw [hb.cell (p := ⟨g + 3, 0, none⟩) (by simpa using l4), World.cell?_setCell_other _ _ _ _ (by simp)]
    exact c4
  have k4f : w1.frozen? ⟨g + 3, 0, none⟩ = false := by
    rw [hb.frozen (p := ⟨g + 3, 0, none⟩) (by simpa using l4)]
    simpa using f4
  have HB := Lib.hid hb
  clear hb
  go_wp2
  go_ret
  obtain ⟨h1, h2, h3, h4⟩ := HD.out
  have hb := HB.out
  have sz : (w.setCell ⟨g + 2, 0, none⟩ (.int .i64 (u + p))).heap.size = w.heap.size := by simp
  have back : ∀ i, i < w.heap.size → i ≠ g + 2 → w1.heap[i]? = w.heap[i]? := fun i hi hne => by
    rw [hb.block i (by rw [sz]; exact hi), heap_setCell_other _ _ _ _ hne]
  have at2 : C1 w1 (g + 2) (u + p) := (h3.set (u + p)).keep (hb.block (g + 2) (by rw [sz]; omega))
  have at3 : C1 w1 (g + 3) d := h4.keep (back _ (by omega) (by omega))
  refine ⟨rfl, ⟨⟨?_, ?_, ?_, ?_⟩, ⟨?_, ?_, ?_, ?_, ?_⟩⟩⟩
  · exact h1.keep ((heap_setCell_other _ _ _ _ (by simp)).trans (back _ (by omega) (by omega)))
  · exact h2.keep ((heap_setCell_other _ _ _ _ (by simp)).trans (back _ (by omega) (by omega)))
  · exact at2.keep (heap_setCell_other _ _ _ _ (by simp))
  · exact at3.set due
  · exact hb.os
  · exact hb.tape
  · exact hb.output
  · have := hb.size; rw [sz] at this; simpa using this
  · intro i hi h2 h3
    exact (heap_setCell_other _ _ _ _ h3).trans (back i hi h2)

end Num
end Go.Proofs.YtncndofhecdgnaaDoor
