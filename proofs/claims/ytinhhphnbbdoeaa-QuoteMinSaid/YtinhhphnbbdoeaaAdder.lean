/-
  adder of package quote and the closure that it hands back. Conditions: those of each theorem.
-/
import Derived.Test.YtinhhphnbbdoeaaBase
namespace Go.Proofs.Ytinhhphnbbdoeaa
open Go.RowKit Ba Tf Cv Qm
namespace Qo
set_option linter.unusedVariables false

/-- The closure's two cells: the sum, and whether it fits. -/
structure Adds (w : World) (g : Nat) (s : Int) (b : Bool) : Prop where
  s : Bx w g 3 #[.int .i64 s]
  b : Bx w (g + 1) 4 #[.bool b]
/-- Only the closure's two cells, and what is new, may have turned. -/
structure Turned (g : Nat) (w w' : World) : Prop where
  os : w'.os = w.os
  tape : w'.tape = w.tape
  output : w'.output = w.output
  size : w.heap.size ≤ w'.heap.size
  block : ∀ i, i < w.heap.size → i ≠ g → i ≠ g + 1 → w'.heap[i]? = w.heap[i]?
theorem Turned.below {g : Nat} {w0 w w' : World} (h : Turned g w w') (hb : Below w0.heap.size w0 w) (hg : w0.heap.size ≤ g) : Below w0.heap.size w0 w' :=
  ⟨h.os.trans hb.os, h.tape.trans hb.tape, h.output.trans hb.output, Nat.le_trans hb.size h.size, fun i hi => (h.block i (Nat.lt_of_lt_of_le hi hb.size) (by omega) (by omega)).trans (hb.block i hi)⟩
theorem Adds.keep {g : Nat} {s : Int} {b : Bool} {w w' : World} (h : Adds w g s b) (hb : Below w.heap.size w w') : Adds w' g s b := ⟨h.s.keep hb, h.b.keep hb⟩
theorem Adds.alloc {g : Nat} {s : Int} {b : Bool} {w : World} (h : Adds w g s b) (o : Obj) : Adds (w.alloc o) g s b := ⟨h.s.alloc o, h.b.alloc o⟩

abbrev addFn (g : Nat) : Value := .func (.func 37) #[] #[.pointer (some ⟨g + 1, 0, none⟩), .pointer (some ⟨g, 0, none⟩)]

set_option maxHeartbeats 1000000 in
theorem adder (w : World) : Calls Try.prog 27 #[] w fun e w' => e = .returned (addFn w.heap.size) ∧ Adds w' w.heap.size 0 true ∧ Below w.heap.size w w' := by
  have HA := Lib.hid (show Adds ((w.alloc (.cells #[.int .i64 0] 3)).alloc (.cells #[.bool true] 4)) w.heap.size 0 true by
    refine ⟨(Bx.new _ _ _).alloc _, ?_⟩
    have := Bx.new (w.alloc (.cells #[.int .i64 0] 3)) 4 #[.bool true]
    rw [World.size_alloc] at this
    exact this)
  go_enter Try.func27, Try.ntmps27
  go_wp2
  go_ret
  exact ⟨rfl, HA.out, (alloc_ _ _).alloc (by simp) _⟩

abbrev AddTo (w : World) (g : Nat) (s : Int) (b : Bool) (e : Ending) (w' : World) : Prop := e = .returned (.tuple #[.int .i64 s, .bool b]) ∧ Adds w' g s b ∧ Turned g w w'

theorem Turned.refl (g : Nat) (w : World) : Turned g w w := ⟨rfl, rfl, rfl, Nat.le_refl _, fun _ _ _ _ => rfl⟩
theorem Turned.set {g : Nat} {w w' : World} (h : Turned g w w') {b : Nat} (hb : b = g ∨ b = g + 1) (u : Value) : Turned g w (w'.setCell ⟨b, 0, none⟩ u) := by
  have q := (Below.refl 0 w').setCell (p := ⟨b, 0, none⟩) (Nat.zero_le _) u
  exact ⟨q.os.trans h.os, q.tape.trans h.tape, q.output.trans h.output, Nat.le_trans h.size q.size, fun i hi h1 h2 => (Below.heap_setCell w' ⟨b, 0, none⟩ u i (by show i ≠ b; omega)).trans (h.block i hi h1 h2)⟩
theorem Turned.drew1 {g : Nat} {w w' : World} (h : Turned g w w') (n : Nat) : Turned g w (w'.drewN n) := ⟨h.os, h.tape, h.output, h.size, h.block⟩
theorem Adds.fits {g : Nat} {s : Int} {b : Bool} {w : World} (h : Adds w g s b) (c : Bool) : Adds (w.setCell ⟨g + 1, 0, none⟩ (.bool c)) g s c := ⟨h.s.far (by show g ≠ g + 1; omega) _, h.b.set 0 _⟩
theorem Adds.sum {g : Nat} {s : Int} {b : Bool} {w : World} (h : Adds w g s b) (t : Int) : Adds (w.setCell ⟨g, 0, none⟩ (.int .i64 t)) g t b := ⟨h.s.set 0 _, h.b.far (by show g + 1 ≠ g; omega) _⟩

set_option maxHeartbeats 1000000 in
theorem add_no (g : Nat) (s a : Int) (w : World) (h : Adds w g s false) :
    Calls Try.prog 37 #[.int .i64 a, .pointer (some ⟨g + 1, 0, none⟩), .pointer (some ⟨g, 0, none⟩)] w (AddTo w g (s) false) := by
  have HA := Lib.hid (show Adds (w.setCell ⟨g + 1, 0, none⟩ (.bool false)) g (s) false ∧ Turned g w (w.setCell ⟨g + 1, 0, none⟩ (.bool false)) from ⟨h.fits false, (Turned.refl g w).set (.inr rfl) _⟩)
  have c0 := h.s.c 0
  have c1 := h.b.c 0
  have f0 := h.s.f 0
  have f1 := h.b.f 0
  simp at c0 c1
  clear h
  go_enter Try.func37, Try.ntmps37
  go_wp2
  generalize w.setCell ⟨g + 1, 0, none⟩ (.bool false) = W at HA ⊢
  have d0 := HA.out.1.s.c 0
  have d1 := HA.out.1.b.c 0
  simp at d0 d1
  clear c0 c1 f0 f1
  go_quiet (fail)
  go_wp2
  go_ret2
  exact ⟨rfl, (HA.out.1).keep ⟨rfl, rfl, rfl, Nat.le_refl _, fun _ _ => rfl⟩, HA.out.2.drew1 _⟩

set_option maxHeartbeats 1000000 in
theorem add_over (g : Nat) (s a : Int) (w : World) (h : Adds w g s true) (d : Int) (e : 4000000000000000000 - s = d) (t1 : decide (a ≤ d) = false) (k1 : -9223372036854775808 ≤ d) (k2 : d ≤ 9223372036854775807) :
    Calls Try.prog 37 #[.int .i64 a, .pointer (some ⟨g + 1, 0, none⟩), .pointer (some ⟨g, 0, none⟩)] w (AddTo w g (s) false) := by
  have HA := Lib.hid (show Adds (w.setCell ⟨g + 1, 0, none⟩ (.bool false)) g (s) false ∧ Turned g w (w.setCell ⟨g + 1, 0, none⟩ (.bool false)) from ⟨h.fits false, (Turned.refl g w).set (.inr rfl) _⟩)
  have c0 := h.s.c 0
  have c1 := h.b.c 0
  have f0 := h.s.f 0
  have f1 := h.b.f 0
  simp at c0 c1
  clear h
  go_enter Try.func37, Try.ntmps37
  go_wp2
  generalize w.setCell ⟨g + 1, 0, none⟩ (.bool false) = W at HA ⊢
  have d0 := HA.out.1.s.c 0
  have d1 := HA.out.1.b.c 0
  simp at d0 d1
  clear c0 c1 f0 f1
  go_quiet (fail)
  go_wp2
  go_ret2
  exact ⟨rfl, (HA.out.1).keep ⟨rfl, rfl, rfl, Nat.le_refl _, fun _ _ => rfl⟩, HA.out.2.drew1 _⟩

set_option maxHeartbeats 1000000 in
theorem add_yes (g : Nat) (s a : Int) (w : World) (h : Adds w g s true) (d : Int) (e : 4000000000000000000 - s = d) (t1 : decide (a ≤ d) = true) (k1 : -9223372036854775808 ≤ d) (k2 : d ≤ 9223372036854775807) (t : Int) (et : s + a = t) (k3 : -9223372036854775808 ≤ t) (k4 : t ≤ 9223372036854775807) :
    Calls Try.prog 37 #[.int .i64 a, .pointer (some ⟨g + 1, 0, none⟩), .pointer (some ⟨g, 0, none⟩)] w (AddTo w g (t) true) := by
  have HA := Lib.hid (show Adds ((w.setCell ⟨g + 1, 0, none⟩ (.bool true)).setCell ⟨g, 0, none⟩ (.int .i64 t)) g (t) true ∧ Turned g w ((w.setCell ⟨g + 1, 0, none⟩ (.bool true)).setCell ⟨g, 0, none⟩ (.int .i64 t)) from ⟨(h.fits true).sum t, ((Turned.refl g w).set (.inr rfl) _).set (.inl rfl) _⟩)
  have c0 := h.s.c 0
  have c1 := h.b.c 0
  have f0 := h.s.f 0
  have f1 := h.b.f 0
  simp at c0 c1
  clear h
  go_enter Try.func37, Try.ntmps37
  go_wp2
  generalize (w.setCell ⟨g + 1, 0, none⟩ (.bool true)).setCell ⟨g, 0, none⟩ (.int .i64 t) = W at HA ⊢
  have d0 := HA.out.1.s.c 0
  have d1 := HA.out.1.b.c 0
  simp at d0 d1
  clear c0 c1 f0 f1
  go_quiet (fail)
  go_wp2
  go_ret2
  exact ⟨rfl, (HA.out.1).keep ⟨rfl, rfl, rfl, Nat.le_refl _, fun _ _ => rfl⟩, HA.out.2.drew1 _⟩

/-- The sum and whether it fits, with one amount more. -/
def nxs (s a : Int) (b : Bool) : Int := if b = true ∧ a ≤ 4000000000000000000 - s then s + a else s
def nxb (s a : Int) (b : Bool) : Bool := b && decide (a ≤ 4000000000000000000 - s)
theorem add (g : Nat) (s a : Int) (b : Bool) (w : World) (h : Adds w g s b) (hs : 0 ≤ s ∧ s ≤ 4000000000000000000) (ha : 0 ≤ a ∧ a ≤ 4000000000000000000) :
    Calls Try.prog 37 #[.int .i64 a, .pointer (some ⟨g + 1, 0, none⟩), .pointer (some ⟨g, 0, none⟩)] w (AddTo w g (nxs s a b) (nxb s a b)) := by
  cases b with
  | false => exact add_no g s a w h
  | true =>
    by_cases h1 : a ≤ 4000000000000000000 - s
    · have e1 : nxs s a true = s + a := by unfold nxs; rw [if_pos ⟨rfl, h1⟩]
      have e2 : nxb s a true = true := by unfold nxb; rw [decide_eq_true h1]; rfl
      rw [e1, e2]
      exact add_yes g s a w h _ rfl (decide_eq_true h1) (by omega) (by omega) _ rfl (by omega) (by omega)
    · have e1 : nxs s a true = s := by unfold nxs; rw [if_neg (fun e => h1 e.2)]
      have e2 : nxb s a true = false := by unfold nxb; rw [decide_eq_false h1]; rfl
      rw [e1, e2]
      exact add_over g s a w h _ rfl (decide_eq_false h1) (by omega) (by omega)
end Qo
end Go.Proofs.Ytinhhphnbbdoeaa
