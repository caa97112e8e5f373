/-
  answer: what is worked out, or the code that was told on the way. Conditions: those of each theorem.
-/
import Derived.Test.YtjmbccdcnmmhgaaAcA
namespace Go.Proofs.Ytjmbccdcnmmhgaa
open Go.RowKit Ba Cv Sp Te Ag Sl Tm
namespace Acr
set_option linter.unusedVariables false

/-- A box of one cell. -/
def Bo (w : World) (b : Nat) (t : TypeId) (x : Value) : Prop := w.heap[b]? = some (.cells #[x] t (0, 0))
theorem Bo.c {w : World} {b : Nat} {t : TypeId} {x : Value} (h : Bo w b t x) : w.cell? ⟨b, 0, none⟩ = some x := by rw [cell_of_row w b 0 _ _ _ h]; rfl
theorem Bo.f {w : World} {b : Nat} {t : TypeId} {x : Value} (h : Bo w b t x) : w.frozen? ⟨b, 0, none⟩ = false := by unfold Bo at h; simp [World.frozen?, h]
theorem Bo.below {w w1 : World} {b B : Nat} {t : TypeId} {x : Value} (h : Bo w b t x) (hb : Below B w w1) (hB : b < B) : Bo w1 b t x := (hb.block b hB).trans h
theorem Bo.new (w : World) (t : TypeId) (x : Value) : Bo (w.alloc (.cells #[x] t)) w.heap.size t x := heap_alloc_new w _
theorem Bo.lt {w : World} {b : Nat} {t : TypeId} {x : Value} (h : Bo w b t x) : b < w.heap.size := by
  unfold Bo at h
  exact (Array.getElem?_eq_some_iff.1 h).1

section
variable (k : FuncId) (cap : Array Value) (v c : Int) (w : World)
set_option maxHeartbeats 4000000 in
theorem answer_yes (hen : ∀ args w, (callFunc k args).run Try.prog w = .ok (.enter k args) w)
    (HC : Calls Try.prog k cap (w.alloc (.cells #[.int .i64 0] 24)) fun e w' => e = .returned (.int .i64 v) ∧ Below (w.heap.size + 1) (w.alloc (.cells #[.int .i64 0] 24)) w') :
    Calls Try.prog 17 #[.func (.func k) #[] cap] w fun e w' => e = .returned (.tuple #[.int .i64 v, .int .i64 0]) ∧ Below w.heap.size w w' := by
  have hmf : ∀ (fn : Fn) (first cap : Array Value) (w : World), (Instr.makeFunc fn first cap).run Try.prog w = .ok (.func fn first cap) w := fun _ _ _ _ => rfl
  have H0 := Lib.hid (Bo.new w 24 (.int .i64 0))
  have B0 := Lib.hid (alloc_ w (.cells #[.int .i64 0] 24))
  have HC := Lib.hid HC
  go_enter_defers Try.func17, Try.ntmps17
  go_wp2_with fail
  refine HC.out.mono ?_
  rintro e w1 ⟨rfl, hb⟩
  have H1 := H0.out.below hb (Nat.lt_succ_self _)
  have c1 := H1.c
  have f1 := H1.f
  have HB := Lib.hid (B0.out.trans (hb.mono (Nat.le_succ _)))
  clear hb
  go_wp2
  refine leaves_cons (f := 30) (args := #[.pointer (some ⟨w.heap.size, 0, none⟩)]) (by simp) (by simp [go_sem]) ?_
  refine (idleI ⟨w.heap.size, 0, none⟩ _).mono ?_
  rintro e u' w2 ⟨rfl, rfl, rfl⟩
  simp [Leaves, settle, results, Try.results17, go_sem, c1, f1]
  exact HB.out.setCell (by simp) _
set_option maxHeartbeats 4000000 in
theorem answer_no (hen : ∀ args w, (callFunc k args).run Try.prog w = .ok (.enter k args) w)
    (HC : Calls Try.prog k cap (w.alloc (.cells #[.int .i64 0] 24)) fun e w' => e = pnc c ∧ Below (w.heap.size + 1) (w.alloc (.cells #[.int .i64 0] 24)) w') :
    Calls Try.prog 17 #[.func (.func k) #[] cap] w fun e w' => e = .returned (.tuple #[.int .i64 0, .int .i64 c]) ∧ Below w.heap.size w w' := by
  have hmf : ∀ (fn : Fn) (first cap : Array Value) (w : World), (Instr.makeFunc fn first cap).run Try.prog w = .ok (.func fn first cap) w := fun _ _ _ _ => rfl
  have H0 := Lib.hid (Bo.new w 24 (.int .i64 0))
  have B0 := Lib.hid (alloc_ w (.cells #[.int .i64 0] 24))
  have HC := Lib.hid HC
  go_enter_defers Try.func17, Try.ntmps17
  go_wp2_with fail
  refine HC.out.mono ?_
  rintro e w1 ⟨rfl, hb⟩
  have H1 := H0.out.below hb (Nat.lt_succ_self _)
  have c1 := H1.c
  have f1 := H1.f
  have HB := Lib.hid (B0.out.trans (hb.mono (Nat.le_succ _)))
  clear hb
  go_wp2
  refine leaves_cons (f := 30) (args := #[.pointer (some ⟨w.heap.size, 0, none⟩)]) (by simp) (by simp [go_sem]) ?_
  refine (catchI ⟨w.heap.size, 0, none⟩ 0 c _ _ c1 f1).mono ?_
  rintro e u' w2 ⟨rfl, rfl, rfl⟩
  simp [Leaves, settle, results, Try.results17, go_sem, c1, f1]
  exact HB.out.setCell (by simp) _
end
section
variable (k : FuncId) (cap : Array Value) (c : Int) (w : World)
abbrev anW (w : World) : World := (w.alloc (.cells #[.slice none 0 0, .slice none 0 0] 38)).alloc (.cells #[.int .i64 0] 24)
theorem anW_below (w : World) : Below w.heap.size w (anW w) := ((Below.refl _ w).alloc (Nat.le_refl _) _).alloc (by simp) _
set_option maxHeartbeats 4000000 in
theorem answerS_yes (R : Option Addr → Nat → Nat → Option Addr → Nat → World → Prop) (hR : ∀ A n c V d w1 p u, p.block < w.heap.size + 2 → R A n c V d w1 → R A n c V d (w1.setCell p u)) (hen : ∀ args w, (callFunc k args).run Try.prog w = .ok (.enter k args) w)
    (HC : Calls Try.prog k cap (anW w) fun e w' => ∃ A n c V d, e = .returned (.agg #[.slice A n c, .slice V n d]) ∧ R A n c V d w' ∧ Below (w.heap.size + 2) (anW w) w') :
    Calls Try.prog 25 #[.func (.func k) #[] cap] w fun e w' => ∃ A n c V d, e = .returned (.tuple #[.agg #[.slice A n c, .slice V n d], .int .i64 0]) ∧ R A n c V d w' ∧ Below w.heap.size w w' := by
  have hmf : ∀ (fn : Fn) (first cap : Array Value) (w : World), (Instr.makeFunc fn first cap).run Try.prog w = .ok (.func fn first cap) w := fun _ _ _ _ => rfl
  have HR := Lib.hid hR
  have HC := Lib.hid HC
  have H0 := Lib.hid (Bx.new (w.alloc (.cells #[.slice none 0 0, .slice none 0 0] 38)) 24 #[.int .i64 0])
  have X0 := Lib.hid ((Bx.new w 38 #[.slice none 0 0, .slice none 0 0]).alloc (.cells #[.int .i64 0] 24))
  clear hR
  go_enter_defers Try.func25, Try.ntmps25
  go_wp2_with fail
  refine HC.out.mono ?_
  rintro e w1 ⟨A, n, ca, V, d, rfl, hr, hb⟩
  have H1 := H0.out.below hb (by simp <;> omega)
  have X1 := X0.out.below hb (by omega)
  have c1 := H1.c 0
  have f1 := H1.f 0
  have x1 := X1.c 0
  have x2 := X1.c 1
  have f2 := X1.f 0
  have f3 := X1.f 1
  simp at c1 f1 x1 x2
  have HB := Lib.hid ((anW_below w).trans (hb.mono (by omega)))
  have HRr := Lib.hid hr
  clear hb H1 X1 hr H0 X0
  go_wp2
  refine leaves_cons (f := 34) (args := #[.pointer (some ⟨w.heap.size + 1, 0, none⟩)]) (by simp) (by simp [go_sem]) ?_
  refine (idleS ⟨w.heap.size + 1, 0, none⟩ _).mono ?_
  rintro e u' w2 ⟨rfl, rfl, rfl⟩
  simp [Leaves, settle, results, Try.results25, go_sem, c1, f1, x1, x2, f2, f3]
  refine ⟨A, n, ca, V, d, by simp, ?_, ?_⟩
  · exact HR.out _ _ _ _ _ _ _ _ (by simp) (HR.out _ _ _ _ _ _ _ _ (by simp) (HR.out _ _ _ _ _ _ _ _ (by simp) HRr.out))
  · exact ((HB.out.setCell (by simp) _).setCell (by simp) _).setCell (by simp) _
set_option maxHeartbeats 4000000 in
theorem answerS_no (hen : ∀ args w, (callFunc k args).run Try.prog w = .ok (.enter k args) w)
    (HC : Calls Try.prog k cap (anW w) fun e w' => e = pnc c ∧ Below (w.heap.size + 2) (anW w) w') :
    Calls Try.prog 25 #[.func (.func k) #[] cap] w fun e w' => e = .returned (.tuple #[.agg #[.slice none 0 0, .slice none 0 0], .int .i64 c]) ∧ Below w.heap.size w w' := by
  have hmf : ∀ (fn : Fn) (first cap : Array Value) (w : World), (Instr.makeFunc fn first cap).run Try.prog w = .ok (.func fn first cap) w := fun _ _ _ _ => rfl
  have HC := Lib.hid HC
  have H0 := Lib.hid (Bx.new (w.alloc (.cells #[.slice none 0 0, .slice none 0 0] 38)) 24 #[.int .i64 0])
  have X0 := Lib.hid ((Bx.new w 38 #[.slice none 0 0, .slice none 0 0]).alloc (.cells #[.int .i64 0] 24))
  go_enter_defers Try.func25, Try.ntmps25
  go_wp2_with fail
  refine HC.out.mono ?_
  rintro e w1 ⟨rfl, hb⟩
  have H1 := H0.out.below hb (by simp <;> omega)
  have X1 := X0.out.below hb (by omega)
  have c1 := H1.c 0
  have f1 := H1.f 0
  have x1 := X1.c 0
  have x2 := X1.c 1
  have f2 := X1.f 0
  have f3 := X1.f 1
  simp at c1 f1 x1 x2
  have HB := Lib.hid ((anW_below w).trans (hb.mono (by omega)))
  clear hb H1 X1 H0 X0
  go_wp2
  refine leaves_cons (f := 34) (args := #[.pointer (some ⟨w.heap.size + 1, 0, none⟩)]) (by simp) (by simp [go_sem]) ?_
  refine (catchS ⟨w.heap.size + 1, 0, none⟩ 0 c _ _ c1 f1).mono ?_
  rintro e u' w2 ⟨rfl, rfl, rfl⟩
  simp [Leaves, settle, results, Try.results25, go_sem, c1, f1, x1, x2, f2, f3]
  exact HB.out.setCell (by simp) _
end

end Acr
end Go.Proofs.Ytjmbccdcnmmhgaa
