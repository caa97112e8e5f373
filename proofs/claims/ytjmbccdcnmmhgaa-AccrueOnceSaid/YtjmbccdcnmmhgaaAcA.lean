/-
  An error that is found within is told by panic, and handed on by what is deferred. Conditions: those of each theorem.
-/
import Derived.Test.YtjmbccdcnmmhgaaAcN
import Derived.Test.YtjmbccdcnmmhgaaOne
import Derived.Test.YtjmbccdcnmmhgaaNu
import Derived.Defers
import Derived.Recover
import Derived.Laws.Pointers
namespace Go.Proofs.Ytjmbccdcnmmhgaa
open Go.RowKit Ba Cv Sp Te Ag Sl Tm
namespace Acr
set_option linter.unusedVariables false

/-- A code, told by panic. -/
abbrev er (k : Int) : Value := .iface 24 (.int .i64 k)
abbrev pnc (k : Int) : Ending := .panicked [{ v := er k, recovered := false }]
theorem need_yes (k : Int) (w : World) : Calls Try.prog 22 #[.bool true, .int .i64 k] w fun e w' => e = .returned (.tuple #[]) ∧ w = w' := by
  go_enter Try.func22, Try.ntmps22
  go_wp2
  go_end0
  exact ⟨rfl, rfl⟩
theorem need_no (k : Int) (w : World) : Calls Try.prog 22 #[.bool false, .int .i64 k] w fun e w' => e = pnc k ∧ w = w' := by
  go_enter Try.func22, Try.ntmps22
  go_wp2
  exact ⟨rfl, rfl, rfl⟩
/-- A span that has days. -/
def fll (s : Sp) : Bool := decide (1 ≤ s.1 ∧ s.1 < s.2 ∧ s.2 ≤ 292195)
set_option maxHeartbeats 1000000 in
theorem full_ (x : Sp) (w : World) : Calls Try.prog 32 #[sg x] w fun e w' => e = .returned (.bool (fll x)) ∧ Below w.heap.size w w' := by
  have C := fun w => Lib.hid (span_right x w)
  have D := fun w => Lib.hid (span_many x w)
  obtain ⟨a, b⟩ := x
  cases hr : rt (a, b)
  · have hf : fll (a, b) = false := by
      have := (rt_not (a, b)).1 hr
      exact decide_eq_false (by simp only at this ⊢; omega)
    rw [hf]
    rw [hr] at C
    clear hf hr D
    go_enter Try.func32, Try.ntmps32
    go_wp2_with fail
    refine (C _).out.mono ?_
    rintro e w1 ⟨rfl, hb⟩
    have HB := Lib.hid hb
    clear hb C
    go_wp2
    go_ret
    exact ⟨rfl, ((Below.refl _ _).alloc (Nat.le_refl _) _).trans (HB.out.mono (by simp))⟩
  · have hs := (rt_iff (a, b)).1 hr
    have hm : mn (a, b) = b - a := by rw [mn, if_pos hr]
    have hf : fll (a, b) = decide (0 < b - a) := by
      unfold fll
      rw [decide_eq_decide]
      simp only at hs ⊢; omega
    rw [hf]
    rw [hr] at C
    rw [hm] at D
    obtain ⟨h1, h2, h3⟩ := hs
    simp only at h1 h2 h3
    obtain ⟨z, hz⟩ : ∃ z, b - a = z := ⟨_, rfl⟩
    rw [hz] at D ⊢
    clear hf hm hr hz
    go_enter Try.func32, Try.ntmps32
    go_wp2_with fail
    refine (C _).out.mono ?_
    rintro e w1 ⟨rfl, hb⟩
    obtain ⟨hc, hf⟩ := bcell hb
    have HB := Lib.hid hb
    clear hb C
    go_wp2_with fail
    refine (D _).out.mono ?_
    rintro e w2 ⟨rfl, hb⟩
    have HB2 := Lib.hid (HB.out.trans (hb.mono HB.out.size))
    clear hb D hc hf HB
    go_wp2
    go_ret
    exact ⟨rfl, ((Below.refl _ _).alloc (Nat.le_refl _) _).trans (HB2.out.mono (by simp))⟩

theorem assert_er (k : Int) (w : World) : (Instr.typeAssert (er k) 20 24 true).run Try.prog w = .ok (.tuple #[.int .i64 k, .bool true]) w := by
  have h := run_underlying (w := w) Try.underlying24
  simp [Instr.typeAssert, h]
section
variable (p : Addr) (x k : Int) (older : List PanicEntry) (w : World)
theorem idleI : CallsD Try.prog 30 #[.pointer (some p)] .returning w fun e u' w' => e = .returned (.tuple #[]) ∧ u' = .returning ∧ w' = w := by
  refine callsD_of_wpS Try.func30 rfl fun c₀ cs hu => ?_
  apply wpS_seq
  apply wpS_region
  simp [wpOpsS, go_sem, recoverD, hu, Try.ntmps30, Exit.thenS]
  refine wpS_of_wp ?_
  go_wp2
  cases c₀
  simp_all [bodyPostS, results, Try.results30]
set_option maxHeartbeats 4000000 in
theorem catchI (hc : w.cell? p = some (.int .i64 x)) (hz : w.frozen? p = false) : CallsD Try.prog 30 #[.pointer (some p)] (.panicking ({ v := er k, recovered := false } :: older)) w fun e u' w' => e = .returned (.tuple #[]) ∧ u' = .panicking ({ v := er k, recovered := true } :: older) ∧ w' = w.setCell p (.int .i64 k) := by
  refine callsD_of_wpS Try.func30 rfl fun c₀ cs hu => ?_
  apply wpS_seq
  apply wpS_region
  simp [wpOpsS, go_sem, recoverD, hu, Try.ntmps30, Exit.thenS]
  have ha := fun w => assert_er k w
  refine wpS_of_wp ?_
  clear hu
  go_wp2
  simp_all [bodyPostS, results, Try.results30]
end
section
variable (p : Addr) (x k : Int) (older : List PanicEntry) (w : World)
theorem idleS : CallsD Try.prog 34 #[.pointer (some p)] .returning w fun e u' w' => e = .returned (.tuple #[]) ∧ u' = .returning ∧ w' = w := by
  refine callsD_of_wpS Try.func34 rfl fun c₀ cs hu => ?_
  apply wpS_seq
  apply wpS_region
  simp [wpOpsS, go_sem, recoverD, hu, Try.ntmps34, Exit.thenS]
  refine wpS_of_wp ?_
  go_wp2
  cases c₀
  simp_all [bodyPostS, results, Try.results34]
set_option maxHeartbeats 4000000 in
theorem catchS (hc : w.cell? p = some (.int .i64 x)) (hz : w.frozen? p = false) : CallsD Try.prog 34 #[.pointer (some p)] (.panicking ({ v := er k, recovered := false } :: older)) w fun e u' w' => e = .returned (.tuple #[]) ∧ u' = .panicking ({ v := er k, recovered := true } :: older) ∧ w' = w.setCell p (.int .i64 k) := by
  refine callsD_of_wpS Try.func34 rfl fun c₀ cs hu => ?_
  apply wpS_seq
  apply wpS_region
  simp [wpOpsS, go_sem, recoverD, hu, Try.ntmps34, Exit.thenS]
  have ha := fun w => assert_er k w
  refine wpS_of_wp ?_
  clear hu
  go_wp2
  simp_all [bodyPostS, results, Try.results34]
end

end Acr
end Go.Proofs.Ytjmbccdcnmmhgaa
