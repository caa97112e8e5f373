/-
  package day's small functions: what each call gives. Conditions: those of each theorem (numbers of 64 bits; the table of months reads as it is laid).
-/
import Derived.Test.YtncndofhecdgnaaDoorRows
import Derived.Test.YtncndofhecdgnaaDoorCal
import Derived.WalkKit
import Derived.WalkLawsBesides
import Derived.Lib.Hide
import Derived.Deep.QuietTactic
import Derived.BigQuiet
import Derived.Deep.DeepCutAuto
import Derived.Deep.CutBlock
import Derived.Deep.RegionHeld3
import Derived.WalkSmall
import Derived.IntWalk
namespace Go.Proofs.YtncndofhecdgnaaDoor
open Go.RowKit Cal
namespace Day
set_option linter.unusedVariables false

/-- A call that leaves the world alone, in a region that only reads. -/
theorem still {P : Program} {f : FuncId} {args : Array Value} {w : World} {n : Nat} {v : Value} (h : Calls P f args (w.drewN n) fun e w' => e = .returned v ∧ w.drewN n = w') :
    Calls P f args (w.drewN n) fun e w'' => e = .returned v ∧ ∃ m, w'' = w.drewN m := h.mono fun _ _ ⟨he, hm⟩ => ⟨he, n, hm.symm⟩

theorem tm0 {y k : Int} (h : y % k = 0) : y.tmod k = 0 := Int.tmod_eq_zero_of_dvd (Int.dvd_of_emod_eq_zero h)
theorem tm1 {y k : Int} (h : ¬ y % k = 0) : ¬ y.tmod k = 0 := fun e => h (Int.emod_eq_zero_of_dvd (Int.dvd_of_tmod_eq_zero e))

set_option maxHeartbeats 1000000 in
theorem leap (y : Int) (w : World) : Calls Tryd.prog 49 #[.int .i64 y] w fun e w' => e = .returned (.bool (lp y)) ∧ w = w' := by
  by_cases h4 : y % 4 = 0
  · by_cases h1 : y % 100 = 0
    · by_cases h0 : y % 400 = 0
      · rw [(lp_iff y).2 (by omega)]
        have t4 : (y.tmod 4 == 0) = true := by simpa using tm0 h4
        have t1 : (y.tmod 100 != 0) = false := by simpa using tm0 h1
        have t0 : (y.tmod 400 == 0) = true := by simpa using tm0 h0
        clear h4 h1 h0
        go_enter Tryd.func49, Tryd.ntmps49
        go_wp2
        go_ret
        exact ⟨rfl, rfl⟩
      · rw [(lp_not y).2 (by omega)]
        have t4 : (y.tmod 4 == 0) = true := by simpa using tm0 h4
        have t1 : (y.tmod 100 != 0) = false := by simpa using tm0 h1
        have t0 : (y.tmod 400 == 0) = false := by simpa using tm1 h0
        clear h4 h1 h0
        go_enter Tryd.func49, Tryd.ntmps49
        go_wp2
        go_ret
        exact ⟨rfl, rfl⟩
    · rw [(lp_iff y).2 (by omega)]
      have t4 : (y.tmod 4 == 0) = true := by simpa using tm0 h4
      have t1 : (y.tmod 100 != 0) = true := by simpa using tm1 h1
      clear h4 h1
      go_enter Tryd.func49, Tryd.ntmps49
      go_wp2
      go_ret
      exact ⟨rfl, rfl⟩
  · rw [(lp_not y).2 (by omega)]
    have t4 : (y.tmod 4 == 0) = false := by simpa using tm1 h4
    have t0 : (y.tmod 400 == 0) = false := by simpa using tm1 (by omega : ¬ y % 400 = 0)
    clear h4
    go_enter Tryd.func49, Tryd.ntmps49
    go_wp2
    go_ret
    exact ⟨rfl, rfl⟩

theorem isDay_yes (n : Int) (w : World) (h1 : 1 ≤ n) (h2 : n ≤ 292194) : Calls Tryd.prog 36 #[.int .i64 n] w fun e w' => e = .returned (.bool true) ∧ w = w' := by
  go_enter Tryd.func36, Tryd.ntmps36
  go_wp2
  go_ret
  exact ⟨rfl, rfl⟩
theorem isDay_no (n : Int) (w : World) (h : n < 1 ∨ 292194 < n) : Calls Tryd.prog 36 #[.int .i64 n] w fun e w' => e = .returned (.bool false) ∧ w = w' := by
  rcases h with h | h
  · have t : decide (1 ≤ n) = false := by simpa using h
    go_enter Tryd.func36, Tryd.ntmps36
    go_wp2
    go_ret
    exact ⟨rfl, rfl⟩
  · have h1 : 1 ≤ n := by omega
    have t : decide (n ≤ 292194) = false := by simpa using h
    go_enter Tryd.func36, Tryd.ntmps36
    go_wp2
    go_ret
    exact ⟨rfl, rfl⟩

theorem ret_int {k : IntKind} {a b : Int} (h : a = b) : Ending.returned (.int k a) = .returned (.int k b) := by rw [h]

theorem daysAhead (y : Int) (w : World) (h1 : 1601 ≤ y) (h2 : y ≤ 2500) : Calls Tryd.prog 48 #[.int .i64 y] w fun e w' => e = .returned (.int .i64 (da y)) ∧ w = w' := by
  go_enter Tryd.func48, Tryd.ntmps48
  go_wp2
  go_ret
  exact ⟨ret_int rfl, rfl⟩

/-- The months' lengths in a year that isn't leap, by their place from 0 on. -/
def mt : Nat → Int
  | 0 => 31 | 1 => 28 | 2 => 31 | 3 => 30 | 4 => 31 | 5 => 30 | 6 => 31 | 7 => 31 | 8 => 30 | 9 => 31 | 10 => 30 | _ => 31
/-- The table of months reads as it is laid. -/
def Tab (w : World) : Prop := 0 < w.heap.size ∧ ∀ k : Nat, k < 12 → w.cell? ⟨0, k, none⟩ = some (.int .i64 (mt k))
theorem Tab.below {w w' : World} {B : Nat} (h : Tab w) (hb : Below B w w') (hB : 0 < B) : Tab w' :=
  ⟨Nat.lt_of_lt_of_le h.1 hb.size, fun k hk => (hb.cell (p := ⟨0, k, none⟩) hB).trans (h.2 k hk)⟩
theorem Tab.alloc {w : World} (h : Tab w) (o : Obj) : Tab (w.alloc o) := h.below ((Below.refl w.heap.size w).alloc (Nat.le_refl _) o) h.1
theorem Tab.drewN {w : World} (h : Tab w) (n : Nat) : Tab (w.drewN n) := h.below (below_drewN (Below.refl w.heap.size w) n) h.1

set_option maxHeartbeats 1000000 in
theorem monthLength (y m : Int) (w : World) (hT : Tab w) (h1 : 1 ≤ m) (h2 : m ≤ 12) : Calls Tryd.prog 39 #[.int .i64 y, .int .i64 m] w fun e w' => e = .returned (.int .i64 (ml y m)) ∧ w = w' := by
  by_cases hm : m = 2
  · subst hm
    have hc := hT.2 1 (by omega)
    simp only [mt] at hc
    have HT := Lib.hid hT
    clear hT
    cases hl : lp y
    · have e : ml y 2 = 28 := by simp [ml, hl]
      rw [e]
      have hL := Lib.hid (leap y w)
      rw [hl] at hL
      clear hl e
      go_enter Tryd.func39, Tryd.ntmps39
      go_wp2_with (go_at_call 49; refine hL.out.mono ?_; rintro e w' ⟨rfl, rfl⟩)
      go_ret
      exact ⟨rfl, rfl⟩
    · have e : ml y 2 = 29 := by simp [ml, hl]
      rw [e]
      have hL := Lib.hid (leap y w)
      rw [hl] at hL
      clear hl e
      go_enter Tryd.func39, Tryd.ntmps39
      go_wp2_with (go_at_call 49; refine hL.out.mono ?_; rintro e w' ⟨rfl, rfl⟩)
      go_ret
      exact ⟨rfl, rfl⟩
  · obtain ⟨k, hk⟩ := Int.eq_ofNat_of_zero_le (a := m - 1) (by omega)
    obtain rfl : m = ((k + 1 : Nat) : Int) := by omega
    have hk12 : k < 12 := by omega
    have hc := hT.2 k hk12
    have e : ml y ((k + 1 : Nat) : Int) = mt k := by
      rcases (by omega : k = 0 ∨ k = 1 ∨ k = 2 ∨ k = 3 ∨ k = 4 ∨ k = 5 ∨ k = 6 ∨ k = 7 ∨ k = 8 ∨ k = 9 ∨ k = 10 ∨ k = 11) with rfl | rfl | rfl | rfl | rfl | rfl | rfl | rfl | rfl | rfl | rfl | rfl
      · rfl
      · exact absurd rfl hm
      all_goals rfl
    rw [e]
    have tm : (((k + 1 : Nat) : Int) == 2) = false := by simpa using hm
    have em : ((k + 1 : Nat) : Int) - 1 = (k : Int) := by omega
    have HT := Lib.hid hT
    generalize ((k + 1 : Nat) : Int) = m at *
    clear hT hm hk e
    go_enter Tryd.func39, Tryd.ntmps39
    go_wp2
    go_ret
    exact ⟨rfl, rfl⟩

end Day
end Go.Proofs.YtncndofhecdgnaaDoor
