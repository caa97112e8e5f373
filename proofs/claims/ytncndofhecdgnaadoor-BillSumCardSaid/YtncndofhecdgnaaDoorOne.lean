/-
  One span: Right, Many, In of package span and of the document's own text. Conditions: those of each theorem.
-/
import Derived.Test.YtncndofhecdgnaaDoorRows
import Derived.Test.YtncndofhecdgnaaDoorSp
import Derived.WalkKit
import Derived.WalkLawsBesides
import Derived.Lib.Hide
import Derived.Deep.QuietTactic
import Derived.BigQuiet
import Derived.Deep.DeepCutAuto
import Derived.Deep.CutBlock
import Derived.Deep.RegionHeld3
import Derived.WalkSmall
import Derived.IntWalk
import Derived.Below
import Derived.Lib.MinMax
namespace Go.Proofs.YtncndofhecdgnaaDoor
open Go.RowKit Sp
namespace Spn
set_option linter.unusedVariables false

/-- A span by value. -/
abbrev ag (x : Sp) : Value := .agg #[.int .i64 x.1, .int .i64 x.2]
/-- It fits its kind. -/
def fit (x : Sp) : Prop := (-9223372036854775808 ≤ x.1 ∧ x.1 ≤ 9223372036854775807) ∧ (-9223372036854775808 ≤ x.2 ∧ x.2 ≤ 9223372036854775807)

theorem rt_t {a b : Int} (h1 : 1 ≤ a) (h2 : a ≤ b) (h3 : b ≤ 292195) : rt (a, b) = true := (rt_iff (a, b)).2 ⟨h1, h2, h3⟩
theorem rt_f {a b : Int} (h : ¬ (1 ≤ a ∧ a ≤ b ∧ b ≤ 292195)) : rt (a, b) = false := (rt_not (a, b)).2 h

theorem bcell {W w1 : World} (hb : Below W.heap.size W w1) : (∀ b o, b < W.heap.size → w1.cell? ⟨b, o, none⟩ = W.cell? ⟨b, o, none⟩) ∧ (∀ b o, b < W.heap.size → w1.frozen? ⟨b, o, none⟩ = W.frozen? ⟨b, o, none⟩) :=
  ⟨fun b o h => hb.cell (p := ⟨b, o, none⟩) h, fun b o h => hb.frozen (p := ⟨b, o, none⟩) h⟩

set_option maxHeartbeats 1000000 in
theorem right (x : Sp) (w : World) : Calls Tryd.prog 40 #[ag x] w fun e w' => e = .returned (.bool (rt x)) ∧ Below w.heap.size w w' := by
  obtain ⟨a, b⟩ := x
  by_cases h1 : 1 ≤ a
  · have t1 : decide (1 ≤ a) = true := by simpa using h1
    by_cases h2 : a ≤ b
    · have t2 : decide (a ≤ b) = true := by simpa using h2
      by_cases h3 : b ≤ 292195
      · have t3 : decide (b ≤ 292195) = true := by simpa using h3
        rw [rt_t h1 h2 h3]
        clear h1 h2 h3
        go_enter Tryd.func40, Tryd.ntmps40
        go_wp2
        go_ret
        exact ⟨rfl, (Below.refl _ _).alloc (Nat.le_refl _) _⟩
      · have t3 : decide (b ≤ 292195) = false := by simpa using h3
        rw [rt_f (by omega)]
        clear h1 h2 h3
        go_enter Tryd.func40, Tryd.ntmps40
        go_wp2
        go_ret
        exact ⟨rfl, (Below.refl _ _).alloc (Nat.le_refl _) _⟩
    · have t2 : decide (a ≤ b) = false := by simpa using h2
      rw [rt_f (by omega)]
      clear h1 h2
      go_enter Tryd.func40, Tryd.ntmps40
      go_wp2
      go_ret
      exact ⟨rfl, (Below.refl _ _).alloc (Nat.le_refl _) _⟩
  · have t1 : decide (1 ≤ a) = false := by simpa using h1
    rw [rt_f (by omega)]
    clear h1
    go_enter Tryd.func40, Tryd.ntmps40
    go_wp2
    go_ret
    exact ⟨rfl, (Below.refl _ _).alloc (Nat.le_refl _) _⟩

set_option maxHeartbeats 1000000 in
theorem rright (x : Sp) (w : World) : Calls Tryd.prog 43 #[ag x] w fun e w' => e = .returned (.bool (rt x)) ∧ Below w.heap.size w w' := by
  obtain ⟨a, b⟩ := x
  by_cases h1 : 1 ≤ a
  · have t1 : decide (1 ≤ a) = true := by simpa using h1
    by_cases h2 : a ≤ b
    · have t2 : decide (a ≤ b) = true := by simpa using h2
      by_cases h3 : b ≤ 292195
      · have t3 : decide (b ≤ 292195) = true := by simpa using h3
        rw [rt_t h1 h2 h3]
        clear h1 h2 h3
        go_enter Tryd.func43, Tryd.ntmps43
        go_wp2
        go_ret
        exact ⟨rfl, (Below.refl _ _).alloc (Nat.le_refl _) _⟩
      · have t3 : decide (b ≤ 292195) = false := by simpa using h3
        rw [rt_f (by omega)]
        clear h1 h2 h3
        go_enter Tryd.func43, Tryd.ntmps43
        go_wp2
        go_ret
        exact ⟨rfl, (Below.refl _ _).alloc (Nat.le_refl _) _⟩
    · have t2 : decide (a ≤ b) = false := by simpa using h2
      rw [rt_f (by omega)]
      clear h1 h2
      go_enter Tryd.func43, Tryd.ntmps43
      go_wp2
      go_ret
      exact ⟨rfl, (Below.refl _ _).alloc (Nat.le_refl _) _⟩
  · have t1 : decide (1 ≤ a) = false := by simpa using h1
    rw [rt_f (by omega)]
    clear h1
    go_enter Tryd.func43, Tryd.ntmps43
    go_wp2
    go_ret
    exact ⟨rfl, (Below.refl _ _).alloc (Nat.le_refl _) _⟩

set_option maxHeartbeats 1000000 in
theorem many (x : Sp) (w : World) : Calls Tryd.prog 27 #[ag x] w fun e w' => e = .returned (.int .i64 (mn x)) ∧ Below w.heap.size w w' := by
  have C := fun w => Lib.hid (right x w)
  obtain ⟨a, b⟩ := x
  by_cases hr : rt (a, b) = true
  · have hm : mn (a, b) = b - a := by rw [mn, if_pos hr]
    rw [hm]
    rw [hr] at C
    rw [rt_iff] at hr
    obtain ⟨h1, h2, h3⟩ := hr
    simp only at h1 h2 h3
    clear hm
    go_enter Tryd.func27, Tryd.ntmps27
    go_wp2_with fail
    refine (C _).out.mono ?_
    rintro e w1 ⟨rfl, hb⟩
    obtain ⟨hc, hf⟩ := bcell hb
    have HB := Lib.hid hb
    clear hb
    go_wp2
    go_ret
    exact ⟨rfl, ((Below.refl _ _).alloc (Nat.le_refl _) _).trans (HB.out.mono (by simp))⟩
  · have hm : mn (a, b) = 0 := by rw [mn, if_neg hr]
    rw [hm]
    have hr' : rt (a, b) = false := by simpa using hr
    rw [hr'] at C
    clear hm hr hr'
    go_enter Tryd.func27, Tryd.ntmps27
    go_wp2_with fail
    refine (C _).out.mono ?_
    rintro e w1 ⟨rfl, hb⟩
    have HB := Lib.hid hb
    clear hb
    go_wp2
    go_ret
    exact ⟨rfl, ((Below.refl _ _).alloc (Nat.le_refl _) _).trans (HB.out.mono (by simp))⟩

set_option maxHeartbeats 1000000 in
theorem rmany (x : Sp) (w : World) : Calls Tryd.prog 30 #[ag x] w fun e w' => e = .returned (.int .i64 (mn x)) ∧ Below w.heap.size w w' := by
  have C := fun w => Lib.hid (rright x w)
  obtain ⟨a, b⟩ := x
  by_cases hr : rt (a, b) = true
  · have hm : mn (a, b) = b - a := by rw [mn, if_pos hr]
    rw [hm]
    rw [hr] at C
    rw [rt_iff] at hr
    obtain ⟨h1, h2, h3⟩ := hr
    simp only at h1 h2 h3
    clear hm
    go_enter Tryd.func30, Tryd.ntmps30
    go_wp2_with fail
    refine (C _).out.mono ?_
    rintro e w1 ⟨rfl, hb⟩
    obtain ⟨hc, hf⟩ := bcell hb
    have HB := Lib.hid hb
    clear hb
    go_wp2
    go_ret
    exact ⟨rfl, ((Below.refl _ _).alloc (Nat.le_refl _) _).trans (HB.out.mono (by simp))⟩
  · have hm : mn (a, b) = 0 := by rw [mn, if_neg hr]
    rw [hm]
    have hr' : rt (a, b) = false := by simpa using hr
    rw [hr'] at C
    clear hm hr hr'
    go_enter Tryd.func30, Tryd.ntmps30
    go_wp2_with fail
    refine (C _).out.mono ?_
    rintro e w1 ⟨rfl, hb⟩
    have HB := Lib.hid hb
    clear hb
    go_wp2
    go_ret
    exact ⟨rfl, ((Below.refl _ _).alloc (Nat.le_refl _) _).trans (HB.out.mono (by simp))⟩

end Spn
end Go.Proofs.YtncndofhecdgnaaDoor
