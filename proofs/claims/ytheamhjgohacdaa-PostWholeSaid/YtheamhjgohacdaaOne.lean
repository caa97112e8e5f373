/-
  One span: Right, Many, In of package span and of the document's own text. Conditions: those of each theorem.
-/
import Derived.Test.YtheamhjgohacdaaRows
import Derived.Test.YtheamhjgohacdaaSp
import Derived.WalkKit
import Derived.WalkLawsBesides
import Derived.Lib.Hide
import Derived.Deep.QuietTactic
import Derived.BigQuiet
import Derived.Deep.DeepCutAuto
import Derived.Deep.CutBlock
import Derived.Deep.RegionHeld3
import Derived.WalkSmall
import Derived.IntWalk
import Derived.Below
import Derived.Lib.MinMax
namespace Go.Proofs.Ytheamhjgohacdaa
open Go.RowKit Sp
namespace Spn
set_option linter.unusedVariables false

/-- A span by value. -/
abbrev ag (x : Sp) : Value := .agg #[.int .i64 x.1, .int .i64 x.2]
/-- It fits its kind. -/
def fit (x : Sp) : Prop := (-9223372036854775808 ≤ x.1 ∧ x.1 ≤ 9223372036854775807) ∧ (-9223372036854775808 ≤ x.2 ∧ x.2 ≤ 9223372036854775807)

theorem rt_t {a b : Int} (h1 : 1 ≤ a) (h2 : a ≤ b) (h3 : b ≤ 292195) : rt (a, b) = true := (rt_iff (a, b)).2 ⟨h1, h2, h3⟩
theorem rt_f {a b : Int} (h : ¬ (1 ≤ a ∧ a ≤ b ∧ b ≤ 292195)) : rt (a, b) = false := (rt_not (a, b)).2 h

theorem bcell {W w1 : World} (hb : Below W.heap.size W w1) : (∀ b o, b < W.heap.size → w1.cell? ⟨b, o, none⟩ = W.cell? ⟨b, o, none⟩) ∧ (∀ b o, b < W.heap.size → w1.frozen? ⟨b, o, none⟩ = W.frozen? ⟨b, o, none⟩) :=
  ⟨fun b o h => hb.cell (p := ⟨b, o, none⟩) h, fun b o h => hb.frozen (p := ⟨b, o, none⟩) h⟩

set_option maxHeartbeats 1000000 in
theorem right (x : Sp) (w : World) : Calls Try.prog 34 #[ag x] w fun e w' => e = .returned (.bool (rt x)) ∧ Below w.heap.size w w' := by
  obtain ⟨a, b⟩ := x
  by_cases h1 : 1 ≤ a
  · have t1 : decide (1 ≤ a) = true := by simpa using h1
    by_cases h2 : a ≤ b
    · have t2 : decide (a ≤ b) = true := by simpa using h2
      by_cases h3 : b ≤ 292195
      · have t3 : decide (b ≤ 292195) = true := by simpa using h3
        rw [rt_t h1 h2 h3]
        clear h1 h2 h3
        go_enter Try.func34, Try.ntmps34
        go_wp2
        go_ret
        exact ⟨rfl, (Below.refl _ _).alloc (Nat.le_refl _) _⟩
      · have t3 : decide (b ≤ 292195) = false := by simpa using h3
        rw [rt_f (by omega)]
        clear h1 h2 h3
        go_enter Try.func34, Try.ntmps34
        go_wp2
        go_ret
        exact ⟨rfl, (Below.refl _ _).alloc (Nat.le_refl _) _⟩
    · have t2 : decide (a ≤ b) = false := by simpa using h2
      rw [rt_f (by omega)]
      clear h1 h2
      go_enter Try.func34, Try.ntmps34
      go_wp2
      go_ret
      exact ⟨rfl, (Below.refl _ _).alloc (Nat.le_refl _) _⟩
  · have t1 : decide (1 ≤ a) = false := by simpa using h1
    rw [rt_f (by omega)]
    clear h1
    go_enter Try.func34, Try.ntmps34
    go_wp2
    go_ret
    exact ⟨rfl, (Below.refl _ _).alloc (Nat.le_refl _) _⟩

set_option maxHeartbeats 1000000 in
theorem rright (x : Sp) (w : World) : Calls Try.prog 37 #[ag x] w fun e w' => e = .returned (.bool (rt x)) ∧ Below w.heap.size w w' := by
  obtain ⟨a, b⟩ := x
  by_cases h1 : 1 ≤ a
  · have t1 : decide (1 ≤ a) = true := by simpa using h1
    by_cases h2 : a ≤ b
    · have t2 : decide (a ≤ b) = true := by simpa using h2
      by_cases h3 : b ≤ 292195
      · have t3 : decide (b ≤ 292195) = true := by simpa using h3
        rw [rt_t h1 h2 h3]
        clear h1 h2 h3
        go_enter Try.func37, Try.ntmps37
        go_wp2
        go_ret
        exact ⟨rfl, (Below.refl _ _).alloc (Nat.le_refl _) _⟩
      · have t3 : decide (b ≤ 292195) = false := by simpa using h3
        rw [rt_f (by omega)]
        clear h1 h2 h3
        go_enter Try.func37, Try.ntmps37
        go_wp2
        go_ret
        exact ⟨rfl, (Below.refl _ _).alloc (Nat.le_refl _) _⟩
    · have t2 : decide (a ≤ b) = false := by simpa using h2
      rw [rt_f (by omega)]
      clear h1 h2
      go_enter Try.func37, Try.ntmps37
      go_wp2
      go_ret
      exact ⟨rfl, (Below.refl _ _).alloc (Nat.le_refl _) _⟩
  · have t1 : decide (1 ≤ a) = false := by simpa using h1
    rw [rt_f (by omega)]
    clear h1
    go_enter Try.func37, Try.ntmps37
    go_wp2
    go_ret
    exact ⟨rfl, (Below.refl _ _).alloc (Nat.le_refl _) _⟩

set_option maxHeartbeats 1000000 in
theorem many (x : Sp) (w : World) : Calls Try.prog 22 #[ag x] w fun e w' => e = .returned (.int .i64 (mn x)) ∧ Below w.heap.size w w' := by
  have C := fun w => Lib.hid (right x w)
  obtain ⟨a, b⟩ := x
  by_cases hr : rt (a, b) = true
  · have hm : mn (a, b) = b - a := by rw [mn, if_pos hr]
    rw [hm]
    rw [hr] at C
    rw [rt_iff] at hr
    obtain ⟨h1, h2, h3⟩ := hr
    simp only at h1 h2 h3
    clear hm
    go_enter Try.func22, Try.ntmps22
    go_wp2_with fail
    refine (C _).out.mono ?_
    rintro e w1 ⟨rfl, hb⟩
    obtain ⟨hc, hf⟩ := bcell hb
    have HB := Lib.hid hb
    clear hb
    go_wp2
    go_ret
    exact ⟨rfl, ((Below.refl _ _).alloc (Nat.le_refl _) _).trans (HB.out.mono (by simp))⟩
  · have hm : mn (a, b) = 0 := by rw [mn, if_neg hr]
    rw [hm]
    have hr' : rt (a, b) = false := by simpa using hr
    rw [hr'] at C
    clear hm hr hr'
    go_enter Try.func22, Try.ntmps22
    go_wp2_with fail
    refine (C _).out.mono ?_
    rintro e w1 ⟨rfl, hb⟩
    have HB := Lib.hid hb
    clear hb
    go_wp2
    go_ret
    exact ⟨rfl, ((Below.refl _ _).alloc (Nat.le_refl _) _).trans (HB.out.mono (by simp))⟩

set_option maxHeartbeats 1000000 in
theorem rmany (x : Sp) (w : World) : Calls Try.prog 35 #[ag x] w fun e w' => e = .returned (.int .i64 (mn x)) ∧ Below w.heap.size w w' := by
  have C := fun w => Lib.hid (rright x w)
  obtain ⟨a, b⟩ := x
  by_cases hr : rt (a, b) = true
  · have hm : mn (a, b) = b - a := by rw [mn, if_pos hr]
    rw [hm]
    rw [hr] at C
    rw [rt_iff] at hr
    obtain ⟨h1, h2, h3⟩ := hr
    simp only at h1 h2 h3
    clear hm
    go_enter Try.func35, Try.ntmps35
    go_wp2_with fail
    refine (C _).out.mono ?_
    rintro e w1 ⟨rfl, hb⟩
    obtain ⟨hc, hf⟩ := bcell hb
    have HB := Lib.hid hb
    clear hb
    go_wp2
    go_ret
    exact ⟨rfl, ((Below.refl _ _).alloc (Nat.le_refl _) _).trans (HB.out.mono (by simp))⟩
  · have hm : mn (a, b) = 0 := by rw [mn, if_neg hr]
    rw [hm]
    have hr' : rt (a, b) = false := by simpa using hr
    rw [hr'] at C
    clear hm hr hr'
    go_enter Try.func35, Try.ntmps35
    go_wp2_with fail
    refine (C _).out.mono ?_
    rintro e w1 ⟨rfl, hb⟩
    have HB := Lib.hid hb
    clear hb
    go_wp2
    go_ret
    exact ⟨rfl, ((Below.refl _ _).alloc (Nat.le_refl _) _).trans (HB.out.mono (by simp))⟩

set_option maxHeartbeats 1000000 in
theorem inn_ (x : Sp) (d : Int) (w : World) : Calls Try.prog 31 #[ag x, .int .i64 d] w fun e w' => e = .returned (.bool (inn x d)) ∧ Below w.heap.size w w' := by
  have C := fun w => Lib.hid (right x w)
  obtain ⟨a, b⟩ := x
  by_cases hr : rt (a, b) = true
  · by_cases h1 : a ≤ d
    · by_cases h2 : d < b
      · have hi : inn (a, b) d = true := by simp [inn, hr, h1, h2]
        have t1 : decide (a ≤ d) = true := by simpa using h1
        have t2 : decide (d < b) = true := by simpa using h2
        rw [hi]
        rw [hr] at C
        clear hi hr h1 h2
        go_enter Try.func31, Try.ntmps31
        go_wp2_with fail
        refine (C _).out.mono ?_
        rintro e w1 ⟨rfl, hb⟩
        obtain ⟨hc, hf⟩ := bcell hb
        have HB := Lib.hid hb
        clear hb
        go_wp2
        go_ret
        exact ⟨rfl, ((Below.refl _ _).alloc (Nat.le_refl _) _).trans (HB.out.mono (by simp))⟩
      · have hi : inn (a, b) d = false := by simp [inn, hr, h1]; omega
        have t1 : decide (a ≤ d) = true := by simpa using h1
        have t2 : decide (d < b) = false := by simpa using h2
        rw [hi]
        rw [hr] at C
        clear hi hr h1 h2
        go_enter Try.func31, Try.ntmps31
        go_wp2_with fail
        refine (C _).out.mono ?_
        rintro e w1 ⟨rfl, hb⟩
        obtain ⟨hc, hf⟩ := bcell hb
        have HB := Lib.hid hb
        clear hb
        go_wp2
        go_ret
        exact ⟨rfl, ((Below.refl _ _).alloc (Nat.le_refl _) _).trans (HB.out.mono (by simp))⟩
    · have hi : inn (a, b) d = false := by simp [inn, hr, h1]
      have t1 : decide (a ≤ d) = false := by simpa using h1
      rw [hi]
      rw [hr] at C
      clear hi hr h1
      go_enter Try.func31, Try.ntmps31
      go_wp2_with fail
      refine (C _).out.mono ?_
      rintro e w1 ⟨rfl, hb⟩
      obtain ⟨hc, hf⟩ := bcell hb
      have HB := Lib.hid hb
      clear hb
      go_wp2
      go_ret
      exact ⟨rfl, ((Below.refl _ _).alloc (Nat.le_refl _) _).trans (HB.out.mono (by simp))⟩
  · have hr' : rt (a, b) = false := by simpa using hr
    have hi : inn (a, b) d = false := by simp [inn, hr']
    rw [hi]
    rw [hr'] at C
    clear hi hr hr'
    go_enter Try.func31, Try.ntmps31
    go_wp2_with fail
    refine (C _).out.mono ?_
    rintro e w1 ⟨rfl, hb⟩
    obtain ⟨hc, hf⟩ := bcell hb
    have HB := Lib.hid hb
    clear hb
    go_wp2
    go_ret
    exact ⟨rfl, ((Below.refl _ _).alloc (Nat.le_refl _) _).trans (HB.out.mono (by simp))⟩

set_option maxHeartbeats 1000000 in
theorem rinn (x : Sp) (d : Int) (w : World) : Calls Try.prog 32 #[ag x, .int .i64 d] w fun e w' => e = .returned (.bool (inn x d)) ∧ Below w.heap.size w w' := by
  have C := fun w => Lib.hid (rright x w)
  obtain ⟨a, b⟩ := x
  by_cases hr : rt (a, b) = true
  · by_cases h1 : a ≤ d
    · by_cases h2 : d < b
      · have hi : inn (a, b) d = true := by simp [inn, hr, h1, h2]
        have t1 : decide (a ≤ d) = true := by simpa using h1
        have t2 : decide (d < b) = true := by simpa using h2
        rw [hi]
        rw [hr] at C
        clear hi hr h1 h2
        go_enter Try.func32, Try.ntmps32
        go_wp2_with fail
        refine (C _).out.mono ?_
        rintro e w1 ⟨rfl, hb⟩
        obtain ⟨hc, hf⟩ := bcell hb
        have HB := Lib.hid hb
        clear hb
        go_wp2
        go_ret
        exact ⟨rfl, ((Below.refl _ _).alloc (Nat.le_refl _) _).trans (HB.out.mono (by simp))⟩
      · have hi : inn (a, b) d = false := by simp [inn, hr, h1]; omega
        have t1 : decide (a ≤ d) = true := by simpa using h1
        have t2 : decide (d < b) = false := by simpa using h2
        rw [hi]
        rw [hr] at C
        clear hi hr h1 h2
        go_enter Try.func32, Try.ntmps32
        go_wp2_with fail
        refine (C _).out.mono ?_
        rintro e w1 ⟨rfl, hb⟩
        obtain ⟨hc, hf⟩ := bcell hb
        have HB := Lib.hid hb
        clear hb
        go_wp2
        go_ret
        exact ⟨rfl, ((Below.refl _ _).alloc (Nat.le_refl _) _).trans (HB.out.mono (by simp))⟩
    · have hi : inn (a, b) d = false := by simp [inn, hr, h1]
      have t1 : decide (a ≤ d) = false := by simpa using h1
      rw [hi]
      rw [hr] at C
      clear hi hr h1
      go_enter Try.func32, Try.ntmps32
      go_wp2_with fail
      refine (C _).out.mono ?_
      rintro e w1 ⟨rfl, hb⟩
      obtain ⟨hc, hf⟩ := bcell hb
      have HB := Lib.hid hb
      clear hb
      go_wp2
      go_ret
      exact ⟨rfl, ((Below.refl _ _).alloc (Nat.le_refl _) _).trans (HB.out.mono (by simp))⟩
  · have hr' : rt (a, b) = false := by simpa using hr
    have hi : inn (a, b) d = false := by simp [inn, hr']
    rw [hi]
    rw [hr'] at C
    clear hi hr hr'
    go_enter Try.func32, Try.ntmps32
    go_wp2_with fail
    refine (C _).out.mono ?_
    rintro e w1 ⟨rfl, hb⟩
    obtain ⟨hc, hf⟩ := bcell hb
    have HB := Lib.hid hb
    clear hb
    go_wp2
    go_ret
    exact ⟨rfl, ((Below.refl _ _).alloc (Nat.le_refl _) _).trans (HB.out.mono (by simp))⟩

end Spn
end Go.Proofs.Ytheamhjgohacdaa
