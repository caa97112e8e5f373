/-
  In of package span and the document's; isDay, riskFits, coversFit, wayFits of package change. Conditions: the covers read as a list.
-/
import Derived.Test.YtcnlllamldlnmaaKinds
import Derived.Test.YtcnlllamldlnmaaCov
namespace Go.Proofs.Ytcnlllamldlnmaa
open Go.RowKit Ba Cv Sp Te Ag
namespace Tm
set_option linter.unusedVariables false

set_option maxHeartbeats 1000000 in
theorem span_in (x : Sp) (d : Int) (w : World) : Calls Try.prog 50 #[sg x, .int .i64 d] w fun e w' => e = .returned (.bool (inn x d)) ∧ Below w.heap.size w w' := by
  have C := fun w => Lib.hid (span_right x w)
  obtain ⟨a, b⟩ := x
  by_cases hr : rt (a, b) = true
  · by_cases h1 : a ≤ d
    · by_cases h2 : d < b
      · have hi : inn (a, b) d = true := by simp [inn, hr, h1, h2]
        have t1 : decide (a ≤ d) = true := by simpa using h1
        have t2 : decide (d < b) = true := by simpa using h2
        rw [hi]
        rw [hr] at C
        clear hi hr h1 h2
        go_enter Try.func50, Try.ntmps50
        go_wp2_with fail
        refine (C _).out.mono ?_
        rintro e w1 ⟨rfl, hb⟩
        obtain ⟨hc, hf⟩ := bcell hb
        have HB := Lib.hid hb
        clear hb
        go_wp2
        go_ret
        exact ⟨rfl, ((Below.refl _ _).alloc (Nat.le_refl _) _).trans (HB.out.mono (by simp))⟩
      · have hi : inn (a, b) d = false := by simp [inn, hr, h1]; omega
        have t1 : decide (a ≤ d) = true := by simpa using h1
        have t2 : decide (d < b) = false := by simpa using h2
        rw [hi]
        rw [hr] at C
        clear hi hr h1 h2
        go_enter Try.func50, Try.ntmps50
        go_wp2_with fail
        refine (C _).out.mono ?_
        rintro e w1 ⟨rfl, hb⟩
        obtain ⟨hc, hf⟩ := bcell hb
        have HB := Lib.hid hb
        clear hb
        go_wp2
        go_ret
        exact ⟨rfl, ((Below.refl _ _).alloc (Nat.le_refl _) _).trans (HB.out.mono (by simp))⟩
    · have hi : inn (a, b) d = false := by simp [inn, hr, h1]
      have t1 : decide (a ≤ d) = false := by simpa using h1
      rw [hi]
      rw [hr] at C
      clear hi hr h1
      go_enter Try.func50, Try.ntmps50
      go_wp2_with fail
      refine (C _).out.mono ?_
      rintro e w1 ⟨rfl, hb⟩
      obtain ⟨hc, hf⟩ := bcell hb
      have HB := Lib.hid hb
      clear hb
      go_wp2
      go_ret
      exact ⟨rfl, ((Below.refl _ _).alloc (Nat.le_refl _) _).trans (HB.out.mono (by simp))⟩
  · have hr' : rt (a, b) = false := by simpa using hr
    have hi : inn (a, b) d = false := by simp [inn, hr']
    rw [hi]
    rw [hr'] at C
    clear hi hr hr'
    go_enter Try.func50, Try.ntmps50
    go_wp2_with fail
    refine (C _).out.mono ?_
    rintro e w1 ⟨rfl, hb⟩
    obtain ⟨hc, hf⟩ := bcell hb
    have HB := Lib.hid hb
    clear hb
    go_wp2
    go_ret
    exact ⟨rfl, ((Below.refl _ _).alloc (Nat.le_refl _) _).trans (HB.out.mono (by simp))⟩

set_option maxHeartbeats 1000000 in
theorem rspan_right (x : Sp) (w : World) : Calls Try.prog 45 #[sg x] w fun e w' => e = .returned (.bool (rt x)) ∧ Below w.heap.size w w' := by
  obtain ⟨a, b⟩ := x
  by_cases h1 : 1 ≤ a
  · have t1 : decide (1 ≤ a) = true := by simpa using h1
    by_cases h2 : a ≤ b
    · have t2 : decide (a ≤ b) = true := by simpa using h2
      by_cases h3 : b ≤ 292195
      · have t3 : decide (b ≤ 292195) = true := by simpa using h3
        rw [rt_t h1 h2 h3]
        clear h1 h2 h3
        go_enter Try.func45, Try.ntmps45
        go_wp2
        go_ret
        exact ⟨rfl, (Below.refl _ _).alloc (Nat.le_refl _) _⟩
      · have t3 : decide (b ≤ 292195) = false := by simpa using h3
        rw [rt_f (by omega)]
        clear h1 h2 h3
        go_enter Try.func45, Try.ntmps45
        go_wp2
        go_ret
        exact ⟨rfl, (Below.refl _ _).alloc (Nat.le_refl _) _⟩
    · have t2 : decide (a ≤ b) = false := by simpa using h2
      rw [rt_f (by omega)]
      clear h1 h2
      go_enter Try.func45, Try.ntmps45
      go_wp2
      go_ret
      exact ⟨rfl, (Below.refl _ _).alloc (Nat.le_refl _) _⟩
  · have t1 : decide (1 ≤ a) = false := by simpa using h1
    rw [rt_f (by omega)]
    clear h1
    go_enter Try.func45, Try.ntmps45
    go_wp2
    go_ret
    exact ⟨rfl, (Below.refl _ _).alloc (Nat.le_refl _) _⟩

set_option maxHeartbeats 1000000 in
theorem rspan_in (x : Sp) (d : Int) (w : World) : Calls Try.prog 24 #[sg x, .int .i64 d] w fun e w' => e = .returned (.bool (inn x d)) ∧ Below w.heap.size w w' := by
  have C := fun w => Lib.hid (rspan_right x w)
  obtain ⟨a, b⟩ := x
  by_cases hr : rt (a, b) = true
  · by_cases h1 : a ≤ d
    · by_cases h2 : d < b
      · have hi : inn (a, b) d = true := by simp [inn, hr, h1, h2]
        have t1 : decide (a ≤ d) = true := by simpa using h1
        have t2 : decide (d < b) = true := by simpa using h2
        rw [hi]
        rw [hr] at C
        clear hi hr h1 h2
        go_enter Try.func24, Try.ntmps24
        go_wp2_with fail
        refine (C _).out.mono ?_
        rintro e w1 ⟨rfl, hb⟩
        obtain ⟨hc, hf⟩ := bcell hb
        have HB := Lib.hid hb
        clear hb
        go_wp2
        go_ret
        exact ⟨rfl, ((Below.refl _ _).alloc (Nat.le_refl _) _).trans (HB.out.mono (by simp))⟩
      · have hi : inn (a, b) d = false := by simp [inn, hr, h1]; omega
        have t1 : decide (a ≤ d) = true := by simpa using h1
        have t2 : decide (d < b) = false := by simpa using h2
        rw [hi]
        rw [hr] at C
        clear hi hr h1 h2
        go_enter Try.func24, Try.ntmps24
        go_wp2_with fail
        refine (C _).out.mono ?_
        rintro e w1 ⟨rfl, hb⟩
        obtain ⟨hc, hf⟩ := bcell hb
        have HB := Lib.hid hb
        clear hb
        go_wp2
        go_ret
        exact ⟨rfl, ((Below.refl _ _).alloc (Nat.le_refl _) _).trans (HB.out.mono (by simp))⟩
    · have hi : inn (a, b) d = false := by simp [inn, hr, h1]
      have t1 : decide (a ≤ d) = false := by simpa using h1
      rw [hi]
      rw [hr] at C
      clear hi hr h1
      go_enter Try.func24, Try.ntmps24
      go_wp2_with fail
      refine (C _).out.mono ?_
      rintro e w1 ⟨rfl, hb⟩
      obtain ⟨hc, hf⟩ := bcell hb
      have HB := Lib.hid hb
      clear hb
      go_wp2
      go_ret
      exact ⟨rfl, ((Below.refl _ _).alloc (Nat.le_refl _) _).trans (HB.out.mono (by simp))⟩
  · have hr' : rt (a, b) = false := by simpa using hr
    have hi : inn (a, b) d = false := by simp [inn, hr']
    rw [hi]
    rw [hr'] at C
    clear hi hr hr'
    go_enter Try.func24, Try.ntmps24
    go_wp2_with fail
    refine (C _).out.mono ?_
    rintro e w1 ⟨rfl, hb⟩
    obtain ⟨hc, hf⟩ := bcell hb
    have HB := Lib.hid hb
    clear hb
    go_wp2
    go_ret
    exact ⟨rfl, ((Below.refl _ _).alloc (Nat.le_refl _) _).trans (HB.out.mono (by simp))⟩

set_option maxHeartbeats 1000000 in
theorem isDay (n : Int) (w : World) : Calls Try.prog 27 #[.int .i64 n] w fun e w' => e = .returned (.bool (day n)) ∧ w = w' := by
  unfold day
  by_cases h1 : 1 ≤ n
  · have t1 : decide (1 ≤ n) = true := by simpa using h1
    by_cases h2 : n ≤ 292194
    · have t2 : decide (n ≤ 292194) = true := by simpa using h2
      rw [wi_iff.2 ⟨h1, h2⟩]
      clear h1 h2
      skip
      go_enter Try.func27, Try.ntmps27
      go_wp2
      go_ret
      exact ⟨rfl, rfl⟩
    · have t2 : decide (n ≤ 292194) = false := by simpa using h2
      rw [wi_no (by omega)]
      clear h1 h2
      skip
      go_enter Try.func27, Try.ntmps27
      go_wp2
      go_ret
      exact ⟨rfl, rfl⟩
  · have t1 : decide (1 ≤ n) = false := by simpa using h1
    rw [wi_no (by omega)]
    clear h1
    skip
    go_enter Try.func27, Try.ntmps27
    go_wp2
    go_ret
    exact ⟨rfl, rfl⟩

set_option maxHeartbeats 1000000 in
theorem riskFits (r : Ri) (x : Bool) (w : World) : Calls Try.prog 28 #[rg r, .bool x] w (Yes w (rfit r x)) := by
  cases x
  · show Calls _ _ _ _ (Yes w (bare r))
    unfold bare
    go_enter Try.func28, Try.ntmps28
    go_wp2
    all_goals (go_ret; refine ⟨?_, alloc_ _ _⟩; simp [*])
  · show Calls _ _ _ _ (Yes w (rk r.k r.v r.a r.z))
    have C := fun w => Lib.hid (risk_right r.k r.v r.a r.z w)
    generalize rk r.k r.v r.a r.z = q at C ⊢
    go_enter Try.func28, Try.ntmps28
    go_wp2_with fail
    refine (C _).out.mono ?_
    rintro e w1 ⟨rfl, hb⟩
    have HB := Lib.hid (below_alloc hb)
    clear hb
    go_wp2
    go_ret
    exact ⟨rfl, HB.out⟩

set_option maxHeartbeats 1000000 in
theorem coversFit (A : Option Addr) (n c : Nat) (cs : List Co) (x : Bool) (w : World) (hS : Cvs w (· < w.heap.size) A n cs) (hm : n ≤ maxLen) : Calls Try.prog 29 #[.slice A n c, .bool x] w (Yes w (cfit cs x)) := by
  cases x
  · show Calls _ _ _ _ (Yes w (cs.length == 0))
    rw [hS.1]
    clear hS hm
    by_cases h : n = 0
    · subst h
      go_enter Try.func29, Try.ntmps29
      go_wp2
      go_ret
      exact ⟨rfl, Below.refl _ _⟩
    · have t1 : ((n : Int) == 0) = false := by rw [beq_eq_false_iff_ne]; omega
      have t2 : (n == 0) = false := by rw [beq_eq_false_iff_ne]; exact h
      rw [t2]
      go_enter Try.func29, Try.ntmps29
      go_wp2
      go_ret
      exact ⟨rfl, Below.refl _ _⟩
  · show Calls _ _ _ _ (Yes w (cvr cs))
    have CC := Lib.hid (covers_ A n c cs w hS hm)
    generalize cvr cs = q at CC ⊢
    clear hS hm
    go_enter Try.func29, Try.ntmps29
    go_wp2_with fail
    refine CC.out.mono ?_
    rintro e w1 ⟨rfl, hb⟩
    have HB := Lib.hid hb
    clear hb
    go_wp2
    go_ret
    exact ⟨rfl, HB.out⟩

set_option maxHeartbeats 1000000 in
theorem wayFits (v : Int) (x : Bool) (w : World) : Calls Try.prog 30 #[.int .i64 v, .bool x] w fun e w' => e = .returned (.bool (wfit v x)) ∧ w = w' := by
  cases x
  · show Calls _ _ _ _ (fun e w' => e = .returned (.bool (v == 0)) ∧ w = w')
    go_enter Try.func30, Try.ntmps30
    go_wp2
    go_ret
    exact ⟨rfl, rfl⟩
  · show Calls _ _ _ _ (fun e w' => e = .returned (.bool (v == 0 || v == 1)) ∧ w = w')
    cases t0 : v == 0
    · cases t1 : v == 1
      · go_enter Try.func30, Try.ntmps30
        go_wp2
        go_ret
        exact ⟨rfl, rfl⟩
      · go_enter Try.func30, Try.ntmps30
        go_wp2
        go_ret
        exact ⟨rfl, rfl⟩
    · go_enter Try.func30, Try.ntmps30
      go_wp2
      go_ret
      exact ⟨rfl, rfl⟩

end Tm
end Go.Proofs.Ytcnlllamldlnmaa
