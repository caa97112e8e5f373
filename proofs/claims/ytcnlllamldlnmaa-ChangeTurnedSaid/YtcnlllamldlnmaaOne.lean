/-
  Right and Many of package span, Right of package risk and of package cover, and the document's. Conditions: none.
-/
import Derived.Test.YtcnlllamldlnmaaBase
namespace Go.Proofs.Ytcnlllamldlnmaa
open Go.RowKit Ba Cv Sp Te
namespace Tm
set_option linter.unusedVariables false

theorem rt_t {a b : Int} (h1 : 1 ≤ a) (h2 : a ≤ b) (h3 : b ≤ 292195) : rt (a, b) = true := (rt_iff (a, b)).2 ⟨h1, h2, h3⟩
theorem rt_f {a b : Int} (h : ¬ (1 ≤ a ∧ a ≤ b ∧ b ≤ 292195)) : rt (a, b) = false := (rt_not (a, b)).2 h

set_option maxHeartbeats 1000000 in
theorem span_right (x : Sp) (w : World) : Calls Try.prog 67 #[sg x] w fun e w' => e = .returned (.bool (rt x)) ∧ Below w.heap.size w w' := by
  obtain ⟨a, b⟩ := x
  by_cases h1 : 1 ≤ a
  · have t1 : decide (1 ≤ a) = true := by simpa using h1
    by_cases h2 : a ≤ b
    · have t2 : decide (a ≤ b) = true := by simpa using h2
      by_cases h3 : b ≤ 292195
      · have t3 : decide (b ≤ 292195) = true := by simpa using h3
        rw [rt_t h1 h2 h3]
        clear h1 h2 h3
        go_enter Try.func67, Try.ntmps67
        go_wp2
        go_ret
        exact ⟨rfl, (Below.refl _ _).alloc (Nat.le_refl _) _⟩
      · have t3 : decide (b ≤ 292195) = false := by simpa using h3
        rw [rt_f (by omega)]
        clear h1 h2 h3
        go_enter Try.func67, Try.ntmps67
        go_wp2
        go_ret
        exact ⟨rfl, (Below.refl _ _).alloc (Nat.le_refl _) _⟩
    · have t2 : decide (a ≤ b) = false := by simpa using h2
      rw [rt_f (by omega)]
      clear h1 h2
      go_enter Try.func67, Try.ntmps67
      go_wp2
      go_ret
      exact ⟨rfl, (Below.refl _ _).alloc (Nat.le_refl _) _⟩
  · have t1 : decide (1 ≤ a) = false := by simpa using h1
    rw [rt_f (by omega)]
    clear h1
    go_enter Try.func67, Try.ntmps67
    go_wp2
    go_ret
    exact ⟨rfl, (Below.refl _ _).alloc (Nat.le_refl _) _⟩

set_option maxHeartbeats 1000000 in
theorem span_many (x : Sp) (w : World) : Calls Try.prog 69 #[sg x] w fun e w' => e = .returned (.int .i64 (mn x)) ∧ Below w.heap.size w w' := by
  have C := fun w => Lib.hid (span_right x w)
  obtain ⟨a, b⟩ := x
  by_cases hr : rt (a, b) = true
  · have hm : mn (a, b) = b - a := by rw [mn, if_pos hr]
    rw [hm]
    rw [hr] at C
    rw [rt_iff] at hr
    obtain ⟨h1, h2, h3⟩ := hr
    simp only at h1 h2 h3
    clear hm
    go_enter Try.func69, Try.ntmps69
    go_wp2_with fail
    refine (C _).out.mono ?_
    rintro e w1 ⟨rfl, hb⟩
    obtain ⟨hc, hf⟩ := bcell hb
    have HB := Lib.hid hb
    clear hb
    go_wp2
    go_ret
    exact ⟨rfl, ((Below.refl _ _).alloc (Nat.le_refl _) _).trans (HB.out.mono (by simp))⟩
  · have hm : mn (a, b) = 0 := by rw [mn, if_neg hr]
    rw [hm]
    have hr' : rt (a, b) = false := by simpa using hr
    rw [hr'] at C
    clear hm hr hr'
    go_enter Try.func69, Try.ntmps69
    go_wp2_with fail
    refine (C _).out.mono ?_
    rintro e w1 ⟨rfl, hb⟩
    have HB := Lib.hid hb
    clear hb
    go_wp2
    go_ret
    exact ⟨rfl, ((Below.refl _ _).alloc (Nat.le_refl _) _).trans (HB.out.mono (by simp))⟩

set_option maxHeartbeats 1000000 in
theorem within (n lo hi : Int) (w : World) : Calls Try.prog 57 #[.int .i64 n, .int .i64 lo, .int .i64 hi] w fun e w' => e = .returned (.bool (wi n lo hi)) ∧ w = w' := by
  by_cases h1 : lo ≤ n
  · have t1 : decide (lo ≤ n) = true := by simpa using h1
    by_cases h2 : n ≤ hi
    · have t2 : decide (n ≤ hi) = true := by simpa using h2
      rw [wi_iff.2 ⟨h1, h2⟩]
      clear h1 h2
      go_enter Try.func57, Try.ntmps57
      go_wp2
      go_ret
      exact ⟨rfl, rfl⟩
    · have t2 : decide (n ≤ hi) = false := by simpa using h2
      rw [wi_no (by omega)]
      clear h1 h2
      go_enter Try.func57, Try.ntmps57
      go_wp2
      go_ret
      exact ⟨rfl, rfl⟩
  · have t1 : decide (lo ≤ n) = false := by simpa using h1
    rw [wi_no (by omega)]
    clear h1
    go_enter Try.func57, Try.ntmps57
    go_wp2
    go_ret
    exact ⟨rfl, rfl⟩

set_option maxHeartbeats 1000000 in
theorem risk_right (k v a z : Int) (w : World) : Calls Try.prog 46 #[rg ⟨k, v, a, z⟩] w (Yes w (rk k v a z)) := by
  have C := fun n lo hi w => Lib.hid (within n lo hi w)
  cases t0 : wi k 0 3
  · rw [show rk k v a z = false by unfold rk; rw [t0]; rfl]
    go_enter Try.func46, Try.ntmps46
    go_wp2_with (go_at_call 57; refine (C _ _ _ _).out.mono ?_; rintro e w' ⟨rfl, rfl⟩)
    go_ret
    exact ⟨rfl, alloc_ _ _⟩
  · skip
    cases t1 : wi v 1 1000000000000000
    · rw [show rk k v a z = false by unfold rk; rw [t0, t1]; rfl]
      go_enter Try.func46, Try.ntmps46
      go_wp2_with (go_at_call 57; refine (C _ _ _ _).out.mono ?_; rintro e w' ⟨rfl, rfl⟩)
      go_ret
      exact ⟨rfl, alloc_ _ _⟩
    · skip
      cases t2 : wi a 0 200
      · rw [show rk k v a z = false by unfold rk; rw [t0, t1, t2]; rfl]
        go_enter Try.func46, Try.ntmps46
        go_wp2_with (go_at_call 57; refine (C _ _ _ _).out.mono ?_; rintro e w' ⟨rfl, rfl⟩)
        go_ret
        exact ⟨rfl, alloc_ _ _⟩
      · skip
        cases t3 : wi z 0 99
        · rw [show rk k v a z = false by unfold rk; rw [t0, t1, t2, t3]; rfl]
          go_enter Try.func46, Try.ntmps46
          go_wp2_with (go_at_call 57; refine (C _ _ _ _).out.mono ?_; rintro e w' ⟨rfl, rfl⟩)
          go_ret
          exact ⟨rfl, alloc_ _ _⟩
        · rw [show rk k v a z = true by unfold rk; rw [t0, t1, t2, t3]; rfl]
          go_enter Try.func46, Try.ntmps46
          go_wp2_with (go_at_call 57; refine (C _ _ _ _).out.mono ?_; rintro e w' ⟨rfl, rfl⟩)
          go_ret
          exact ⟨rfl, alloc_ _ _⟩

set_option maxHeartbeats 1000000 in
theorem rrisk_right (k v a z : Int) (w : World) : Calls Try.prog 31 #[rg ⟨k, v, a, z⟩] w (Yes w (rk k v a z)) := by
  by_cases h0 : k < 0
  · have t0 : decide (k < 0) = true := by simpa using h0
    rw [rk_no (by omega)]
    clear h0
    go_enter Try.func31, Try.ntmps31
    go_wp2
    go_ret
    exact ⟨rfl, alloc_ _ _⟩
  · have t0 : decide (k < 0) = false := by simpa using h0
    by_cases h1 : 3 < k
    · have t1 : decide (3 < k) = true := by simpa using h1
      rw [rk_no (by omega)]
      clear h0 h1
      go_enter Try.func31, Try.ntmps31
      go_wp2
      go_ret
      exact ⟨rfl, alloc_ _ _⟩
    · have t1 : decide (3 < k) = false := by simpa using h1
      by_cases h2 : v < 1
      · have t2 : decide (v < 1) = true := by simpa using h2
        rw [rk_no (by omega)]
        clear h0 h1 h2
        go_enter Try.func31, Try.ntmps31
        go_wp2
        go_ret
        exact ⟨rfl, alloc_ _ _⟩
      · have t2 : decide (v < 1) = false := by simpa using h2
        by_cases h3 : 1000000000000000 < v
        · have t3 : decide (1000000000000000 < v) = true := by simpa using h3
          rw [rk_no (by omega)]
          clear h0 h1 h2 h3
          go_enter Try.func31, Try.ntmps31
          go_wp2
          go_ret
          exact ⟨rfl, alloc_ _ _⟩
        · have t3 : decide (1000000000000000 < v) = false := by simpa using h3
          by_cases h4 : ¬ 0 ≤ a
          · have t4 : decide (0 ≤ a) = false := by simpa using h4
            rw [rk_no (by omega)]
            clear h0 h1 h2 h3 h4
            go_enter Try.func31, Try.ntmps31
            go_wp2
            go_ret
            exact ⟨rfl, alloc_ _ _⟩
          · have t4 : decide (0 ≤ a) = true := by simpa using h4
            by_cases h5 : ¬ a ≤ 200
            · have t5 : decide (a ≤ 200) = false := by simpa using h5
              rw [rk_no (by omega)]
              clear h0 h1 h2 h3 h4 h5
              go_enter Try.func31, Try.ntmps31
              go_wp2
              go_ret
              exact ⟨rfl, alloc_ _ _⟩
            · have t5 : decide (a ≤ 200) = true := by simpa using h5
              by_cases h6 : ¬ 0 ≤ z
              · have t6 : decide (0 ≤ z) = false := by simpa using h6
                rw [rk_no (by omega)]
                clear h0 h1 h2 h3 h4 h5 h6
                go_enter Try.func31, Try.ntmps31
                go_wp2
                go_ret
                exact ⟨rfl, alloc_ _ _⟩
              · have t6 : decide (0 ≤ z) = true := by simpa using h6
                by_cases h7 : ¬ z ≤ 99
                · have t7 : decide (z ≤ 99) = false := by simpa using h7
                  rw [rk_no (by omega)]
                  clear h0 h1 h2 h3 h4 h5 h6 h7
                  go_enter Try.func31, Try.ntmps31
                  go_wp2
                  go_ret
                  exact ⟨rfl, alloc_ _ _⟩
                · have t7 : decide (z ≤ 99) = true := by simpa using h7
                  rw [rk_yes (by omega)]
                  clear h0 h1 h2 h3 h4 h5 h6 h7
                  go_enter Try.func31, Try.ntmps31
                  go_wp2
                  go_ret
                  exact ⟨rfl, alloc_ _ _⟩

set_option maxHeartbeats 1000000 in
theorem cov_right (c : Co) (w : World) : Calls Try.prog 63 #[cg c] w (Yes w (ok c)) := by
  by_cases h0 : c.p < 0
  · have t0 : decide (c.p < 0) = true := by simpa using h0
    rw [ok_no (c := c) (by unfold Ok; omega)]
    clear h0
    go_enter Try.func63, Try.ntmps63
    go_wp2
    go_ret
    exact ⟨rfl, alloc_ _ _⟩
  · have t0 : decide (c.p < 0) = false := by simpa using h0
    by_cases h1 : 7 < c.p
    · have t1 : decide (7 < c.p) = true := by simpa using h1
      rw [ok_no (c := c) (by unfold Ok; omega)]
      clear h0 h1
      go_enter Try.func63, Try.ntmps63
      go_wp2
      go_ret
      exact ⟨rfl, alloc_ _ _⟩
    · have t1 : decide (7 < c.p) = false := by simpa using h1
      by_cases h2 : c.s < 1
      · have t2 : decide (c.s < 1) = true := by simpa using h2
        rw [ok_no (c := c) (by unfold Ok; omega)]
        clear h0 h1 h2
        go_enter Try.func63, Try.ntmps63
        go_wp2
        go_ret
        exact ⟨rfl, alloc_ _ _⟩
      · have t2 : decide (c.s < 1) = false := by simpa using h2
        by_cases h3 : 10000 < c.s
        · have t3 : decide (10000 < c.s) = true := by simpa using h3
          rw [ok_no (c := c) (by unfold Ok; omega)]
          clear h0 h1 h2 h3
          go_enter Try.func63, Try.ntmps63
          go_wp2
          go_ret
          exact ⟨rfl, alloc_ _ _⟩
        · have t3 : decide (10000 < c.s) = false := by simpa using h3
          by_cases h4 : ¬ 0 ≤ c.d
          · have t4 : decide (0 ≤ c.d) = false := by simpa using h4
            rw [ok_no (c := c) (by unfold Ok; omega)]
            clear h0 h1 h2 h3 h4
            go_enter Try.func63, Try.ntmps63
            go_wp2
            go_ret
            exact ⟨rfl, alloc_ _ _⟩
          · have t4 : decide (0 ≤ c.d) = true := by simpa using h4
            by_cases h5 : ¬ c.d < c.l
            · have t5 : decide (c.d < c.l) = false := by simpa using h5
              rw [ok_no (c := c) (by unfold Ok; omega)]
              clear h0 h1 h2 h3 h4 h5
              go_enter Try.func63, Try.ntmps63
              go_wp2
              go_ret
              exact ⟨rfl, alloc_ _ _⟩
            · have t5 : decide (c.d < c.l) = true := by simpa using h5
              by_cases h6 : ¬ c.l ≤ c.g
              · have t6 : decide (c.l ≤ c.g) = false := by simpa using h6
                rw [ok_no (c := c) (by unfold Ok; omega)]
                clear h0 h1 h2 h3 h4 h5 h6
                go_enter Try.func63, Try.ntmps63
                go_wp2
                go_ret
                exact ⟨rfl, alloc_ _ _⟩
              · have t6 : decide (c.l ≤ c.g) = true := by simpa using h6
                by_cases h7 : ¬ c.g ≤ 1000000000000000
                · have t7 : decide (c.g ≤ 1000000000000000) = false := by simpa using h7
                  rw [ok_no (c := c) (by unfold Ok; omega)]
                  clear h0 h1 h2 h3 h4 h5 h6 h7
                  go_enter Try.func63, Try.ntmps63
                  go_wp2
                  go_ret
                  exact ⟨rfl, alloc_ _ _⟩
                · have t7 : decide (c.g ≤ 1000000000000000) = true := by simpa using h7
                  rw [ok_yes (c := c) (by unfold Ok; omega)]
                  clear h0 h1 h2 h3 h4 h5 h6 h7
                  go_enter Try.func63, Try.ntmps63
                  go_wp2
                  go_ret
                  exact ⟨rfl, alloc_ _ _⟩

set_option maxHeartbeats 1000000 in
theorem rcov_right (c : Co) (w : World) : Calls Try.prog 48 #[cg c] w (Yes w (ok c)) := by
  by_cases h0 : c.p < 0
  · have t0 : decide (c.p < 0) = true := by simpa using h0
    rw [ok_no (c := c) (by unfold Ok; omega)]
    clear h0
    go_enter Try.func48, Try.ntmps48
    go_wp2
    go_ret
    exact ⟨rfl, alloc_ _ _⟩
  · have t0 : decide (c.p < 0) = false := by simpa using h0
    by_cases h1 : 7 < c.p
    · have t1 : decide (7 < c.p) = true := by simpa using h1
      rw [ok_no (c := c) (by unfold Ok; omega)]
      clear h0 h1
      go_enter Try.func48, Try.ntmps48
      go_wp2
      go_ret
      exact ⟨rfl, alloc_ _ _⟩
    · have t1 : decide (7 < c.p) = false := by simpa using h1
      by_cases h2 : c.s < 1
      · have t2 : decide (c.s < 1) = true := by simpa using h2
        rw [ok_no (c := c) (by unfold Ok; omega)]
        clear h0 h1 h2
        go_enter Try.func48, Try.ntmps48
        go_wp2
        go_ret
        exact ⟨rfl, alloc_ _ _⟩
      · have t2 : decide (c.s < 1) = false := by simpa using h2
        by_cases h3 : 10000 < c.s
        · have t3 : decide (10000 < c.s) = true := by simpa using h3
          rw [ok_no (c := c) (by unfold Ok; omega)]
          clear h0 h1 h2 h3
          go_enter Try.func48, Try.ntmps48
          go_wp2
          go_ret
          exact ⟨rfl, alloc_ _ _⟩
        · have t3 : decide (10000 < c.s) = false := by simpa using h3
          by_cases h4 : ¬ 0 ≤ c.d
          · have t4 : decide (0 ≤ c.d) = false := by simpa using h4
            rw [ok_no (c := c) (by unfold Ok; omega)]
            clear h0 h1 h2 h3 h4
            go_enter Try.func48, Try.ntmps48
            go_wp2
            go_ret
            exact ⟨rfl, alloc_ _ _⟩
          · have t4 : decide (0 ≤ c.d) = true := by simpa using h4
            by_cases h5 : ¬ c.d < c.l
            · have t5 : decide (c.d < c.l) = false := by simpa using h5
              rw [ok_no (c := c) (by unfold Ok; omega)]
              clear h0 h1 h2 h3 h4 h5
              go_enter Try.func48, Try.ntmps48
              go_wp2
              go_ret
              exact ⟨rfl, alloc_ _ _⟩
            · have t5 : decide (c.d < c.l) = true := by simpa using h5
              by_cases h6 : ¬ c.l ≤ c.g
              · have t6 : decide (c.l ≤ c.g) = false := by simpa using h6
                rw [ok_no (c := c) (by unfold Ok; omega)]
                clear h0 h1 h2 h3 h4 h5 h6
                go_enter Try.func48, Try.ntmps48
                go_wp2
                go_ret
                exact ⟨rfl, alloc_ _ _⟩
              · have t6 : decide (c.l ≤ c.g) = true := by simpa using h6
                by_cases h7 : ¬ c.g ≤ 1000000000000000
                · have t7 : decide (c.g ≤ 1000000000000000) = false := by simpa using h7
                  rw [ok_no (c := c) (by unfold Ok; omega)]
                  clear h0 h1 h2 h3 h4 h5 h6 h7
                  go_enter Try.func48, Try.ntmps48
                  go_wp2
                  go_ret
                  exact ⟨rfl, alloc_ _ _⟩
                · have t7 : decide (c.g ≤ 1000000000000000) = true := by simpa using h7
                  rw [ok_yes (c := c) (by unfold Ok; omega)]
                  clear h0 h1 h2 h3 h4 h5 h6 h7
                  go_enter Try.func48, Try.ntmps48
                  go_wp2
                  go_ret
                  exact ⟨rfl, alloc_ _ _⟩

end Tm
end Go.Proofs.Ytcnlllamldlnmaa
