/-
  Right of package cover, and the document's. Conditions: none.
-/
import Derived.Test.YtinhhphnbbdoeaaBase
namespace Go.Proofs.Ytinhhphnbbdoeaa
open Go.RowKit Cv
namespace Qo
set_option linter.unusedVariables false

set_option maxHeartbeats 1000000 in
theorem cov_right (c : Co) (w : World) : Calls Try.prog 20 #[cg c] w (Yes w (ok c)) := by
  by_cases h0 : c.p < 0
  · have t0 : decide (c.p < 0) = true := by simpa using h0
    rw [ok_no (c := c) (by unfold Ok; omega)]
    clear h0
    go_enter Try.func20, Try.ntmps20
    go_wp2
    go_ret
    exact ⟨rfl, alloc_ _ _⟩
  · have t0 : decide (c.p < 0) = false := by simpa using h0
    by_cases h1 : 7 < c.p
    · have t1 : decide (7 < c.p) = true := by simpa using h1
      rw [ok_no (c := c) (by unfold Ok; omega)]
      clear h0 h1
      go_enter Try.func20, Try.ntmps20
      go_wp2
      go_ret
      exact ⟨rfl, alloc_ _ _⟩
    · have t1 : decide (7 < c.p) = false := by simpa using h1
      by_cases h2 : c.s < 1
      · have t2 : decide (c.s < 1) = true := by simpa using h2
        rw [ok_no (c := c) (by unfold Ok; omega)]
        clear h0 h1 h2
        go_enter Try.func20, Try.ntmps20
        go_wp2
        go_ret
        exact ⟨rfl, alloc_ _ _⟩
      · have t2 : decide (c.s < 1) = false := by simpa using h2
        by_cases h3 : 10000 < c.s
        · have t3 : decide (10000 < c.s) = true := by simpa using h3
          rw [ok_no (c := c) (by unfold Ok; omega)]
          clear h0 h1 h2 h3
          go_enter Try.func20, Try.ntmps20
          go_wp2
          go_ret
          exact ⟨rfl, alloc_ _ _⟩
        · have t3 : decide (10000 < c.s) = false := by simpa using h3
          by_cases h4 : ¬ 0 ≤ c.d
          · have t4 : decide (0 ≤ c.d) = false := by simpa using h4
            rw [ok_no (c := c) (by unfold Ok; omega)]
            clear h0 h1 h2 h3 h4
            go_enter Try.func20, Try.ntmps20
            go_wp2
            go_ret
            exact ⟨rfl, alloc_ _ _⟩
          · have t4 : decide (0 ≤ c.d) = true := by simpa using h4
            by_cases h5 : ¬ c.d < c.l
            · have t5 : decide (c.d < c.l) = false := by simpa using h5
              rw [ok_no (c := c) (by unfold Ok; omega)]
              clear h0 h1 h2 h3 h4 h5
              go_enter Try.func20, Try.ntmps20
              go_wp2
              go_ret
              exact ⟨rfl, alloc_ _ _⟩
            · have t5 : decide (c.d < c.l) = true := by simpa using h5
              by_cases h6 : ¬ c.l ≤ c.g
              · have t6 : decide (c.l ≤ c.g) = false := by simpa using h6
                rw [ok_no (c := c) (by unfold Ok; omega)]
                clear h0 h1 h2 h3 h4 h5 h6
                go_enter Try.func20, Try.ntmps20
                go_wp2
                go_ret
                exact ⟨rfl, alloc_ _ _⟩
              · have t6 : decide (c.l ≤ c.g) = true := by simpa using h6
                by_cases h7 : ¬ c.g ≤ 1000000000000000
                · have t7 : decide (c.g ≤ 1000000000000000) = false := by simpa using h7
                  rw [ok_no (c := c) (by unfold Ok; omega)]
                  clear h0 h1 h2 h3 h4 h5 h6 h7
                  go_enter Try.func20, Try.ntmps20
                  go_wp2
                  go_ret
                  exact ⟨rfl, alloc_ _ _⟩
                · have t7 : decide (c.g ≤ 1000000000000000) = true := by simpa using h7
                  rw [ok_yes (c := c) (by unfold Ok; omega)]
                  clear h0 h1 h2 h3 h4 h5 h6 h7
                  go_enter Try.func20, Try.ntmps20
                  go_wp2
                  go_ret
                  exact ⟨rfl, alloc_ _ _⟩

set_option maxHeartbeats 1000000 in
theorem rcov_right (c : Co) (w : World) : Calls Try.prog 24 #[cg c] w (Yes w (ok c)) := by
  by_cases h0 : c.p < 0
  · have t0 : decide (c.p < 0) = true := by simpa using h0
    rw [ok_no (c := c) (by unfold Ok; omega)]
    clear h0
    go_enter Try.func24, Try.ntmps24
    go_wp2
    go_ret
    exact ⟨rfl, alloc_ _ _⟩
  · have t0 : decide (c.p < 0) = false := by simpa using h0
    by_cases h1 : 7 < c.p
    · have t1 : decide (7 < c.p) = true := by simpa using h1
      rw [ok_no (c := c) (by unfold Ok; omega)]
      clear h0 h1
      go_enter Try.func24, Try.ntmps24
      go_wp2
      go_ret
      exact ⟨rfl, alloc_ _ _⟩
    · have t1 : decide (7 < c.p) = false := by simpa using h1
      by_cases h2 : c.s < 1
      · have t2 : decide (c.s < 1) = true := by simpa using h2
        rw [ok_no (c := c) (by unfold Ok; omega)]
        clear h0 h1 h2
        go_enter Try.func24, Try.ntmps24
        go_wp2
        go_ret
        exact ⟨rfl, alloc_ _ _⟩
      · have t2 : decide (c.s < 1) = false := by simpa using h2
        by_cases h3 : 10000 < c.s
        · have t3 : decide (10000 < c.s) = true := by simpa using h3
          rw [ok_no (c := c) (by unfold Ok; omega)]
          clear h0 h1 h2 h3
          go_enter Try.func24, Try.ntmps24
          go_wp2
          go_ret
          exact ⟨rfl, alloc_ _ _⟩
        · have t3 : decide (10000 < c.s) = false := by simpa using h3
          by_cases h4 : ¬ 0 ≤ c.d
          · have t4 : decide (0 ≤ c.d) = false := by simpa using h4
            rw [ok_no (c := c) (by unfold Ok; omega)]
            clear h0 h1 h2 h3 h4
            go_enter Try.func24, Try.ntmps24
            go_wp2
            go_ret
            exact ⟨rfl, alloc_ _ _⟩
          · have t4 : decide (0 ≤ c.d) = true := by simpa using h4
            by_cases h5 : ¬ c.d < c.l
            · have t5 : decide (c.d < c.l) = false := by simpa using h5
              rw [ok_no (c := c) (by unfold Ok; omega)]
              clear h0 h1 h2 h3 h4 h5
              go_enter Try.func24, Try.ntmps24
              go_wp2
              go_ret
              exact ⟨rfl, alloc_ _ _⟩
            · have t5 : decide (c.d < c.l) = true := by simpa using h5
              by_cases h6 : ¬ c.l ≤ c.g
              · have t6 : decide (c.l ≤ c.g) = false := by simpa using h6
                rw [ok_no (c := c) (by unfold Ok; omega)]
                clear h0 h1 h2 h3 h4 h5 h6
                go_enter Try.func24, Try.ntmps24
                go_wp2
                go_ret
                exact ⟨rfl, alloc_ _ _⟩
              · have t6 : decide (c.l ≤ c.g) = true := by simpa using h6
                by_cases h7 : ¬ c.g ≤ 1000000000000000
                · have t7 : decide (c.g ≤ 1000000000000000) = false := by simpa using h7
                  rw [ok_no (c := c) (by unfold Ok; omega)]
                  clear h0 h1 h2 h3 h4 h5 h6 h7
                  go_enter Try.func24, Try.ntmps24
                  go_wp2
                  go_ret
                  exact ⟨rfl, alloc_ _ _⟩
                · have t7 : decide (c.g ≤ 1000000000000000) = true := by simpa using h7
                  rw [ok_yes (c := c) (by unfold Ok; omega)]
                  clear h0 h1 h2 h3 h4 h5 h6 h7
                  go_enter Try.func24, Try.ntmps24
                  go_wp2
                  go_ret
                  exact ⟨rfl, alloc_ _ _⟩

end Qo
end Go.Proofs.Ytinhhphnbbdoeaa
