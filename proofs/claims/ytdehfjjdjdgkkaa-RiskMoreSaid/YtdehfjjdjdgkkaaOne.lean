/-
  within, Right of package risk, the document's Right. Conditions: none.
-/
import Derived.Test.YtdehfjjdjdgkkaaBase
namespace Go.Proofs.Ytdehfjjdjdgkkaa
open Go.RowKit Ba
namespace Rsk
set_option linter.unusedVariables false

set_option maxHeartbeats 1000000 in
theorem within (n lo hi : Int) (w : World) : Calls Try.prog 16 #[.int .i64 n, .int .i64 lo, .int .i64 hi] w fun e w' => e = .returned (.bool (wi n lo hi)) ∧ w = w' := by
  by_cases h1 : lo ≤ n
  · have t1 : decide (lo ≤ n) = true := by simpa using h1
    by_cases h2 : n ≤ hi
    · have t2 : decide (n ≤ hi) = true := by simpa using h2
      rw [wi_iff.2 ⟨h1, h2⟩]
      clear h1 h2
      go_enter Try.func16, Try.ntmps16
      go_wp2
      go_ret
      exact ⟨rfl, rfl⟩
    · have t2 : decide (n ≤ hi) = false := by simpa using h2
      rw [wi_no (by omega)]
      clear h1 h2
      go_enter Try.func16, Try.ntmps16
      go_wp2
      go_ret
      exact ⟨rfl, rfl⟩
  · have t1 : decide (lo ≤ n) = false := by simpa using h1
    rw [wi_no (by omega)]
    clear h1
    go_enter Try.func16, Try.ntmps16
    go_wp2
    go_ret
    exact ⟨rfl, rfl⟩

set_option maxHeartbeats 1000000 in
theorem right_ (k v a z : Int) (w : World) : Calls Try.prog 10 #[rg k v a z] w (Yes w (rk k v a z)) := by
  have C := fun n lo hi w => Lib.hid (within n lo hi w)
  cases t0 : wi k 0 3
  · rw [show rk k v a z = false by unfold rk; rw [t0]; rfl]
    go_enter Try.func10, Try.ntmps10
    go_wp2_with (go_at_call 16; refine (C _ _ _ _).out.mono ?_; rintro e w' ⟨rfl, rfl⟩)
    go_ret
    exact ⟨rfl, alloc_ _ _⟩
  · skip
    cases t1 : wi v 1 1000000000000000
    · rw [show rk k v a z = false by unfold rk; rw [t0, t1]; rfl]
      go_enter Try.func10, Try.ntmps10
      go_wp2_with (go_at_call 16; refine (C _ _ _ _).out.mono ?_; rintro e w' ⟨rfl, rfl⟩)
      go_ret
      exact ⟨rfl, alloc_ _ _⟩
    · skip
      cases t2 : wi a 0 200
      · rw [show rk k v a z = false by unfold rk; rw [t0, t1, t2]; rfl]
        go_enter Try.func10, Try.ntmps10
        go_wp2_with (go_at_call 16; refine (C _ _ _ _).out.mono ?_; rintro e w' ⟨rfl, rfl⟩)
        go_ret
        exact ⟨rfl, alloc_ _ _⟩
      · skip
        cases t3 : wi z 0 99
        · rw [show rk k v a z = false by unfold rk; rw [t0, t1, t2, t3]; rfl]
          go_enter Try.func10, Try.ntmps10
          go_wp2_with (go_at_call 16; refine (C _ _ _ _).out.mono ?_; rintro e w' ⟨rfl, rfl⟩)
          go_ret
          exact ⟨rfl, alloc_ _ _⟩
        · rw [show rk k v a z = true by unfold rk; rw [t0, t1, t2, t3]; rfl]
          go_enter Try.func10, Try.ntmps10
          go_wp2_with (go_at_call 16; refine (C _ _ _ _).out.mono ?_; rintro e w' ⟨rfl, rfl⟩)
          go_ret
          exact ⟨rfl, alloc_ _ _⟩

set_option maxHeartbeats 1000000 in
theorem rright_ (k v a z : Int) (w : World) : Calls Try.prog 11 #[rg k v a z] w (Yes w (rk k v a z)) := by
  by_cases h0 : k < 0
  · have t0 : decide (k < 0) = true := by simpa using h0
    rw [rk_no (by omega)]
    clear h0
    go_enter Try.func11, Try.ntmps11
    go_wp2
    go_ret
    exact ⟨rfl, alloc_ _ _⟩
  · have t0 : decide (k < 0) = false := by simpa using h0
    by_cases h1 : 3 < k
    · have t1 : decide (3 < k) = true := by simpa using h1
      rw [rk_no (by omega)]
      clear h0 h1
      go_enter Try.func11, Try.ntmps11
      go_wp2
      go_ret
      exact ⟨rfl, alloc_ _ _⟩
    · have t1 : decide (3 < k) = false := by simpa using h1
      by_cases h2 : v < 1
      · have t2 : decide (v < 1) = true := by simpa using h2
        rw [rk_no (by omega)]
        clear h0 h1 h2
        go_enter Try.func11, Try.ntmps11
        go_wp2
        go_ret
        exact ⟨rfl, alloc_ _ _⟩
      · have t2 : decide (v < 1) = false := by simpa using h2
        by_cases h3 : 1000000000000000 < v
        · have t3 : decide (1000000000000000 < v) = true := by simpa using h3
          rw [rk_no (by omega)]
          clear h0 h1 h2 h3
          go_enter Try.func11, Try.ntmps11
          go_wp2
          go_ret
          exact ⟨rfl, alloc_ _ _⟩
        · have t3 : decide (1000000000000000 < v) = false := by simpa using h3
          by_cases h4 : ¬ 0 ≤ a
          · have t4 : decide (0 ≤ a) = false := by simpa using h4
            rw [rk_no (by omega)]
            clear h0 h1 h2 h3 h4
            go_enter Try.func11, Try.ntmps11
            go_wp2
            go_ret
            exact ⟨rfl, alloc_ _ _⟩
          · have t4 : decide (0 ≤ a) = true := by simpa using h4
            by_cases h5 : ¬ a ≤ 200
            · have t5 : decide (a ≤ 200) = false := by simpa using h5
              rw [rk_no (by omega)]
              clear h0 h1 h2 h3 h4 h5
              go_enter Try.func11, Try.ntmps11
              go_wp2
              go_ret
              exact ⟨rfl, alloc_ _ _⟩
            · have t5 : decide (a ≤ 200) = true := by simpa using h5
              by_cases h6 : ¬ 0 ≤ z
              · have t6 : decide (0 ≤ z) = false := by simpa using h6
                rw [rk_no (by omega)]
                clear h0 h1 h2 h3 h4 h5 h6
                go_enter Try.func11, Try.ntmps11
                go_wp2
                go_ret
                exact ⟨rfl, alloc_ _ _⟩
              · have t6 : decide (0 ≤ z) = true := by simpa using h6
                by_cases h7 : ¬ z ≤ 99
                · have t7 : decide (z ≤ 99) = false := by simpa using h7
                  rw [rk_no (by omega)]
                  clear h0 h1 h2 h3 h4 h5 h6 h7
                  go_enter Try.func11, Try.ntmps11
                  go_wp2
                  go_ret
                  exact ⟨rfl, alloc_ _ _⟩
                · have t7 : decide (z ≤ 99) = true := by simpa using h7
                  rw [rk_yes (by omega)]
                  clear h0 h1 h2 h3 h4 h5 h6 h7
                  go_enter Try.func11, Try.ntmps11
                  go_wp2
                  go_ret
                  exact ⟨rfl, alloc_ _ _⟩

end Rsk
end Go.Proofs.Ytdehfjjdjdgkkaa
