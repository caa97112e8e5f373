/-
  Right and Band of package risk, and the document's. Conditions: bands read as a list.
-/
import Derived.Test.YtinhhphnbbdoeaaOne
import Derived.WalkMore
import Derived.ScopeJumps
namespace Go.Proofs.Ytinhhphnbbdoeaa
open Go.RowKit Ba
namespace Qo
set_option linter.unusedVariables false

set_option maxHeartbeats 1000000 in
theorem risk_right (k v a z : Int) (w : World) : Calls Try.prog 19 #[rg ⟨k, v, a, z⟩] w (Yes w (rk k v a z)) := by
  have C := fun n lo hi w => Lib.hid (within n lo hi w)
  cases t0 : wi k 0 3
  · rw [show rk k v a z = false by unfold rk; rw [t0]; rfl]
    go_enter Try.func19, Try.ntmps19
    go_wp2_with (go_at_call 34; refine (C _ _ _ _).out.mono ?_; rintro e w' ⟨rfl, rfl⟩)
    go_ret
    exact ⟨rfl, alloc_ _ _⟩
  · skip
    cases t1 : wi v 1 1000000000000000
    · rw [show rk k v a z = false by unfold rk; rw [t0, t1]; rfl]
      go_enter Try.func19, Try.ntmps19
      go_wp2_with (go_at_call 34; refine (C _ _ _ _).out.mono ?_; rintro e w' ⟨rfl, rfl⟩)
      go_ret
      exact ⟨rfl, alloc_ _ _⟩
    · skip
      cases t2 : wi a 0 200
      · rw [show rk k v a z = false by unfold rk; rw [t0, t1, t2]; rfl]
        go_enter Try.func19, Try.ntmps19
        go_wp2_with (go_at_call 34; refine (C _ _ _ _).out.mono ?_; rintro e w' ⟨rfl, rfl⟩)
        go_ret
        exact ⟨rfl, alloc_ _ _⟩
      · skip
        cases t3 : wi z 0 99
        · rw [show rk k v a z = false by unfold rk; rw [t0, t1, t2, t3]; rfl]
          go_enter Try.func19, Try.ntmps19
          go_wp2_with (go_at_call 34; refine (C _ _ _ _).out.mono ?_; rintro e w' ⟨rfl, rfl⟩)
          go_ret
          exact ⟨rfl, alloc_ _ _⟩
        · rw [show rk k v a z = true by unfold rk; rw [t0, t1, t2, t3]; rfl]
          go_enter Try.func19, Try.ntmps19
          go_wp2_with (go_at_call 34; refine (C _ _ _ _).out.mono ?_; rintro e w' ⟨rfl, rfl⟩)
          go_ret
          exact ⟨rfl, alloc_ _ _⟩

set_option maxHeartbeats 1000000 in
theorem rrisk_right (k v a z : Int) (w : World) : Calls Try.prog 23 #[rg ⟨k, v, a, z⟩] w (Yes w (rk k v a z)) := by
  by_cases h0 : k < 0
  · have t0 : decide (k < 0) = true := by simpa using h0
    rw [rk_no (by omega)]
    clear h0
    go_enter Try.func23, Try.ntmps23
    go_wp2
    go_ret
    exact ⟨rfl, alloc_ _ _⟩
  · have t0 : decide (k < 0) = false := by simpa using h0
    by_cases h1 : 3 < k
    · have t1 : decide (3 < k) = true := by simpa using h1
      rw [rk_no (by omega)]
      clear h0 h1
      go_enter Try.func23, Try.ntmps23
      go_wp2
      go_ret
      exact ⟨rfl, alloc_ _ _⟩
    · have t1 : decide (3 < k) = false := by simpa using h1
      by_cases h2 : v < 1
      · have t2 : decide (v < 1) = true := by simpa using h2
        rw [rk_no (by omega)]
        clear h0 h1 h2
        go_enter Try.func23, Try.ntmps23
        go_wp2
        go_ret
        exact ⟨rfl, alloc_ _ _⟩
      · have t2 : decide (v < 1) = false := by simpa using h2
        by_cases h3 : 1000000000000000 < v
        · have t3 : decide (1000000000000000 < v) = true := by simpa using h3
          rw [rk_no (by omega)]
          clear h0 h1 h2 h3
          go_enter Try.func23, Try.ntmps23
          go_wp2
          go_ret
          exact ⟨rfl, alloc_ _ _⟩
        · have t3 : decide (1000000000000000 < v) = false := by simpa using h3
          by_cases h4 : ¬ 0 ≤ a
          · have t4 : decide (0 ≤ a) = false := by simpa using h4
            rw [rk_no (by omega)]
            clear h0 h1 h2 h3 h4
            go_enter Try.func23, Try.ntmps23
            go_wp2
            go_ret
            exact ⟨rfl, alloc_ _ _⟩
          · have t4 : decide (0 ≤ a) = true := by simpa using h4
            by_cases h5 : ¬ a ≤ 200
            · have t5 : decide (a ≤ 200) = false := by simpa using h5
              rw [rk_no (by omega)]
              clear h0 h1 h2 h3 h4 h5
              go_enter Try.func23, Try.ntmps23
              go_wp2
              go_ret
              exact ⟨rfl, alloc_ _ _⟩
            · have t5 : decide (a ≤ 200) = true := by simpa using h5
              by_cases h6 : ¬ 0 ≤ z
              · have t6 : decide (0 ≤ z) = false := by simpa using h6
                rw [rk_no (by omega)]
                clear h0 h1 h2 h3 h4 h5 h6
                go_enter Try.func23, Try.ntmps23
                go_wp2
                go_ret
                exact ⟨rfl, alloc_ _ _⟩
              · have t6 : decide (0 ≤ z) = true := by simpa using h6
                by_cases h7 : ¬ z ≤ 99
                · have t7 : decide (z ≤ 99) = false := by simpa using h7
                  rw [rk_no (by omega)]
                  clear h0 h1 h2 h3 h4 h5 h6 h7
                  go_enter Try.func23, Try.ntmps23
                  go_wp2
                  go_ret
                  exact ⟨rfl, alloc_ _ _⟩
                · have t7 : decide (z ≤ 99) = true := by simpa using h7
                  rw [rk_yes (by omega)]
                  clear h0 h1 h2 h3 h4 h5 h6 h7
                  go_enter Try.func23, Try.ntmps23
                  go_wp2
                  go_ret
                  exact ⟨rfl, alloc_ _ _⟩

/-- A scope whose label is come to at first, and by every jump. -/
theorem scope_from {P : Program} {a : Act} {w : World} {Q : Exit → Act → World → Prop} {c rest : Code} (l : Nat) (J : Act → World → Prop) (μ : Act → World → Nat) (hf : findLabel c l = some (.seq .skip rest))
    (first : Hid (∀ a w, J a w → rest.wp P (Exit.jump l J Q) a w) → c.wp P (Exit.jump l J Q) a w)
    (pass : ∀ a w, J a w → rest.wp P (Exit.jump l (fun a' w' => J a' w' ∧ μ a' w' < μ a w) Q) a w) : (Code.scope c).wp P Q a w :=
  wp_scope_jumps l J μ hf (first (Lib.hid fun a w h => wp_mono (pass a w h) fun e a w h => by
    cases e with
    | goto l' => exact ⟨h.1, h.2.1⟩
    | _ => exact h)) fun a w h => wp_seq (wp_skip (pass a w h))

set_option maxRecDepth 100000 in
set_option maxHeartbeats 2000000 in
theorem band (L : Option Addr) (m c : Nat) (ls : List Pr) (age : Int) (w : World) (ok : Nat → Prop) (hS : Lns w ok L m ls) (hm : m ≤ maxLen) :
    Calls Try.prog 21 #[.slice L m c, .int .i64 age] w fun e w' => e = .returned (.int .i64 (bnd age ls)) ∧ w = w' := by
  have hl := hS.1
  unfold maxLen at hm
  have HS := Lib.hid hS
  have HL := Lib.hid hl
  obtain ⟨R, hR⟩ : ∃ R, bnd age ls = R := ⟨_, rfl⟩
  rw [hR]
  have HR := Lib.hid hR
  clear hS hl hR
  go_enter Try.func21, Try.ntmps21
  go_wp2
  refine scope_from 0 (fun a' w' => w = w' ∧ ∃ (k : Nat) (u5 u6 u7 u8 u9 u10 u11 u12 u13 u14 u15 u16 u17 u18 : Value), a' = { tmps := #[.slice L m c, .int .i64 age, undef, undef, .int .i64 0, u5, u6, u7, u8, u9, u10, u11, u12, u13, u14, u15, u16, u17, u18, undef, undef, undef, undef, undef], defers := [] } ∧ u5 = .int .i64 (k : Int) ∧ k ≤ m ∧ Hid (bnd age (ls.drop k) = R)) (fun a' _ => m - (intOf (a'.tmps.getD 5 undef)).toNat) rfl (fun HP => ?_) ?_
  · go_wp2
    go_step3
    rename_i hK
    exact hK _ _ (HP.out _ _ ⟨rfl, 0, _, _, _, _, _, _, _, _, _, _, _, _, _, _, rfl, rfl, Nat.zero_le _, HR⟩)
  · rintro a' w' ⟨rfl, k, u5, u6, u7, u8, u9, u10, u11, u12, u13, u14, u15, u16, u17, u18, rfl, rfl, hk, HB⟩
    by_cases hlt : k < m
    · obtain ⟨ad, x, y, rfl, hb, hx, hc0, hc1⟩ := HS.out.get hlt
      have HD := Lib.hid (drop_get hx)
      have hlt2 : (k : Int) < (m : Int) := by omega
      have t0 : ((k : Int) == (m : Int)) = false := by rw [beq_eq_false_iff_ne]; omega
      have t0' : (k == m) = false := by rw [beq_eq_false_iff_ne]; omega
      clear hx hb
      by_cases h1 : x < age
      · have t1 : decide (x < age) = true := by simpa using h1
        have HN := Lib.hid (show bnd age (ls.drop (k + 1)) = R by rw [← HB.out, HD.out]; exact (bnd_up (x := (x, y)) h1).symm)
        clear h1
        go_wp2
        go_step3
        refine ⟨rfl, ⟨rfl, k + 1, _, _, _, _, _, _, _, _, _, _, _, _, _, _, rfl, by go_num, by omega, HN⟩, ?_⟩
        · simp [intOf]; omega
      · have t1 : decide (x < age) = false := by simpa using h1
        have HF := Lib.hid (show R = y by rw [← HB.out, HD.out]; exact bnd_at (x := (x, y)) h1)
        clear h1
        go_wp2
        simp only [Exit.jump]
        go_ret
        exact ⟨by rw [HF.out]; rfl, rfl⟩
    · have HF := Lib.hid (show R = 10000 by rw [← HB.out, List.drop_of_length_le (by rw [HL.out]; omega)]; rfl)
      have t0 : ((k : Int) == (m : Int)) = true := by rw [beq_iff_eq]; omega
      have t0' : (k == m) = true := by rw [beq_iff_eq]; omega
      go_wp2
      simp only [Exit.jump]
      go_ret
      exact ⟨by rw [HF.out]; rfl, rfl⟩

set_option maxHeartbeats 2000000 in
theorem rband (L : Option Addr) (m c : Nat) (ls : List Pr) (age : Int) (w : World) (ok : Nat → Prop) (hS : Lns w ok L m ls) (hm : m ≤ maxLen) :
    Calls Try.prog 25 #[.slice L m c, .int .i64 age] w fun e w' => e = .returned (.int .i64 (bnd age ls)) ∧ w = w' := by
  have hl := hS.1
  unfold maxLen at hm
  have HS := Lib.hid hS
  have HL := Lib.hid hl
  clear hS hl
  go_enter Try.func25, Try.ntmps25
  go_wp2
  go_loop [5, 6] (fun b i => ∃ (k : Nat) (r : Int), k ≤ m ∧ i = .int .i64 ((k : Int) - 1) ∧ b = .int .i64 r ∧ Hid (bnd age (ls.drop k) = r)) (fun _ i => ((intOf i) + 1).toNat)
  case atStart => exact ⟨m, 10000, Nat.le_refl _, rfl, rfl, Lib.hid (by rw [List.drop_of_length_le (by rw [HL.out]; omega)]; rfl)⟩
  case round =>
    obtain ⟨k, r, hk, rfl, rfl, HB⟩ := hrel
    cases k with
    | zero =>
      have HF := Lib.hid (show bnd age ls = r by have := HB.out; rwa [List.drop_zero] at this)
      rw [show ((0 : Nat) : Int) - 1 = -1 from rfl]
      go_wp2
      go_ret
      exact ⟨by rw [HF.out]; rfl, rfl⟩
    | succ j =>
      obtain ⟨ad, x, y, rfl, hb, hx, hc0, hc1⟩ := HS.out.get (show j < m by omega)
      have HD := Lib.hid (drop_get hx)
      have hlt2 : (j : Int) < (m : Int) := by omega
      have e1 : ((j + 1 : Nat) : Int) - 1 = (j : Int) := by omega
      rw [e1]
      clear hx hb e1
      by_cases h1 : age ≤ x
      · have t1 : decide (age ≤ x) = true := by simpa using h1
        have HN := Lib.hid (show bnd age (ls.drop j) = y by rw [HD.out]; exact bnd_at (by simp only; omega))
        clear h1
        go_wp2
        go_round
        case rel => exact ⟨j, y, by omega, rfl, rfl, HN⟩
        case measure => simp [intOf]
      · have t1 : decide (age ≤ x) = false := by simpa using h1
        have HN := Lib.hid (show bnd age (ls.drop j) = r by rw [HD.out]; exact (bnd_up (by simp only; omega)).trans HB.out)
        clear h1
        go_wp2
        go_round
        case rel => exact ⟨j, r, by omega, rfl, rfl, HN⟩
        case measure => simp [intOf]


end Qo
end Go.Proofs.Ytinhhphnbbdoeaa
