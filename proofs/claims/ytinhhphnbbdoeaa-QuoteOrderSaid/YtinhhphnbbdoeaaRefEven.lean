/-
  The document's own rounding to the nearest (and so many parts in 10000): what it gives. Conditions: the arguments are numbers of 64 bits.
-/
import Derived.Test.YtinhhphnbbdoeaaTwo
namespace Go.Proofs.Ytinhhphnbbdoeaa
open Go.RowKit NumMath NumBits
namespace Num

set_option maxRecDepth 100000 in
set_option maxHeartbeats 1000000 in
theorem re_far_ok (a b c q l : Nat) (w : World) (hc : (c : Int) ≤ 9223372036854775807) (hl : l < c) (hq : (q : Int) ≤ 4000000000000000000)
    (H : ∀ w : World, Hid (Calls Try.prog 39 #[.int .i64 (a : Int), .int .i64 (b : Int), .int .i64 (c : Int)] w fun e w' => e = .returned (.int .i64 0) ∧ w = w'))
    (T : ∀ w : World, Hid (Calls Try.prog 40 #[.int .i64 (a : Int), .int .i64 (b : Int), .int .i64 (c : Int)] w fun e w' => e = .returned (.tuple #[.int .i64 (q : Int), .int .i64 (l : Int), .bool true]) ∧ w = w'))
    (hn : c < 2 * l) (hq0 : (q : Int) ≤ 3999999999999999999) :
    Calls Try.prog 36 #[.int .i64 (a : Int), .int .i64 (b : Int), .int .i64 (c : Int)] w fun e w' => e = .returned (.tuple #[.int .i64 ((q + 1 : Nat) : Int), .int .i64 0]) ∧ w = w' := by
  obtain ⟨d, hd⟩ : ∃ d : Nat, d = c - l := ⟨_, rfl⟩
  have ed : (c : Int) - (l : Int) = (d : Int) := by omega
  have t1 : decide (d < l) = true := by simp; omega
  clear hn hd
  obtain ⟨m, hm⟩ : ∃ m : Nat, m = q + 1 := ⟨_, rfl⟩
  have em : (q : Int) + 1 = (m : Int) := by omega
  have t5 : decide ((4000000000000000000 : Int) < (m : Int)) = false := by simp; omega
  rw [← hm]
  clear hm
  go_enter Try.func36, Try.ntmps36
  go_wp2_with (first | (go_at_call 39; refine (H _).out.mono ?_; rintro e w1 ⟨rfl, rfl⟩) | (go_at_call 40; refine (T _).out.mono ?_; rintro e w1 ⟨rfl, rfl⟩))
  go_ret2
  exact ⟨rfl, rfl⟩

set_option maxRecDepth 100000 in
set_option maxHeartbeats 1000000 in
theorem re_far_over (a b c q l : Nat) (w : World) (hc : (c : Int) ≤ 9223372036854775807) (hl : l < c) (hq : (q : Int) ≤ 4000000000000000000)
    (H : ∀ w : World, Hid (Calls Try.prog 39 #[.int .i64 (a : Int), .int .i64 (b : Int), .int .i64 (c : Int)] w fun e w' => e = .returned (.int .i64 0) ∧ w = w'))
    (T : ∀ w : World, Hid (Calls Try.prog 40 #[.int .i64 (a : Int), .int .i64 (b : Int), .int .i64 (c : Int)] w fun e w' => e = .returned (.tuple #[.int .i64 (q : Int), .int .i64 (l : Int), .bool true]) ∧ w = w'))
    (hn : c < 2 * l) (hq1 : Hid ((4000000000000000000 : Int) ≤ (q : Int))) :
    Calls Try.prog 36 #[.int .i64 (a : Int), .int .i64 (b : Int), .int .i64 (c : Int)] w fun e w' => e = .returned (.tuple #[.int .i64 0, .int .i64 5]) ∧ w = w' := by
  obtain ⟨d, hd⟩ : ∃ d : Nat, d = c - l := ⟨_, rfl⟩
  have ed : (c : Int) - (l : Int) = (d : Int) := by omega
  have t1 : decide (d < l) = true := by simp; omega
  clear hn hd
  obtain ⟨m, hm⟩ : ∃ m : Nat, m = q + 1 := ⟨_, rfl⟩
  have em : (q : Int) + 1 = (m : Int) := by omega
  have t5 : decide ((4000000000000000000 : Int) < (m : Int)) = true := by have := hq1.out; simp; omega
  clear hm hq1
  go_enter Try.func36, Try.ntmps36
  go_wp2_with (first | (go_at_call 39; refine (H _).out.mono ?_; rintro e w1 ⟨rfl, rfl⟩) | (go_at_call 40; refine (T _).out.mono ?_; rintro e w1 ⟨rfl, rfl⟩))
  go_ret2
  exact ⟨rfl, rfl⟩

set_option maxRecDepth 100000 in
set_option maxHeartbeats 1000000 in
theorem re_near (a b c q l : Nat) (w : World) (hc : (c : Int) ≤ 9223372036854775807) (hl : l < c) (hq : (q : Int) ≤ 4000000000000000000)
    (H : ∀ w : World, Hid (Calls Try.prog 39 #[.int .i64 (a : Int), .int .i64 (b : Int), .int .i64 (c : Int)] w fun e w' => e = .returned (.int .i64 0) ∧ w = w'))
    (T : ∀ w : World, Hid (Calls Try.prog 40 #[.int .i64 (a : Int), .int .i64 (b : Int), .int .i64 (c : Int)] w fun e w' => e = .returned (.tuple #[.int .i64 (q : Int), .int .i64 (l : Int), .bool true]) ∧ w = w'))
    (hn : 2 * l < c) :
    Calls Try.prog 36 #[.int .i64 (a : Int), .int .i64 (b : Int), .int .i64 (c : Int)] w fun e w' => e = .returned (.tuple #[.int .i64 (q : Int), .int .i64 0]) ∧ w = w' := by
  obtain ⟨d, hd⟩ : ∃ d : Nat, d = c - l := ⟨_, rfl⟩
  have ed : (c : Int) - (l : Int) = (d : Int) := by omega
  have t1 : decide (d < l) = false := by simp; omega
  have t2 : ((l : Int) == (d : Int)) = false := by rw [beq_eq_false_iff_ne]; omega
  have t4 : decide ((4000000000000000000 : Int) < (q : Int)) = false := by simp; omega
  clear hn hd
  go_enter Try.func36, Try.ntmps36
  go_wp2_with (first | (go_at_call 39; refine (H _).out.mono ?_; rintro e w1 ⟨rfl, rfl⟩) | (go_at_call 40; refine (T _).out.mono ?_; rintro e w1 ⟨rfl, rfl⟩))
  go_ret2
  exact ⟨rfl, rfl⟩

set_option maxRecDepth 100000 in
set_option maxHeartbeats 1000000 in
theorem re_tie_even (a b c q l : Nat) (w : World) (hc : (c : Int) ≤ 9223372036854775807) (hl : l < c) (hq : (q : Int) ≤ 4000000000000000000)
    (H : ∀ w : World, Hid (Calls Try.prog 39 #[.int .i64 (a : Int), .int .i64 (b : Int), .int .i64 (c : Int)] w fun e w' => e = .returned (.int .i64 0) ∧ w = w'))
    (T : ∀ w : World, Hid (Calls Try.prog 40 #[.int .i64 (a : Int), .int .i64 (b : Int), .int .i64 (c : Int)] w fun e w' => e = .returned (.tuple #[.int .i64 (q : Int), .int .i64 (l : Int), .bool true]) ∧ w = w'))
    (hn : c = 2 * l) (ho : q % 2 = 0) :
    Calls Try.prog 36 #[.int .i64 (a : Int), .int .i64 (b : Int), .int .i64 (c : Int)] w fun e w' => e = .returned (.tuple #[.int .i64 (q : Int), .int .i64 0]) ∧ w = w' := by
  obtain ⟨d, hd⟩ : ∃ d : Nat, d = c - l := ⟨_, rfl⟩
  have ed : (c : Int) - (l : Int) = (d : Int) := by omega
  have t1 : decide (d < l) = false := by simp; omega
  have t2 : ((l : Int) == (d : Int)) = true := by rw [beq_iff_eq]; omega
  have t3 : ((q : Int) % 2 == 1) = false := by rw [beq_eq_false_iff_ne]; omega
  clear hn hd ho
  have t4 : decide ((4000000000000000000 : Int) < (q : Int)) = false := by simp; omega
  go_enter Try.func36, Try.ntmps36
  go_wp2_with (first | (go_at_call 39; refine (H _).out.mono ?_; rintro e w1 ⟨rfl, rfl⟩) | (go_at_call 40; refine (T _).out.mono ?_; rintro e w1 ⟨rfl, rfl⟩))
  go_ret2
  exact ⟨rfl, rfl⟩

set_option maxRecDepth 100000 in
set_option maxHeartbeats 1000000 in
theorem re_tie_ok (a b c q l : Nat) (w : World) (hc : (c : Int) ≤ 9223372036854775807) (hl : l < c) (hq : (q : Int) ≤ 4000000000000000000)
    (H : ∀ w : World, Hid (Calls Try.prog 39 #[.int .i64 (a : Int), .int .i64 (b : Int), .int .i64 (c : Int)] w fun e w' => e = .returned (.int .i64 0) ∧ w = w'))
    (T : ∀ w : World, Hid (Calls Try.prog 40 #[.int .i64 (a : Int), .int .i64 (b : Int), .int .i64 (c : Int)] w fun e w' => e = .returned (.tuple #[.int .i64 (q : Int), .int .i64 (l : Int), .bool true]) ∧ w = w'))
    (hn : c = 2 * l) (ho : q % 2 = 1) (hq0 : (q : Int) ≤ 3999999999999999999) :
    Calls Try.prog 36 #[.int .i64 (a : Int), .int .i64 (b : Int), .int .i64 (c : Int)] w fun e w' => e = .returned (.tuple #[.int .i64 ((q + 1 : Nat) : Int), .int .i64 0]) ∧ w = w' := by
  obtain ⟨d, hd⟩ : ∃ d : Nat, d = c - l := ⟨_, rfl⟩
  have ed : (c : Int) - (l : Int) = (d : Int) := by omega
  have t1 : decide (d < l) = false := by simp; omega
  have t2 : ((l : Int) == (d : Int)) = true := by rw [beq_iff_eq]; omega
  have t3 : ((q : Int) % 2 == 1) = true := by rw [beq_iff_eq]; omega
  clear hn hd ho
  obtain ⟨m, hm⟩ : ∃ m : Nat, m = q + 1 := ⟨_, rfl⟩
  have em : (q : Int) + 1 = (m : Int) := by omega
  have t5 : decide ((4000000000000000000 : Int) < (m : Int)) = false := by simp; omega
  rw [← hm]
  clear hm
  go_enter Try.func36, Try.ntmps36
  go_wp2_with (first | (go_at_call 39; refine (H _).out.mono ?_; rintro e w1 ⟨rfl, rfl⟩) | (go_at_call 40; refine (T _).out.mono ?_; rintro e w1 ⟨rfl, rfl⟩))
  go_ret2
  exact ⟨rfl, rfl⟩

set_option maxRecDepth 100000 in
set_option maxHeartbeats 1000000 in
theorem re_tie_over (a b c q l : Nat) (w : World) (hc : (c : Int) ≤ 9223372036854775807) (hl : l < c) (hq : (q : Int) ≤ 4000000000000000000)
    (H : ∀ w : World, Hid (Calls Try.prog 39 #[.int .i64 (a : Int), .int .i64 (b : Int), .int .i64 (c : Int)] w fun e w' => e = .returned (.int .i64 0) ∧ w = w'))
    (T : ∀ w : World, Hid (Calls Try.prog 40 #[.int .i64 (a : Int), .int .i64 (b : Int), .int .i64 (c : Int)] w fun e w' => e = .returned (.tuple #[.int .i64 (q : Int), .int .i64 (l : Int), .bool true]) ∧ w = w'))
    (hn : c = 2 * l) (ho : q % 2 = 1) (hq1 : Hid ((4000000000000000000 : Int) ≤ (q : Int))) :
    Calls Try.prog 36 #[.int .i64 (a : Int), .int .i64 (b : Int), .int .i64 (c : Int)] w fun e w' => e = .returned (.tuple #[.int .i64 0, .int .i64 5]) ∧ w = w' := by
  obtain ⟨d, hd⟩ : ∃ d : Nat, d = c - l := ⟨_, rfl⟩
  have ed : (c : Int) - (l : Int) = (d : Int) := by omega
  have t1 : decide (d < l) = false := by simp; omega
  have t2 : ((l : Int) == (d : Int)) = true := by rw [beq_iff_eq]; omega
  have t3 : ((q : Int) % 2 == 1) = true := by rw [beq_iff_eq]; omega
  clear hn hd ho
  obtain ⟨m, hm⟩ : ∃ m : Nat, m = q + 1 := ⟨_, rfl⟩
  have em : (q : Int) + 1 = (m : Int) := by omega
  have t5 : decide ((4000000000000000000 : Int) < (m : Int)) = true := by have := hq1.out; simp; omega
  clear hm hq1
  go_enter Try.func36, Try.ntmps36
  go_wp2_with (first | (go_at_call 39; refine (H _).out.mono ?_; rintro e w1 ⟨rfl, rfl⟩) | (go_at_call 40; refine (T _).out.mono ?_; rintro e w1 ⟨rfl, rfl⟩))
  go_ret2
  exact ⟨rfl, rfl⟩

set_option maxHeartbeats 1000000 in
theorem refEven (a b c : Int) (w : World) (ha : -9223372036854775808 ≤ a ∧ a ≤ 9223372036854775807) (hb : -9223372036854775808 ≤ b ∧ b ≤ 9223372036854775807) (hc : -9223372036854775808 ≤ c ∧ c ≤ 9223372036854775807) :
    Calls Try.prog 36 #[.int .i64 a, .int .i64 b, .int .i64 c] w fun e w' => e = .returned (.tuple #[.int .i64 (evV a b c), .int .i64 (evE a b c)]) ∧ w = w' := by
  by_cases h1 : a < 0 ∨ b < 0 ∨ c < 0
  · rw [evV, evE, nums_arg h1]
    have H := fun w => Lib.hid (check_arg a b c h1 w)
    clear h1
    go_enter Try.func36, Try.ntmps36
    go_wp2_with (go_at_call 39; refine (H _).out.mono ?_; rintro e w1 ⟨rfl, rfl⟩)
    go_ret2
    exact ⟨rfl, rfl⟩
  · by_cases h2 : c = 0
    · subst h2
      rw [evV, evE, nums_zero (by omega) (by omega)]
      have H := fun w => Lib.hid (check_zero a b (by omega) (by omega) w)
      clear h1
      go_enter Try.func36, Try.ntmps36
      go_wp2_with (go_at_call 39; refine (H _).out.mono ?_; rintro e w1 ⟨rfl, rfl⟩)
      go_ret2
      exact ⟨rfl, rfl⟩
    · obtain ⟨a, rfl⟩ := Int.eq_ofNat_of_zero_le (a := a) (by omega)
      obtain ⟨b, rfl⟩ := Int.eq_ofNat_of_zero_le (a := b) (by omega)
      obtain ⟨c, rfl⟩ := Int.eq_ofNat_of_zero_le (a := c) (by omega)
      have H := fun w => Lib.hid (check_ok a b c (by omega) (by omega) (by omega) w)
      have T := fun w => Lib.hid (two a b c (by omega) (by omega) (by omega) (by omega) w)
      have hqq := quo_ge (up := nearB) (a := a) (b := b) (c := c)
      have hm : a * b % c < c := Nat.mod_lt _ (by omega)
      by_cases h4 : a * b / c ≤ 4000000000000000000
      · simp only [twoVal, if_pos h4] at T
        have yes : nearB (a * b / c) (a * b % c) c = true → quo nearB a b c = a * b / c + 1 := fun h => by rw [quo, if_pos h]
        have no : nearB (a * b / c) (a * b % c) c = false → quo nearB a b c = a * b / c := fun h => by rw [quo, if_neg (by rw [h]; decide)]
        have okk := fun h => nums_ok (up := nearB) (a := a) (b := b) (c := c) (by omega) h
        have ovv := fun h => nums_over (up := nearB) (a := a) (b := b) (c := c) (by omega) h
        rw [evV, evE]
        generalize hQ : a * b / c = q at *
        generalize hL : a * b % c = l at *
        rcases Nat.lt_trichotomy c (2 * l) with h | h | h
        · have hu := yes (by simp [nearB, h])
          by_cases h5 : q ≤ 3999999999999999999
          · rw [okk (by rw [hu]; omega), hu]
            exact re_far_ok a b c q l w (by omega) hm (by omega) H T h (by omega)
          · rw [ovv (by rw [hu]; omega)]
            exact re_far_over a b c q l w (by omega) hm (by omega) H T h (Lib.hid (by omega))
        · by_cases h6 : q % 2 = 1
          · have hu := yes (by simp [nearB, h, h6])
            by_cases h5 : q ≤ 3999999999999999999
            · rw [okk (by rw [hu]; omega), hu]
              exact re_tie_ok a b c q l w (by omega) hm (by omega) H T h h6 (by omega)
            · rw [ovv (by rw [hu]; omega)]
              exact re_tie_over a b c q l w (by omega) hm (by omega) H T h h6 (Lib.hid (by omega))
          · have hu := no (by simp [nearB, h, h6])
            rw [okk (by rw [hu]; omega), hu]
            exact re_tie_even a b c q l w (by omega) hm (by omega) H T h (by omega)
        · have hu := no (by simp [nearB]; omega)
          rw [okk (by rw [hu]; omega), hu]
          exact re_near a b c q l w (by omega) hm (by omega) H T h
      · have e : nums nearB a b c = _ := nums_over (by omega) (by omega)
        rw [evV, evE, e]
        simp only [twoVal, if_neg h4] at T
        clear h1 h2 h4 e hqq hm
        go_enter Try.func36, Try.ntmps36
        go_wp2_with (first | (go_at_call 39; refine (H _).out.mono ?_; rintro e w1 ⟨rfl, rfl⟩) | (go_at_call 40; refine (T _).out.mono ?_; rintro e w1 ⟨rfl, rfl⟩))
        go_ret2
        exact ⟨rfl, rfl⟩

set_option maxHeartbeats 1000000 in
theorem refBp (a b : Int) (w : World) (ha : -9223372036854775808 ≤ a ∧ a ≤ 9223372036854775807) (hb : -9223372036854775808 ≤ b ∧ b ≤ 9223372036854775807) :
    Calls Try.prog 26 #[.int .i64 a, .int .i64 b] w fun e w' => e = .returned (.tuple #[.int .i64 (evV a b 10000), .int .i64 (evE a b 10000)]) ∧ w = w' := by
  have H := Lib.hid (refEven a b 10000 w ha hb (by omega))
  go_enter Try.func26, Try.ntmps26
  go_wp2_with (go_at_call 36; refine H.out.mono ?_; rintro e w1 ⟨rfl, rfl⟩)
  go_ret2
  exact ⟨rfl, rfl⟩

end Num
end Go.Proofs.Ytinhhphnbbdoeaa
