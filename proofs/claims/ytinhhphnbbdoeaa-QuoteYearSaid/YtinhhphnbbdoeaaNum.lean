/-
  num.Down, num.Even, num.Bp: what each call gives for any three numbers (two for Bp). Conditions: the arguments are numbers of 64 bits.
-/
import Derived.Test.YtinhhphnbbdoeaaDown
namespace Go.Proofs.Ytinhhphnbbdoeaa
open Go.RowKit NumMath NumBits
namespace Num

/-- A product divided: the whole number, by a rule that tells whether to round up. -/
def quo (up : Nat → Nat → Nat → Bool) (a b c : Nat) : Nat := if up (a * b / c) (a * b % c) c then a * b / c + 1 else a * b / c

/-- The number and the code. -/
def nums (up : Nat → Nat → Nat → Bool) (a b c : Int) : Int × Int :=
  if a < 0 ∨ b < 0 ∨ c < 0 then (0, 1) else if c = 0 then (0, 6)
  else if 4000000000000000000 < quo up a.toNat b.toNat c.toNat then (0, 5) else (((quo up a.toNat b.toNat c.toNat : Nat) : Int), 0)

abbrev evV (a b c : Int) : Int := (nums nearB a b c).1
abbrev evE (a b c : Int) : Int := (nums nearB a b c).2

theorem nums_arg {up a b c} (h : a < 0 ∨ b < 0 ∨ c < 0) : nums up a b c = (0, 1) := by rw [nums, if_pos h]
theorem nums_zero {up a b} (ha : 0 ≤ a) (hb : 0 ≤ b) : nums up a b 0 = (0, 6) := by rw [nums, if_neg (by omega), if_pos rfl]
theorem nums_over {up} {a b c : Nat} (hc : 0 < c) (h : 4000000000000000000 < quo up a b c) : nums up a b c = (0, 5) := by
  rw [nums, if_neg (by omega), if_neg (by omega), if_pos (by simpa using h)]
theorem nums_ok {up} {a b c : Nat} (hc : 0 < c) (h : quo up a b c ≤ 4000000000000000000) : nums up a b c = (((quo up a b c : Nat) : Int), 0) := by
  rw [nums, if_neg (by omega), if_neg (by omega), if_neg (by simpa using h)]
  simp

theorem halves (n : Nat) : n / 18446744073709551616 * 18446744073709551616 + n % 18446744073709551616 = n := Nat.div_add_mod' n _

theorem great {a b c : Nat} (hc : 0 < c) (h : c ≤ a * b / 18446744073709551616) : 18446744073709551616 ≤ a * b / c := by
  rw [Nat.le_div_iff_mul_le hc]
  have := halves (a * b)
  generalize a * b = n at *
  have h2 : 18446744073709551616 * c ≤ 18446744073709551616 * (n / 18446744073709551616) := Nat.mul_le_mul_left _ h
  omega

theorem quo_ge {up a b c} : a * b / c ≤ quo up a b c := by
  unfold quo; split <;> omega

theorem divE_any (a b c : Int) (w : World) (ha : -9223372036854775808 ≤ a ∧ a ≤ 9223372036854775807) (hb : -9223372036854775808 ≤ b ∧ b ≤ 9223372036854775807) (hc : -9223372036854775808 ≤ c ∧ c ≤ 9223372036854775807) :
    Calls Try.prog 41 #[.int .i64 a, .int .i64 b, .int .i64 c, .agg #[.func (.func 42) #[] #[]]] w fun e w' => e = .returned (.tuple #[.int .i64 (nums nearB a b c).1, .int .i64 (nums nearB a b c).2]) ∧ Below w.heap.size w w' := by
  by_cases h1 : a < 0 ∨ b < 0 ∨ c < 0
  · rw [nums_arg h1]
    exact divE_arg a b c w h1
  · by_cases h2 : c = 0
    · subst h2
      rw [nums_zero (by omega) (by omega)]
      exact divE_zero a b w (by omega) (by omega)
    · obtain ⟨a, rfl⟩ := Int.eq_ofNat_of_zero_le (a := a) (by omega)
      obtain ⟨b, rfl⟩ := Int.eq_ofNat_of_zero_le (a := b) (by omega)
      obtain ⟨c, rfl⟩ := Int.eq_ofNat_of_zero_le (a := c) (by omega)
      have hmul := fun w => Lib.hid (mul64 a b (by omega) (by omega) w)
      have hq := quo_ge (up := nearB) (a := a) (b := b) (c := c)
      by_cases h3 : c ≤ a * b / 18446744073709551616
      · have hg := great (by omega) h3
        rw [nums_over (by omega) (by omega)]
        exact divE_over1 a b c _ _ w (by omega) (by omega) (by omega) (by omega) hmul h3
      · have hdiv := fun w => Lib.hid (div64 (a * b / 18446744073709551616) (a * b % 18446744073709551616) c (by omega) (Nat.mod_lt _ (by omega)) (by omega) w)
        rw [halves] at hdiv
        by_cases h4 : 4000000000000000000 < a * b / c
        · rw [nums_over (by omega) (by omega)]
          exact divE_over2 a b c _ _ _ _ w (by omega) (by omega) (by omega) (by omega) hmul hdiv (by omega) (by omega)
        · clear hq
          have hup := fun w => Lib.hid (nearer (a * b / c) (a * b % c) c (Nat.mod_lt _ (by omega)) (by omega) (by omega) w)
          cases hn : nearB (a * b / c) (a * b % c) c with
          | false =>
            rw [hn] at hup
            have hu : quo nearB a b c = a * b / c := by simp [quo, hn]
            have h := divE_no a b c _ _ _ _ w (by omega) (by omega) (by omega) (by omega) hmul hdiv hup (by omega) (by omega)
            rw [nums_ok (by omega) (by rw [hu]; omega), hu]
            exact h
          | true =>
            rw [hn] at hup
            have hu : quo nearB a b c = a * b / c + 1 := by simp [quo, hn]
            by_cases hb2 : a * b / c ≤ 3999999999999999999
            · have h := divE_yes a b c _ _ _ _ w (by omega) (by omega) (by omega) (by omega) hmul hdiv hup (by omega) (by omega)
              rw [nums_ok (by omega) (by rw [hu]; omega), hu]
              exact h
            · have h := divE_yesover a b c _ _ _ _ w (by omega) (by omega) (by omega) (by omega) hmul hdiv hup (by omega) (Lib.hid (by omega)) (by omega)
              rw [nums_over (by omega) (by rw [hu]; omega)]
              exact h

set_option maxHeartbeats 1000000 in
theorem even (a b c : Int) (w : World) (ha : -9223372036854775808 ≤ a ∧ a ≤ 9223372036854775807) (hb : -9223372036854775808 ≤ b ∧ b ≤ 9223372036854775807) (hc : -9223372036854775808 ≤ c ∧ c ≤ 9223372036854775807) :
    Calls Try.prog 38 #[.int .i64 a, .int .i64 b, .int .i64 c] w fun e w' => e = .returned (.tuple #[.int .i64 (evV a b c), .int .i64 (evE a b c)]) ∧ Below w.heap.size w w' := by
  have H := Lib.hid (divE_any a b c w ha hb hc)
  go_enter Try.func38, Try.ntmps38
  go_wp2_with (go_at_call 41; refine H.out.mono ?_; rintro e w1 ⟨rfl, hbw⟩)
  go_ret2
  exact ⟨rfl, hbw⟩

set_option maxHeartbeats 1000000 in
theorem bp (a b : Int) (w : World) (ha : -9223372036854775808 ≤ a ∧ a ≤ 9223372036854775807) (hb : -9223372036854775808 ≤ b ∧ b ≤ 9223372036854775807) :
    Calls Try.prog 35 #[.int .i64 a, .int .i64 b] w fun e w' => e = .returned (.tuple #[.int .i64 (evV a b 10000), .int .i64 (evE a b 10000)]) ∧ Below w.heap.size w w' := by
  have H := Lib.hid (even a b 10000 w ha hb (by omega))
  go_enter Try.func35, Try.ntmps35
  go_wp2_with (go_at_call 38; refine H.out.mono ?_; rintro e w1 ⟨rfl, hbw⟩)
  go_ret2
  exact ⟨rfl, hbw⟩

end Num
end Go.Proofs.Ytinhhphnbbdoeaa
