/-
  num.Down, num.Even, num.Bp: what each call gives for any three numbers (two for Bp). Conditions: the arguments are numbers of 64 bits.
-/
import Derived.Test.YtncndofhecdgnaaDoorDown
namespace Go.Proofs.YtncndofhecdgnaaDoor
open Go.RowKit NumMath NumBits
namespace Num

/-- A product divided: the whole number, by a rule that tells whether to round up. -/
def quo (up : Nat → Nat → Nat → Bool) (a b c : Nat) : Nat := if up (a * b / c) (a * b % c) c then a * b / c + 1 else a * b / c

/-- The number and the code. -/
def nums (up : Nat → Nat → Nat → Bool) (a b c : Int) : Int × Int :=
  if a < 0 ∨ b < 0 ∨ c < 0 then (0, 1) else if c = 0 then (0, 6)
  else if 4000000000000000000 < quo up a.toNat b.toNat c.toNat then (0, 5) else (((quo up a.toNat b.toNat c.toNat : Nat) : Int), 0)

def downB (_ _ _ : Nat) : Bool := false
abbrev dnV (a b c : Int) : Int := (nums downB a b c).1
abbrev dnE (a b c : Int) : Int := (nums downB a b c).2
abbrev evV (a b c : Int) : Int := (nums nearB a b c).1
abbrev evE (a b c : Int) : Int := (nums nearB a b c).2

theorem nums_arg {up a b c} (h : a < 0 ∨ b < 0 ∨ c < 0) : nums up a b c = (0, 1) := by rw [nums, if_pos h]
theorem nums_zero {up a b} (ha : 0 ≤ a) (hb : 0 ≤ b) : nums up a b 0 = (0, 6) := by rw [nums, if_neg (by omega), if_pos rfl]
theorem nums_over {up} {a b c : Nat} (hc : 0 < c) (h : 4000000000000000000 < quo up a b c) : nums up a b c = (0, 5) := by
  rw [nums, if_neg (by omega), if_neg (by omega), if_pos (by simpa using h)]
theorem nums_ok {up} {a b c : Nat} (hc : 0 < c) (h : quo up a b c ≤ 4000000000000000000) : nums up a b c = (((quo up a b c : Nat) : Int), 0) := by
  rw [nums, if_neg (by omega), if_neg (by omega), if_neg (by simpa using h)]
  simp

theorem halves (n : Nat) : n / 18446744073709551616 * 18446744073709551616 + n % 18446744073709551616 = n := Nat.div_add_mod' n _

theorem great {a b c : Nat} (hc : 0 < c) (h : c ≤ a * b / 18446744073709551616) : 18446744073709551616 ≤ a * b / c := by
  rw [Nat.le_div_iff_mul_le hc]
  have := halves (a * b)
  generalize a * b = n at *
  have h2 : 18446744073709551616 * c ≤ 18446744073709551616 * (n / 18446744073709551616) := Nat.mul_le_mul_left _ h
  omega

theorem quo_ge {up a b c} : a * b / c ≤ quo up a b c := by
  unfold quo; split <;> omega

theorem divN_any (a b c : Int) (w : World) (ha : -9223372036854775808 ≤ a ∧ a ≤ 9223372036854775807) (hb : -9223372036854775808 ≤ b ∧ b ≤ 9223372036854775807) (hc : -9223372036854775808 ≤ c ∧ c ≤ 9223372036854775807) :
    Calls Tryd.prog 60 #[.int .i64 a, .int .i64 b, .int .i64 c, .agg #[.func (.func 61) #[] #[]]] w fun e w' => e = .returned (.tuple #[.int .i64 (nums downB a b c).1, .int .i64 (nums downB a b c).2]) ∧ Below w.heap.size w w' := by
  by_cases h1 : a < 0 ∨ b < 0 ∨ c < 0
  · rw [nums_arg h1]
    exact divN_arg a b c w h1
  · by_cases h2 : c = 0
    · subst h2
      rw [nums_zero (by omega) (by omega)]
      exact divN_zero a b w (by omega) (by omega)
    · obtain ⟨a, rfl⟩ := Int.eq_ofNat_of_zero_le (a := a) (by omega)
      obtain ⟨b, rfl⟩ := Int.eq_ofNat_of_zero_le (a := b) (by omega)
      obtain ⟨c, rfl⟩ := Int.eq_ofNat_of_zero_le (a := c) (by omega)
      have hmul := fun w => Lib.hid (mul64 a b (by omega) (by omega) w)
      have hq := quo_ge (up := downB) (a := a) (b := b) (c := c)
      by_cases h3 : c ≤ a * b / 18446744073709551616
      · have hg := great (by omega) h3
        rw [nums_over (by omega) (by omega)]
        exact divN_over1 a b c _ _ w (by omega) (by omega) (by omega) (by omega) hmul h3
      · have hdiv := fun w => Lib.hid (div64 (a * b / 18446744073709551616) (a * b % 18446744073709551616) c (by omega) (Nat.mod_lt _ (by omega)) (by omega) w)
        rw [halves] at hdiv
        by_cases h4 : 4000000000000000000 < a * b / c
        · rw [nums_over (by omega) (by omega)]
          exact divN_over2 a b c _ _ _ _ w (by omega) (by omega) (by omega) (by omega) hmul hdiv (by omega) (by omega)
        · clear hq
          have hu : quo downB a b c = a * b / c := by simp [quo, downB]
          have h := divN_no a b c _ _ _ _ w (by omega) (by omega) (by omega) (by omega) hmul hdiv (fun w => Lib.hid (never _ _ _ w)) (by omega) (by omega)
          rw [nums_ok (by omega) (by rw [hu]; omega), hu]
          exact h

set_option maxHeartbeats 1000000 in
theorem down (a b c : Int) (w : World) (ha : -9223372036854775808 ≤ a ∧ a ≤ 9223372036854775807) (hb : -9223372036854775808 ≤ b ∧ b ≤ 9223372036854775807) (hc : -9223372036854775808 ≤ c ∧ c ≤ 9223372036854775807) :
    Calls Tryd.prog 57 #[.int .i64 a, .int .i64 b, .int .i64 c] w fun e w' => e = .returned (.tuple #[.int .i64 (dnV a b c), .int .i64 (dnE a b c)]) ∧ Below w.heap.size w w' := by
  have H := Lib.hid (divN_any a b c w ha hb hc)
  go_enter Tryd.func57, Tryd.ntmps57
  go_wp2_with (go_at_call 60; refine H.out.mono ?_; rintro e w1 ⟨rfl, hbw⟩)
  go_ret2
  exact ⟨rfl, hbw⟩

end Num
end Go.Proofs.YtncndofhecdgnaaDoor
