/-
  The document's own division (shift and add): what it gives. Conditions: the two factors are not below 0, the divisor is above 0, all are numbers of 64 bits.
-/
import Derived.Test.YtncndofhecdgnaaDoorNum
namespace Go.Proofs.YtncndofhecdgnaaDoor
open Go.RowKit NumMath NumBits
namespace Num

def TwoI (a b c j q l : Nat) : Prop := a / 2 ^ j * b = q * c + l ∧ l < c

theorem dbl0 {A b c q l : Nat} (h : A * b = q * c + l) : (2 * A) * b = (2 * q) * c + 2 * l := by
  rw [Nat.mul_assoc, h, Nat.mul_add, Nat.mul_assoc]
theorem dbl1 {A b c q l : Nat} (h : A * b = q * c + l) (hl : c ≤ 2 * l) : (2 * A) * b = (2 * q + 1) * c + (2 * l - c) := by
  rw [dbl0 h, Nat.add_mul, Nat.one_mul]; omega
theorem add0 {A b c q l wh rs : Nat} (h : A * b = q * c + l) (hb : b = wh * c + rs) : (A + 1) * b = (q + wh) * c + (l + rs) := by
  rw [Nat.add_mul, h, Nat.one_mul, Nat.add_mul]; omega
theorem add1 {A b c q l wh rs : Nat} (h : A * b = q * c + l) (hb : b = wh * c + rs) (hl : c ≤ l + rs) : (A + 1) * b = (q + wh + 1) * c + (l + rs - c) := by
  rw [add0 h hb, Nat.add_mul (q + wh), Nat.one_mul]; omega
theorem half_bit (a k : Nat) : a / 2 ^ k = 2 * (a / 2 ^ (k + 1)) + a / 2 ^ k % 2 := by
  rw [Nat.pow_succ, ← Nat.div_div_eq_div_mul]; omega

theorem two_out {a b c q l : Nat} (h : TwoI a b c 0 q l) : q = a * b / c ∧ l = a * b % c := by
  obtain ⟨h1, h2⟩ := h
  simp only [Nat.pow_zero, Nat.div_one] at h1
  rw [h1]
  have hc : 0 < c := by omega
  constructor
  · rw [Nat.mul_comm, Nat.mul_add_div hc, Nat.div_eq_of_lt h2, Nat.add_zero]
  · rw [Nat.mul_comm, Nat.mul_add_mod, Nat.mod_eq_of_lt h2]
theorem two_over {a b c k q l : Nat} (h : TwoI a b c k q l) (hq : 4000000000000000000 < q) : 4000000000000000000 < a * b / c := by
  obtain ⟨h1, h2⟩ := h
  have hc : 0 < c := by omega
  refine Nat.lt_of_lt_of_le hq ?_
  rw [Nat.le_div_iff_mul_le hc]
  have h3 : a / 2 ^ k * b ≤ a * b := Nat.mul_le_mul_right _ (Nat.div_le_self _ _)
  omega

def twoVal (a b c : Nat) : Value := if a * b / c ≤ 4000000000000000000 then .tuple #[.int .i64 ((a * b / c : Nat) : Int), .int .i64 ((a * b % c : Nat) : Int), .bool true] else .tuple #[.int .i64 0, .int .i64 0, .bool false]
theorem twoVal_ok {a b c q l : Nat} (h : TwoI a b c 0 q l) (hq : (q : Int) ≤ 4000000000000000000) : Ending.returned (.tuple #[.int .i64 (q : Int), .int .i64 (l : Int), .bool true]) = .returned (twoVal a b c) := by
  obtain ⟨h1, h2⟩ := two_out h
  rw [twoVal, ← h1, ← h2, if_pos (by omega)]
theorem twoVal_no {a b c k q l : Nat} (h : TwoI a b c k q l) (hq : (4000000000000000000 : Int) < (q : Int)) : Ending.returned (.tuple #[.int .i64 0, .int .i64 0, .bool false]) = .returned (twoVal a b c) := by
  have := two_over h (by omega)
  rw [twoVal, if_neg (by omega)]

theorem quo_down (a b c : Nat) : quo downB a b c = a * b / c := by simp [quo, downB]

end Num
end Go.Proofs.YtncndofhecdgnaaDoor
