/-
  The plain arithmetic under a division of 128 bits by 64 (two digits of 32 bits), and under the shift-and-add one: no model's run in this text. Conditions: those of each theorem.
-/
namespace Go.Proofs.YtncndofhecdgnaaDoor.NumMath

/-- The quotient digit is below the base. -/
theorem digit_lt {B Y u d : Nat} (hu : u < Y) (hd : d < B) : (u * B + d) / Y < B := by
  have hY : 0 < Y := by omega
  rw [Nat.div_lt_iff_lt_mul hY]
  have h1 : (u + 1) * B ≤ Y * B := Nat.mul_le_mul_right B hu
  rw [Nat.add_mul, Nat.one_mul] at h1
  rw [Nat.mul_comm B Y]
  omega

theorem digit_start {B y1 y0 u d : Nat} (h1 : 0 < y1) (hB : B ≤ 2 * y1) (h0 : y0 < B) (hu : u < y1 * B + y0) (hd : d < B) :
    (u * B + d) / (y1 * B + y0) ≤ u / y1 ∧ u / y1 ≤ B + 1 := by
  have hY : 0 < y1 * B + y0 := by omega
  constructor
  · rw [Nat.le_div_iff_mul_le h1]
    have h := Nat.div_mul_le_self (u * B + d) (y1 * B + y0)
    generalize (u * B + d) / (y1 * B + y0) = t at h
    rw [Nat.mul_add, ← Nat.mul_assoc] at h
    have h2 : t * y1 * B < (u + 1) * B := by rw [Nat.add_mul, Nat.one_mul]; omega
    have := Nat.lt_of_mul_lt_mul_right h2
    omega
  · have h2 : u < (B + 2) * y1 := by
      have : (B + 2) * y1 = y1 * B + 2 * y1 := by rw [Nat.add_mul, Nat.mul_comm B y1]
      omega
    have := (Nat.div_lt_iff_lt_mul h1).2 h2
    omega

theorem digit_yes {B y1 y0 u d q r : Nat} (hu : u < y1 * B + y0) (hd : d < B) (hI : q * y1 + r = u)
    (ht : B ≤ q ∨ B * r + d < q * y0) : (u * B + d) / (y1 * B + y0) < q := by
  rcases ht with h | h
  · exact Nat.lt_of_lt_of_le (digit_lt hu hd) h
  · have hY : 0 < y1 * B + y0 := by omega
    rw [Nat.div_lt_iff_lt_mul hY, ← hI, Nat.add_mul, Nat.mul_add, ← Nat.mul_assoc, Nat.mul_comm r B]
    omega

theorem digit_no {B y1 y0 u d q r : Nat} (hu : u < y1 * B + y0) (hI : q * y1 + r = u)
    (ht : q * y0 ≤ B * r + d) : q ≤ (u * B + d) / (y1 * B + y0) := by
  have hY : 0 < y1 * B + y0 := by omega
  rw [Nat.le_div_iff_mul_le hY, ← hI, Nat.add_mul, Nat.mul_add, ← Nat.mul_assoc, Nat.mul_comm r B]
  omega

theorem digit_out {B y1 y0 u d q r : Nat} (h0 : y0 < B) (hu : u < y1 * B + y0) (hI : q * y1 + r = u)
    (hq : q ≤ B) (hr : B ≤ r) : q ≤ (u * B + d) / (y1 * B + y0) := by
  refine digit_no hu hI ?_
  have h1 : q * y0 ≤ B * r := Nat.mul_le_mul hq (by omega)
  omega

theorem digit_less {y1 q r u : Nat} (h : 0 < q) (hI : q * y1 + r = u) : (q - 1) * y1 + (r + y1) = u := by
  obtain ⟨k, rfl⟩ : ∃ k, q = k + 1 := ⟨q - 1, by omega⟩
  rw [Nat.add_mul, Nat.one_mul] at hI
  simp only [Nat.add_sub_cancel]
  omega

/-- The two digits together are the quotient. -/
theorem two_digits {B Y u d1 d0 : Nat} (hY : 0 < Y) :
    ((u * B + d1) / Y) * B + ((u * B + d1) % Y * B + d0) / Y = (u * (B * B) + (d1 * B + d0)) / Y ∧
    ((u * B + d1) % Y * B + d0) % Y = (u * (B * B) + (d1 * B + d0)) % Y := by
  have h := Nat.div_add_mod (u * B + d1) Y
  have e : u * (B * B) + (d1 * B + d0) = (u * B + d1) * B + d0 := by rw [Nat.add_mul, Nat.mul_assoc]; omega
  rw [e]
  generalize (u * B + d1) / Y = q at *
  generalize (u * B + d1) % Y = r at *
  rw [← h, Nat.add_mul, Nat.mul_assoc, Nat.add_assoc]
  exact ⟨(Nat.mul_add_div hY _ _).symm, (Nat.mul_add_mod _ _ _).symm⟩

theorem scaled {s N y : Nat} : (N * 2 ^ s) / (y * 2 ^ s) = N / y ∧ (N * 2 ^ s) % (y * 2 ^ s) = N % y * 2 ^ s :=
  ⟨Nat.mul_div_mul_right _ _ (Nat.two_pow_pos s), Nat.mul_mod_mul_right _ _ _⟩

/-- The numerator, shifted: its two halves. -/
theorem shifted {s hi lo : Nat} (hs : s ≤ 64) (_hlo : lo < 18446744073709551616) :
    (hi * 2 ^ s + lo / 2 ^ (64 - s)) * 18446744073709551616 + lo * 2 ^ s % 18446744073709551616 = (hi * 18446744073709551616 + lo) * 2 ^ s := by
  have e : (18446744073709551616 : Nat) = 2 ^ (64 - s) * 2 ^ s := by
    rw [← Nat.pow_add, Nat.sub_add_cancel hs]
  have h1 : lo * 2 ^ s % 18446744073709551616 = (lo % 2 ^ (64 - s)) * 2 ^ s := by
    rw [e, Nat.mul_mod_mul_right]
  rw [h1, Nat.add_mul]
  have h2 := Nat.div_add_mod lo (2 ^ (64 - s))
  have h3 : lo / 2 ^ (64 - s) * 18446744073709551616 = 2 ^ (64 - s) * (lo / 2 ^ (64 - s)) * 2 ^ s := by
    rw [e, ← Nat.mul_assoc, Nat.mul_comm (lo / _)]
  rw [h3, Nat.add_assoc, ← Nat.add_mul, h2, Nat.add_mul, Nat.mul_right_comm]

/-- A number with its top bit set, and its length. -/
theorem top_set {y n : Nat} (h1 : y < 2 ^ n) (h2 : 2 ^ n ≤ 2 * y) (hn : n ≤ 64) :
    9223372036854775808 ≤ y * 2 ^ (64 - n) ∧ y * 2 ^ (64 - n) < 18446744073709551616 := by
  have e : (18446744073709551616 : Nat) = 2 ^ n * 2 ^ (64 - n) := by
    rw [← Nat.pow_add, Nat.add_sub_cancel' hn]
  have a := Nat.mul_lt_mul_of_pos_right h1 (Nat.two_pow_pos (64 - n))
  have b := Nat.mul_le_mul_right (2 ^ (64 - n)) h2
  rw [← e] at a b
  rw [Nat.mul_assoc] at b
  omega

/-- What holds of a digit's guess and of what is left of it. -/
def DigI (y1 u Q q r : Nat) : Prop := q * y1 + r = u ∧ Q ≤ q ∧ q ≤ 4294967297 ∧ r < 4294967296

structure Dig (y1 y0 u d Q : Nat) : Prop where
  h1 : 2147483648 ≤ y1
  h1' : y1 < 4294967296
  h0 : y0 < 4294967296
  hu : u < y1 * 4294967296 + y0
  hd : d < 4294967296
  hQ : Q = (u * 4294967296 + d) / (y1 * 4294967296 + y0)

section
variable {y1 y0 u d Q q r : Nat}
theorem Dig.lt (D : Dig y1 y0 u d Q) : Q < 4294967296 := by rw [D.hQ]; exact digit_lt D.hu D.hd
theorem Dig.start (D : Dig y1 y0 u d Q) : DigI y1 u Q (u / y1) (u - u / y1 * y1) ∧ u / y1 * y1 ≤ u := by
  have h1 := D.h1
  have h1' := D.h1'
  have a := digit_start (B := 4294967296) (by omega) (by omega) D.h0 D.hu D.hd
  rw [← D.hQ] at a
  have b := Nat.div_mul_le_self u y1
  have c := Nat.mod_lt u (show 0 < y1 by omega)
  have e := Nat.div_add_mod u y1
  rw [Nat.mul_comm] at e
  exact ⟨⟨by omega, a.1, by omega, by omega⟩, b⟩
theorem Dig.pos (D : Dig y1 y0 u d Q) (I : DigI y1 u Q q r) (ht : 4294967296 ≤ q ∨ 4294967296 * r + d < q * y0) : Q < q := by
  rw [D.hQ]; exact digit_yes D.hu D.hd I.1 ht
theorem Dig.next (D : Dig y1 y0 u d Q) (I : DigI y1 u Q q r) (ht : 4294967296 ≤ q ∨ 4294967296 * r + d < q * y0) (hr : r + y1 < 4294967296) : DigI y1 u Q (q - 1) (r + y1) := by
  have h := D.pos I ht
  obtain ⟨a, b, c, e⟩ := I
  exact ⟨digit_less (by omega) a, by omega, by omega, hr⟩
theorem Dig.out (D : Dig y1 y0 u d Q) (I : DigI y1 u Q q r) (ht : 4294967296 ≤ q ∨ 4294967296 * r + d < q * y0) (hr : 4294967296 ≤ r + y1) : q - 1 = Q := by
  have h := D.pos I ht
  obtain ⟨a, b, c, e⟩ := I
  have o := digit_out (d := d) D.h0 D.hu (digit_less (by omega) a) (by omega) hr
  rw [← D.hQ] at o
  omega
theorem Dig.stop (D : Dig y1 y0 u d Q) (I : DigI y1 u Q q r) (ht : q * y0 ≤ 4294967296 * r + d) : q = Q := by
  have o := digit_no (d := d) D.hu I.1 ht
  rw [← D.hQ] at o
  have := I.2.1
  omega
end

end Go.Proofs.YtncndofhecdgnaaDoor.NumMath
