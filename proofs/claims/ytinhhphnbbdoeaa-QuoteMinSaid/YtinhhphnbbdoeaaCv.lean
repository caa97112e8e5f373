/-
  Plain mathematics of covers: which may be, a part of an amount. Conditions: those of each theorem. No model.
-/
import Derived.Test.YtinhhphnbbdoeaaRows
namespace Go.Proofs.Ytinhhphnbbdoeaa
namespace Cv

/-- A cover: peril, limit, aggregate, deductible, share. -/
structure Co where
  p : Int
  l : Int
  g : Int
  d : Int
  s : Int

/-- A cover may be. -/
def Ok (c : Co) : Prop := 0 ≤ c.p ∧ c.p ≤ 7 ∧ 1 ≤ c.s ∧ c.s ≤ 10000 ∧ 0 ≤ c.d ∧ c.d < c.l ∧ c.l ≤ c.g ∧ c.g ≤ 1000000000000000
instance (c : Co) : Decidable (Ok c) := by unfold Ok; infer_instance
def ok (c : Co) : Bool := decide (Ok c)
theorem ok_yes {c : Co} (h : Ok c) : ok c = true := by simpa [ok] using h
theorem ok_no {c : Co} (h : ¬ Ok c) : ok c = false := by simpa [ok] using h
theorem ok_iff {c : Co} : ok c = true ↔ Ok c := by simp [ok]

/-- So many parts in 10000, half-even. -/
def rnd (n : Nat) : Nat := if 5000 < n % 10000 ∨ (n % 10000 = 5000 ∧ n / 10000 % 2 = 1) then n / 10000 + 1 else n / 10000
def prt (a s : Int) : Int := (rnd (a.toNat * s.toNat) : Nat)

theorem rnd_le {n a : Nat} (h : n ≤ a * 10000) : rnd n ≤ a := by unfold rnd; split <;> omega
theorem rnd_mul (a : Nat) : rnd (a * 10000) = a := by unfold rnd; split <;> omega
theorem rnd_mono {m n : Nat} (h : m ≤ n) : rnd m ≤ rnd n := by unfold rnd; split <;> split <;> omega
theorem rnd_step {n y k : Nat} (h : y < k * 10000) : rnd (n + y) ≤ rnd n + k := by unfold rnd; split <;> split <;> omega

theorem prt_nat (a s : Nat) : prt a s = ((rnd (a * s) : Nat) : Int) := by simp [prt]
theorem prt_nn (a s : Int) : 0 ≤ prt a s := by unfold prt; omega
theorem prt_le {a s : Int} (ha : 0 ≤ a) (hs : 0 ≤ s) (h : s ≤ 10000) : prt a s ≤ a := by
  obtain ⟨a, rfl⟩ := Int.eq_ofNat_of_zero_le ha
  obtain ⟨s, rfl⟩ := Int.eq_ofNat_of_zero_le hs
  rw [prt_nat]
  have := rnd_le (n := a * s) (a := a) (Nat.mul_le_mul_left _ (by omega))
  omega
theorem prt_all {a : Int} (ha : 0 ≤ a) : prt a 10000 = a := by
  obtain ⟨a, rfl⟩ := Int.eq_ofNat_of_zero_le ha
  rw [show (10000 : Int) = ((10000 : Nat) : Int) from rfl, prt_nat, rnd_mul]
theorem prt_mono {a b s : Int} (ha : 0 ≤ a) (h : a ≤ b) (hs : 0 ≤ s) : prt a s ≤ prt b s := by
  obtain ⟨a, rfl⟩ := Int.eq_ofNat_of_zero_le ha
  obtain ⟨b, rfl⟩ := Int.eq_ofNat_of_zero_le (a := b) (by omega)
  obtain ⟨s, rfl⟩ := Int.eq_ofNat_of_zero_le hs
  rw [prt_nat, prt_nat]
  have := rnd_mono (m := a * s) (n := b * s) (Nat.mul_le_mul_right _ (by omega))
  omega
theorem prt_step {a b s : Int} (ha : 0 ≤ a) (h : a ≤ b) (hs : 0 ≤ s) (h2 : s ≤ 10000) : prt b s - prt a s ≤ b - a := by
  by_cases h3 : s = 10000
  · subst h3
    rw [prt_all ha, prt_all (by omega)]
    omega
  by_cases h4 : a = b
  · subst h4; omega
  obtain ⟨a, rfl⟩ := Int.eq_ofNat_of_zero_le ha
  obtain ⟨b, rfl⟩ := Int.eq_ofNat_of_zero_le (a := b) (by omega)
  obtain ⟨s, rfl⟩ := Int.eq_ofNat_of_zero_le hs
  obtain ⟨k, rfl⟩ : ∃ k, b = a + k := ⟨b - a, by omega⟩
  rw [prt_nat, prt_nat, Nat.add_mul]
  have := rnd_step (n := a * s) (y := k * s) (k := k) (Nat.mul_lt_mul_of_pos_left (by omega) (by omega))
  omega
theorem prt_zero (s : Int) : prt 0 s = 0 := by simp [prt, rnd]


end Cv
end Go.Proofs.Ytinhhphnbbdoeaa
