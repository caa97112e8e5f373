/-
  Plain mathematics of covers: which may be, a part of an amount, what is paid. Conditions: those of each theorem. No model.
-/
import Derived.Test.YtjcehjofimkjaaaRows
namespace Go.Proofs.Ytjcehjofimkjaaa
namespace Cv

/-- A cover: peril, limit, aggregate, deductible, share. -/
structure Co where
  p : Int
  l : Int
  g : Int
  d : Int
  s : Int

/-- A cover may be. -/
def Ok (c : Co) : Prop := 0 ≤ c.p ∧ c.p ≤ 7 ∧ 1 ≤ c.s ∧ c.s ≤ 10000 ∧ 0 ≤ c.d ∧ c.d < c.l ∧ c.l ≤ c.g ∧ c.g ≤ 1000000000000000
instance (c : Co) : Decidable (Ok c) := by unfold Ok; infer_instance
def ok (c : Co) : Bool := decide (Ok c)
theorem ok_yes {c : Co} (h : Ok c) : ok c = true := by simpa [ok] using h
theorem ok_no {c : Co} (h : ¬ Ok c) : ok c = false := by simpa [ok] using h
theorem ok_iff {c : Co} : ok c = true ↔ Ok c := by simp [ok]

/-- So many parts in 10000, half-even. -/
def rnd (n : Nat) : Nat := if 5000 < n % 10000 ∨ (n % 10000 = 5000 ∧ n / 10000 % 2 = 1) then n / 10000 + 1 else n / 10000
def prt (a s : Int) : Int := (rnd (a.toNat * s.toNat) : Nat)

theorem rnd_le {n a : Nat} (h : n ≤ a * 10000) : rnd n ≤ a := by unfold rnd; split <;> omega
theorem rnd_mul (a : Nat) : rnd (a * 10000) = a := by unfold rnd; split <;> omega
theorem rnd_mono {m n : Nat} (h : m ≤ n) : rnd m ≤ rnd n := by unfold rnd; split <;> split <;> omega
theorem rnd_step {n y k : Nat} (h : y < k * 10000) : rnd (n + y) ≤ rnd n + k := by unfold rnd; split <;> split <;> omega

theorem prt_nat (a s : Nat) : prt a s = ((rnd (a * s) : Nat) : Int) := by simp [prt]
theorem prt_nn (a s : Int) : 0 ≤ prt a s := by unfold prt; omega
theorem prt_le {a s : Int} (ha : 0 ≤ a) (hs : 0 ≤ s) (h : s ≤ 10000) : prt a s ≤ a := by
  obtain ⟨a, rfl⟩ := Int.eq_ofNat_of_zero_le ha
  obtain ⟨s, rfl⟩ := Int.eq_ofNat_of_zero_le hs
  rw [prt_nat]
  have := rnd_le (n := a * s) (a := a) (Nat.mul_le_mul_left _ (by omega))
  omega
theorem prt_all {a : Int} (ha : 0 ≤ a) : prt a 10000 = a := by
  obtain ⟨a, rfl⟩ := Int.eq_ofNat_of_zero_le ha
  rw [show (10000 : Int) = ((10000 : Nat) : Int) from rfl, prt_nat, rnd_mul]
theorem prt_mono {a b s : Int} (ha : 0 ≤ a) (h : a ≤ b) (hs : 0 ≤ s) : prt a s ≤ prt b s := by
  obtain ⟨a, rfl⟩ := Int.eq_ofNat_of_zero_le ha
  obtain ⟨b, rfl⟩ := Int.eq_ofNat_of_zero_le (a := b) (by omega)
  obtain ⟨s, rfl⟩ := Int.eq_ofNat_of_zero_le hs
  rw [prt_nat, prt_nat]
  have := rnd_mono (m := a * s) (n := b * s) (Nat.mul_le_mul_right _ (by omega))
  omega
theorem prt_step {a b s : Int} (ha : 0 ≤ a) (h : a ≤ b) (hs : 0 ≤ s) (h2 : s ≤ 10000) : prt b s - prt a s ≤ b - a := by
  by_cases h3 : s = 10000
  · subst h3
    rw [prt_all ha, prt_all (by omega)]
    omega
  by_cases h4 : a = b
  · subst h4; omega
  obtain ⟨a, rfl⟩ := Int.eq_ofNat_of_zero_le ha
  obtain ⟨b, rfl⟩ := Int.eq_ofNat_of_zero_le (a := b) (by omega)
  obtain ⟨s, rfl⟩ := Int.eq_ofNat_of_zero_le hs
  obtain ⟨k, rfl⟩ : ∃ k, b = a + k := ⟨b - a, by omega⟩
  rw [prt_nat, prt_nat, Nat.add_mul]
  have := rnd_step (n := a * s) (y := k * s) (k := k) (Nat.mul_lt_mul_of_pos_left (by omega) (by omega))
  omega
theorem prt_zero (s : Int) : prt 0 s = 0 := by simp [prt, rnd]

/-- What of a loss is above the deductible, and within the limit. -/
def clm (c : Co) (x : Int) : Int := max (min (x - c.d) c.l) 0
/-- What is paid for a loss, if nothing is used. -/
def one (c : Co) (x : Int) : Int := prt (clm c x) c.s
/-- What is paid. -/
def pay (c : Co) (x u : Int) : Int := if x < 0 ∨ u < 0 ∨ ¬ Ok c then 0 else max (min (one c x) (c.g - u)) 0

theorem pay_no {c : Co} {x u : Int} (h : x < 0 ∨ u < 0 ∨ ¬ Ok c) : pay c x u = 0 := if_pos h
theorem pay_yes {c : Co} {x u : Int} (hx : 0 ≤ x) (hu : 0 ≤ u) (h : Ok c) : pay c x u = max (min (one c x) (c.g - u)) 0 := by
  unfold pay
  refine if_neg fun e => ?_
  rcases e with h1 | h1 | h1
  · omega
  · omega
  · exact h1 h
theorem clm_bd {c : Co} {x : Int} (h : Ok c) : 0 ≤ clm c x ∧ clm c x ≤ c.l := by
  obtain ⟨_, _, _, _, _, _, _, _⟩ := h
  unfold clm; omega
theorem one_nn (c : Co) (x : Int) : 0 ≤ one c x := prt_nn _ _
theorem one_le {c : Co} {x : Int} (h : Ok c) : one c x ≤ clm c x := prt_le (clm_bd h).1 (by have := h.2.2.1; omega) h.2.2.2.1
theorem one_all {c : Co} {x : Int} (h : Ok c) (hs : c.s = 10000) : one c x = clm c x := by unfold one; rw [hs]; exact prt_all (clm_bd h).1
theorem one_mono {c : Co} {x y : Int} (h : Ok c) (hxy : x ≤ y) : one c x ≤ one c y :=
  prt_mono (clm_bd h).1 (by unfold clm; omega) (by have := h.2.2.1; omega)
theorem one_step {c : Co} {x y : Int} (h : Ok c) (hxy : x ≤ y) : one c y - one c x ≤ y - x := by
  have := prt_step (a := clm c x) (b := clm c y) (s := c.s) (clm_bd h).1 (by unfold clm; omega) (by have := h.2.2.1; omega) h.2.2.2.1
  have h2 : clm c y - clm c x ≤ y - x := by unfold clm; omega
  unfold one
  omega
theorem pay_bd (c : Co) (x u : Int) : 0 ≤ pay c x u ∧ pay c x u ≤ 1000000000000000 := by
  by_cases h : x < 0 ∨ u < 0 ∨ ¬ Ok c
  · rw [pay_no h]; omega
  · have hc : Ok c := Decidable.byContradiction fun h2 => h (.inr (.inr h2))
    rw [pay_yes (by omega) (by omega) hc]
    have := hc.2.2.2.2.2.2.2
    have := hc.2.2.2.2.2.2.1
    have := (clm_bd (x := x) hc).2
    have := one_le (x := x) hc
    omega

/-- What bounds that which is paid. -/
theorem pay_le {c : Co} (h : Ok c) {x u : Int} (hx : 0 ≤ x) (hu : 0 ≤ u) : 0 ≤ pay c x u ∧ pay c x u ≤ c.l ∧ pay c x u ≤ x ∧ (0 < pay c x u → c.d < x) ∧ (0 < pay c x u → pay c x u ≤ c.g - u) := by
  rw [pay_yes hx hu h]
  have h1 := one_le (x := x) h
  have h2 := one_nn c x
  obtain ⟨_, _, _, _, _, _, _, _⟩ := h
  unfold clm at h1
  omega
/-- Of whole shares, with nothing used, it is what is borne. -/
theorem pay_full {c : Co} (h : Ok c) {x u : Int} (hx : 0 ≤ x) (hs : c.s = 10000) (hu : u = 0) : pay c x u = clm c x := by
  subst hu
  rw [pay_yes hx (by omega) h, one_all h hs]
  have := clm_bd (x := x) h
  obtain ⟨_, _, _, _, _, _, _, _⟩ := h
  omega

theorem pay_more {c : Co} (h : Ok c) {x m u : Int} (hx : 0 ≤ x) (hm : 0 ≤ m) (hu : 0 ≤ u) : pay c x u ≤ pay c (x + m) u ∧ pay c (x + m) u - pay c x u ≤ m := by
  rw [pay_yes hx hu h, pay_yes (by omega) hu h]
  have h1 := one_mono h (x := x) (y := x + m) (by omega)
  have h2 := one_step h (x := x) (y := x + m) (by omega)
  omega
theorem pay_used {c : Co} (h : Ok c) {x u v : Int} (hx : 0 ≤ x) (hu : 0 ≤ u) (hv : 0 ≤ v) : pay c x (u + v) ≤ pay c x u ∧ pay c x u - pay c x (u + v) ≤ v := by
  rw [pay_yes hx hu h, pay_yes hx (by omega) h]
  omega

/-- What is paid for the first so many losses, each time with what was paid ahead as used. -/
def run (c : Co) : List Int → Int → Int
  | [], u => u
  | x :: l, u => run c l (u + pay c x u)
/-- What each would be paid alone, together. -/
def alone (c : Co) : List Int → Int
  | [] => 0
  | x :: l => pay c x 0 + alone c l
theorem run_append (c : Co) (l m : List Int) (u : Int) : run c (l ++ m) u = run c m (run c l u) := by
  induction l generalizing u with
  | nil => rfl
  | cons x l ih => exact ih _
theorem alone_append (c : Co) (l m : List Int) : alone c (l ++ m) = alone c l + alone c m := by
  induction l with
  | nil => simp [alone]
  | cons x l ih => simp only [List.cons_append, alone, ih]; omega
theorem alone_nn (c : Co) (l : List Int) : 0 ≤ alone c l ∧ alone c l ≤ l.length * 1000000000000000 := by
  induction l with
  | nil => simp [alone]
  | cons x l ih => have := pay_bd c x 0; simp only [alone, List.length_cons]; omega
theorem pay_min {c : Co} (h : Ok c) (x : Int) {s : Int} (hs : 0 ≤ s) : min s c.g + pay c x (min s c.g) = min (s + pay c x 0) c.g := by
  have hg : 0 ≤ c.g := by obtain ⟨_, _, _, _, _, _, _, _⟩ := h; omega
  by_cases hx : x < 0
  · rw [pay_no (.inl hx), pay_no (.inl hx)]; omega
  · rw [pay_yes (by omega) (by omega) h, pay_yes (by omega) (by omega) h]
    have := one_nn c x
    omega
theorem run_min {c : Co} (h : Ok c) (l : List Int) {s : Int} (hs : 0 ≤ s) : run c l (min s c.g) = min (s + alone c l) c.g := by
  induction l generalizing s with
  | nil => simp [run, alone]
  | cons x l ih =>
    have hp := pay_bd c x 0
    rw [run, pay_min h x hs, ih (by omega), alone]
    omega
theorem run_all {c : Co} (h : Ok c) (l : List Int) : run c l 0 = min (alone c l) c.g := by
  have hg : 0 ≤ c.g := by obtain ⟨_, _, _, _, _, _, _, _⟩ := h; omega
  have := run_min h l (s := 0) (by omega)
  rw [show min 0 c.g = 0 by omega] at this
  rw [this, Int.zero_add]
theorem alone_rev (c : Co) (l : List Int) : alone c l.reverse = alone c l := by
  induction l with
  | nil => rfl
  | cons x l ih => rw [List.reverse_cons, alone_append, ih]; simp only [alone]; omega
theorem take_get {α : Type} {l : List α} {k : Nat} {x : α} (h : l[k]? = some x) : l.take (k + 1) = l.take k ++ [x] := by
  rw [List.take_add_one, h]; rfl
theorem drop_get {α : Type} {l : List α} {k : Nat} {x : α} (h : l[k]? = some x) : l.drop k = x :: l.drop (k + 1) := by
  obtain ⟨hk, e⟩ := List.getElem?_eq_some_iff.1 h
  rw [List.drop_eq_getElem_cons hk, e]

end Cv
end Go.Proofs.Ytjcehjofimkjaaa
