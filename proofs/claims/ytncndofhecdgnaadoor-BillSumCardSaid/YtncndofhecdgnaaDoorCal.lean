/-
  The calendar's plain arithmetic: leap years, lengths, days ahead, which day a number is, months on. No model's run in this text. Conditions: those of each theorem.
-/
namespace Go.Proofs.YtncndofhecdgnaaDoor.Cal
set_option linter.unusedVariables false

def lp (y : Int) : Bool := decide (y % 400 = 0) || (decide (y % 4 = 0) && !decide (y % 100 = 0))
def ml (y m : Int) : Int := if m = 2 then (if lp y then 29 else 28) else if m = 4 ∨ m = 6 ∨ m = 9 ∨ m = 11 then 30 else 31
def yl (y : Int) : Int := if lp y then 366 else 365
def lb (y : Int) : Int := if lp y then 1 else 0
def da (y : Int) : Int := 365 * (y - 1601) + (y - 1601) / 4 - (y - 1601) / 100 + (y - 1601) / 400
def cm (y m : Int) : Int :=
  if m ≤ 1 then 0 else if m = 2 then 31 else lb y + (if m = 3 then 59 else if m = 4 then 90 else if m = 5 then 120 else if m = 6 then 151 else if m = 7 then 181 else
    if m = 8 then 212 else if m = 9 then 243 else if m = 10 then 273 else if m = 11 then 304 else if m = 12 then 334 else 365)

theorem lp_iff (y : Int) : lp y = true ↔ y % 400 = 0 ∨ (y % 4 = 0 ∧ ¬ y % 100 = 0) := by simp [lp]
theorem lp_not (y : Int) : lp y = false ↔ ¬ (y % 400 = 0 ∨ (y % 4 = 0 ∧ ¬ y % 100 = 0)) := by
  rw [← lp_iff]; cases lp y <;> simp
theorem lb_bd (y : Int) : 0 ≤ lb y ∧ lb y ≤ 1 := by unfold lb; split <;> omega
theorem yl_lb (y : Int) : yl y = 365 + lb y := by unfold yl lb; split <;> omega
theorem ml_two (y : Int) : ml y 2 = 28 + lb y := by unfold ml lb; simp; split <;> omega
theorem ml_bd (y m : Int) : 28 ≤ ml y m ∧ ml y m ≤ 31 := by unfold ml; split <;> (try split) <;> omega
theorem da_succ (y : Int) : da (y + 1) = da y + yl y := by
  unfold yl
  cases h : lp y
  · have := (lp_not y).1 h
    simp
    unfold da; omega
  · have := (lp_iff y).1 h
    simp
    unfold da; omega
theorem da_lo {y : Int} (h : 1601 ≤ y) : 365 * (y - 1601) ≤ da y := by unfold da; omega
theorem da_hi {y : Int} (h : 1601 ≤ y) : da y ≤ 366 * (y - 1601) := by unfold da; omega
theorem da_add (y : Int) (h : 1601 ≤ y) (k : Nat) : da y + 365 * k ≤ da (y + k) := by
  induction k with
  | zero => simp
  | succ k ih =>
    have e : y + ((k + 1 : Nat) : Int) = (y + k) + 1 := by omega
    have := yl_lb (y + k)
    have := lb_bd (y + k)
    rw [e, da_succ]; omega
theorem da_mono {a b : Int} (h0 : 1601 ≤ a) (h : a ≤ b) : da a ≤ da b := by
  obtain ⟨k, hk⟩ := Int.eq_ofNat_of_zero_le (a := b - a) (by omega)
  have := da_add a h0 k
  rw [← hk] at this
  rw [show a + (b - a) = b by omega] at this
  omega
theorem da_2401 : da 2401 = 292194 := by decide
theorem da_1601 : da 1601 = 0 := by decide
theorem da_2001 : da 2001 = 146097 := by decide
theorem da_400 (y : Int) : da (y + 400) = da y + 146097 := by unfold da; omega
theorem lp_400 (y : Int) : lp (y + 400) = lp y := by
  have e1 : (y + 400) % 400 = y % 400 := by omega
  have e2 : (y + 400) % 4 = y % 4 := by omega
  have e3 : (y + 400) % 100 = y % 100 := by omega
  unfold lp; rw [e1, e2, e3]
theorem ml_400 (y m : Int) : ml (y + 400) m = ml y m := by unfold ml; rw [lp_400]
theorem cm_400 (y m : Int) : cm (y + 400) m = cm y m := by unfold cm lb; rw [lp_400]

theorem twelve {m : Int} (h1 : 1 ≤ m) (h2 : m ≤ 12) : m = 1 ∨ m = 2 ∨ m = 3 ∨ m = 4 ∨ m = 5 ∨ m = 6 ∨ m = 7 ∨ m = 8 ∨ m = 9 ∨ m = 10 ∨ m = 11 ∨ m = 12 := by omega
theorem cm_succ {y m : Int} (h1 : 1 ≤ m) (h2 : m ≤ 12) : cm y (m + 1) = cm y m + ml y m := by
  have h := ml_two y
  rcases twelve h1 h2 with rfl | rfl | rfl | rfl | rfl | rfl | rfl | rfl | rfl | rfl | rfl | rfl
  · simp [cm, ml]
  · rw [h]; simp [cm]; omega
  all_goals (simp [cm, ml]; try omega)
theorem cm_13 (y : Int) : cm y 13 = yl y := by rw [yl_lb]; simp [cm]; omega
theorem cm_1 (y : Int) : cm y 1 = 0 := by simp [cm]
theorem cm_mono {y a b : Int} (h1 : 1 ≤ a) (h : a ≤ b) (h2 : b ≤ 13) : cm y a ≤ cm y b := by
  have hl := lb_bd y
  obtain ⟨k, hk⟩ := Int.eq_ofNat_of_zero_le (a := b - a) (by omega)
  obtain rfl : b = a + k := by omega
  clear hk
  induction k with
  | zero => simp
  | succ k ih =>
    have e : a + ((k + 1 : Nat) : Int) = (a + k) + 1 := by omega
    have := cm_succ (y := y) (m := a + k) (by omega) (by omega)
    have := ml_bd y (a + k)
    have := ih (by omega) (by omega)
    rw [e]; omega
theorem cm_bd {y m : Int} (h1 : 1 ≤ m) (h2 : m ≤ 13) : 0 ≤ cm y m ∧ cm y m ≤ 366 := by
  have := cm_mono (y := y) (a := 1) (b := m) (by omega) h1 h2
  have := cm_mono (y := y) (a := m) (b := 13) h1 h2 (by omega)
  have := cm_13 y
  have := cm_1 y
  have := yl_lb y
  have := lb_bd y
  omega

/-- 'n' is the day 'y', 'm', 'd'. -/
structure Ymd (n y m d : Int) : Prop where
  y1 : 1601 ≤ y
  y2 : y ≤ 2400
  m1 : 1 ≤ m
  m2 : m ≤ 12
  d1 : 1 ≤ d
  d2 : d ≤ ml y m
  eq : da y + cm y m + d = n

theorem Ymd.up {n y m d : Int} (h : Ymd n y m d) : da y < n ∧ n ≤ da (y + 1) ∧ da y + cm y m < n ∧ n ≤ da y + cm y (m + 1) := by
  have h1 := h.d1; have h2 := h.d2; have h3 := h.eq; have h4 := h.m1; have h5 := h.m2
  have e := cm_succ (y := y) h4 h5
  have b := cm_bd (y := y) h4 (by omega : m ≤ 13)
  have b2 := cm_mono (y := y) (a := m + 1) (b := 13) (by omega) (by omega) (by omega)
  have e3 := cm_13 y
  have e4 := da_succ y
  omega
theorem Ymd.day {n y m d : Int} (h : Ymd n y m d) : 1 ≤ n ∧ n ≤ 292194 := by
  have := h.up
  have := da_mono (a := 1601) (b := y) (by omega) h.y1
  have := da_mono (a := y + 1) (b := 2401) (by have := h.y1; omega) (by have := h.y2; omega)
  have := da_1601
  have := da_2401
  omega
theorem Ymd.lt_of {n y m d n' y' m' d' : Int} (h : Ymd n y m d) (h' : Ymd n' y' m' d') (l : y < y' ∨ (y = y' ∧ (m < m' ∨ (m = m' ∧ d < d')))) : n < n' := by
  have u := h.up
  have u' := h'.up
  rcases l with l | ⟨rfl, l | ⟨rfl, l⟩⟩
  · have := da_mono (a := y + 1) (b := y') (by have := h.y1; omega) (by omega)
    omega
  · have := cm_mono (y := y) (a := m + 1) (b := m') (by have := h.m1; omega) (by omega) (by have := h'.m2; omega)
    omega
  · have := h.eq; have := h'.eq; omega
theorem Ymd.inj {n y m d y' m' d' : Int} (h : Ymd n y m d) (h' : Ymd n y' m' d') : y = y' ∧ m = m' ∧ d = d' := by
  have a := fun l => h.lt_of h' l
  have b := fun l => h'.lt_of h l
  omega
theorem year_of (n : Int) (h1 : 1 ≤ n) : ∀ k : Nat, n ≤ da (1601 + k) → ∃ y : Int, 1601 ≤ y ∧ y < 1601 + k ∧ da y < n ∧ n ≤ da (y + 1)
  | 0, h => by have := da_1601; simp at h; omega
  | k + 1, h => by
    by_cases hk : n ≤ da (1601 + k)
    · obtain ⟨y, a, b, c, d⟩ := year_of n h1 k hk
      exact ⟨y, a, by omega, c, d⟩
    · exact ⟨1601 + k, by omega, by omega, by omega, by rw [show (1601 : Int) + k + 1 = 1601 + ((k + 1 : Nat) : Int) by omega]; exact h⟩
theorem month_of (n y : Int) (h1 : 1 ≤ n) : ∀ k : Nat, k ≤ 12 → n ≤ cm y (1 + k) → ∃ m : Int, 1 ≤ m ∧ m < 1 + k ∧ cm y m < n ∧ n ≤ cm y (m + 1)
  | 0, _, h => by have := cm_1 y; simp at h; omega
  | k + 1, h12, h => by
    by_cases hk : n ≤ cm y (1 + k)
    · obtain ⟨m, a, b, c, d⟩ := month_of n y h1 k (by omega) hk
      exact ⟨m, a, by omega, c, d⟩
    · exact ⟨1 + k, by omega, by omega, by omega, by rw [show (1 : Int) + k + 1 = 1 + ((k + 1 : Nat) : Int) by omega]; exact h⟩
theorem Ymd.of (n : Int) (h1 : 1 ≤ n) (h2 : n ≤ 292194) : ∃ y m d, Ymd n y m d := by
  obtain ⟨y, y1, y2, a, b⟩ := year_of n h1 800 (by have := da_2401; rw [show (1601 : Int) + ((800 : Nat) : Int) = 2401 by omega]; omega)
  have e := da_succ y
  have e13 := cm_13 y
  obtain ⟨m, m1, m2, c, d⟩ := month_of (n - da y) y (by omega) 12 (by omega) (by rw [show (1 : Int) + ((12 : Nat) : Int) = 13 by omega]; omega)
  have es := cm_succ (y := y) (m := m) m1 (by omega)
  exact ⟨y, m, n - da y - cm y m, y1, by omega, m1, by omega, by omega, by omega, by omega⟩

/-- Is it a day of the calendar? -/
def vld (y m d : Int) : Bool := decide (1601 ≤ y ∧ y ≤ 2400 ∧ 1 ≤ m ∧ m ≤ 12 ∧ 1 ≤ d ∧ d ≤ ml y m)
def nuV (y m d : Int) : Int := if vld y m d then da y + cm y m + d else 0
def nuE (y m d : Int) : Int := if vld y m d then 0 else 3
theorem vld_iff {y m d : Int} : vld y m d = true ↔ 1601 ≤ y ∧ y ≤ 2400 ∧ 1 ≤ m ∧ m ≤ 12 ∧ 1 ≤ d ∧ d ≤ ml y m := by simp [vld]
theorem vld_not {y m d : Int} : vld y m d = false ↔ ¬ (1601 ≤ y ∧ y ≤ 2400 ∧ 1 ≤ m ∧ m ≤ 12 ∧ 1 ≤ d ∧ d ≤ ml y m) := by
  rw [← vld_iff]; cases vld y m d <;> simp
theorem Ymd.vld {n y m d : Int} (h : Ymd n y m d) : vld y m d = true := vld_iff.2 ⟨h.y1, h.y2, h.m1, h.m2, h.d1, h.d2⟩
theorem ymd_of_vld {y m d : Int} (h : vld y m d = true) : Ymd (da y + cm y m + d) y m d := by
  obtain ⟨a, b, c, d, e, f⟩ := vld_iff.1 h
  exact ⟨a, b, c, d, e, f, rfl⟩
theorem Ymd.nu {n y m d : Int} (h : Ymd n y m d) : nuV y m d = n ∧ nuE y m d = 0 := by
  have hv := h.vld
  have he := h.eq
  unfold nuV nuE
  rw [hv]
  exact ⟨he, rfl⟩
theorem nu_bad {y m d : Int} (h : vld y m d = false) : nuV y m d = 0 ∧ nuE y m d = 3 := by
  unfold nuV nuE
  rw [h]
  exact ⟨rfl, rfl⟩

/-- The month that is 'a' months behind January 1601. -/
def ya (a : Int) : Int := 1601 + a / 12
def ma (a : Int) : Int := a % 12 + 1
def at_ (y m : Int) : Int := (y - 1601) * 12 + m - 1
def shD (y m d k : Int) : Int := min d (ml (ya (at_ y m + k)) (ma (at_ y m + k)))
def inR (a : Int) : Bool := decide (0 ≤ a ∧ a ≤ 9599)
def shN (y m d k : Int) : Int := da (ya (at_ y m + k)) + cm (ya (at_ y m + k)) (ma (at_ y m + k)) + shD y m d k
def shV (y m d k : Int) : Int := if inR (at_ y m + k) then shN y m d k else 0
def shE (y m _d k : Int) : Int := if inR (at_ y m + k) then 0 else 3
theorem ma_bd (a : Int) : 1 ≤ ma a ∧ ma a ≤ 12 := by unfold ma; omega
theorem ya_bd {a : Int} (h0 : 0 ≤ a) (h1 : a ≤ 9599) : 1601 ≤ ya a ∧ ya a ≤ 2400 := by unfold ya; omega
theorem at_ya_ma (a : Int) : at_ (ya a) (ma a) = a := by unfold at_ ya ma; omega
theorem ya_at {y m : Int} (h1 : 1 ≤ m) (h2 : m ≤ 12) : ya (at_ y m) = y := by unfold at_ ya; omega
theorem ma_at {y m : Int} (h1 : 1 ≤ m) (h2 : m ≤ 12) : ma (at_ y m) = m := by unfold at_ ma; omega
theorem shD_bd {y m d k : Int} (h : 1 ≤ d) : 1 ≤ shD y m d k ∧ shD y m d k ≤ ml (ya (at_ y m + k)) (ma (at_ y m + k)) ∧ shD y m d k ≤ d := by
  have := ml_bd (ya (at_ y m + k)) (ma (at_ y m + k))
  unfold shD; omega
theorem inR_iff {a : Int} : inR a = true ↔ 0 ≤ a ∧ a ≤ 9599 := by simp [inR]
theorem inR_not {a : Int} : inR a = false ↔ ¬ (0 ≤ a ∧ a ≤ 9599) := by rw [← inR_iff]; cases inR a <;> simp
theorem Ymd.shift {n y m d : Int} (h : Ymd n y m d) {k : Int} (hk : inR (at_ y m + k) = true) : Ymd (shN y m d k) (ya (at_ y m + k)) (ma (at_ y m + k)) (shD y m d k) := by
  obtain ⟨a, b⟩ := inR_iff.1 hk
  have := ya_bd a b
  have := ma_bd (at_ y m + k)
  have := shD_bd (y := y) (m := m) (d := d) (k := k) h.d1
  exact ⟨by omega, by omega, by omega, by omega, by omega, by omega, rfl⟩
theorem sh_in {y m d k : Int} (hk : inR (at_ y m + k) = true) : shV y m d k = shN y m d k ∧ shE y m d k = 0 := by
  unfold shV shE
  rw [hk]
  exact ⟨rfl, rfl⟩
theorem sh_out {y m d k : Int} (hk : inR (at_ y m + k) = false) : shV y m d k = 0 ∧ shE y m d k = 3 := by
  unfold shV shE
  rw [hk]
  exact ⟨rfl, rfl⟩

end Go.Proofs.YtncndofhecdgnaaDoor.Cal
