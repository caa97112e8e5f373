/-
  Bands and risks without the model: which bands may be, the band of an age, which risks may be. Conditions: those of each theorem.
-/
namespace Ba
abbrev Pr := Int × Int

/-- From low to high. -/
def wi (n lo hi : Int) : Bool := decide (lo ≤ n ∧ n ≤ hi)
theorem wi_iff {n lo hi : Int} : wi n lo hi = true ↔ lo ≤ n ∧ n ≤ hi := by unfold wi; exact decide_eq_true_iff
theorem wi_no {n lo hi : Int} (h : ¬ (lo ≤ n ∧ n ≤ hi)) : wi n lo hi = false := by unfold wi; exact decide_eq_false h

/-- A risk may be. -/
def rk (k v a z : Int) : Bool := wi k 0 3 && (wi v 1 1000000000000000 && (wi a 0 200 && wi z 0 99))
theorem rk_iff {k v a z : Int} : rk k v a z = true ↔ (0 ≤ k ∧ k ≤ 3) ∧ (1 ≤ v ∧ v ≤ 1000000000000000) ∧ (0 ≤ a ∧ a ≤ 200) ∧ (0 ≤ z ∧ z ≤ 99) := by
  unfold rk; rw [Bool.and_eq_true, Bool.and_eq_true, Bool.and_eq_true, wi_iff, wi_iff, wi_iff, wi_iff]
theorem rk_yes {k v a z : Int} (h : (0 ≤ k ∧ k ≤ 3) ∧ (1 ≤ v ∧ v ≤ 1000000000000000) ∧ (0 ≤ a ∧ a ≤ 200) ∧ (0 ≤ z ∧ z ≤ 99)) : rk k v a z = true := rk_iff.2 h
theorem rk_no {k v a z : Int} (h : ¬ ((0 ≤ k ∧ k ≤ 3) ∧ (1 ≤ v ∧ v ≤ 1000000000000000) ∧ (0 ≤ a ∧ a ≤ 200) ∧ (0 ≤ z ∧ z ≤ 99))) : rk k v a z = false := by
  cases e : rk k v a z
  · rfl
  · exact absurd (rk_iff.1 e) h

/-- The band of an age. -/
def bnd (age : Int) : List Pr → Int
  | [] => 10000
  | x :: xs => if x.1 < age then bnd age xs else x.2
theorem bnd_up {age : Int} {x : Pr} {xs : List Pr} (h : x.1 < age) : bnd age (x :: xs) = bnd age xs := by simp only [bnd]; rw [if_pos h]
theorem bnd_at {age : Int} {x : Pr} {xs : List Pr} (h : ¬ x.1 < age) : bnd age (x :: xs) = x.2 := by simp only [bnd]; rw [if_neg h]

/-- Bands rise from least on, and may be. -/
def okL (least : Int) : List Pr → Bool
  | [] => true
  | x :: xs => wi x.1 least 200 && (wi x.2 0 100000 && okL (x.1 + 1) xs)
def bds (l : List Pr) : Bool := decide (l.length ≤ 100) && okL 0 l
theorem bds_far {l : List Pr} (h : 100 < l.length) : bds l = false := by unfold bds; rw [decide_eq_false (by omega)]; rfl
theorem bds_near {l : List Pr} (h : l.length ≤ 100) : bds l = okL 0 l := by unfold bds; rw [decide_eq_true h]; rfl
theorem okL_no1 {least : Int} {x : Pr} {xs : List Pr} (h : wi x.1 least 200 = false) : okL least (x :: xs) = false := by simp only [okL]; rw [h]; rfl
theorem okL_no2 {least : Int} {x : Pr} {xs : List Pr} (h : wi x.1 least 200 = true) (h2 : wi x.2 0 100000 = false) : okL least (x :: xs) = false := by simp only [okL]; rw [h, h2]; rfl
theorem okL_yes {least : Int} {x : Pr} {xs : List Pr} (h : wi x.1 least 200 = true) (h2 : wi x.2 0 100000 = true) : okL least (x :: xs) = okL (x.1 + 1) xs := by simp only [okL]; rw [h, h2]; rfl

theorem drop_get {α : Type} {l : List α} {k : Nat} {x : α} (h : l[k]? = some x) : l.drop k = x :: l.drop (k + 1) := by
  obtain ⟨hk, rfl⟩ := List.getElem?_eq_some_iff.1 h
  exact List.drop_eq_getElem_cons hk
theorem take_get {α : Type} {l : List α} {k : Nat} {x : α} (h : l[k]? = some x) : l.take (k + 1) = l.take k ++ [x] := by
  obtain ⟨hk, rfl⟩ := List.getElem?_eq_some_iff.1 h
  exact List.take_succ_eq_append_getElem hk

/-- All bands are of Uptos from least on that rise, all numbers within. -/
theorem okL_mem {least : Int} {l : List Pr} (h : okL least l = true) : ∀ x ∈ l, least ≤ x.1 ∧ x.1 ≤ 200 ∧ 0 ≤ x.2 ∧ x.2 ≤ 100000 := by
  induction l generalizing least with
  | nil => intro x hx; cases hx
  | cons y ys ih =>
    simp only [okL, Bool.and_eq_true, wi_iff] at h
    intro x hx
    rcases List.mem_cons.1 hx with rfl | hx
    · exact ⟨h.1.1, h.1.2, h.2.1.1, h.2.1.2⟩
    · have := ih h.2.2 x hx
      exact ⟨by have := h.1.1; omega, this.2⟩
theorem okL_append {least : Int} {l m : List Pr} (h : okL least (l ++ m) = true) : okL least l = true := by
  induction l generalizing least with
  | nil => rfl
  | cons y ys ih =>
    simp only [List.cons_append, okL, Bool.and_eq_true] at h ⊢
    exact ⟨h.1, h.2.1, ih h.2.2⟩
theorem bds_append {l m : List Pr} (h : bds (l ++ m) = true) : bds l = true := by
  unfold bds at h ⊢
  simp only [Bool.and_eq_true, decide_eq_true_eq, List.length_append] at h ⊢
  exact ⟨by omega, okL_append h.2⟩

/-- Some band isn't below the age. -/
def hs (age : Int) (l : List Pr) : Bool := l.any fun x => decide (age ≤ x.1)
theorem bnd_append_has {age : Int} {l m : List Pr} (h : hs age l = true) : bnd age (l ++ m) = bnd age l := by
  induction l with
  | nil => cases h
  | cons y ys ih =>
    by_cases hy : y.1 < age
    · rw [List.cons_append, bnd_up hy, bnd_up hy]
      apply ih
      simp only [hs, List.any_cons, Bool.or_eq_true, decide_eq_true_eq] at h ⊢
      rcases h with h | h
      · omega
      · exact h
    · rw [List.cons_append, bnd_at hy, bnd_at hy]
theorem bnd_append_not {age : Int} {l m : List Pr} (h : hs age l = false) : bnd age (l ++ m) = bnd age m ∧ bnd age l = 10000 := by
  induction l with
  | nil => exact ⟨rfl, rfl⟩
  | cons y ys ih =>
    simp only [hs, List.any_cons, Bool.or_eq_false_iff, decide_eq_false_iff_not] at h
    rw [List.cons_append, bnd_up (by omega), bnd_up (by omega)]
    exact ih h.2
theorem hs_snoc {age : Int} {l : List Pr} {x : Pr} : hs age (l ++ [x]) = (hs age l || decide (age ≤ x.1)) := by simp [hs]

/-- No Upto from a on up to the one ahead of b: both have one band. -/
theorem bnd_same {a b : Int} {l : List Pr} (hab : a ≤ b) (h : ∀ x ∈ l, ¬ (a ≤ x.1 ∧ x.1 < b)) : bnd a l = bnd b l := by
  induction l with
  | nil => rfl
  | cons y ys ih =>
    have hy := h y (by simp)
    by_cases h1 : y.1 < a
    · rw [bnd_up h1, bnd_up (by omega)]
      exact ih fun x hx => h x (by simp [hx])
    · rw [bnd_at h1, bnd_at (by omega)]

/-- The band of an age of right bands: of the first one not below; that is the least. -/
theorem bnd_first {age : Int} {l : List Pr} {k : Nat} {x : Pr} (hx : l[k]? = some x) (hge : age ≤ x.1) (hb : ∀ j y, j < k → l[j]? = some y → y.1 < age) : bnd age l = x.2 := by
  induction l generalizing k with
  | nil => simp at hx
  | cons y ys ih =>
    cases k with
    | zero => simp at hx; subst hx; exact bnd_at (by omega)
    | succ k =>
      rw [bnd_up (hb 0 y (by omega) (by simp))]
      exact ih (by simpa using hx) fun j z hj hz => hb (j + 1) z (by omega) (by simpa using hz)
theorem okL_drop {least : Int} {l : List Pr} (h : okL least l = true) {k : Nat} {x : Pr} (hx : l[k]? = some x) : okL (x.1 + 1) (l.drop (k + 1)) = true := by
  induction l generalizing least k with
  | nil => simp at hx
  | cons y ys ih =>
    simp only [okL, Bool.and_eq_true] at h
    cases k with
    | zero => simp at hx; subst hx; simpa using h.2.2
    | succ k => simpa using ih h.2.2 (by simpa using hx)
theorem okL_rise {least : Int} {l : List Pr} (h : okL least l = true) {j k : Nat} {x y : Pr} (hjk : j < k) (hx : l[j]? = some x) (hy : l[k]? = some y) : x.1 < y.1 := by
  have := okL_mem (okL_drop h hx) y (by
    rw [List.mem_iff_getElem?]
    exact ⟨k - (j + 1), by rw [List.getElem?_drop, show j + 1 + (k - (j + 1)) = k by omega]; exact hy⟩)
  omega
end Ba
