/-
  Bills dealt out and turned: plain mathematics, without the model. Conditions: those of each theorem.
-/
import Derived.Test.YtncndofhecdgnaaDoorBl
namespace Go.Proofs.YtncndofhecdgnaaDoor
open Go.RowKit
namespace Bil
set_option linter.unusedVariables false

/-- The i-th part, when an amount is dealt out equally to some. -/
def pt (x m i : Int) : Int := x / m + x % m * (i + 1) / m - x % m * i / m
theorem up_eq {x m i : Int} (hm : 0 < m) : x * i / m = x / m * i + x % m * i / m := by
  have h : x * i = x % m * i + m * (x / m * i) := by
    have := Int.emod_add_mul_ediv x m
    calc x * i = (x % m + m * (x / m)) * i := by rw [this]
      _ = x % m * i + m * (x / m * i) := by rw [Int.add_mul, Int.mul_assoc]
  rw [h, Int.add_mul_ediv_left _ _ (by omega)]
  omega
theorem pt_eq {x m i : Int} (hm : 0 < m) : pt x m i = x * (i + 1) / m - x * i / m := by
  rw [up_eq (x := x) (i := i + 1) hm, up_eq (x := x) (i := i) hm, pt, Int.mul_add (x / m), Int.mul_one]
  omega
theorem pt_bd {x m i : Int} (hx : 0 ≤ x) (hm : 0 < m) (hi : 0 ≤ i) : x / m ≤ pt x m i ∧ pt x m i ≤ x / m + 1 := by
  have h0 := Int.emod_nonneg x (b := m) (by omega)
  have h1 := Int.emod_lt_of_pos x hm
  have a : x % m * i / m ≤ x % m * (i + 1) / m := Int.ediv_le_ediv hm (by rw [Int.mul_add, Int.mul_one]; omega)
  have b : x % m * (i + 1) / m ≤ (x % m * i + m) / m := Int.ediv_le_ediv hm (by rw [Int.mul_add, Int.mul_one]; omega)
  rw [Int.add_ediv_of_dvd_right (Int.dvd_refl m), Int.ediv_self (by omega)] at b
  unfold pt
  omega
theorem pt_nonneg {x m i : Int} (hx : 0 ≤ x) (hm : 0 < m) (hi : 0 ≤ i) : 0 ≤ pt x m i ∧ pt x m i ≤ x := by
  have h := pt_bd hx hm hi
  have h0 : 0 ≤ x / m := Int.ediv_nonneg hx (by omega)
  refine ⟨by omega, ?_⟩
  by_cases hq : x % m = 0
  · have e : pt x m i = x / m := by unfold pt; rw [hq]; simp
    have := Int.ediv_le_self m hx
    omega
  · have h1 := Int.emod_add_mul_ediv x m
    have h2 := Int.emod_nonneg x (b := m) (by omega)
    have h3 : x / m ≤ m * (x / m) := by
      have : 1 * (x / m) ≤ m * (x / m) := Int.mul_le_mul_of_nonneg_right (by omega) h0
      omega
    omega

/-- How many are later than a day; what the others come to; what is paid of the later ones. -/
def lc (y : Int) : List Bi → Nat
  | [] => 0
  | b :: t => (if b.d ≤ y then 0 else 1) + lc y t
def ea (y : Int) : List Bi → Int
  | [] => 0
  | b :: t => (if b.d ≤ y then b.a else 0) + ea y t
def lp (y : Int) : List Bi → Int
  | [] => 0
  | b :: t => (if b.d ≤ y then 0 else b.p) + lp y t
/-- The later ones, dealt out anew, from the n-th on. -/
def tn (y x m : Int) : Nat → List Bi → List Bi
  | _, [] => []
  | n, b :: t => if b.d ≤ y then b :: tn y x m n t else ⟨b.d, b.p + pt x m (n : Int), b.p⟩ :: tn y x m (n + 1) t
theorem lc_cons (y : Int) (b : Bi) (t : List Bi) : lc y (b :: t) = (if b.d ≤ y then 0 else 1) + lc y t := rfl
theorem ea_cons (y : Int) (b : Bi) (t : List Bi) : ea y (b :: t) = (if b.d ≤ y then b.a else 0) + ea y t := rfl
theorem lp_cons (y : Int) (b : Bi) (t : List Bi) : lp y (b :: t) = (if b.d ≤ y then 0 else b.p) + lp y t := rfl
theorem tn_cons (y x m : Int) (n : Nat) (b : Bi) (t : List Bi) : tn y x m n (b :: t) = if b.d ≤ y then b :: tn y x m n t else ⟨b.d, b.p + pt x m (n : Int), b.p⟩ :: tn y x m (n + 1) t := rfl
theorem am_cons (b : Bi) (t : List Bi) : am (b :: t) = b.a + am t := rfl
theorem pd_cons (b : Bi) (t : List Bi) : pd (b :: t) = b.p + pd t := rfl
theorem lc_append (y : Int) (l m : List Bi) : lc y (l ++ m) = lc y l + lc y m := by
  induction l with
  | nil => show lc y m = 0 + lc y m; omega
  | cons b t ih => show _ + lc y (t ++ m) = _ + lc y t + lc y m; rw [ih]; omega
theorem ea_append (y : Int) (l m : List Bi) : ea y (l ++ m) = ea y l + ea y m := by
  induction l with
  | nil => show ea y m = 0 + ea y m; omega
  | cons b t ih => show _ + ea y (t ++ m) = _ + ea y t + ea y m; rw [ih]; omega
theorem lp_append (y : Int) (l m : List Bi) : lp y (l ++ m) = lp y l + lp y m := by
  induction l with
  | nil => show lp y m = 0 + lp y m; omega
  | cons b t ih => show _ + lp y (t ++ m) = _ + lp y t + lp y m; rw [ih]; omega
theorem tn_append (y x m : Int) (l k : List Bi) : ∀ n, tn y x m n (l ++ k) = tn y x m n l ++ tn y x m (n + lc y l) k := by
  induction l with
  | nil => intro n; rfl
  | cons b t ih =>
    intro n
    rw [List.cons_append, tn_cons, tn_cons, lc_cons]
    split
    · rw [ih, Nat.zero_add, List.cons_append]
    · rw [ih, List.cons_append, show n + 1 + lc y t = n + (1 + lc y t) by omega]
theorem lc_len (y : Int) (l : List Bi) : lc y l ≤ l.length := by
  induction l with
  | nil => exact Nat.le_refl _
  | cons b t ih => show _ + lc y t ≤ t.length + 1; split <;> omega
theorem lc_zero {y : Int} {l : List Bi} (h : lc y l = 0) : ∀ b ∈ l, b.d ≤ y := by
  induction l with
  | nil => intro b hb; cases hb
  | cons x t ih =>
    intro b hb
    have h : (if x.d ≤ y then 0 else 1) + lc y t = 0 := h
    rcases List.mem_cons.1 hb with rfl | hb
    · by_cases e : b.d ≤ y
      · exact e
      · rw [if_neg e] at h; omega
    · exact ih (by omega) b hb
theorem tn_len (y x m : Int) (l : List Bi) : ∀ n, (tn y x m n l).length = l.length := by
  induction l with
  | nil => intro n; rfl
  | cons b t ih => intro n; rw [tn_cons]; split <;> simp [ih]
theorem tn_none {y x m : Int} {l : List Bi} (h : ∀ b ∈ l, b.d ≤ y) : ∀ n, tn y x m n l = l := by
  induction l with
  | nil => intro n; rfl
  | cons b t ih => intro n; rw [tn_cons, if_pos (h b List.mem_cons_self), ih fun c hc => h c (List.mem_cons_of_mem _ hc)]
theorem tn_pd (y x m : Int) (l : List Bi) : ∀ n, pd (tn y x m n l) = pd l := by
  induction l with
  | nil => intro n; rfl
  | cons b t ih => intro n; rw [tn_cons]; split <;> (show b.p + pd (tn y x m _ t) = b.p + pd t; rw [ih])
theorem tn_am {y x m : Int} (hm : 0 < m) (l : List Bi) : ∀ n : Nat, am (tn y x m n l) = ea y l + lp y l + (x * ((n + lc y l : Nat) : Int) / m - x * (n : Int) / m) := by
  induction l with
  | nil => intro n; show (0 : Int) = 0 + 0 + (x * ((n + 0 : Nat) : Int) / m - x * (n : Int) / m); rw [Nat.add_zero]; omega
  | cons b t ih =>
    intro n
    rw [tn_cons, ea_cons, lp_cons, lc_cons]
    split
    · show b.a + am (tn y x m n t) = _
      rw [ih, Nat.zero_add]; omega
    · show b.p + pt x m (n : Int) + am (tn y x m (n + 1) t) = _
      rw [ih, pt_eq hm, show n + 1 + lc y t = n + (1 + lc y t) by omega, show ((n + 1 : Nat) : Int) = (n : Int) + 1 by omega]
      omega
theorem tn_get {y x m : Int} {l : List Bi} : ∀ {n i : Nat} {b : Bi}, l[i]? = some b → (tn y x m n l)[i]? = some (if b.d ≤ y then b else ⟨b.d, b.p + pt x m ((n + lc y (l.take i) : Nat) : Int), b.p⟩) := by
  induction l with
  | nil => intro n i b h; simp at h
  | cons c t ih =>
    intro n i b h
    cases i with
    | zero =>
      simp at h; subst h
      rw [tn_cons]
      simp only [List.take_zero]
      split <;> rfl
    | succ i =>
      simp only [List.getElem?_cons_succ] at h
      rw [tn_cons, List.take_succ_cons, lc_cons]
      split
      · simp only [List.getElem?_cons_succ, Nat.zero_add]; exact ih h
      · simp only [List.getElem?_cons_succ]
        rw [show n + (1 + lc y (t.take i)) = n + 1 + lc y (t.take i) by omega]
        exact ih h
/-- Days that don't fall. -/
def dy (q : Int) : List Bi → Bool
  | [] => true
  | b :: t => decide (1 ≤ b.d ∧ b.d ≤ 292194 ∧ q ≤ b.d) && dy b.d t
theorem dy_cons {q : Int} {b : Bi} {t : List Bi} : dy q (b :: t) = true ↔ (1 ≤ b.d ∧ b.d ≤ 292194 ∧ q ≤ b.d) ∧ dy b.d t = true := by
  simp only [dy, Bool.and_eq_true, decide_eq_true_eq]
theorem rg_dy {l : List Bi} : ∀ {s q : Int}, rg s q l = true → dy q l = true := by
  induction l with
  | nil => intro s q _; rfl
  | cons b t ih => intro s q h; have h := rg_cons.1 h; exact dy_cons.2 ⟨⟨h.1.1, h.1.2.1, h.1.2.2.2.2.2⟩, ih h.2⟩
theorem rg_of {l : List Bi} : ∀ {s q : Int}, dy q l = true → Pb l → am l ≤ 4000000000000000000 - s → rg s q l = true := by
  induction l with
  | nil => intro s q _ _ _; rfl
  | cons b t ih =>
    intro s q h hp ha
    have h := dy_cons.1 h
    have h0 := hp.head
    have h1 := am_nonneg hp.tail
    have ha : b.a + am t ≤ 4000000000000000000 - s := ha
    exact rg_cons.2 ⟨⟨h.1.1, h.1.2.1, h0.1, h0.2, by omega, h.1.2.2⟩, ih h.2 hp.tail (by omega)⟩
theorem tn_dy {y x m : Int} {l : List Bi} : ∀ {q : Int} {n : Nat}, dy q l = true → dy q (tn y x m n l) = true := by
  induction l with
  | nil => intro q n _; rfl
  | cons b t ih =>
    intro q n h
    have h := dy_cons.1 h
    rw [tn_cons]
    split
    · exact dy_cons.2 ⟨h.1, ih h.2⟩
    · exact dy_cons.2 ⟨h.1, ih h.2⟩
theorem tn_pb {y x m : Int} (hx : 0 ≤ x) (hm : 0 < m) {l : List Bi} : ∀ {n : Nat}, Pb l → Pb (tn y x m n l) := by
  induction l with
  | nil => intro n h; exact h
  | cons b t ih =>
    intro n h
    have h0 := h.head
    rw [tn_cons]
    split
    · intro c hc
      rcases List.mem_cons.1 hc with rfl | hc
      · exact h0
      · exact ih h.tail c hc
    · intro c hc
      rcases List.mem_cons.1 hc with rfl | hc
      · have := pt_nonneg hx hm (i := (n : Int)) (by omega)
        exact ⟨h0.1, by show b.p ≤ b.p + pt x m (n : Int); omega⟩
      · exact ih h.tail c hc
theorem lp_bd {y : Int} {l : List Bi} (h : Pb l) : 0 ≤ lp y l ∧ 0 ≤ ea y l ∧ ea y l + lp y l ≤ am l ∧ lp y l ≤ pd l := by
  induction l with
  | nil => exact ⟨Int.le_refl _, Int.le_refl _, Int.le_refl _, Int.le_refl _⟩
  | cons b t ih =>
    have := ih h.tail
    have := h.head
    rw [lp_cons, ea_cons, am_cons, pd_cons]
    split <;> omega

/-- What Turned tells: its code. -/
def tc (l : List Bi) (amt y : Int) : Int :=
  if rt l = true ∧ 0 ≤ amt ∧ amt ≤ 4000000000000000000 then
    if lc y l = 0 then (if amt - ea y l = 0 then 0 else 10) else (if amt - ea y l < lp y l then 2 else 0)
  else 1
def tl (l : List Bi) (amt y : Int) : List Bi := if tc l amt y = 0 then tn y (amt - ea y l - lp y l) (lc y l : Int) 0 l else []
theorem tc_ok {l : List Bi} {amt y : Int} (h : tc l amt y = 0) : rt l = true ∧ (0 ≤ amt ∧ amt ≤ 4000000000000000000) ∧ (lc y l = 0 ∧ amt = ea y l ∨ 0 < lc y l ∧ lp y l ≤ amt - ea y l) := by
  unfold tc at h
  split at h
  · rename_i e
    refine ⟨e.1, e.2, ?_⟩
    split at h
    · split at h
      · exact .inl ⟨by assumption, by omega⟩
      · omega
    · split at h
      · omega
      · exact .inr ⟨by omega, by omega⟩
  · omega
/-- Turned, all come to the new sum; what is paid stays. -/
theorem turned {l : List Bi} {amt y : Int} (h : tc l amt y = 0) : am (tl l amt y) = amt ∧ pd (tl l amt y) = pd l ∧ (tl l amt y).length = l.length ∧ rt (tl l amt y) = true := by
  obtain ⟨h1, h2, h3⟩ := tc_ok h
  have hr := rt_iff.1 h1
  have hp := rg_pb hr.2
  unfold tl
  rw [if_pos h]
  have hl := tn_len y (amt - ea y l - lp y l) (lc y l : Int) l 0
  have ha : am (tn y (amt - ea y l - lp y l) (lc y l : Int) 0 l) = amt := by
    rcases h3 with ⟨e1, e2⟩ | ⟨e1, e2⟩
    · rw [tn_none (lc_zero e1)]
      have : lp y l = 0 := by
        have hz := lc_zero e1
        clear h h1 h2 hr hp hl e1 e2
        induction l with
        | nil => rfl
        | cons b t ih => rw [lp_cons, if_pos (hz b List.mem_cons_self), ih fun c hc => hz c (List.mem_cons_of_mem _ hc)]; rfl
      have : am l = ea y l := by
        have hz := lc_zero e1
        clear h h1 h2 hr hp hl e1 e2 this
        induction l with
        | nil => rfl
        | cons b t ih => rw [am_cons, ea_cons, if_pos (hz b List.mem_cons_self), ih fun c hc => hz c (List.mem_cons_of_mem _ hc)]
      omega
    · rw [tn_am (by omega), Nat.zero_add, Int.mul_ediv_cancel _ (by omega), show ((0 : Nat) : Int) = 0 from rfl, Int.mul_zero, Int.zero_ediv]
      omega
  refine ⟨ha, tn_pd _ _ _ _ _, hl, rt_iff.2 ⟨by rw [hl]; exact hr.1, rg_of (tn_dy (rg_dy hr.2)) ?_ (by omega)⟩⟩
  rcases h3 with ⟨e1, e2⟩ | ⟨e1, e2⟩
  · rw [tn_none (lc_zero e1)]; exact hp
  · exact tn_pb (by omega) (by omega) hp
/-- One of them, turned: its day and what is paid of it stay; what is due by then stays as it was. -/
theorem turned_get {l : List Bi} {amt y : Int} (h : tc l amt y = 0) {i : Nat} {b : Bi} (hb : l[i]? = some b) : ∃ c, (tl l amt y)[i]? = some c ∧ c.d = b.d ∧ c.p = b.p ∧ (b.d ≤ y → c = b) := by
  unfold tl
  rw [if_pos h]
  refine ⟨_, tn_get hb, ?_⟩
  split
  · exact ⟨rfl, rfl, fun _ => rfl⟩
  · rename_i e; exact ⟨rfl, rfl, fun h => absurd h e⟩

/-- So many bills, of these days, an amount dealt out equally. -/
def pl (due : Nat → Int) (x : Int) (m : Nat) : List Bi := (List.range m).map fun i => ⟨due i, pt x (m : Int) (i : Int), 0⟩
theorem pl_len (due : Nat → Int) (x : Int) (m : Nat) : (pl due x m).length = m := by simp [pl]
theorem pl_get {due : Nat → Int} {x : Int} {m i : Nat} (h : i < m) : (pl due x m)[i]? = some ⟨due i, pt x (m : Int) (i : Int), 0⟩ := by
  unfold pl
  rw [List.getElem?_map, List.getElem?_range h]; rfl
theorem pl_tn (due : Nat → Int) (x z : Int) (m : Nat) (y : Int) (M : Int) : ∀ k n : Nat, (∀ i, i < k → y < due (n + i)) → tn y z M n ((List.range k).map fun i => (⟨due (n + i), pt x (m : Int) ((n + i : Nat) : Int), 0⟩ : Bi)) = (List.range k).map fun i => (⟨due (n + i), pt z M ((n + i : Nat) : Int), 0⟩ : Bi) := by
  intro k
  induction k with
  | zero => intro n _; rfl
  | succ k ih =>
    intro n h
    rw [List.range_succ_eq_map, List.map_cons, List.map_cons, List.map_map, List.map_map]
    rw [tn_cons, if_neg (by have := h 0 (by omega); simp only at this ⊢; omega)]
    have hi := ih (n + 1) fun i hi => by have := h (i + 1) (by omega); rwa [show n + 1 + i = n + (i + 1) by omega]
    have e : ∀ (f : Nat → Bi), (List.range k).map (f ∘ Nat.succ) = (List.range k).map fun i => f (i + 1) := fun f => rfl
    rw [e, e]
    rw [show (fun i : Nat => (⟨due (n + 1 + i), pt x (m : Int) ((n + 1 + i : Nat) : Int), 0⟩ : Bi)) = fun i => ⟨due (n + (i + 1)), pt x (m : Int) ((n + (i + 1) : Nat) : Int), 0⟩ from funext fun i => by rw [show n + 1 + i = n + (i + 1) by omega], show (fun i : Nat => (⟨due (n + 1 + i), pt z M ((n + 1 + i : Nat) : Int), 0⟩ : Bi)) = fun i => ⟨due (n + (i + 1)), pt z M ((n + (i + 1) : Nat) : Int), 0⟩ from funext fun i => by rw [show n + 1 + i = n + (i + 1) by omega]] at hi
    rw [hi]
    simp
theorem pl_later {due : Nat → Int} {x : Int} {m : Nat} {y : Int} (h : ∀ i, i < m → y < due i) : lc y (pl due x m) = m ∧ ea y (pl due x m) = 0 ∧ lp y (pl due x m) = 0 ∧ pd (pl due x m) = 0 := by
  have key : ∀ l : List Bi, (∀ b ∈ l, y < b.d ∧ b.p = 0) → lc y l = l.length ∧ ea y l = 0 ∧ lp y l = 0 ∧ pd l = 0 := by
    intro l
    induction l with
    | nil => intro _; exact ⟨rfl, rfl, rfl, rfl⟩
    | cons b t ih =>
      intro hb
      have h0 := hb b List.mem_cons_self
      obtain ⟨i1, i2, i3, i4⟩ := ih fun c hc => hb c (List.mem_cons_of_mem _ hc)
      rw [lc_cons, ea_cons, lp_cons, pd_cons, if_neg (by omega), if_neg (by omega), if_neg (by omega), i1, i2, i3, i4, h0.2, List.length_cons]
      exact ⟨by omega, rfl, rfl, rfl⟩
  have := key (pl due x m) fun b hb => by
    obtain ⟨i, hi, rfl⟩ := List.mem_map.1 hb
    exact ⟨h i (List.mem_range.1 hi), rfl⟩
  rw [pl_len] at this
  exact this
theorem pl_am {due : Nat → Int} {x : Int} {m : Nat} {y : Int} (hm : 0 < m) (h : ∀ i, i < m → y < due i) : am (pl due x m) = x := by
  have e := pl_tn due x x m y (m : Int) m 0 fun i hi => by rw [Nat.zero_add]; exact h i hi
  simp only [Nat.zero_add] at e
  have e : tn y x (m : Int) 0 (pl due x m) = pl due x m := e
  obtain ⟨i1, i2, i3, _⟩ := pl_later (x := x) h
  have := tn_am (y := y) (x := x) (m := (m : Int)) (by omega) (pl due x m) 0
  rw [e, i1, i2, i3, Nat.zero_add, Int.mul_ediv_cancel _ (by omega), show ((0 : Nat) : Int) = 0 from rfl, Int.mul_zero, Int.zero_ediv] at this
  omega
/-- A plan, of days that don't fall, may be. -/
theorem pl_rt {due : Nat → Int} {x : Int} {m : Nat} (hm : 0 < m) (hm2 : m ≤ 100) (hx : 0 ≤ x ∧ x ≤ 4000000000000000000) (hd : ∀ i, i < m → 1 ≤ due i ∧ due i ≤ 292194) (hr : ∀ i, i + 1 < m → due i ≤ due (i + 1)) : rt (pl due x m) = true := by
  have hy : ∀ i, i < m → (0 : Int) < due i := fun i hi => by have := hd i hi; omega
  refine rt_iff.2 ⟨by rw [pl_len]; exact hm2, rg_of ?_ (fun b hb => ?_) (by rw [pl_am hm hy]; omega)⟩
  · have key : ∀ (f : Nat → Int) (k n : Nat) (q : Int), (∀ i, i < k → 1 ≤ due (n + i) ∧ due (n + i) ≤ 292194) → (∀ i, i + 1 < k → due (n + i) ≤ due (n + i + 1)) → (0 < k → q ≤ due n) → dy q ((List.range k).map fun i => (⟨due (n + i), f (n + i), 0⟩ : Bi)) = true := by
      intro f k
      induction k with
      | zero => intro n q _ _ _; rfl
      | succ k ih =>
        intro n q h1 h2 h3
        rw [List.range_succ_eq_map, List.map_cons, List.map_map]
        have h0 := h1 0 (by omega)
        refine dy_cons.2 ⟨⟨h0.1, h0.2, h3 (by omega)⟩, ?_⟩
        have hi := ih (n + 1) (due (n + 0)) (fun i hi => by have := h1 (i + 1) (by omega); rwa [show n + 1 + i = n + (i + 1) by omega]) (fun i hi => by have := h2 (i + 1) (by omega); rwa [show n + 1 + i = n + (i + 1) by omega]) (fun hk => by have := h2 0 (by omega); exact this)
        rw [show (fun i : Nat => (⟨due (n + 1 + i), f (n + 1 + i), 0⟩ : Bi)) = (fun i => (⟨due (n + i), f (n + i), 0⟩ : Bi)) ∘ Nat.succ from funext fun i => by show _ = (⟨due (n + (i + 1)), f (n + (i + 1)), 0⟩ : Bi); rw [show n + 1 + i = n + (i + 1) by omega]] at hi
        exact hi
    have := key (fun i => pt x (m : Int) (i : Int)) m 0 1 (fun i hi => by rw [Nat.zero_add]; exact hd i hi) (fun i hi => by rw [Nat.zero_add]; exact hr i hi) (fun hk => (hd 0 hk).1)
    simp only [Nat.zero_add] at this
    exact this
  · obtain ⟨i, hi, rfl⟩ := List.mem_map.1 hb
    exact ⟨Int.le_refl _, (pt_nonneg hx.1 (by omega) (by omega)).1⟩
/-- A plan turned to another sum is that sum's plan. -/
theorem pl_turn {due : Nat → Int} {x z : Int} {m : Nat} {y : Int} (hr : rt (pl due x m) = true) (hm : 0 < m) (hz : 0 ≤ z ∧ z ≤ 4000000000000000000) (h : ∀ i, i < m → y < due i) : tc (pl due x m) z y = 0 ∧ tl (pl due x m) z y = pl due z m := by
  obtain ⟨i1, i2, i3, i4⟩ := pl_later (x := x) h
  have hc : tc (pl due x m) z y = 0 := by
    unfold tc
    rw [if_pos ⟨hr, hz⟩, i1, if_neg (by omega), i2, i3, if_neg (by omega)]
  refine ⟨hc, ?_⟩
  unfold tl
  rw [if_pos hc, i1, i2, i3, Int.sub_zero, Int.sub_zero]
  have e := pl_tn due x z m y (m : Int) m 0 fun i hi => by rw [Nat.zero_add]; exact h i hi
  simp only [Nat.zero_add] at e
  exact e

end Bil
end Go.Proofs.YtncndofhecdgnaaDoor
