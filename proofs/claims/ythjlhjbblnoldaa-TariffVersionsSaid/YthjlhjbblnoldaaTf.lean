/-
  Versions and tariffs without the model: which may be, the version of a day, a version put. Conditions: those of each theorem.
-/
import Derived.Test.YthjlhjbblnoldaaBa
namespace Tf
open Ba

/-- A version: its numbers and its lists. -/
structure Ve where
  fr : Int
  b0 : Int
  b1 : Int
  b2 : Int
  b3 : Int
  ag : List Pr
  zn : List Int
  pe : List Int
  mn : Int

def zeroV : Ve := ⟨0, 0, 0, 0, 0, [], [], [], 0⟩

/-- All are factors. -/
def fac : List Int → Bool
  | [] => true
  | x :: xs => wi x 0 100000 && fac xs
theorem fac_no {x : Int} {xs : List Int} (h : wi x 0 100000 = false) : fac (x :: xs) = false := by simp only [fac]; rw [h]; rfl
theorem fac_yes {x : Int} {xs : List Int} (h : wi x 0 100000 = true) : fac (x :: xs) = fac xs := by simp only [fac]; rw [h]; rfl

/-- A version may be. -/
def ver (v : Ve) : Bool := wi v.fr 1 292194 && (wi v.mn 0 1000000000000000 && (wi (v.zn.length : Int) 1 100 && (decide (v.pe.length = 8) && (fac [v.b0, v.b1, v.b2, v.b3] && (fac v.zn && (fac v.pe && bds v.ag))))))
theorem ver_fr {v : Ve} (h : ver v = true) : 1 ≤ v.fr ∧ v.fr ≤ 292194 := by
  unfold ver at h
  rw [Bool.and_eq_true] at h
  exact wi_iff.1 h.1

/-- Versions by Froms that rise from last on. -/
def rise (last : Int) : List Ve → Bool
  | [] => true
  | v :: vs => !decide (v.fr ≤ last) && (ver v && rise v.fr vs)
theorem rise_no1 {last : Int} {v : Ve} {vs : List Ve} (h : v.fr ≤ last) : rise last (v :: vs) = false := by simp only [rise]; rw [decide_eq_true h]; rfl
theorem rise_no2 {last : Int} {v : Ve} {vs : List Ve} (h : ver v = false) : rise last (v :: vs) = false := by simp only [rise]; rw [h]; simp
theorem rise_yes {last : Int} {v : Ve} {vs : List Ve} (h : ¬ v.fr ≤ last) (h2 : ver v = true) : rise last (v :: vs) = rise v.fr vs := by simp only [rise]; rw [h2, decide_eq_false h]; rfl
theorem rise_cons {last : Int} {v : Ve} {vs : List Ve} (h : rise last (v :: vs) = true) : last < v.fr ∧ ver v = true ∧ rise v.fr vs = true := by
  simp only [rise, Bool.and_eq_true, Bool.not_eq_true', decide_eq_false_iff_not] at h
  exact ⟨by omega, h.2.1, h.2.2⟩
/-- A tariff may be. -/
def rgt (vs : List Ve) : Bool := decide (vs.length ≤ 100) && rise 0 vs
theorem rgt_far {vs : List Ve} (h : 100 < vs.length) : rgt vs = false := by unfold rgt; rw [decide_eq_false (by omega)]; rfl
theorem rgt_near {vs : List Ve} (h : vs.length ≤ 100) : rgt vs = rise 0 vs := by unfold rgt; rw [decide_eq_true h]; rfl
theorem rgt_rise {vs : List Ve} (h : rgt vs = true) : vs.length ≤ 100 ∧ rise 0 vs = true := by
  unfold rgt at h
  rw [Bool.and_eq_true, decide_eq_true_eq] at h
  exact h
theorem rise_mem {last : Int} {vs : List Ve} (h : rise last vs = true) : ∀ x ∈ vs, last < x.fr ∧ ver x = true := by
  induction vs generalizing last with
  | nil => intro x hx; cases hx
  | cons y ys ih =>
    obtain ⟨h1, h2, h3⟩ := rise_cons h
    intro x hx
    rcases List.mem_cons.1 hx with rfl | hx
    · exact ⟨h1, h2⟩
    · have := ih h3 x hx
      exact ⟨by omega, this.2⟩
theorem rise_lt {last : Int} {vs : List Ve} (h : rise last vs = true) {i j : Nat} {x y : Ve} (hij : i < j) (hx : vs[i]? = some x) (hy : vs[j]? = some y) : x.fr < y.fr := by
  induction vs generalizing last i j with
  | nil => simp at hx
  | cons z zs ih =>
    obtain ⟨_, _, h3⟩ := rise_cons h
    cases j with
    | zero => omega
    | succ j =>
      cases i with
      | zero =>
        simp at hx hy
        subst hx
        exact (rise_mem h3 y (List.mem_of_getElem? hy)).1
      | succ i => exact ih h3 (i := i) (j := j) (by omega) (by simpa using hx) (by simpa using hy)

/-- The last version whose From is not behind a day. -/
def lst (day : Int) : List Ve → Option Ve
  | [] => none
  | v :: vs => match lst day vs with
    | some x => some x
    | none => if v.fr ≤ day then some v else none
theorem lst_some {day : Int} {v x : Ve} {vs : List Ve} (h : lst day vs = some x) : lst day (v :: vs) = some x := by simp only [lst, h]
theorem lst_none {day : Int} {v : Ve} {vs : List Ve} (h : lst day vs = none) : lst day (v :: vs) = if v.fr ≤ day then some v else none := by simp only [lst, h]
theorem lst_drop {day : Int} {vs : List Ve} {x : Ve} : ∀ k, lst day (vs.drop k) = some x → lst day vs = some x := by
  induction vs with
  | nil => intro k h; simpa using h
  | cons y ys ih =>
    intro k h
    cases k with
    | zero => exact h
    | succ k => exact lst_some (ih k (by simpa using h))
theorem lst_at {day : Int} {vs : List Ve} {k : Nat} {x : Ve} (hx : vs[k]? = some x) (hn : lst day (vs.drop (k + 1)) = none) (hd : x.fr ≤ day) : lst day vs = some x := by
  refine lst_drop k ?_
  rw [drop_get hx, lst_none hn, if_pos hd]
theorem lst_not {day : Int} {vs : List Ve} {k : Nat} {x : Ve} (hx : vs[k]? = some x) (hn : lst day (vs.drop (k + 1)) = none) (hd : ¬ x.fr ≤ day) : lst day (vs.drop k) = none := by
  rw [drop_get hx, lst_none hn, if_neg hd]
theorem lst_mem {day : Int} {vs : List Ve} {x : Ve} (h : lst day vs = some x) : x ∈ vs ∧ x.fr ≤ day := by
  induction vs with
  | nil => cases h
  | cons y ys ih =>
    cases e : lst day ys with
    | some z =>
      rw [lst_some e] at h
      injection h with h
      subst h
      exact ⟨List.mem_cons_of_mem _ (ih e).1, (ih e).2⟩
    | none =>
      rw [lst_none e] at h
      by_cases hy : y.fr ≤ day
      · rw [if_pos hy] at h; injection h with h; subst h; exact ⟨by simp, hy⟩
      · rw [if_neg hy] at h; cases h

/-- A version put in its place. -/
def ins (v : Ve) : List Ve → List Ve
  | [] => [v]
  | x :: xs => if x.fr < v.fr then x :: ins v xs else v :: x :: xs
theorem ins_lt {v x : Ve} {xs : List Ve} (h : x.fr < v.fr) : ins v (x :: xs) = x :: ins v xs := by simp only [ins]; rw [if_pos h]
theorem ins_ge {v x : Ve} {xs : List Ve} (h : ¬ x.fr < v.fr) : ins v (x :: xs) = v :: x :: xs := by simp only [ins]; rw [if_neg h]
theorem ins_length (v : Ve) (vs : List Ve) : (ins v vs).length = vs.length + 1 := by
  induction vs with
  | nil => rfl
  | cons x xs ih =>
    by_cases h : x.fr < v.fr
    · rw [ins_lt h]; simp [ih]
    · rw [ins_ge h]; simp
theorem ins_place {v : Ve} {vs : List Ve} {p : Nat} (hp : p ≤ vs.length) (h1 : ∀ i x, i < p → vs[i]? = some x → x.fr < v.fr) (h2 : ∀ i x, p ≤ i → vs[i]? = some x → v.fr ≤ x.fr) : ins v vs = vs.take p ++ [v] ++ vs.drop p := by
  induction vs generalizing p with
  | nil =>
    have : p = 0 := by simpa using hp
    subst this
    rfl
  | cons x xs ih =>
    cases p with
    | zero =>
      rw [ins_ge (by have := h2 0 x (Nat.le_refl _) (by simp); omega)]
      rfl
    | succ p =>
      rw [ins_lt (h1 0 x (by omega) (by simp)), ih (p := p) (by simpa using hp) (fun i y hi hy => h1 (i + 1) y (by omega) (by simpa using hy)) (fun i y hi hy => h2 (i + 1) y (by omega) (by simpa using hy))]
      simp
/-- Is there a version of that From? -/
def has (f : Int) (vs : List Ve) : Bool := vs.any fun x => decide (x.fr = f)
theorem has_at {f : Int} {vs : List Ve} {p : Nat} (h1 : ∀ i x, i < p → vs[i]? = some x → x.fr < f) {x : Ve} (hx : vs[p]? = some x) (he : x.fr = f) : has f vs = true := by
  unfold has
  rw [List.any_eq_true]
  exact ⟨x, List.mem_of_getElem? hx, decide_eq_true he⟩
theorem has_not {f : Int} {vs : List Ve} (h : ∀ x ∈ vs, x.fr ≠ f) : has f vs = false := by
  cases e : has f vs
  · rfl
  · unfold has at e
    rw [List.any_eq_true] at e
    obtain ⟨x, hx, e⟩ := e
    exact absurd (of_decide_eq_true e) (h x hx)
theorem has_false {f : Int} {vs : List Ve} (h : has f vs = false) : ∀ x ∈ vs, x.fr ≠ f := by
  intro x hx e
  have : has f vs = true := by
    unfold has
    rw [List.any_eq_true]
    exact ⟨x, hx, decide_eq_true e⟩
  rw [h] at this
  cases this
theorem has_ins (f : Int) (v : Ve) (vs : List Ve) : has f (ins v vs) = (decide (v.fr = f) || has f vs) := by
  induction vs with
  | nil => rfl
  | cons x xs ih =>
    by_cases h : x.fr < v.fr
    · rw [ins_lt h]
      unfold has at ih ⊢
      rw [List.any_cons, ih, List.any_cons]
      cases decide (x.fr = f) <;> cases decide (v.fr = f) <;> simp
    · rw [ins_ge h]; rfl
theorem rise_ins {last : Int} {v : Ve} {vs : List Ve} (h : rise last vs = true) (hv : ver v = true) (hl : last < v.fr) (hn : ∀ x ∈ vs, x.fr ≠ v.fr) : rise last (ins v vs) = true := by
  induction vs generalizing last with
  | nil => show rise last [v] = true; rw [rise_yes (by omega) hv]; rfl
  | cons x xs ih =>
    obtain ⟨h1, h2, h3⟩ := rise_cons h
    by_cases hx : x.fr < v.fr
    · rw [ins_lt hx, rise_yes (by omega) h2]
      exact ih h3 hx fun y hy => hn y (List.mem_cons_of_mem _ hy)
    · have := hn x (by simp)
      rw [ins_ge hx, rise_yes (by omega) hv, rise_yes (by omega) h2]
      exact h3
theorem ins_comm {v w : Ve} (hne : v.fr ≠ w.fr) (vs : List Ve) : ins w (ins v vs) = ins v (ins w vs) := by
  induction vs with
  | nil =>
    show ins w [v] = ins v [w]
    by_cases h : v.fr < w.fr
    · rw [ins_lt h, ins_ge (by omega)]; rfl
    · rw [ins_ge h, ins_lt (by omega)]; rfl
  | cons x xs ih =>
    by_cases h1 : x.fr < v.fr <;> by_cases h2 : x.fr < w.fr
    · rw [ins_lt h1, ins_lt h2, ins_lt h2, ins_lt h1, ih]
    · rw [ins_lt h1, ins_ge h2, ins_ge h2, ins_lt (by omega), ins_lt h1]
    · rw [ins_ge h1, ins_lt h2, ins_lt (by omega), ins_lt h2, ins_ge h1]
    · rw [ins_ge h1, ins_ge h2]
      by_cases h : v.fr < w.fr
      · rw [ins_lt h, ins_ge h2, ins_ge (by omega)]
      · rw [ins_ge h, ins_lt (by omega), ins_ge h1]
/-- What is told of a day behind a version put. -/
theorem lst_ins {day last : Int} {v : Ve} {vs : List Ve} (h : rise last vs = true) (hn : ∀ x ∈ vs, x.fr ≠ v.fr) :
    lst day (ins v vs) = if v.fr ≤ day ∧ ∀ x, lst day vs = some x → x.fr < v.fr then some v else lst day vs := by
  induction vs generalizing last with
  | nil =>
    show lst day [v] = _
    rw [lst_none rfl]
    by_cases hd : v.fr ≤ day
    · rw [if_pos hd, if_pos ⟨hd, fun x hx => by cases hx⟩]
    · rw [if_neg hd, if_neg (fun e => hd e.1)]; rfl
  | cons x xs ih =>
    obtain ⟨h1, h2, h3⟩ := rise_cons h
    have ih' := ih h3 fun y hy => hn y (List.mem_cons_of_mem _ hy)
    by_cases hx : x.fr < v.fr
    · rw [ins_lt hx]
      cases e : lst day xs with
      | some y =>
        rw [e] at ih'
        rw [lst_some e]
        by_cases c : v.fr ≤ day ∧ ∀ z, some y = some z → z.fr < v.fr
        · rw [if_pos c] at ih' ⊢; exact lst_some ih'
        · rw [if_neg c] at ih' ⊢; exact lst_some ih'
      | none =>
        rw [e] at ih'
        rw [lst_none e]
        by_cases hd : v.fr ≤ day
        · rw [if_pos ⟨hd, fun z hz => by cases hz⟩] at ih'
          rw [lst_some ih', if_pos ⟨hd, fun z hz => by
            by_cases c : x.fr ≤ day
            · rw [if_pos c] at hz; injection hz with hz; subst hz; exact hx
            · rw [if_neg c] at hz; cases hz⟩]
        · rw [if_neg (fun c => hd c.1)] at ih'
          rw [lst_none ih', if_neg (c := v.fr ≤ day ∧ _) (fun c => hd c.1)]
    · have hne := hn x (by simp)
      rw [ins_ge hx]
      cases e : lst day (x :: xs) with
      | some y =>
        rw [lst_some e, if_neg]
        rintro ⟨_, c⟩
        have h4 := c y rfl
        have h5 : x.fr ≤ y.fr := by
          rcases List.mem_cons.1 (lst_mem e).1 with rfl | hy
          · exact Int.le_refl _
          · have := (rise_mem h3 y hy).1; omega
        omega
      | none =>
        rw [lst_none e]
        by_cases hd : v.fr ≤ day
        · rw [if_pos hd, if_pos ⟨hd, fun z hz => by cases hz⟩]
        · rw [if_neg hd, if_neg (fun c => hd c.1)]

/-- The code of Put, and the tariff. -/
def cd (vs : List Ve) (v : Ve) : Int := if rgt vs = true ∧ ver v = true then (if has v.fr vs = true then 8 else if vs.length = 100 then 2 else 0) else 1
def pt (vs : List Ve) (v : Ve) : List Ve := if cd vs v = 0 then ins v vs else []
theorem cd_arg {vs : List Ve} {v : Ve} (h : ¬ (rgt vs = true ∧ ver v = true)) : cd vs v = 1 := by unfold cd; rw [if_neg h]
theorem cd_there {vs : List Ve} {v : Ve} (h : rgt vs = true) (h2 : ver v = true) (h3 : has v.fr vs = true) : cd vs v = 8 := by unfold cd; rw [if_pos ⟨h, h2⟩, if_pos h3]
theorem cd_bound {vs : List Ve} {v : Ve} (h : rgt vs = true) (h2 : ver v = true) (h3 : has v.fr vs = false) (h4 : vs.length = 100) : cd vs v = 2 := by unfold cd; rw [if_pos ⟨h, h2⟩, if_neg (by rw [h3]; simp), if_pos h4]
theorem cd_ok {vs : List Ve} {v : Ve} (h : rgt vs = true) (h2 : ver v = true) (h3 : has v.fr vs = false) (h4 : vs.length ≠ 100) : cd vs v = 0 := by unfold cd; rw [if_pos ⟨h, h2⟩, if_neg (by rw [h3]; simp), if_neg h4]
theorem cd_zero {vs : List Ve} {v : Ve} (h : cd vs v = 0) : rgt vs = true ∧ ver v = true ∧ has v.fr vs = false ∧ vs.length ≠ 100 := by
  unfold cd at h
  by_cases h1 : rgt vs = true ∧ ver v = true
  · rw [if_pos h1] at h
    by_cases h2 : has v.fr vs = true
    · rw [if_pos h2] at h; omega
    · rw [if_neg h2] at h
      by_cases h3 : vs.length = 100
      · rw [if_pos h3] at h; omega
      · exact ⟨h1.1, h1.2, by simpa using h2, h3⟩
  · rw [if_neg h1] at h; omega
theorem pt_ok {vs : List Ve} {v : Ve} (h : cd vs v = 0) : pt vs v = ins v vs := by unfold pt; rw [if_pos h]
theorem pt_no {vs : List Ve} {v : Ve} (h : cd vs v ≠ 0) : pt vs v = [] := by unfold pt; rw [if_neg h]
theorem rgt_put {vs : List Ve} {v : Ve} (h : cd vs v = 0) : rgt (ins v vs) = true := by
  obtain ⟨h1, h2, h3, h4⟩ := cd_zero h
  obtain ⟨h5, h6⟩ := rgt_rise h1
  rw [rgt_near (by rw [ins_length]; omega)]
  exact rise_ins h6 h2 (by have := ver_fr h2; omega) (has_false h3)
/-- Two versions put one behind the other. -/
theorem put_two {vs : List Ve} {v w : Ve} (hl : vs.length ≤ 98) (h1 : cd vs v = 0) (h2 : cd vs w = 0) : cd (ins v vs) w = if v.fr = w.fr then 8 else 0 := by
  obtain ⟨_, g2, g3, _⟩ := cd_zero h2
  have hh := has_ins w.fr v vs
  rw [g3, Bool.or_false] at hh
  by_cases h : v.fr = w.fr
  · rw [if_pos h]
    exact cd_there (rgt_put h1) g2 (by rw [hh]; exact decide_eq_true h)
  · rw [if_neg h]
    exact cd_ok (rgt_put h1) g2 (by rw [hh]; exact decide_eq_false h) (by rw [ins_length]; omega)

/-- The greatest From that is not behind a day. -/
def mst (day : Int) : Int → List Ve → Int
  | acc, [] => acc
  | acc, v :: vs => mst day (if v.fr ≤ day then max acc v.fr else acc) vs
theorem mst_lst {day acc last : Int} {vs : List Ve} (h : rise last vs = true) (ha : acc ≤ last) : mst day acc vs = match lst day vs with | some x => x.fr | none => acc := by
  induction vs generalizing last acc with
  | nil => rfl
  | cons x xs ih =>
    obtain ⟨h1, h2, h3⟩ := rise_cons h
    simp only [mst]
    by_cases hd : x.fr ≤ day
    · rw [if_pos hd, ih h3 (by omega)]
      cases e : lst day xs with
      | some y => rw [lst_some e]
      | none => rw [lst_none e, if_pos hd]; simp only; omega
    · rw [if_neg hd, ih h3 (by omega)]
      cases e : lst day xs with
      | some y => rw [lst_some e]
      | none => rw [lst_none e, if_neg hd]
theorem mst_snoc {day acc : Int} {vs : List Ve} {v : Ve} : mst day acc (vs ++ [v]) = if v.fr ≤ day then max (mst day acc vs) v.fr else mst day acc vs := by
  induction vs generalizing acc with
  | nil => rfl
  | cons x xs ih => simp only [List.cons_append, mst]; exact ih
theorem lst_later {a b last : Int} {vs : List Ve} (h : rise last vs = true) (hab : a ≤ b) {x : Ve} (hx : lst a vs = some x) : ∃ y, lst b vs = some y ∧ x.fr ≤ y.fr := by
  induction vs generalizing last with
  | nil => cases hx
  | cons z zs ih =>
    obtain ⟨h1, h2, h3⟩ := rise_cons h
    cases e : lst a zs with
    | some u =>
      rw [lst_some e] at hx
      injection hx with hx
      subst hx
      obtain ⟨y, hy, hle⟩ := ih h3 e
      exact ⟨y, lst_some hy, hle⟩
    | none =>
      rw [lst_none e] at hx
      by_cases hd : z.fr ≤ a
      · rw [if_pos hd] at hx
        injection hx with hx
        subst hx
        cases e2 : lst b zs with
        | some y => exact ⟨y, lst_some e2, by have := (rise_mem h3 y (lst_mem e2).1).1; omega⟩
        | none => exact ⟨z, by rw [lst_none e2, if_pos (by omega)], Int.le_refl _⟩
      · rw [if_neg hd] at hx; cases hx
end Tf
