/-
  Spans of days as pairs of numbers: which are right, how many days, shared days, what is left; rows of spans that rise and are apart; parts of a span. No model's run in this text. Conditions: those of each theorem.
-/
namespace Go.Proofs.YtncndofhecdgnaaDoor.Sp
set_option linter.unusedVariables false

abbrev Sp := Int × Int

def rt (x : Sp) : Bool := decide (1 ≤ x.1) && decide (x.1 ≤ x.2) && decide (x.2 ≤ 292195)
def mn (x : Sp) : Int := if rt x = true then x.2 - x.1 else 0
def inn (x : Sp) (d : Int) : Bool := rt x && decide (x.1 ≤ d) && decide (d < x.2)
def has (x : Sp) : Bool := decide (0 < mn x)
def bt (a b : Sp) : Sp := (max a.1 b.1, min a.2 b.2)
def ct (a b : Sp) : Sp := if rt a = true ∧ rt b = true ∧ has (bt a b) = true then bt a b else (0, 0)
def kp (xs : List Sp) : List Sp := xs.filter has
def ls (a b : Sp) : List Sp := if ct a b = (0, 0) then kp [a] else kp [(a.1, (ct a b).1), ((ct a b).2, a.2)]

theorem rt_iff (x : Sp) : rt x = true ↔ 1 ≤ x.1 ∧ x.1 ≤ x.2 ∧ x.2 ≤ 292195 := by simp [rt, and_assoc]
theorem rt_not (x : Sp) : rt x = false ↔ ¬ (1 ≤ x.1 ∧ x.1 ≤ x.2 ∧ x.2 ≤ 292195) := by rw [← rt_iff]; cases rt x <;> simp
theorem has_iff (x : Sp) : has x = true ↔ 1 ≤ x.1 ∧ x.1 < x.2 ∧ x.2 ≤ 292195 := by
  have e : has x = true ↔ 0 < mn x := by simp [has]
  rw [e]
  by_cases h : rt x = true
  · rw [mn, if_pos h]; rw [rt_iff] at h; refine ⟨fun _ => ?_, fun _ => ?_⟩ <;> omega
  · rw [mn, if_neg h]; rw [rt_iff] at h; refine ⟨fun _ => ?_, fun _ => ?_⟩ <;> omega
theorem has_not (x : Sp) : has x = false ↔ ¬ (1 ≤ x.1 ∧ x.1 < x.2 ∧ x.2 ≤ 292195) := by rw [← has_iff]; cases has x <;> simp
theorem has_rt {x : Sp} (h : has x = true) : rt x = true := by rw [has_iff] at h; rw [rt_iff]; omega
theorem inn_iff (x : Sp) (d : Int) : inn x d = true ↔ 1 ≤ x.1 ∧ x.2 ≤ 292195 ∧ x.1 ≤ d ∧ d < x.2 := by
  simp only [inn, Bool.and_eq_true, rt_iff, decide_eq_true_eq]; omega
theorem inn_has {x : Sp} {d : Int} (h : inn x d = true) : has x = true := by rw [inn_iff] at h; rw [has_iff]; omega
theorem mn_has {x : Sp} (h : has x = true) : mn x = x.2 - x.1 := by rw [mn, if_pos (has_rt h)]
theorem mn_no {x : Sp} (h : has x = false) : mn x = 0 := by
  rw [has_not] at h; unfold mn; split
  · rename_i hr; rw [rt_iff] at hr; omega
  · rfl
theorem mn_bd (x : Sp) : 0 ≤ mn x ∧ mn x ≤ 292194 := by
  unfold mn; split
  · rename_i hr; rw [rt_iff] at hr; omega
  · omega

/-- The row has a day. -/
def hit (xs : List Sp) (d : Int) : Prop := ∃ x ∈ xs, inn x d = true
theorem hit_kp (xs : List Sp) (d : Int) : hit (kp xs) d ↔ hit xs d := by
  constructor
  · rintro ⟨x, hx, h⟩; exact ⟨x, (List.mem_filter.1 hx).1, h⟩
  · rintro ⟨x, hx, h⟩; exact ⟨x, List.mem_filter.2 ⟨hx, inn_has h⟩, h⟩
theorem hit_nil (d : Int) : ¬ hit [] d := by rintro ⟨x, hx, _⟩; cases hx
theorem hit_cons (x : Sp) (xs : List Sp) (d : Int) : hit (x :: xs) d ↔ inn x d = true ∨ hit xs d := by
  simp [hit]
theorem hit_append (xs ys : List Sp) (d : Int) : hit (xs ++ ys) d ↔ hit xs d ∨ hit ys d := by
  simp only [hit, List.mem_append]
  constructor
  · rintro ⟨x, hx | hx, h⟩
    · exact .inl ⟨x, hx, h⟩
    · exact .inr ⟨x, hx, h⟩
  · rintro (⟨x, hx, h⟩ | ⟨x, hx, h⟩)
    · exact ⟨x, .inl hx, h⟩
    · exact ⟨x, .inr hx, h⟩

/-- What two spans share. -/
theorem ct_inn (a b : Sp) (d : Int) : inn (ct a b) d = true ↔ inn a d = true ∧ inn b d = true := by
  unfold ct
  split
  · rename_i h
    obtain ⟨ha, hb, hc⟩ := h
    rw [rt_iff] at ha hb; rw [has_iff] at hc
    simp only [inn_iff, bt] at *; omega
  · rename_i h
    rw [rt_iff, rt_iff, has_iff] at h
    simp only [inn_iff, bt] at *; omega
theorem ct_zero (a b : Sp) : ct a b = (0, 0) ↔ has (ct a b) = false := by
  constructor
  · intro h; rw [h]; decide
  · intro h
    unfold ct at *
    split
    · rename_i hh; rw [if_pos hh] at h; rw [hh.2.2] at h; cases h
    · rfl
theorem ct_comm (a b : Sp) : ct a b = ct b a := by
  have e : bt a b = bt b a := by simp only [bt, Int.max_comm, Int.min_comm]
  unfold ct
  rw [e]
  by_cases h : rt a = true ∧ rt b = true ∧ has (bt b a) = true
  · rw [if_pos h, if_pos ⟨h.2.1, h.1, h.2.2⟩]
  · rw [if_neg h, if_neg (fun h' => h ⟨h'.2.1, h'.1, h'.2.2⟩)]
/-- A share that has days: its form. -/
theorem ct_yes {a b : Sp} (h : ct a b ≠ (0, 0)) : rt a = true ∧ rt b = true ∧ has (bt a b) = true ∧ ct a b = bt a b := by
  unfold ct at *
  split
  · rename_i hh; exact ⟨hh.1, hh.2.1, hh.2.2, rfl⟩
  · rename_i hh; rw [if_neg hh] at h; exact absurd rfl h

theorem kp_one (x : Sp) : kp [x] = if has x = true then [x] else [] := by
  unfold kp; by_cases h : has x = true <;> simp [List.filter, h]
theorem kp_append (xs ys : List Sp) : kp (xs ++ ys) = kp xs ++ kp ys := List.filter_append ..
theorem kp_two (x y : Sp) : kp [x, y] = kp [x] ++ kp [y] := by rw [← kp_append]; rfl

/-- How many of a row have a day. -/
def cnt (xs : List Sp) (d : Int) : Nat := xs.countP (fun x => inn x d)
theorem cnt_kp (xs : List Sp) (d : Int) : cnt (kp xs) d = cnt xs d := by
  induction xs with
  | nil => rfl
  | cons x xs ih =>
    unfold cnt kp at *
    simp only [List.filter_cons]
    by_cases h : has x = true
    · rw [if_pos h, List.countP_cons, List.countP_cons, ih]
    · rw [if_neg h, List.countP_cons, ih]
      have : inn x d = false := by cases hh : inn x d; rfl; exact absurd (inn_has hh) h
      simp [this]
theorem ls_cnt (a b : Sp) (d : Int) : cnt (ls a b) d = if inn a d = true ∧ inn b d = false then 1 else 0 := by
  have hc := ct_inn a b d
  unfold ls
  split
  · rename_i h
    rw [cnt_kp]
    rw [h] at hc
    have h0 : inn (0, 0) d = false := by cases hh : inn (0, 0) d; rfl; rw [inn_iff] at hh; simp at hh
    rw [h0] at hc
    unfold cnt
    cases ha : inn a d <;> cases hb : inn b d <;> simp_all
  · rename_i h
    obtain ⟨ha, hb, hs, e⟩ := ct_yes h
    rw [cnt_kp, e]
    rw [rt_iff] at ha hb; rw [has_iff] at hs
    simp only [bt] at hs
    unfold cnt
    simp only [List.countP_cons, List.countP_nil, bt]
    have i1 := inn_iff a d
    have i2 := inn_iff b d
    have i3 := inn_iff (a.1, max a.1 b.1) d
    have i4 := inn_iff (min a.2 b.2, a.2) d
    cases h1 : inn a d <;> cases h2 : inn b d <;> cases h3 : inn (a.1, max a.1 b.1) d <;> cases h4 : inn (min a.2 b.2, a.2) d <;> rw [h1] at i1 <;> rw [h2] at i2 <;> rw [h3] at i3 <;> rw [h4] at i4 <;> simp only [true_iff, false_iff, Bool.false_eq_true] at i1 i2 i3 i4 <;> simp <;> omega

/-- All days of a row together. -/
def tot (xs : List Sp) : Int := (xs.map mn).foldl (· + ·) 0
theorem foldl_add (xs : List Int) (a : Int) : xs.foldl (· + ·) a = a + xs.foldl (· + ·) 0 := by
  induction xs generalizing a with
  | nil => simp
  | cons x xs ih => simp only [List.foldl_cons]; rw [ih (a + x), ih (0 + x)]; omega
theorem tot_nil : tot [] = 0 := rfl
theorem tot_cons (x : Sp) (xs : List Sp) : tot (x :: xs) = mn x + tot xs := by
  unfold tot; rw [List.map_cons, List.foldl_cons, foldl_add]; omega
theorem tot_append (xs ys : List Sp) : tot (xs ++ ys) = tot xs + tot ys := by
  induction xs with
  | nil => simp [tot_nil]
  | cons x xs ih => rw [List.cons_append, tot_cons, tot_cons, ih]; omega
theorem tot_kp (xs : List Sp) : tot (kp xs) = tot xs := by
  induction xs with
  | nil => rfl
  | cons x xs ih =>
    unfold kp at *
    rw [List.filter_cons]
    by_cases h : has x = true
    · rw [if_pos h, tot_cons, tot_cons, ih]
    · rw [if_neg h, tot_cons, ih, mn_no (by simpa using h)]; omega
theorem ls_tot (a b : Sp) : mn (ct a b) + tot (ls a b) = mn a := by
  unfold ls
  split
  · rename_i h
    rw [h, tot_kp, tot_cons, tot_nil]
    have : mn (0, 0) = 0 := by decide
    omega
  · rename_i h
    obtain ⟨ha, hb, hs, e⟩ := ct_yes h
    rw [e, tot_kp, tot_cons, tot_cons, tot_nil]
    have hs' := hs
    rw [rt_iff] at ha hb; rw [has_iff] at hs
    simp only [bt] at hs
    have e1 : mn (bt a b) = min a.2 b.2 - max a.1 b.1 := mn_has hs'
    have e2 : mn a = a.2 - a.1 := by rw [mn, if_pos (by rw [rt_iff]; omega)]
    have e3 : mn (a.1, (bt a b).1) = max a.1 b.1 - a.1 := by rw [mn, if_pos (by rw [rt_iff]; simp only [bt]; omega)]; rfl
    have e4 : mn ((bt a b).2, a.2) = a.2 - min a.2 b.2 := by rw [mn, if_pos (by rw [rt_iff]; simp only [bt]; omega)]; rfl
    omega
theorem ls_mem {a b x : Sp} (h : x ∈ ls a b) : has x = true ∧ has (ct x b) = false := by
  have hx : has x = true := by
    unfold ls at h
    split at h <;> exact (List.mem_filter.1 h).2
  refine ⟨hx, ?_⟩
  cases hh : has (ct x b)
  · rfl
  · exfalso
    have hc := ls_cnt a b (ct x b).1
    rw [has_iff] at hh
    have h1 : inn (ct x b) (ct x b).1 = true := by rw [inn_iff]; omega
    obtain ⟨h2, h3⟩ := (ct_inn x b _).1 h1
    have : 0 < cnt (ls a b) (ct x b).1 := List.countP_pos_iff.2 ⟨x, h, h2⟩
    rw [h3] at hc
    simp at hc
    omega
theorem ls_len (a b : Sp) : (ls a b).length ≤ 2 := by
  unfold ls; split
  · exact Nat.le_trans (List.length_filter_le ..) (by simp)
  · exact Nat.le_trans (List.length_filter_le ..) (by simp)

/-- A row that rises, each with days, none touching another one. -/
def Apart : List Sp → Prop
  | [] => True
  | x :: xs => has x = true ∧ (∀ y ∈ xs, x.2 < y.1) ∧ Apart xs

theorem Apart.has {xs : List Sp} (h : Apart xs) : ∀ x ∈ xs, has x = true := by
  induction xs with
  | nil => intro x hx; cases hx
  | cons y ys ih =>
    intro x hx
    rcases List.mem_cons.1 hx with rfl | hx
    · exact h.1
    · exact ih h.2.2 x hx
theorem Apart.append {xs ys : List Sp} : Apart (xs ++ ys) ↔ Apart xs ∧ Apart ys ∧ ∀ x ∈ xs, ∀ y ∈ ys, x.2 < y.1 := by
  induction xs with
  | nil => simp [Apart]
  | cons x xs ih =>
    simp only [List.cons_append, Apart, ih, List.mem_append, List.mem_cons]
    constructor
    · rintro ⟨h1, h2, h3, h4, h5⟩
      refine ⟨⟨h1, fun y hy => h2 y (.inl hy), h3⟩, h4, ?_⟩
      rintro z (rfl | hz) y hy
      · exact h2 y (.inr hy)
      · exact h5 z hz y hy
    · rintro ⟨⟨h1, h2, h3⟩, h4, h5⟩
      refine ⟨h1, ?_, h3, h4, fun z hz y hy => h5 z (.inr hz) y hy⟩
      rintro y (hy | hy)
      · exact h2 y hy
      · exact h5 x (.inl rfl) y hy

theorem Apart.unique {xs ys : List Sp} (hx : Apart xs) (hy : Apart ys) (h : ∀ d, hit xs d ↔ hit ys d) : xs = ys := by
  induction xs generalizing ys with
  | nil =>
    cases ys with
    | nil => rfl
    | cons y ys =>
      exfalso
      have hh := hy.1
      rw [has_iff] at hh
      exact hit_nil y.1 ((h y.1).2 ⟨y, by simp, by rw [inn_iff]; omega⟩)
  | cons x xs ih =>
    cases ys with
    | nil =>
      exfalso
      have hh := hx.1
      rw [has_iff] at hh
      exact hit_nil x.1 ((h x.1).1 ⟨x, by simp, by rw [inn_iff]; omega⟩)
    | cons y ys =>
      have hxh := hx.1
      have hyh := hy.1
      rw [has_iff] at hxh hyh
      have later : ∀ {z : Sp} {zs : List Sp} (hz : Apart (z :: zs)) {d : Int}, hit zs d → z.2 < d := by
        rintro z zs hz d ⟨u, hu, hi⟩
        have := hz.2.1 u hu
        rw [inn_iff] at hi
        omega
      have e1 : x.1 = y.1 := by
        have a := (h x.1).1 ⟨x, by simp, by rw [inn_iff]; omega⟩
        have b := (h y.1).2 ⟨y, by simp, by rw [inn_iff]; omega⟩
        rw [hit_cons] at a b
        rcases a with a | a
        · rcases b with b | b
          · rw [inn_iff] at a b; omega
          · have := later hx b; rw [inn_iff] at a; omega
        · have := later hy a
          rcases b with b | b
          · rw [inn_iff] at b; omega
          · have := later hx b; omega
      have e2 : x.2 = y.2 := by
        rcases Int.lt_trichotomy x.2 y.2 with hlt | he | hgt
        · exfalso
          have a := (h x.2).2 ⟨y, by simp, by rw [inn_iff]; omega⟩
          rw [hit_cons] at a
          rcases a with a | a
          · rw [inn_iff] at a; omega
          · have := later hx a; omega
        · exact he
        · exfalso
          have a := (h y.2).1 ⟨x, by simp, by rw [inn_iff]; omega⟩
          rw [hit_cons] at a
          rcases a with a | a
          · rw [inn_iff] at a; omega
          · have := later hy a; omega
      have e : x = y := Prod.ext e1 e2
      subst e
      rw [ih hx.2.2 hy.2.2 fun d => ?_]
      have hd := h d
      rw [hit_cons, hit_cons] at hd
      constructor
      · intro a
        have := later hx a
        rcases hd.1 (.inr a) with b | b
        · rw [inn_iff] at b; omega
        · exact b
      · intro a
        have := later hy a
        rcases hd.2 (.inr a) with b | b
        · rw [inn_iff] at b; omega
        · exact b

/-- At most one of them has a day. -/
theorem Apart.cnt {xs : List Sp} (h : Apart xs) (d : Int) : cnt xs d ≤ 1 ∧ (cnt xs d = 1 ↔ hit xs d) := by
  have hp : 0 < Sp.cnt xs d ↔ hit xs d := by
    unfold Sp.cnt hit; rw [List.countP_pos_iff]
  have h1 : Sp.cnt xs d ≤ 1 := by
    clear hp
    induction xs with
    | nil => exact Nat.zero_le _
    | cons x xs ih =>
      unfold Sp.cnt at *
      rw [List.countP_cons]
      by_cases hx : inn x d = true
      · have : xs.countP (fun x => inn x d) = 0 := by
          rw [List.countP_eq_zero]
          intro y hy
          have := h.2.1 y hy
          rw [inn_iff] at hx
          simp only [Bool.not_eq_true]
          cases hh : inn y d
          · rfl
          · rw [inn_iff] at hh; omega
        simp [this, hx]
      · simp [hx]; exact ih h.2.2
  exact ⟨h1, by rw [← hp]; omega⟩

end Go.Proofs.YtncndofhecdgnaaDoor.Sp
