/-
  The parts StM, Ac, AcN of this proof. Conditions: those of each theorem.
-/
import Derived.Test.YtfidmphajohljaaGreatMMath
namespace Go.Proofs.YtfidmphajohljaaGreat
namespace Stm
set_option linter.unusedVariables false
abbrev Pr := Int × Int
def fits (v : Int) : Bool := decide (-4000000000000000000 ≤ v) && decide (v ≤ 4000000000000000000)
theorem fits_iff (v : Int) : fits v = true ↔ -4000000000000000000 ≤ v ∧ v ≤ 4000000000000000000 := by simp [fits]
theorem fits_not (v : Int) : fits v = false ↔ ¬ (-4000000000000000000 ≤ v ∧ v ≤ 4000000000000000000) := by rw [← fits_iff]; simp
def Rt (day held : Int) : List Pr → Prop
 | [] => True
 | x :: r => day < x.1 ∧ x.1 ≤ 292194 ∧ x.2 ≠ held ∧ Rt x.1 x.2 r
def Fit (ps : List Pr) : Prop := ∀ x ∈ ps, fits x.2 = true
def Right (ps : List Pr) : Prop := Rt 0 0 ps ∧ Fit ps
def val (held : Int) : List Pr → Int → Int
 | [], _ => held
 | x :: r, d => if x.1 ≤ d then val x.2 r d else held
theorem Rt.mem {day held : Int} {ps : List Pr} (h : Rt day held ps) : ∀ x ∈ ps, day < x.1 ∧ x.1 ≤ 292194 := by
 induction ps generalizing day held with
 | nil => intro x hx; cases hx
 | cons y r ih =>
  intro x hx; rcases List.mem_cons.1 hx with rfl | hx
  ·exact ⟨h.1, h.2.1⟩
  ·have h1 := ih h.2.2.2 x hx; have h2 := h.1; exact ⟨by omega, h1.2⟩
theorem val_lo {day held : Int} {ps : List Pr} {d : Int} (h : Rt day held ps) (hd : d ≤ day) : val held ps d = held := by
 cases ps with
 | nil => rfl
 | cons x r => rw [val, if_neg (by have := h.1; omega)]
theorem val_stay (held : Int) (ps : List Pr) (d : Int) (h : d ∉ ps.map (·.1)) : val held ps d = val held ps (d - 1) := by
 induction ps generalizing held with
 | nil => rfl
 | cons x r ih =>
  simp only [List.map_cons, List.mem_cons, not_or] at h; simp only [val]; rw [ih x.2 h.2]; by_cases hx : x.1 ≤ d
  ·rw [if_pos hx, if_pos (by have := h.1; omega)]
  ·rw [if_neg hx, if_neg (by omega)]
theorem val_jump {day held : Int} {ps : List Pr} (h : Rt day held ps) {d : Int} (hd : d ∈ ps.map (·.1)) : val held ps d ≠ val held ps (d - 1) := by
 induction ps generalizing day held with
 | nil => simp at hd
 | cons x r ih =>
  simp only [List.map_cons, List.mem_cons] at hd; by_cases hx : d = x.1
  ·subst hx; simp only [val]; rw [if_pos (Int.le_refl _), if_neg (by omega), val_lo h.2.2.2 (Int.le_refl _)]; exact h.2.2.1
  ·have hm : d ∈ r.map (·.1) := by rcases hd with e | e; exact absurd e hx; exact e
   obtain ⟨y, hy, e⟩ := List.mem_map.1 hm; have := (h.2.2.2.mem y hy).1; simp only [val]; rw [if_pos (by omega), if_pos (by omega)]; exact ih h.2.2.2 hm
theorem val_or (held : Int) (ps : List Pr) (d : Int) : val held ps d = held ∨ ∃ x ∈ ps, val held ps d = x.2 := by
 induction ps generalizing held with
 | nil => exact .inl rfl
 | cons y r ih =>
  simp only [val]; split
  ·rcases ih y.2 with e | ⟨x, hx, e⟩
   ·exact .inr ⟨y, List.mem_cons_self .., e⟩
   ·exact .inr ⟨x, List.mem_cons_of_mem _ hx, e⟩
  ·exact .inl rfl
theorem val_fits {ps : List Pr} (h : Fit ps) (d : Int) : fits (val 0 ps d) = true := by
 rcases val_or 0 ps d with e | ⟨x, hx, e⟩
 ·rw [e]; decide
 ·rw [e]; exact h x hx
theorem val_snoc {day held : Int} {ps : List Pr} {x : Pr} (h : Rt day held (ps ++ [x])) (d : Int) : val held (ps ++ [x]) d = if x.1 ≤ d then x.2 else val held ps d := by
 induction ps generalizing day held with
 | nil => rfl
 | cons y r ih =>
  simp only [List.cons_append, val]; have hm := (Rt.mem (ps := r ++ [x]) h.2.2.2 x (by simp)).1; by_cases hy : y.1 ≤ d
  ·rw [if_pos hy, if_pos hy, ih h.2.2.2]
  ·rw [if_neg hy, if_neg hy, if_neg (by omega)]
def lst (held : Int) : List Pr → Int
 | [] => held
 | x :: r => lst x.2 r
theorem val_lst (held : Int) (ps : List Pr) (d : Int) (h : ∀ x ∈ ps, x.1 ≤ d) : val held ps d = lst held ps := by
 induction ps generalizing held with
 | nil => rfl
 | cons y r ih =>
  simp only [val, lst]; rw [if_pos (h y (by simp)), ih y.2 fun x hx => h x (List.mem_cons_of_mem _ hx)]
theorem Rt.snoc {day held : Int} {ps : List Pr} {x : Pr} (h : Rt day held ps) (h1 : ∀ y ∈ ps, y.1 < x.1) (h0 : day < x.1) (h2 : x.1 ≤ 292194) (h3 : x.2 ≠ lst held ps) : Rt day held (ps ++ [x]) := by
 induction ps generalizing day held with
 | nil => exact ⟨h0, h2, h3, trivial⟩
 | cons y r ih =>
  exact ⟨h.1, h.2.1, h.2.2.1, ih h.2.2.2 (fun z hz => h1 z (List.mem_cons_of_mem _ hz)) (h1 y (by simp)) h3⟩
theorem take_more {α : Type} {xs : List α} {k : Nat} {x : α} (h : xs[k]? = some x) : xs.take (k + 1) = xs.take k ++ [x] := by
 obtain ⟨hl, e⟩ := List.getElem?_eq_some_iff.1 h; rw [List.take_succ_eq_append_getElem hl, e]
theorem found {day held : Int} {ps : List Pr} (h : Rt day held ps) (d : Int) :
  ((ps.map (·.1)).contains d = true → (ps.map (·.2))[(ps.map (·.1)).countP (· < d)]? = some (val held ps d)) ∧
  ((ps.map (·.1)).contains d = false → (ps.map (·.1)).countP (· < d) = 0 → val held ps d = held) ∧
  ((ps.map (·.1)).contains d = false → ∀ k, (ps.map (·.1)).countP (· < d) = k + 1 → (ps.map (·.2))[k]? = some (val held ps d)) := by
 induction ps generalizing day held with
 | nil => simp [val]
 | cons x r ih =>
  obtain ⟨i1, i2, i3⟩ := ih h.2.2.2; have hr := h.2.2.2; rcases Int.lt_trichotomy x.1 d with hl | hl | hl
  ·have e1 : ((x :: r).map (·.1)).countP (· < d) = (r.map (·.1)).countP (· < d) + 1 := by simp [hl]
   have e2 : ((x :: r).map (·.1)).contains d = (r.map (·.1)).contains d := by
    rw [Bool.eq_iff_iff]; simp; intro e; omega
   have e3 : val held (x :: r) d = val x.2 r d := by rw [val, if_pos (by omega)]
   rw [e1, e2, e3]; refine ⟨fun hc => ?_, fun _ h0 => by omega, fun hc k hk => ?_⟩
   ·rw [List.map_cons, List.getElem?_cons_succ]; exact i1 hc
   ·obtain rfl : (r.map (·.1)).countP (· < d) = k := by omega
    cases hk' : (r.map (·.1)).countP (· < d) with
    | zero => rw [i2 hc hk']; rfl
    | succ j => rw [List.map_cons, List.getElem?_cons_succ]; exact i3 hc j hk'
  ·have e1 : ((x :: r).map (·.1)).countP (· < d) = 0 := by
    rw [List.countP_eq_zero]; intro a ha; rcases List.mem_cons.1 ha with rfl | ha
    ·simp; omega
    ·obtain ⟨y, hy, rfl⟩ := List.mem_map.1 ha; have := (hr.mem y hy).1; simp; omega
   have e2 : ((x :: r).map (·.1)).contains d = true := by simp [hl]
   rw [e1, e2]; refine ⟨fun _ => ?_, (fun hc => by cases hc), (fun hc => by cases hc)⟩; rw [val, if_pos (by omega), val_lo hr (by omega)]; rfl
  ·have e1 : ((x :: r).map (·.1)).countP (· < d) = 0 := by
    rw [List.countP_eq_zero]; intro a ha; rcases List.mem_cons.1 ha with rfl | ha
    ·simp; omega
    ·obtain ⟨y, hy, rfl⟩ := List.mem_map.1 ha; have := (hr.mem y hy).1; simp; omega
   have e2 : ((x :: r).map (·.1)).contains d = false := by
    rw [Bool.eq_false_iff]; intro hc; have hc := List.contains_iff_mem.1 hc; rcases List.mem_cons.1 hc with e | ha
    ·simp only at e; omega
    ·obtain ⟨y, hy, rfl⟩ := List.mem_map.1 ha; have := (hr.mem y hy).1; omega
   rw [e1, e2]; refine ⟨(fun hc => by cases hc), fun _ _ => ?_, (fun _ k hk => by omega)⟩; rw [val, if_neg (by omega)]
theorem Rt.sorted {day held : Int} {ps : List Pr} (h : Rt day held ps) : (ps.map (·.1)).Pairwise (· < ·) := by
 induction ps generalizing day held with
 | nil => simp
 | cons x r ih =>
  rw [List.map_cons, List.pairwise_cons]; refine ⟨fun a ha => ?_, ih h.2.2.2⟩; obtain ⟨y, hy, rfl⟩ := List.mem_map.1 ha; exact (h.2.2.2.mem y hy).1
def mrg : List Int → List Int → List Int
 | [], ys => ys
 | x :: xs, [] => x :: xs
 | x :: xs, y :: ys => if x < y then x :: mrg xs (y :: ys) else if x = y then y :: mrg xs ys else y :: mrg (x :: xs) ys
termination_by xs ys => xs.length + ys.length
theorem mrg_nil (xs : List Int) : mrg xs [] = xs := by cases xs <;> simp [mrg]
theorem mrg_len (xs ys : List Int) : (mrg xs ys).length ≤ xs.length + ys.length := by
 induction xs, ys using mrg.induct with
 | case1 ys => simp [mrg]
 | case2 x xs => simp [mrg]
 | case3 x xs y ys h ih => rw [mrg, if_pos h]; simp at ih ⊢; omega
 | case4 x xs ys h ih => rw [mrg, if_neg h, if_pos rfl]; simp at ih ⊢; omega
 | case5 x xs y ys h1 h2 ih => rw [mrg, if_neg h1, if_neg h2]; simp at ih ⊢; omega
def inn (s : Pr) (d : Int) : Bool := decide (s.1 ≤ d) && decide (d < s.2)
theorem inn_iff (s : Pr) (d : Int) : inn s d = true ↔ s.1 ≤ d ∧ d < s.2 := by simp [inn]
def chg (s : Pr) (xs ys : List Int) : List Int := (mrg xs ys).filter (inn s)
theorem chg_len (s : Pr) (xs ys : List Int) : (chg s xs ys).length ≤ xs.length + ys.length := Nat.le_trans (List.length_filter_le _ _) (mrg_len xs ys)
def full (s : Pr) : Bool := decide (1 ≤ s.1) && decide (s.1 < s.2) && decide (s.2 ≤ 292195)
theorem full_iff (s : Pr) : full s = true ↔ 1 ≤ s.1 ∧ s.1 < s.2 ∧ s.2 ≤ 292195 := by simp [full, and_assoc]
def rb (day held : Int) : List Pr → Bool
 | [] => true
 | x :: r => decide (day < x.1) && (decide (x.1 ≤ 292194) && (fits x.2 && ((x.2 != held) && rb x.1 x.2 r)))
theorem rb_iff (day held : Int) (ps : List Pr) : rb day held ps = true ↔ Rt day held ps ∧ Fit ps := by
 induction ps generalizing day held with
 | nil => simp [rb, Rt, Fit]
 | cons x r ih =>
  simp only [rb, Bool.and_eq_true, decide_eq_true_eq, ih, Rt, bne_iff_ne]; constructor
  ·rintro ⟨h1, h2, h3, h4, h5, h6⟩; refine ⟨⟨h1, h2, h4, h5⟩, fun y hy => ?_⟩; rcases List.mem_cons.1 hy with rfl | hy
   ·exact h3
   ·exact h6 y hy
  ·rintro ⟨⟨h1, h2, h4, h5⟩, h6⟩; exact ⟨h1, h2, h6 x (by simp), h4, h5, fun y hy => h6 y (List.mem_cons_of_mem _ hy)⟩
theorem rb_no {day held : Int} {x : Pr} {r : List Pr} (h : ¬ (day < x.1 ∧ x.1 ≤ 292194 ∧ fits x.2 = true ∧ x.2 ≠ held)) : rb day held (x :: r) = false := by
 rw [Bool.eq_false_iff]; intro hh; rw [rb_iff] at hh; exact h ⟨hh.1.1, hh.1.2.1, hh.2 x (by simp), hh.1.2.2.1⟩
theorem rb_yes {day held : Int} {x : Pr} {r : List Pr} (h1 : day < x.1) (h2 : x.1 ≤ 292194) (h3 : fits x.2 = true) (h4 : x.2 ≠ held) : rb day held (x :: r) = rb x.1 x.2 r := by
 simp [rb, h1, h2, h3, h4]
def rg (xs vs : List Int) : Bool := decide (xs.length = vs.length) && rb 0 0 (xs.zip vs)
theorem rg_ne {xs vs : List Int} (h : xs.length ≠ vs.length) : rg xs vs = false := by simp [rg, h]
theorem rg_eq {xs vs : List Int} (h : xs.length = vs.length) : rg xs vs = rb 0 0 (xs.zip vs) := by simp [rg, h]
theorem zip_get {xs vs : List Int} {k : Nat} {x v : Int} (hx : xs[k]? = some x) (hv : vs[k]? = some v) : (xs.zip vs)[k]? = some (x, v) := by
 rw [List.zip, List.getElem?_zipWith, hx, hv]
theorem drop_get {α : Type} {l : List α} {k : Nat} {x : α} (h : l[k]? = some x) : l.drop k = x :: l.drop (k + 1) := by
 obtain ⟨hl, e⟩ := List.getElem?_eq_some_iff.1 h; rw [List.drop_eq_getElem_cons hl, e]
theorem rg_of {ps : List Pr} (h : Right ps) : rg (ps.map (·.1)) (ps.map (·.2)) = true := by
 rw [rg_eq (by simp)]
 have e : (ps.map (·.1)).zip (ps.map (·.2)) = ps := by
  clear h
  induction ps with
  | nil => rfl
  | cons x r ih => simp at ih ⊢; simpa using ih
 rw [e, rb_iff]; exact h
def pk (s : Pr) (d : Int) : List Int := if inn s d = true then [d] else []
theorem pk_t {s : Pr} {d : Int} (h : inn s d = true) : pk s d = [d] := by rw [pk, if_pos h]
theorem pk_f {s : Pr} {d : Int} (h : inn s d = false) : pk s d = [] := by rw [pk, if_neg (by simp [h])]
theorem filter_pk (s : Pr) (d : Int) (l : List Int) : (d :: l).filter (inn s) = pk s d ++ l.filter (inn s) := by
 rw [List.filter_cons, pk]; split <;> simp
theorem chg_a (s : Pr) (x : Int) (r : List Int) : chg s (x :: r) [] = pk s x ++ chg s r [] := by rw [chg, chg, mrg_nil, mrg_nil, filter_pk]
theorem chg_b (s : Pr) (y : Int) (q : List Int) : chg s [] (y :: q) = pk s y ++ chg s [] q := by rw [chg, chg, mrg, mrg, filter_pk]
theorem chg_lt {s : Pr} {x y : Int} {r q : List Int} (h : x < y) : chg s (x :: r) (y :: q) = pk s x ++ chg s r (y :: q) := by rw [chg, chg, mrg, if_pos h, filter_pk]
theorem chg_eq {s : Pr} {x : Int} {r q : List Int} : chg s (x :: r) (x :: q) = pk s x ++ chg s r q := by rw [chg, chg, mrg, if_neg (by omega), if_pos rfl, filter_pk]
theorem chg_gt {s : Pr} {x y : Int} {r q : List Int} (h : y < x) : chg s (x :: r) (y :: q) = pk s y ++ chg s (x :: r) q := by rw [chg, chg, mrg, if_neg (by omega), if_neg (by omega), filter_pk]
theorem chg_nil (s : Pr) : chg s [] [] = [] := by rw [chg, mrg]; rfl
def Gs (s : Pr) (xs ys pre : List Int) (i j : Nat) : Prop := pre ++ chg s (xs.drop i) (ys.drop j) = chg s xs ys
theorem Gs.start (s : Pr) (xs ys : List Int) : Gs s xs ys [] 0 0 := rfl
theorem Gs.fin {s : Pr} {xs ys pre : List Int} {i j : Nat} (h : Gs s xs ys pre i j) (hi : xs.length ≤ i) (hj : ys.length ≤ j) : pre = chg s xs ys := by
 unfold Gs at h; rw [List.drop_of_length_le hi, List.drop_of_length_le hj, chg_nil, List.append_nil] at h; exact h
theorem Gs.a {s : Pr} {xs ys pre : List Int} {i j : Nat} {x : Int} (h : Gs s xs ys pre i j) (hx : xs[i]? = some x) (hj : ys.length ≤ j) : Gs s xs ys (pre ++ pk s x) (i + 1) j := by
 unfold Gs at h ⊢; rw [drop_get hx, List.drop_of_length_le hj, chg_a, ← List.append_assoc] at h; rw [List.drop_of_length_le hj]; exact h
theorem Gs.b {s : Pr} {xs ys pre : List Int} {i j : Nat} {y : Int} (h : Gs s xs ys pre i j) (hy : ys[j]? = some y) (hi : xs.length ≤ i) : Gs s xs ys (pre ++ pk s y) i (j + 1) := by
 unfold Gs at h ⊢; rw [drop_get hy, List.drop_of_length_le hi, chg_b, ← List.append_assoc] at h; rw [List.drop_of_length_le hi]; exact h
theorem Gs.lt {s : Pr} {xs ys pre : List Int} {i j : Nat} {x y : Int} (h : Gs s xs ys pre i j) (hx : xs[i]? = some x) (hy : ys[j]? = some y) (hl : x < y) : Gs s xs ys (pre ++ pk s x) (i + 1) j := by
 unfold Gs at h ⊢; rw [drop_get hx, drop_get hy, chg_lt hl, ← List.append_assoc] at h; rw [drop_get hy]; exact h
theorem Gs.eq {s : Pr} {xs ys pre : List Int} {i j : Nat} {x : Int} (h : Gs s xs ys pre i j) (hx : xs[i]? = some x) (hy : ys[j]? = some x) : Gs s xs ys (pre ++ pk s x) (i + 1) (j + 1) := by
 unfold Gs at h ⊢; rw [drop_get hx, drop_get hy, chg_eq, ← List.append_assoc] at h; exact h
theorem Gs.gt {s : Pr} {xs ys pre : List Int} {i j : Nat} {x y : Int} (h : Gs s xs ys pre i j) (hx : xs[i]? = some x) (hy : ys[j]? = some y) (hl : y < x) : Gs s xs ys (pre ++ pk s y) i (j + 1) := by
 unfold Gs at h ⊢; rw [drop_get hx, drop_get hy, chg_gt hl, ← List.append_assoc] at h; rw [drop_get hx]; exact h
theorem Gs.len {s : Pr} {xs ys pre : List Int} {i j : Nat} {x : Int} (h : Gs s xs ys (pre ++ pk s x) i j) (hx : inn s x = true) : pre.length < (chg s xs ys).length := by
 unfold Gs at h; rw [← h, pk_t hx]; simp
theorem Gs.skip {s : Pr} {xs ys pre : List Int} {i j : Nat} {x : Int} (h : Gs s xs ys (pre ++ pk s x) i j) (hx : inn s x = false) : Gs s xs ys pre i j := by rwa [pk_f hx, List.append_nil] at h
theorem Gs.take {s : Pr} {xs ys pre : List Int} {i j : Nat} {x : Int} (h : Gs s xs ys (pre ++ pk s x) i j) (hx : inn s x = true) : Gs s xs ys (pre ++ [x]) i j := by rwa [pk_t hx] at h
def fr : List Int → Int → List Pr
 | [], _ => []
 | [d], t => [(d, t)]
 | d :: e :: r, t => (d, e) :: fr (e :: r) t
theorem fr_snoc (l : List Int) (x t : Int) : fr (l ++ [x]) t = fr l x ++ [(x, t)] := by
 induction l with
 | nil => rfl
 | cons d l ih =>
  cases l with
  | nil => rfl
  | cons e l => simp only [List.cons_append, fr] at ih ⊢; rw [ih]
theorem fr_len (l : List Int) (t : Int) : (fr l t).length = l.length := by
 induction l with
 | nil => rfl
 | cons d l ih =>
  cases l with
  | nil => rfl
  | cons e l => simp only [fr, List.length_cons] at ih ⊢; rw [ih]
def cuts (s : Pr) (ps : List Pr) : List Int := s.1 :: (ps.map (·.1)).filter fun a => decide (s.1 < a) && decide (a < s.2)
theorem filter_all {l : List Int} {p q : Int → Bool} (h : ∀ x ∈ l, p x = q x) : l.filter p = l.filter q := List.filter_congr h
theorem chg_cuts {day held : Int} {ps : List Pr} (h : Rt day held ps) {s : Pr} (hs : s.1 < s.2) : chg s (ps.map (·.1)) [s.1] = cuts s ps := by
 unfold cuts; have hsort := h.sorted; generalize ps.map (·.1) = xs at hsort
 induction xs with
 | nil =>
  rw [chg_b, chg_nil, pk_t ((inn_iff s s.1).2 ⟨Int.le_refl _, hs⟩)]; rfl
 | cons x xs ih =>
  have hp := List.pairwise_cons.1 hsort; rcases Int.lt_trichotomy x s.1 with hl | hl | hl
  ·rw [chg_lt hl, ih hp.2, pk_f (by rw [← Bool.not_eq_true, inn_iff]; omega), List.nil_append, List.filter_cons_of_neg (by simp; omega)]
  ·subst hl; rw [chg_eq, pk_t ((inn_iff s s.1).2 ⟨Int.le_refl _, hs⟩), List.filter_cons_of_neg (by simp), chg, mrg_nil]; refine congrArg (s.1 :: ·) (filter_all fun y hy => ?_); have := hp.1 y hy; rw [Bool.eq_iff_iff, inn_iff]; simp; omega
  ·rw [chg_gt hl, pk_t ((inn_iff s s.1).2 ⟨Int.le_refl _, hs⟩), chg, mrg_nil]; refine congrArg (s.1 :: ·) (filter_all fun y hy => ?_); rcases List.mem_cons.1 hy with rfl | hy
   ·rw [Bool.eq_iff_iff, inn_iff]; simp; omega
   ·have := hp.1 y hy; rw [Bool.eq_iff_iff, inn_iff]; simp; omega
def Seg (g : Int → Int) (t : Int) : List Int → Prop
 | [] => True
 | [d] => d < t ∧ ∀ x, d ≤ x → x < t → g x = g d
 | d :: e :: r => (d < e ∧ (∀ x, d ≤ x → x < e → g x = g d) ∧ g d ≠ g e) ∧ Seg g t (e :: r)
theorem stay {g : Int → Int} {d e : Int} (h : ∀ x, d < x → x < e → g x = g (x - 1)) : ∀ x, d ≤ x → x < e → g x = g d := by
 have key : ∀ n : Nat, d + n < e → g (d + n) = g d := by
  intro n
  induction n with
  | zero => intro _; simp
  | succ n ih =>
   intro hn; rw [h (d + (n + 1 : Nat)) (by omega) hn, show d + ((n + 1 : Nat) : Int) - 1 = d + n by omega]; exact ih (by omega)
 intro x h1 h2; have := key (x - d).toNat (by omega); rwa [show d + ((x - d).toNat : Int) = x by omega] at this
theorem seg_of {g : Int → Int} {t : Int} : ∀ (l : List Int) (d : Int), (d :: l).Pairwise (· < ·) → (∀ x ∈ d :: l, x < t) → (∀ x, d < x → x < t → x ∉ l → g x = g (x - 1)) → (∀ x ∈ l, g x ≠ g (x - 1)) → Seg g t (d :: l)
 | [], d, _, ht, hs, _ => ⟨ht d (by simp), stay fun x h1 h2 => hs x h1 h2 (by simp)⟩
 | e :: l, d, hp, ht, hs, hj => by
  have hp1 := List.pairwise_cons.1 hp; have hp2 := List.pairwise_cons.1 hp1.2; have hde := hp1.1 e (by simp); have het := ht e (by simp)
  have hst : ∀ x, d ≤ x → x < e → g x = g d := stay fun x h1 h2 => hs x h1 (by omega) (by
   intro hm; rcases List.mem_cons.1 hm with e' | hm
   ·omega
   ·have := hp2.1 x hm; omega)
  refine ⟨⟨hde, hst, ?_⟩, seg_of l e hp1.2 (fun x hx => ht x (List.mem_cons_of_mem _ hx)) (fun x h1 h2 h3 => hs x (by omega) h2 (by
   intro hm; rcases List.mem_cons.1 hm with e' | hm
   ·omega
   ·exact h3 hm)) (fun x hx => hj x (List.mem_cons_of_mem _ hx))⟩
  have h1 := hj e (by simp); rw [← hst (e - 1) (by omega) (by omega)]; exact fun h => h1 h.symm
theorem cuts_seg {ps : List Pr} (h : Rt 0 0 ps) {s : Pr} (hs : s.1 < s.2) : Seg (val 0 ps) s.2 (cuts s ps) := by
 refine seg_of _ _ ?_ ?_ ?_ ?_
 ·rw [List.pairwise_cons]; refine ⟨fun a ha => ?_, h.sorted.filter _⟩; have := (List.mem_filter.1 ha).2; simp at this; exact this.1
 ·intro x hx; rcases List.mem_cons.1 hx with rfl | hx
  ·exact hs
  ·have := (List.mem_filter.1 hx).2; simp at this; exact this.2
 ·intro x h1 h2 h3; refine val_stay 0 ps x fun hm => h3 (List.mem_filter.2 ⟨hm, by simp; omega⟩)
 ·intro x hx; exact val_jump h (List.mem_filter.1 hx).1
def tot (g : Int → Int) (a : Int) : Nat → Int
 | 0 => 0
 | n + 1 => tot g a n + g (a + n)
theorem tot_add (g : Int → Int) (a : Int) (m n : Nat) : tot g a (m + n) = tot g a m + tot g (a + m) n := by
 induction n with
 | zero => simp [tot]
 | succ n ih =>
  rw [show m + (n + 1) = (m + n) + 1 by omega, tot, tot, ih, show a + ((m + n : Nat) : Int) = a + m + n by omega]; omega
theorem tot_const (g : Int → Int) (a v : Int) (n : Nat) (h : ∀ x, a ≤ x → x < a + n → g x = v) : tot g a n = n * v := by
 induction n with
 | zero => simp [tot]
 | succ n ih =>
  rw [tot, ih (fun x h1 h2 => h x h1 (by omega)), h (a + n) (by omega) (by omega)]; rw [show ((n + 1 : Nat) : Int) = (n : Int) + 1 by omega, Int.add_mul, Int.one_mul]
theorem tot_same {g h : Int → Int} {a : Int} {n : Nat} (e : ∀ x, a ≤ x → x < a + n → g x = h x) : tot g a n = tot h a n := by
 induction n with
 | zero => rfl
 | succ n ih => rw [tot, tot, ih (fun x h1 h2 => e x h1 (by omega)), e (a + n) (by omega) (by omega)]
def mag (v : Int) : Int := max v (-v)
theorem mag_nonneg (v : Int) : 0 ≤ mag v := by unfold mag; omega
theorem mag_le (v : Int) : -mag v ≤ v ∧ v ≤ mag v := by unfold mag; omega
def sums : List (Pr × Int) → Int
 | [] => 0
 | x :: r => (x.1.2 - x.1.1) * x.2 + sums r
def sizes : List (Pr × Int) → Int
 | [] => 0
 | x :: r => (x.1.2 - x.1.1) * mag x.2 + sizes r
theorem sums_snoc (l : List (Pr × Int)) (x : Pr × Int) : sums (l ++ [x]) = sums l + (x.1.2 - x.1.1) * x.2 := by
 induction l with
 | nil => simp [sums]
 | cons y r ih => simp only [List.cons_append, sums, ih]; omega
theorem sizes_snoc (l : List (Pr × Int)) (x : Pr × Int) : sizes (l ++ [x]) = sizes l + (x.1.2 - x.1.1) * mag x.2 := by
 induction l with
 | nil => simp [sizes]
 | cons y r ih => simp only [List.cons_append, sizes, ih]; omega
theorem sizes_append (l r : List (Pr × Int)) : sizes (l ++ r) = sizes l + sizes r := by
 induction l with
 | nil => simp [sizes]
 | cons y l ih => simp only [List.cons_append, sizes, ih]; omega
theorem sizes_nonneg {l : List (Pr × Int)} (h : ∀ x ∈ l, x.1.1 < x.1.2) : 0 ≤ sizes l := by
 induction l with
 | nil => exact Int.le_refl _
 | cons y r ih =>
  have h1 := ih fun x hx => h x (List.mem_cons_of_mem _ hx)
  have h2 := h y (by simp); have h3 : 0 ≤ (y.1.2 - y.1.1) * mag y.2 := Int.mul_nonneg (by omega) (mag_nonneg _); simp only [sizes]; omega
theorem sums_le {l : List (Pr × Int)} (h : ∀ x ∈ l, x.1.1 < x.1.2) : -sizes l ≤ sums l ∧ sums l ≤ sizes l := by
 induction l with
 | nil => simp [sums, sizes]
 | cons y r ih =>
  have h1 := ih fun x hx => h x (List.mem_cons_of_mem _ hx)
  have h2 := h y (by simp); have h3 := mag_le y.2; have a1 : (y.1.2 - y.1.1) * y.2 ≤ (y.1.2 - y.1.1) * mag y.2 := Int.mul_le_mul_of_nonneg_left h3.2 (by omega); have a2 : (y.1.2 - y.1.1) * (-mag y.2) ≤ (y.1.2 - y.1.1) * y.2 := Int.mul_le_mul_of_nonneg_left h3.1 (by omega); rw [Int.mul_neg] at a2; simp only [sums, sizes]; omega
def pieces (g : Int → Int) (l : List Int) (t : Int) : List (Pr × Int) := (fr l t).zip (l.map g)
theorem pieces_tot {g : Int → Int} {t : Int} : ∀ (l : List Int) (d : Int), Seg g t (d :: l) → sums (pieces g (d :: l) t) = tot g d (t - d).toNat ∧ sizes (pieces g (d :: l) t) = tot (fun x => mag (g x)) d (t - d).toNat
 | [], d, h => by
  obtain ⟨h1, h2⟩ := h; have e : ((t - d).toNat : Int) = t - d := by omega
  rw [tot_const g d (g d) _ (fun x a b => h2 x a (by omega)), tot_const (fun x => mag (g x)) d (mag (g d)) _ (fun x a b => by rw [h2 x a (by omega)]), e]; simp [pieces, fr, sums, sizes]
 | e :: l, d, h => by
  obtain ⟨⟨h1, h2, _⟩, h3⟩ := h; obtain ⟨i1, i2⟩ := pieces_tot l e h3
  have het : e < t := by
   cases l with
   | nil => exact h3.1
   | cons x l =>
    have : ∀ (l : List Int) (x : Int), Seg g t (x :: l) → x < t := by
     intro l
     induction l with
     | nil => intro x h; exact h.1
     | cons y l ih => intro x h; have := ih y h.2; have := h.1.1; omega
    exact this _ _ h3
  have en : (t - d).toNat = (e - d).toNat + (t - e).toNat := by omega
  have ee : ((e - d).toNat : Int) = e - d := by omega
  have ea : d + ((e - d).toNat : Int) = e := by omega
  have hp : pieces g (d :: e :: l) t = ((d, e), g d) :: pieces g (e :: l) t := by simp [pieces, fr]
  rw [hp, en, tot_add, tot_add, ea, tot_const g d (g d) _ (fun x a b => h2 x a (by omega)), tot_const (fun x => mag (g x)) d (mag (g d)) _ (fun x a b => by rw [h2 x a (by omega)]), ee]; simp only [sums, sizes, i1, i2]; exact ⟨trivial, trivial⟩
theorem seg_fr {g : Int → Int} {t : Int} : ∀ (l : List Int), Seg g t l → ∀ x ∈ pieces g l t, x.1.1 < x.1.2
 | [], _ => by intro x hx; simp [pieces, fr] at hx
 | [d], h => by intro x hx; simp [pieces, fr] at hx; subst hx; exact h.1
 | d :: e :: l, h => by
  intro x hx; have hp : pieces g (d :: e :: l) t = ((d, e), g d) :: pieces g (e :: l) t := by simp [pieces, fr]
  rw [hp] at hx; rcases List.mem_cons.1 hx with rfl | hx
  ·exact h.1.1
  ·exact seg_fr (e :: l) h.2 x hx
def sv (l : List (Pr × Int)) : Int := if sizes l ≤ 4000000000000000000 then sums l else 0
def se (l : List (Pr × Int)) : Int := if sizes l ≤ 4000000000000000000 then 0 else 5
theorem sv_ok {l : List (Pr × Int)} (h : sizes l ≤ 4000000000000000000) : sv l = sums l := by rw [sv, if_pos h]
theorem se_ok {l : List (Pr × Int)} (h : sizes l ≤ 4000000000000000000) : se l = 0 := by rw [se, if_pos h]
theorem sv_no {l : List (Pr × Int)} (h : 4000000000000000000 < sizes l) : sv l = 0 := by rw [sv, if_neg (by omega)]
theorem se_no {l : List (Pr × Int)} (h : 4000000000000000000 < sizes l) : se l = 5 := by rw [se, if_neg (by omega)]
theorem sizes_take {l : List (Pr × Int)} (h : ∀ x ∈ l, x.1.1 < x.1.2) (k : Nat) : sizes (l.take k) ≤ sizes l := by
 have e := sizes_append (l.take k) (l.drop k); rw [List.take_append_drop] at e; have := sizes_nonneg (l := l.drop k) fun x hx => h x (List.mem_of_mem_drop hx)
 omega
structure Rnd (l : List (Pr × Int)) (k : Nat) (sum room : Int) : Prop where
 s : sum = sums (l.take k)
 r : room = 4000000000000000000 - sizes (l.take k)
theorem Rnd.start (l : List (Pr × Int)) : Rnd l 0 0 4000000000000000000 := ⟨rfl, rfl⟩
theorem Rnd.next {l : List (Pr × Int)} {k : Nat} {sum room : Int} (h : Rnd l k sum room) {x y v : Int} (hx : l[k]? = some ((x, y), v)) {D Z P : Int} (hD : y - x = D) (hZ : v * D = Z) (hP : mag v * D = P) : Rnd l (k + 1) (sum + Z) (room - P) := by
 have e1 : (y - x) * v = Z := by rw [hD, Int.mul_comm]; exact hZ
 have e2 : (y - x) * mag v = P := by rw [hD, Int.mul_comm]; exact hP
 refine ⟨?_, ?_⟩
 ·rw [take_more hx, sums_snoc, ← h.s, e1]
 ·rw [take_more hx, sizes_snoc, h.r, e2]; omega
theorem Rnd.room {l : List (Pr × Int)} (hl : ∀ x ∈ l, x.1.1 < x.1.2) {k : Nat} {sum room : Int} (h : Rnd l k sum room) (h0 : 0 ≤ room) : -4000000000000000000 ≤ sum ∧ sum ≤ 4000000000000000000 ∧ room ≤ 4000000000000000000 ∧ -(4000000000000000000 - room) ≤ sum ∧ sum ≤ 4000000000000000000 - room := by
 have h1 := sums_le (l := l.take k) fun x hx => hl x (List.mem_of_mem_take hx)
 have h2 := sizes_nonneg (l := l.take k) fun x hx => hl x (List.mem_of_mem_take hx)
 have h3 := h.s; have h4 := h.r; omega
theorem Rnd.over {l : List (Pr × Int)} (hl : ∀ x ∈ l, x.1.1 < x.1.2) {k : Nat} {sum room : Int} (h : Rnd l k sum room) {x y v : Int} (hx : l[k]? = some ((x, y), v)) {D P : Int} (hD : y - x = D) (hP : mag v * D = P) (ho : room < P) : 4000000000000000000 < sizes l := by
 have h1 := sizes_take hl (k + 1); have e2 : (y - x) * mag v = P := by rw [hD, Int.mul_comm]; exact hP
 rw [take_more hx, sizes_snoc, e2] at h1; have := h.r; omega
theorem Rnd.fin {l : List (Pr × Int)} {k : Nat} {sum room : Int} (h : Rnd l k sum room) (hk : l.length ≤ k) (h0 : 0 ≤ room) : sizes l ≤ 4000000000000000000 ∧ sum = sums l := by
 have h1 := h.s; have h2 := h.r; rw [List.take_of_length_le hk] at h1 h2; exact ⟨by omega, h1⟩
theorem pieces_get {g : Int → Int} {l : List Int} {t : Int} {k : Nat} {x y v : Int} (h1 : (fr l t)[k]? = some (x, y)) (h2 : (l.map g)[k]? = some v) : (pieces g l t)[k]? = some ((x, y), v) := by
 rw [pieces, List.zip, List.getElem?_zipWith, h1, h2]
theorem pieces_len (g : Int → Int) (l : List Int) (t : Int) : (pieces g l t).length = l.length := by simp [pieces, fr_len]
theorem div_le {R D S P : Int} (hD : 1 ≤ D) (hR : 0 ≤ R) (hP : S * D = P) : (R / D < S ↔ R < P) := by
 subst hP; constructor
 ·intro h; have h1 : (R / D + 1) * D ≤ S * D := Int.mul_le_mul_of_nonneg_right (by omega) (by omega); have h2 := Int.lt_ediv_add_one_mul_self R (show 0 < D by omega); omega
 ·intro h; rcases Int.lt_or_le (R / D) S with h1 | h1
  ·exact h1
  ·have h2 : S * D ≤ R / D * D := Int.mul_le_mul_of_nonneg_right h1 (by omega); have h3 := Int.ediv_mul_le R (show D ≠ 0 by omega); omega
theorem mag_mul {v D P Z : Int} (hD : 1 ≤ D) (hP : mag v * D = P) (hZ : v * D = Z) : -P ≤ Z ∧ Z ≤ P ∧ 0 ≤ P := by
 subst hP hZ; have h3 := mag_le v; have a1 : v * D ≤ mag v * D := Int.mul_le_mul_of_nonneg_right h3.2 (by omega); have a2 : (-mag v) * D ≤ v * D := Int.mul_le_mul_of_nonneg_right h3.1 (by omega); have a3 : 0 ≤ mag v * D := Int.mul_nonneg (mag_nonneg v) (by omega); rw [Int.neg_mul] at a2; exact ⟨a2, a1, a3⟩
theorem fr_bounds {g : Int → Int} {t : Int} : ∀ (l : List Int) (d : Int), Seg g t (d :: l) → ∀ x ∈ fr (d :: l) t, d ≤ x.1 ∧ x.1 < x.2 ∧ x.2 ≤ t
 | [], d, h => by intro x hx; simp [fr] at hx; subst hx; exact ⟨Int.le_refl _, h.1, Int.le_refl _⟩
 | e :: l, d, h => by
  intro x hx; have hp : fr (d :: e :: l) t = (d, e) :: fr (e :: l) t := by simp [fr]
  rw [hp] at hx
  have het : ∀ (l : List Int) (x : Int), Seg g t (x :: l) → x < t := by
   intro l
   induction l with
   | nil => intro x h; exact h.1
   | cons y l ih => intro x h; have := ih y h.2; have := h.1.1; omega
  have h1 := het l e h.2; rcases List.mem_cons.1 hx with rfl | hx
  ·exact ⟨Int.le_refl _, h.1.1, by omega⟩
  ·have := fr_bounds l e h.2 x hx; have := h.1.1; omega
def PL (ps : List Pr) (s : Pr) : List (Pr × Int) := pieces (val 0 ps) (cuts s ps) s.2
theorem PL_tot {ps : List Pr} (h : Rt 0 0 ps) {s : Pr} (hs : s.1 < s.2) : sums (PL ps s) = tot (val 0 ps) s.1 (s.2 - s.1).toNat ∧ sizes (PL ps s) = tot (fun x => mag (val 0 ps x)) s.1 (s.2 - s.1).toNat :=
 pieces_tot _ _ (cuts_seg h hs)
end Stm
end Go.Proofs.YtfidmphajohljaaGreat

namespace Go.Proofs.YtfidmphajohljaaGreat
open Sp Sl
namespace Acr
set_option linter.unusedVariables false
def wk (x : Sc) (d : Int) : Int := max 0 (min x.s.2 d - x.s.1) * x.y
def ern : List Sc → Int → Int
 | [], _ => 0
 | x :: l, d => wk x d + ern l d
def cst : List Sc → Int → Int
 | [], _ => 0
 | x :: l, d => if x.s.1 ≤ d ∧ d < x.s.2 then x.y else cst l d
def Rr (e : Int) : List Sc → Prop
 | [] => True
 | x :: l => e ≤ x.s.1 ∧ x.s.1 < x.s.2 ∧ x.s.2 ≤ 292195 ∧ (0 ≤ x.y ∧ x.y ≤ 4000000000000000000) ∧ Rr x.s.2 l
def rr (e : Int) : List Sc → Bool
 | [] => true
 | x :: l => decide (e ≤ x.s.1 ∧ x.s.1 < x.s.2 ∧ x.s.2 ≤ 292195 ∧ 0 ≤ x.y ∧ x.y ≤ 4000000000000000000) && rr x.s.2 l
theorem rr_iff : ∀ {l : List Sc} {e : Int}, rr e l = true ↔ Rr e l
 | [], e => by simp [rr, Rr]
 | x :: l, e => by rw [rr, Rr, Bool.and_eq_true, decide_eq_true_iff, rr_iff (l := l)]; simp [and_assoc]
def may (l : List Sc) : Bool := decide (l.length ≤ 2000) && rr 1 l
theorem may_iff {l : List Sc} : may l = true ↔ l.length ≤ 2000 ∧ Rr 1 l := by rw [may, Bool.and_eq_true, decide_eq_true_iff, rr_iff]
def hf (n : Int) : Int := (n + 182) / 365
theorem hf_zero : hf 0 = 0 := by decide
theorem hf_mono {a b : Int} (h : a ≤ b) : hf a ≤ hf b := by unfold hf; omega
def upc (l : List Sc) (d : Int) : Int := if may l = true then if ern l d ≤ 4000000000000000000 then 0 else 5 else 1
def upv (l : List Sc) (d : Int) : Int := if upc l d = 0 then hf (ern l d) else 0
def btc (l : List Sc) (s : Int × Int) : Int := if may l = true then if rt s = true then upc l s.2 else 1 else 1
def btv (l : List Sc) (s : Int × Int) : Int := if btc l s = 0 then hf (ern l s.2) - hf (ern l s.1) else 0
theorem upc_may {l : List Sc} {d : Int} (h : upc l d = 0) : may l = true ∧ ern l d ≤ 4000000000000000000 := by
 unfold upc at h; split at h
 ·split at h
  ·exact ⟨by assumption, by assumption⟩
  ·cases h
 ·cases h
theorem upc_ok {l : List Sc} {d : Int} (h : may l = true) (h2 : ern l d ≤ 4000000000000000000) : upc l d = 0 := by
 unfold upc; rw [if_pos h, if_pos h2]
theorem upv_ok {l : List Sc} {d : Int} (h : upc l d = 0) : upv l d = hf (ern l d) := by unfold upv; rw [if_pos h]
theorem btc_may {l : List Sc} {s : Int × Int} (h : btc l s = 0) : may l = true ∧ rt s = true ∧ upc l s.2 = 0 := by
 unfold btc at h; split at h
 ·split at h
  ·exact ⟨by assumption, by assumption, h⟩
  ·cases h
 ·cases h
theorem btc_ok {l : List Sc} {s : Int × Int} (h : may l = true) (h2 : rt s = true) : btc l s = upc l s.2 := by
 unfold btc; rw [if_pos h, if_pos h2]
theorem btv_ok {l : List Sc} {s : Int × Int} (h : btc l s = 0) : btv l s = hf (ern l s.2) - hf (ern l s.1) := by unfold btv; rw [if_pos h]
section
variable {l : List Sc} {e a b d : Int}
theorem Rr.low {e' : Int} (h : Rr e l) (he : e' ≤ e) : Rr e' l := by
 cases l with
 | nil => trivial
 | cons x l => exact ⟨by have := h.1; omega, h.2⟩
theorem Rr.mem (h : Rr e l) : ∀ x ∈ l, e ≤ x.s.1 ∧ x.s.1 < x.s.2 ∧ x.s.2 ≤ 292195 ∧ 0 ≤ x.y ∧ x.y ≤ 4000000000000000000 := by
 induction l generalizing e with
 | nil => intro x hx; cases hx
 | cons y l ih =>
  intro x hx; rcases List.mem_cons.1 hx with rfl | hx
  ·exact ⟨h.1, h.2.1, h.2.2.1, h.2.2.2.1⟩
  ·have := ih h.2.2.2.2 x hx; have h1 := h.1; have h2 := h.2.1; exact ⟨by omega, this.2⟩
theorem wk_lo {x : Sc} (h : d ≤ x.s.1) : wk x d = 0 := by
 unfold wk; rw [show max 0 (min x.s.2 d - x.s.1) = 0 by omega, Int.zero_mul]
theorem wk_nonneg {x : Sc} (h : 0 ≤ x.y) : 0 ≤ wk x d := Int.mul_nonneg (by omega) h
theorem wk_mono {x : Sc} (h : 0 ≤ x.y) (hab : a ≤ b) : wk x a ≤ wk x b := Int.mul_le_mul_of_nonneg_right (by omega) h
theorem wk_hi {x : Sc} (h : x.s.2 ≤ a) (hb : a ≤ b) : wk x b = wk x a := by unfold wk; rw [show min x.s.2 b = min x.s.2 a by omega]
theorem wk_step {x : Sc} (h : x.s.1 < x.s.2) : wk x (d + 1) - wk x d = if x.s.1 ≤ d ∧ d < x.s.2 then x.y else 0 := by
 unfold wk; split
 ·rename_i h
  rw [show max 0 (min x.s.2 (d + 1) - x.s.1) = max 0 (min x.s.2 d - x.s.1) + 1 by omega, Int.add_mul, Int.one_mul]; omega
 ·rename_i h
  rw [show max 0 (min x.s.2 (d + 1) - x.s.1) = max 0 (min x.s.2 d - x.s.1) by omega]; omega
theorem ern_lo (h : Rr e l) (hd : d ≤ e) : ern l d = 0 := by
 induction l generalizing e with
 | nil => rfl
 | cons x l ih =>
  have h1 := h.1; have h2 := h.2.1; rw [ern, wk_lo (by omega), ih h.2.2.2.2 (by omega)]; rfl
theorem ern_nonneg (h : Rr e l) : 0 ≤ ern l d := by
 induction l generalizing e with
 | nil => exact Int.le_refl _
 | cons x l ih =>
  have h1 := wk_nonneg (d := d) h.2.2.2.1.1; have h2 := ih h.2.2.2.2; rw [ern]; omega
theorem ern_mono (h : Rr e l) (hab : a ≤ b) : ern l a ≤ ern l b := by
 induction l generalizing e with
 | nil => exact Int.le_refl _
 | cons x l ih =>
  have h1 := wk_mono h.2.2.2.1.1 hab; have h2 := ih h.2.2.2.2; rw [ern, ern]; omega
theorem ern_hi {t : Int} (h : ∀ x ∈ l, x.s.2 ≤ t) (ht : t ≤ d) : ern l d = ern l t := by
 induction l with
 | nil => rfl
 | cons x l ih => rw [ern, ern, wk_hi (h x (by simp)) ht, ih fun y hy => h y (by simp [hy])]
theorem cst_in (h : Rr e l) : 0 ≤ cst l d ∧ cst l d ≤ 4000000000000000000 := by
 induction l generalizing e with
 | nil => exact ⟨Int.le_refl _, by show (0 : Int) ≤ 4000000000000000000; decide⟩
 | cons x l ih =>
  rw [cst]; split
  ·exact h.2.2.2.1
  ·exact ih h.2.2.2.2
theorem ern_step (h : Rr e l) : ern l (d + 1) - ern l d = cst l d := by
 induction l generalizing e with
 | nil => rfl
 | cons x l ih =>
  have h1 := h.1; have h2 := h.2.1; have hs := wk_step (d := d) h.2.1; rw [ern, ern, cst]; by_cases hd : x.s.1 ≤ d ∧ d < x.s.2
  ·rw [if_pos hd] at hs ⊢; have e1 := ern_lo h.2.2.2.2 (d := d) (by omega); have e2 := ern_lo h.2.2.2.2 (d := d + 1) (by omega); omega
  ·rw [if_neg hd] at hs ⊢; have := ih h.2.2.2.2; omega
theorem ern_tot (h : Rr e l) (n : Nat) : ern l (a + n) - ern l a = Stm.tot (cst l) a n := by
 induction n with
 | zero => simp [Stm.tot]
 | succ n ih =>
  have := ern_step h (d := a + n); rw [Stm.tot, show a + ((n + 1 : Nat) : Int) = a + n + 1 by omega]; omega
theorem ern_append (l m : List Sc) (d : Int) : ern (l ++ m) d = ern l d + ern m d := by
 induction l with
 | nil => simp [ern]
 | cons x l ih => rw [List.cons_append, ern, ern, ih]; omega
theorem Rr.append {m : List Sc} : ∀ {l : List Sc} {e : Int}, Rr e (l ++ m) ↔ Rr e l ∧ ∃ t, e ≤ t ∧ (∀ x ∈ l, x.s.2 ≤ t) ∧ Rr t m
 | [], e => ⟨fun h => ⟨trivial, e, Int.le_refl _, (fun x hx => by cases hx), h⟩, fun ⟨_, t, ht, _, h⟩ => h.low ht⟩
 | x :: l, e => by
  rw [List.cons_append, Rr, Rr, Rr.append (l := l)]; constructor
  ·rintro ⟨h1, h2, h3, h4, h5, t, h6, h7, h8⟩; refine ⟨⟨h1, h2, h3, h4, h5⟩, t, by omega, fun y hy => ?_, h8⟩; rcases List.mem_cons.1 hy with rfl | hy
   ·exact h6
   ·exact h7 y hy
  ·rintro ⟨⟨h1, h2, h3, h4, h5⟩, t, h6, h7, h8⟩; exact ⟨h1, h2, h3, h4, h5, t, h7 x (by simp), fun y hy => h7 y (by simp [hy]), h8⟩
end
def Crv (l : List Sc) (ps : List Stm.Pr) : Prop := Stm.Right ps ∧ ∀ d, 1 ≤ d → d ≤ 292194 → Stm.val 0 ps d = cst l d
theorem Crv.sum {l : List Sc} {ps : List Stm.Pr} {e : Int} (H : Crv l ps) (hr : Rr e l) {s : Int × Int} (h1 : 1 ≤ s.1) (h2 : s.1 < s.2) (h3 : s.2 ≤ 292195) : Stm.sums (Stm.PL ps s) = ern l s.2 - ern l s.1 ∧ Stm.sizes (Stm.PL ps s) = ern l s.2 - ern l s.1 := by
 obtain ⟨k1, k2⟩ := Stm.PL_tot H.1.1 h2; have e1 := ern_tot hr (a := s.1) (s.2 - s.1).toNat; rw [show s.1 + (((s.2 - s.1).toNat : Nat) : Int) = s.2 by omega] at e1; refine ⟨?_, ?_⟩
 ·rw [k1, e1]; exact Stm.tot_same fun x x1 x2 => H.2 x (by omega) (by omega)
 ·rw [k2, e1]; refine Stm.tot_same fun x x1 x2 => ?_
  show Stm.mag (Stm.val 0 ps x) = _
  rw [H.2 x (by omega) (by omega)]; have := (cst_in hr (d := x)).1; unfold Stm.mag; omega
theorem Crv.upto {l : List Sc} {ps : List Stm.Pr} (H : Crv l ps) (hr : Rr 1 l) {t : Int} (h2 : 1 < t) (h3 : t ≤ 292195) : Stm.sums (Stm.PL ps (1, t)) = ern l t ∧ Stm.sizes (Stm.PL ps (1, t)) = ern l t := by
 have h := H.sum hr (s := (1, t)) (Int.le_refl _) h2 h3; have e := ern_lo hr (Int.le_refl 1); simp only [e] at h; exact ⟨by omega, by omega⟩
theorem cst_snoc {l : List Sc} {x : Sc} (h : ∀ y ∈ l, y.s.2 ≤ x.s.1) (d : Int) : cst (l ++ [x]) d = if x.s.1 ≤ d ∧ d < x.s.2 then x.y else cst l d := by
 induction l with
 | nil => rfl
 | cons y l ih =>
  rw [List.cons_append, cst, cst, ih fun z hz => h z (by simp [hz])]; have := h y (by simp); by_cases h1 : y.s.1 ≤ d ∧ d < y.s.2
  ·rw [if_pos h1, if_pos h1, if_neg (by omega)]
  ·rw [if_neg h1, if_neg h1]
end Acr
end Go.Proofs.YtfidmphajohljaaGreat

namespace Go.Proofs.YtfidmphajohljaaGreat
open Sp Sl
namespace Acr
set_option linter.unusedVariables false
def trn (ps : List Stm.Pr) (d v : Int) : List Stm.Pr := if v = Stm.lst 0 ps ∨ 292194 < d then ps else ps ++ [(d, v)]
theorem trn_same {ps : List Stm.Pr} {d v : Int} (h : v = Stm.lst 0 ps) : trn ps d v = ps := if_pos (.inl h)
theorem trn_late {ps : List Stm.Pr} {d v : Int} (h : 292194 < d) : trn ps d v = ps := if_pos (.inr h)
theorem trn_more {ps : List Stm.Pr} {d v : Int} (h : v ≠ Stm.lst 0 ps) (h2 : d ≤ 292194) : trn ps d v = ps ++ [(d, v)] := if_neg (by omega)
theorem trn_len (ps : List Stm.Pr) (d v : Int) : (trn ps d v).length ≤ ps.length + 1 := by
 unfold trn; split <;> simp
theorem trn_ok {ps : List Stm.Pr} {d v : Int} (hR : Stm.Right ps) (hd : ∀ x ∈ ps, x.1 < d) (h1 : 1 ≤ d) (hv : -4000000000000000000 ≤ v ∧ v ≤ 4000000000000000000) :
  Stm.Right (trn ps d v) ∧ (∀ x ∈ trn ps d v, x.1 ≤ d) ∧ ∀ t, t ≤ 292194 → Stm.val 0 (trn ps d v) t = if d ≤ t then v else Stm.val 0 ps t := by
 by_cases e : v = Stm.lst 0 ps
 ·rw [trn_same e]; refine ⟨hR, fun x hx => Int.le_of_lt (hd x hx), fun t ht => ?_⟩; split
  ·rw [Stm.val_lst 0 ps t fun x hx => by have := hd x hx; omega, e]
  ·rfl
 ·by_cases hl : d ≤ 292194
  ·rw [trn_more e hl]; have hr : Stm.Rt 0 0 (ps ++ [(d, v)]) := hR.1.snoc hd (by show (0 : Int) < d; omega) hl e; refine ⟨⟨hr, fun x hx => ?_⟩, fun x hx => ?_, fun t ht => Stm.val_snoc hr t⟩
   ·rcases List.mem_append.1 hx with hx | hx
    ·exact hR.2 x hx
    ·rw [List.mem_singleton.1 hx]; exact (Stm.fits_iff v).2 hv
   ·rcases List.mem_append.1 hx with hx | hx
    ·exact Int.le_of_lt (hd x hx)
    ·rw [List.mem_singleton.1 hx]; exact Int.le_refl _
  ·rw [trn_late (by omega)]; exact ⟨hR, fun x hx => Int.le_of_lt (hd x hx), fun t ht => by rw [if_neg (by omega)]⟩
theorem cst_hi {l : List Sc} {d : Int} (h : ∀ y ∈ l, y.s.2 ≤ d) : cst l d = 0 := by
 induction l with
 | nil => rfl
 | cons x l ih =>
  have := h x (by simp); rw [cst, if_neg (by omega), ih fun y hy => h y (by simp [hy])]
structure Pre (l : List Sc) (ps : List Stm.Pr) (e : Int) : Prop where
 r : Stm.Right ps
 lt : ∀ x ∈ ps, x.1 < e
 lo : 1 ≤ e
 hi : e ≤ 292195
 v : ∀ d, 1 ≤ d → d < e → Stm.val 0 ps d = cst l d
 e : ∀ y ∈ l, y.s.2 ≤ e
theorem Pre.nil : Pre [] [] 1 := ⟨⟨trivial, fun x hx => by cases hx⟩, (fun x hx => by cases hx), Int.le_refl _, by decide, (fun d _ _ => rfl), fun y hy => by cases hy⟩
theorem Pre.gap {l : List Sc} {ps : List Stm.Pr} {e f : Int} (h : Pre l ps e) (h1 : e < f) (h2 : f ≤ 292194) : Pre l (trn ps e 0) f := by
 obtain ⟨k1, k2, k3⟩ := trn_ok h.r h.lt h.lo (v := 0) (by omega); refine ⟨k1, fun x hx => by have := k2 x hx; omega, by have := h.lo; omega, by omega, fun d d1 d2 => ?_, fun y hy => by have := h.e y hy; omega⟩; rw [k3 d (by omega)]; split
 ·rw [cst_hi fun y hy => by have := h.e y hy; omega]
 ·exact h.v d d1 (by omega)
theorem Pre.slice {l : List Sc} {ps : List Stm.Pr} {x : Sc} (h : Pre l ps x.s.1) (h1 : x.s.1 < x.s.2) (h2 : x.s.2 ≤ 292195) (hy : 0 ≤ x.y ∧ x.y ≤ 4000000000000000000) : Pre (l ++ [x]) (trn ps x.s.1 x.y) x.s.2 := by
 obtain ⟨k1, k2, k3⟩ := trn_ok h.r h.lt h.lo (v := x.y) (by omega); refine ⟨k1, fun z hz => by have := k2 z hz; omega, by have := h.lo; omega, h2, fun d d1 d2 => ?_, fun y hy => ?_⟩
 ·rw [k3 d (by omega), cst_snoc h.e]; split
  ·rw [if_pos ⟨by assumption, d2⟩]
  ·rw [if_neg (by omega)]; exact h.v d d1 (by omega)
 ·rcases List.mem_append.1 hy with hy | hy
  ·have := h.e y hy; omega
  ·rw [List.mem_singleton.1 hy]; exact Int.le_refl _
theorem Pre.fin {l : List Sc} {ps : List Stm.Pr} {e : Int} (h : Pre l ps e) : Crv l (trn ps e 0) := by
 obtain ⟨k1, k2, k3⟩ := trn_ok h.r h.lt h.lo (v := 0) (by omega); refine ⟨k1, fun d d1 d2 => ?_⟩; rw [k3 d d2]; split
 ·rw [cst_hi fun y hy => by have := h.e y hy; omega]
 ·exact h.v d d1 (by omega)
def one (x : Sc) (e : Int) : Bool := decide (e ≤ x.s.1 ∧ x.s.1 < x.s.2 ∧ x.s.2 ≤ 292195 ∧ 0 ≤ x.y ∧ x.y ≤ 4000000000000000000)
theorem rr_cons (x : Sc) (l : List Sc) (e : Int) : rr e (x :: l) = (one x e && rr x.s.2 l) := rfl
end Acr
end Go.Proofs.YtfidmphajohljaaGreat
