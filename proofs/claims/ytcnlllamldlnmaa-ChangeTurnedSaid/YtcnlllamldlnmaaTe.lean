/-
  Plain mathematics of terms: covers that may be, the cover of a peril, terms that may be. Conditions: those of each theorem. No model.
-/
import Derived.Test.YtcnlllamldlnmaaBa
import Derived.Test.YtcnlllamldlnmaaCv
import Derived.Test.YtcnlllamldlnmaaSp
namespace Go.Proofs.Ytcnlllamldlnmaa
open Ba Cv Sp
namespace Te
set_option linter.unusedVariables false

/-- A risk: kind, value, age, zone. -/
structure Ri where
  k : Int
  v : Int
  a : Int
  z : Int

/-- Perils rise. -/
def up : List Co → Bool
  | a :: b :: l => decide (a.p < b.p) && up (b :: l)
  | _ => true
/-- Covers may be. -/
def cvr (cs : List Co) : Bool := wi (cs.length : Int) 1 8 && (cs.all ok && up cs)
/-- The first cover of a peril. -/
def fnd (p : Int) : List Co → Option Co
  | [] => none
  | c :: l => if c.p = p then some c else fnd p l
/-- Terms may be. -/
def te (s : Sp) (r : Ri) (cs : List Co) : Bool := rt s && (wi (mn s) 1 1100 && (rk r.k r.v r.a r.z && cvr cs))

theorem up_iff : ∀ {l : List Co}, up l = true ↔ l.Pairwise (fun a b => a.p < b.p)
  | [] => by simp [up]
  | [a] => by simp [up]
  | a :: b :: l => by
    have ih := up_iff (l := b :: l)
    rw [up, Bool.and_eq_true, decide_eq_true_eq, ih]
    constructor
    · rintro ⟨h1, h2⟩
      refine List.pairwise_cons.2 ⟨fun x hx => ?_, h2⟩
      rcases List.mem_cons.1 hx with rfl | hx
      · exact h1
      · have := (List.pairwise_cons.1 h2).1 x hx; omega
    · intro h
      obtain ⟨h1, h2⟩ := List.pairwise_cons.1 h
      exact ⟨h1 b (by simp), h2⟩
theorem up_two {a b : Co} {l : List Co} : up (a :: b :: l) = (decide (a.p < b.p) && up (b :: l)) := rfl
theorem up_one {a : Co} : up [a] = true := rfl

theorem cvr_iff {cs : List Co} : cvr cs = true ↔ (1 ≤ cs.length ∧ cs.length ≤ 8) ∧ (∀ c ∈ cs, Ok c) ∧ cs.Pairwise (fun a b => a.p < b.p) := by
  unfold cvr
  rw [Bool.and_eq_true, Bool.and_eq_true, wi_iff, List.all_eq_true, up_iff]
  constructor
  · rintro ⟨h1, h2, h3⟩
    exact ⟨by omega, fun c hc => ok_iff.1 (h2 c hc), h3⟩
  · rintro ⟨h1, h2, h3⟩
    exact ⟨by omega, fun c hc => ok_iff.2 (h2 c hc), h3⟩
theorem cvr_no {cs : List Co} (h : ¬ ((1 ≤ cs.length ∧ cs.length ≤ 8) ∧ (∀ c ∈ cs, Ok c) ∧ cs.Pairwise (fun a b => a.p < b.p))) : cvr cs = false := by
  cases e : cvr cs
  · rfl
  · exact absurd (cvr_iff.1 e) h
theorem cvr_len {cs : List Co} (h : ¬ (1 ≤ cs.length ∧ cs.length ≤ 8)) : cvr cs = false := cvr_no fun k => h k.1

theorem fnd_some {p : Int} {l : List Co} {c : Co} (h : fnd p l = some c) : c ∈ l ∧ c.p = p := by
  induction l with
  | nil => cases h
  | cons x l ih =>
    rw [fnd] at h
    split at h
    · injection h with h; subst h; exact ⟨by simp, by assumption⟩
    · have := ih h; exact ⟨by simp [this.1], this.2⟩
theorem fnd_none {p : Int} {l : List Co} (h : fnd p l = none) : ∀ c ∈ l, c.p ≠ p := by
  induction l with
  | nil => intro c hc; cases hc
  | cons x l ih =>
    rw [fnd] at h
    split at h
    · cases h
    · rename_i hx
      intro c hc
      rcases List.mem_cons.1 hc with rfl | hc
      · exact hx
      · exact ih h c hc
theorem fnd_yes {p : Int} {l : List Co} {c : Co} (h : c.p = p) : fnd p (c :: l) = some c := by rw [fnd, if_pos h]
theorem fnd_next {p : Int} {l : List Co} {c : Co} (h : ¬ c.p = p) : fnd p (c :: l) = fnd p l := by rw [fnd, if_neg h]
/-- Of perils that rise each cover is found by its own. -/
theorem fnd_own {l : List Co} (h : l.Pairwise (fun a b => a.p < b.p)) {c : Co} (hc : c ∈ l) : fnd c.p l = some c := by
  induction l with
  | nil => cases hc
  | cons x l ih =>
    rw [List.pairwise_cons] at h
    rcases List.mem_cons.1 hc with rfl | hc
    · exact fnd_yes rfl
    · rw [fnd_next (by have := h.1 c hc; omega)]
      exact ih h.2 hc

/-- How many have perils below this one. -/
def cnt (p : Int) (l : List Co) : Nat := (l.filter fun c => decide (c.p < p)).length
theorem cnt_le (p : Int) (l : List Co) : cnt p l ≤ l.length := List.length_filter_le _ _
theorem cnt_cons {p : Int} {c : Co} {l : List Co} : cnt p (c :: l) = (if c.p < p then 1 else 0) + cnt p l := by
  unfold cnt
  rw [List.filter_cons]
  by_cases h : c.p < p
  · rw [if_pos (by simpa using h), if_pos h, List.length_cons]; omega
  · rw [if_neg (by simpa using h), if_neg h]; omega
theorem cnt_zero {p : Int} {l : List Co} (h : ∀ c ∈ l, p ≤ c.p) : cnt p l = 0 := by
  induction l with
  | nil => rfl
  | cons c l ih =>
    rw [cnt_cons, ih fun x hx => h x (by simp [hx]), if_neg (by have := h c (by simp); omega)]
theorem cnt_all {p : Int} {l : List Co} (h : ∀ c ∈ l, c.p < p) : cnt p l = l.length := by
  induction l with
  | nil => rfl
  | cons c l ih =>
    rw [cnt_cons, ih fun x hx => h x (by simp [hx]), if_pos (h c (by simp)), List.length_cons]; omega
theorem cnt_next {p : Int} {l : List Co} (h : l.Pairwise (fun a b => a.p < b.p)) : cnt (p + 1) l = cnt p l + (if (fnd p l).isSome then 1 else 0) := by
  induction l with
  | nil => rfl
  | cons c l ih =>
    rw [List.pairwise_cons] at h
    rw [cnt_cons, cnt_cons]
    by_cases hc : c.p = p
    · rw [fnd_yes hc, cnt_zero (p := p + 1) fun x hx => by have := h.1 x hx; omega, cnt_zero (p := p) fun x hx => by have := h.1 x hx; omega, if_pos (by omega), if_neg (by omega)]
      rfl
    · rw [fnd_next hc, ih h.2]
      by_cases hl : c.p < p
      · rw [if_pos (by omega), if_pos hl]; omega
      · rw [if_neg (by omega), if_neg hl]; omega

/-- Without one cover. -/
theorem less_ok {cs : List Co} {k : Nat} (h : cvr cs = true) (hk : k < cs.length) : cvr (cs.take k ++ cs.drop (k + 1)) = decide (1 < cs.length) := by
  obtain ⟨h1, h2, h3⟩ := cvr_iff.1 h
  have hs : (cs.take k ++ cs.drop (k + 1)).Sublist cs := by
    conv => rhs; rw [← List.take_append_drop k cs]
    refine List.Sublist.append_left ?_ _
    rw [← List.drop_drop]
    exact List.drop_sublist _ _
  have hl : (cs.take k ++ cs.drop (k + 1)).length = cs.length - 1 := by simp; omega
  by_cases hn : 1 < cs.length
  · rw [decide_eq_true hn, cvr_iff, hl]
    exact ⟨by omega, fun c hc => h2 c (hs.subset hc), h3.sublist hs⟩
  · rw [decide_eq_false hn]
    exact cvr_len (by omega)
/-- With one twice. -/
theorem more_no {cs : List Co} {k : Nat} {c : Co} (hk : cs[k]? = some c) : cvr (cs.take k ++ [c] ++ cs.drop k) = false := by
  refine cvr_no fun ⟨_, _, h⟩ => ?_
  obtain ⟨hl, e⟩ := List.getElem?_eq_some_iff.1 hk
  rw [List.pairwise_append] at h
  have := h.2.2 c (by simp) c (by rw [List.drop_eq_getElem_cons hl, e]; simp)
  omega
/-- Turned round. -/
theorem turn_ok {cs : List Co} (h : cvr cs = true) : cvr cs.reverse = decide (cs.length = 1) := by
  obtain ⟨h1, h2, h3⟩ := cvr_iff.1 h
  match cs, h1, h2, h3 with
  | [a], h1, h2, h3 => exact h
  | a :: b :: l, h1, h2, h3 =>
    rw [decide_eq_false (by simp)]
    refine cvr_no fun ⟨_, _, k⟩ => ?_
    rw [List.pairwise_reverse] at k
    have e1 := (List.pairwise_cons.1 h3).1 b (by simp)
    have e2 := (List.pairwise_cons.1 k).1 b (by simp)
    omega
  | [], h1, _, _ => simp at h1

theorem te_iff {s : Sp} {r : Ri} {cs : List Co} : te s r cs = true ↔ (1 ≤ s.1 ∧ s.1 < s.2 ∧ s.2 ≤ 292195 ∧ s.2 - s.1 ≤ 1100) ∧ rk r.k r.v r.a r.z = true ∧ cvr cs = true := by
  unfold te
  rw [Bool.and_eq_true, Bool.and_eq_true, Bool.and_eq_true, wi_iff]
  constructor
  · rintro ⟨h1, h2, h3, h4⟩
    have k := (rt_iff s).1 h1
    rw [mn, if_pos h1] at h2
    exact ⟨by omega, h3, h4⟩
  · rintro ⟨h1, h3, h4⟩
    have k : rt s = true := (rt_iff s).2 (by omega)
    refine ⟨k, ?_, h3, h4⟩
    rw [mn, if_pos k]; omega
/-- The span's part of it. -/
def spn (s : Sp) : Bool := decide (1 ≤ s.1 ∧ s.1 < s.2 ∧ s.2 ≤ 292195 ∧ s.2 - s.1 ≤ 1100)
theorem te_is (s : Sp) (r : Ri) (cs : List Co) : te s r cs = (spn s && (rk r.k r.v r.a r.z && cvr cs)) := by
  rw [Bool.eq_iff_iff, te_iff, Bool.and_eq_true, Bool.and_eq_true, spn, decide_eq_true_eq]
theorem te_span {s t : Sp} {r : Ri} {cs : List Co} (h : te s r cs = true) : te t r cs = spn t := by
  obtain ⟨_, h2, h3⟩ := te_iff.1 h
  rw [te_is, h2, h3]; simp
theorem te_risk {s : Sp} {r q : Ri} {cs : List Co} (h : te s r cs = true) : te s q cs = rk q.k q.v q.a q.z := by
  obtain ⟨h1, h2, h3⟩ := te_iff.1 h
  rw [te_is, h3, show spn s = true from decide_eq_true h1]; simp
theorem te_covers {s : Sp} {r : Ri} {cs ds : List Co} (h : te s r cs = true) : te s r ds = cvr ds := by
  obtain ⟨h1, h2, h3⟩ := te_iff.1 h
  rw [te_is, h2, show spn s = true from decide_eq_true h1]; simp
end Te
end Go.Proofs.Ytcnlllamldlnmaa
