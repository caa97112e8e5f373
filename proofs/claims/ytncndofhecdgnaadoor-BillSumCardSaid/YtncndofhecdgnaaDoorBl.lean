/-
  Bills: plain mathematics, without the model. Conditions: those of each theorem.
-/
import Derived.IntWalk
namespace Go.Proofs.YtncndofhecdgnaaDoor
open Go.RowKit
namespace Bil
set_option linter.unusedVariables false

/-- A bill: when it is due, what it is, what of it is paid. -/
structure Bi where
  d : Int
  a : Int
  p : Int
/-- All of them together; all that is paid. -/
def am : List Bi → Int
  | [] => 0
  | b :: t => b.a + am t
def pd : List Bi → Int
  | [] => 0
  | b :: t => b.p + pd t
/-- Right from here on: so much came ahead, so was the last one due. -/
def rg (s q : Int) : List Bi → Bool
  | [] => true
  | b :: t => decide (1 ≤ b.d ∧ b.d ≤ 292194 ∧ 0 ≤ b.p ∧ b.p ≤ b.a ∧ b.a ≤ 4000000000000000000 - s ∧ q ≤ b.d) && rg (s + b.a) b.d t
/-- Bills may be. -/
def rt (l : List Bi) : Bool := decide (l.length ≤ 100) && rg 0 1 l
theorem rg_cons {s q : Int} {b : Bi} {t : List Bi} : rg s q (b :: t) = true ↔ (1 ≤ b.d ∧ b.d ≤ 292194 ∧ 0 ≤ b.p ∧ b.p ≤ b.a ∧ b.a ≤ 4000000000000000000 - s ∧ q ≤ b.d) ∧ rg (s + b.a) b.d t = true := by
  simp only [rg, Bool.and_eq_true, decide_eq_true_eq]
theorem rt_iff {l : List Bi} : rt l = true ↔ l.length ≤ 100 ∧ rg 0 1 l = true := by
  simp only [rt, Bool.and_eq_true, decide_eq_true_eq]
/-- Each of them is paid between nothing and all. -/
def Pb (l : List Bi) : Prop := ∀ b ∈ l, 0 ≤ b.p ∧ b.p ≤ b.a
theorem Pb.tail {b : Bi} {t : List Bi} (h : Pb (b :: t)) : Pb t := fun x hx => h x (List.mem_cons_of_mem _ hx)
theorem Pb.head {b : Bi} {t : List Bi} (h : Pb (b :: t)) : 0 ≤ b.p ∧ b.p ≤ b.a := h b List.mem_cons_self
theorem rg_pb {l : List Bi} : ∀ {s q : Int}, rg s q l = true → Pb l := by
  induction l with
  | nil => intro s q _ b hb; cases hb
  | cons b t ih =>
    intro s q h
    have h := rg_cons.1 h
    intro x hx
    rcases List.mem_cons.1 hx with rfl | hx
    · exact ⟨h.1.2.2.1, h.1.2.2.2.1⟩
    · exact ih h.2 x hx
theorem rg_sum {l : List Bi} : ∀ {s q : Int}, s ≤ 4000000000000000000 → rg s q l = true → am l ≤ 4000000000000000000 - s := by
  induction l with
  | nil => intro s q hs _; show (0 : Int) ≤ _; omega
  | cons b t ih =>
    intro s q hs h
    have h := rg_cons.1 h
    have := ih (by omega) h.2
    show b.a + am t ≤ _
    omega
theorem rg_day {l : List Bi} : ∀ {s q : Int}, rg s q l = true → ∀ b ∈ l, q ≤ b.d ∧ 1 ≤ b.d ∧ b.d ≤ 292194 := by
  induction l with
  | nil => intro s q _ b hb; cases hb
  | cons b t ih =>
    intro s q h x hx
    have h := rg_cons.1 h
    rcases List.mem_cons.1 hx with rfl | hx
    · exact ⟨h.1.2.2.2.2.2, h.1.1, h.1.2.1⟩
    · have := ih h.2 x hx
      omega
theorem am_nonneg {l : List Bi} (h : Pb l) : 0 ≤ am l := by
  induction l with
  | nil => exact Int.le_refl _
  | cons b t ih => have := ih h.tail; have := h.head; show 0 ≤ b.a + am t; omega
theorem pd_le {l : List Bi} (h : Pb l) : 0 ≤ pd l ∧ pd l ≤ am l := by
  induction l with
  | nil => exact ⟨Int.le_refl _, Int.le_refl _⟩
  | cons b t ih => have := ih h.tail; have := h.head; exact ⟨by show 0 ≤ b.p + pd t; omega, by show b.p + pd t ≤ b.a + am t; omega⟩
theorem am_append (l m : List Bi) : am (l ++ m) = am l + am m := by
  induction l with
  | nil => show am m = 0 + am m; omega
  | cons b t ih => show b.a + am (t ++ m) = b.a + am t + am m; omega
theorem pd_append (l m : List Bi) : pd (l ++ m) = pd l + pd m := by
  induction l with
  | nil => show pd m = 0 + pd m; omega
  | cons b t ih => show b.p + pd (t ++ m) = b.p + pd t + pd m; omega

/-- What goes to one bill. -/
def pn (b : Bi) (a : Int) : Int := min (b.a - b.p) a
/-- Paid, one behind the other, and what is left. -/
def py : List Bi → Int → List Bi × Int
  | [], a => ([], a)
  | b :: t, a => (⟨b.d, b.a, b.p + pn b a⟩ :: (py t (a - pn b a)).1, (py t (a - pn b a)).2)
theorem py_cons (b : Bi) (t : List Bi) (a : Int) : py (b :: t) a = (⟨b.d, b.a, b.p + pn b a⟩ :: (py t (a - pn b a)).1, (py t (a - pn b a)).2) := rfl
theorem pn_bd {b : Bi} {a : Int} (hb : b.p ≤ b.a) (ha : 0 ≤ a) : 0 ≤ pn b a ∧ pn b a ≤ a ∧ pn b a ≤ b.a - b.p ∧ (pn b a = a ∨ pn b a = b.a - b.p) := by
  unfold pn; omega
theorem py_append (l m : List Bi) : ∀ a, py (l ++ m) a = ((py l a).1 ++ (py m (py l a).2).1, (py m (py l a).2).2) := by
  induction l with
  | nil => intro a; rfl
  | cons b t ih => intro a; rw [List.cons_append, py_cons, py_cons, ih]; rfl
theorem py_len (l : List Bi) : ∀ a, (py l a).1.length = l.length := by
  induction l with
  | nil => intro a; rfl
  | cons b t ih => intro a; rw [py_cons]; simp [ih]
theorem py_am (l : List Bi) : ∀ a, am (py l a).1 = am l := by
  induction l with
  | nil => intro a; rfl
  | cons b t ih => intro a; rw [py_cons]; show b.a + am (py t _).1 = b.a + am t; rw [ih]
theorem py_pd (l : List Bi) : ∀ a, pd (py l a).1 + (py l a).2 = pd l + a := by
  induction l with
  | nil => intro a; rfl
  | cons b t ih =>
    intro a
    rw [py_cons]
    have := ih (a - pn b a)
    show b.p + pn b a + pd (py t (a - pn b a)).1 + (py t (a - pn b a)).2 = b.p + pd t + a
    omega
theorem py_pb {l : List Bi} (h : Pb l) : ∀ {a : Int}, 0 ≤ a → Pb (py l a).1 ∧ 0 ≤ (py l a).2 := by
  induction l with
  | nil => intro a ha; exact ⟨fun b hb => (by cases hb), ha⟩
  | cons b t ih =>
    intro a ha
    have h0 := h.head
    have hn := pn_bd h0.2 ha
    have hi := ih h.tail (a := a - pn b a) (by omega)
    rw [py_cons]
    refine ⟨fun x hx => ?_, hi.2⟩
    rcases List.mem_cons.1 hx with rfl | hx
    · exact ⟨by show 0 ≤ b.p + pn b a; omega, by show b.p + pn b a ≤ b.a; omega⟩
    · exact hi.1 x hx
theorem py_rg {l : List Bi} : ∀ {s q a : Int}, rg s q l = true → 0 ≤ a → rg s q (py l a).1 = true := by
  induction l with
  | nil => intro s q a h ha; exact h
  | cons b t ih =>
    intro s q a h ha
    have h := rg_cons.1 h
    have hn := pn_bd h.1.2.2.2.1 ha
    rw [py_cons]
    exact rg_cons.2 ⟨⟨h.1.1, h.1.2.1, by show 0 ≤ b.p + pn b a; omega, by show b.p + pn b a ≤ b.a; omega, h.1.2.2.2.2.1, h.1.2.2.2.2.2⟩, ih h.2 (by omega)⟩
theorem py_rt {l : List Bi} {a : Int} (h : rt l = true) (ha : 0 ≤ a) : rt (py l a).1 = true :=
  rt_iff.2 ⟨by rw [py_len]; exact (rt_iff.1 h).1, py_rg (rt_iff.1 h).2 ha⟩
/-- Where nothing comes in, all stays. -/
theorem py_zero {l : List Bi} (h : Pb l) : py l 0 = (l, 0) := by
  induction l with
  | nil => rfl
  | cons b t ih =>
    have hn : pn b 0 = 0 := by have := pn_bd h.head.2 (Int.le_refl 0); omega
    rw [py_cons, hn, Int.add_zero, Int.sub_zero, ih h.tail]
/-- One of them, paid. -/
theorem py_get {l : List Bi} : ∀ {a : Int} {i : Nat} {b : Bi}, l[i]? = some b → (py l a).1[i]? = some ⟨b.d, b.a, b.p + pn b (py (l.take i) a).2⟩ := by
  induction l with
  | nil => intro a i b h; simp at h
  | cons x t ih =>
    intro a i b h
    cases i with
    | zero => simp at h; subst h; rfl
    | succ i =>
      rw [py_cons, List.take_succ_cons, py_cons]
      simp only [List.getElem?_cons_succ] at h ⊢
      exact ih h
theorem py_more {l : List Bi} {a : Int} {i : Nat} {b : Bi} (h : l[i]? = some b) : (py (l.take (i + 1)) a).2 = (py (l.take i) a).2 - pn b (py (l.take i) a).2 := by
  have hk := (List.getElem?_eq_some_iff.1 h).1
  rw [List.take_add_one, h, Option.toList_some, py_append]; rfl
theorem pb_take {l : List Bi} (h : Pb l) (k : Nat) : Pb (l.take k) := fun b hb => h b (List.mem_of_mem_take hb)
theorem py_all {l : List Bi} {a : Int} {k : Nat} (h : l.length ≤ k) : (py (l.take k) a).2 = (py l a).2 := by rw [List.take_of_length_le h]
/-- If something is left, all is paid. -/
theorem py_left {l : List Bi} (h : Pb l) : ∀ {a : Int}, 0 ≤ a → (py l a).2 ≠ 0 → pd (py l a).1 = am l := by
  induction l with
  | nil => intro a _ _; rfl
  | cons b t ih =>
    intro a ha hl
    have hn := pn_bd h.head.2 ha
    rw [py_cons] at hl ⊢
    have h1 := ih h.tail (a := a - pn b a) (by omega) hl
    show b.p + pn b a + pd (py t (a - pn b a)).1 = b.a + am t
    rcases hn.2.2.2 with e | e
    · rw [e, Int.sub_self, py_zero h.tail] at hl
      exact absurd rfl hl
    · omega
/-- In two parts as in one. -/
theorem py_two {l : List Bi} (h : Pb l) : ∀ {a b : Int}, 0 ≤ a → 0 ≤ b → (py (py l a).1 b).1 = (py l (a + b)).1 ∧ (py l a).2 + (py (py l a).1 b).2 = (py l (a + b)).2 := by
  induction l with
  | nil => intro a b _ _; exact ⟨rfl, rfl⟩
  | cons x t ih =>
    intro a b ha hb
    have h0 := h.head
    have e : pn ⟨x.d, x.a, x.p + pn x a⟩ b = pn x (a + b) - pn x a := by unfold pn; simp only; omega
    have n1 := pn_bd h0.2 ha
    have n2 := pn_bd (b := x) (a := a + b) h0.2 (by omega)
    have hi := ih h.tail (a := a - pn x a) (b := b - (pn x (a + b) - pn x a)) (by omega) (by unfold pn; omega)
    rw [py_cons, py_cons, py_cons, e]
    rw [show a - pn x a + (b - (pn x (a + b) - pn x a)) = a + b - pn x (a + b) by omega] at hi
    refine ⟨?_, hi.2⟩
    rw [hi.1, show x.p + pn x a + (pn x (a + b) - pn x a) = x.p + pn x (a + b) by omega]

/-- What is open by a day. -/
def op (y : Int) : List Bi → Int
  | [] => 0
  | b :: t => (if b.d ≤ y then b.a - b.p else 0) + op y t
theorem op_cons (y : Int) (b : Bi) (t : List Bi) : op y (b :: t) = (if b.d ≤ y then b.a - b.p else 0) + op y t := rfl
theorem op_append (y : Int) (l m : List Bi) : op y (l ++ m) = op y l + op y m := by
  induction l with
  | nil => show op y m = 0 + op y m; omega
  | cons b t ih => rw [List.cons_append, op_cons, op_cons, ih]; omega
theorem op_bd {l : List Bi} (h : Pb l) (y : Int) : 0 ≤ op y l ∧ op y l ≤ am l - pd l := by
  induction l with
  | nil => exact ⟨Int.le_refl _, Int.le_refl _⟩
  | cons b t ih =>
    have := ih h.tail
    have := h.head
    rw [op_cons]
    have e : am (b :: t) - pd (b :: t) = b.a + am t - (b.p + pd t) := rfl
    rw [e]
    split <;> omega
theorem op_later {l : List Bi} (h : Pb l) {y z : Int} (hy : y ≤ z) : op y l ≤ op z l := by
  induction l with
  | nil => exact Int.le_refl _
  | cons b t ih =>
    have := ih h.tail
    have := h.head
    rw [op_cons, op_cons]
    split <;> split <;> omega
/-- A payment lessens what is open, by what it is at most. -/
theorem op_paid {l : List Bi} (h : Pb l) (y : Int) : ∀ {a : Int}, 0 ≤ a → op y (py l a).1 ≤ op y l ∧ op y l - op y (py l a).1 ≤ a - (py l a).2 := by
  induction l with
  | nil => intro a ha; exact ⟨Int.le_refl _, by show (0 : Int) - 0 ≤ a - a; omega⟩
  | cons b t ih =>
    intro a ha
    have hn := pn_bd h.head.2 ha
    have hi := ih h.tail (a := a - pn b a) (by omega)
    rw [py_cons, op_cons, op_cons]
    simp only
    split <;> omega
theorem op_none {l : List Bi} {y : Int} (h : ∀ b ∈ l, y < b.d) : op y l = 0 := by
  induction l with
  | nil => rfl
  | cons b t ih =>
    rw [op_cons, if_neg (by have := h b List.mem_cons_self; omega), ih fun x hx => h x (List.mem_cons_of_mem _ hx)]; rfl
/-- Paid up to a day. -/
theorem op_all {l : List Bi} {y : Int} : ∀ {s q : Int}, rg s q l = true → (py l (op y l)).2 = 0 ∧ op y (py l (op y l)).1 = 0 ∧ ∀ (i : Nat) (b : Bi), l[i]? = some b → y < b.d → (py l (op y l)).1[i]? = some b := by
  induction l with
  | nil => intro s q _; exact ⟨rfl, rfl, fun i b h => by simp at h⟩
  | cons x t ih =>
    intro s q h
    have hp := rg_pb h
    have h := rg_cons.1 h
    by_cases hx : x.d ≤ y
    · have ho := op_bd hp.tail y
      have h0 := hp.head
      have e : op y (x :: t) = x.a - x.p + op y t := by rw [op_cons, if_pos hx]
      have hn : pn x (x.a - x.p + op y t) = x.a - x.p := by unfold pn; omega
      rw [e, py_cons, hn, show x.a - x.p + op y t - (x.a - x.p) = op y t by omega]
      obtain ⟨i1, i2, i3⟩ := ih h.2
      refine ⟨i1, ?_, fun i b hb hd => ?_⟩
      · rw [op_cons, i2]; simp only; rw [if_pos hx]; omega
      · cases i with
        | zero => simp at hb; subst hb; omega
        | succ i => simp only [List.getElem?_cons_succ] at hb ⊢; exact i3 i b hb hd
    · have e : op y (x :: t) = 0 := op_none fun b hb => by
        rcases List.mem_cons.1 hb with rfl | hb
        · omega
        · have := (rg_day h.2 b hb).1; omega
      rw [e, py_zero hp]
      exact ⟨rfl, e, fun i b hb _ => hb⟩

end Bil
end Go.Proofs.YtncndofhecdgnaaDoor
