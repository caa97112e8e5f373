/-
  Books of entries: plain mathematics, without the model. Conditions: those of each theorem.
-/
import Derived.IntWalk
namespace Go.Proofs.Ytheamhjgohacdaa
open Go.RowKit
namespace Bk
set_option linter.unusedVariables false

abbrev Pr := Int × Int
/-- An entry: its day, what it is for, its lines (account, amount). -/
structure En where
  day : Int
  fr : Int
  ls : List Pr

theorem take_more {α : Type} {xs : List α} {k : Nat} {x : α} (h : xs[k]? = some x) : xs.take (k + 1) = xs.take k ++ [x] := by
  obtain ⟨hk, e⟩ := List.getElem?_eq_some_iff.1 h
  rw [List.take_succ_eq_append_getElem hk, e]
theorem drop_get {α : Type} {xs : List α} {k : Nat} {x : α} (h : xs[k]? = some x) : xs.drop k = x :: xs.drop (k + 1) := by
  obtain ⟨hk, e⟩ := List.getElem?_eq_some_iff.1 h
  rw [← e, List.drop_eq_getElem_cons hk]

theorem wr_add (a b : Int) : wrap64 (wrap64 a + b) = wrap64 (a + b) := by unfold wrap64; omega
theorem wr_add' (a b : Int) : wrap64 (a + wrap64 b) = wrap64 (a + b) := by unfold wrap64; omega
theorem wr_sub (a b : Int) : wrap64 (wrap64 a - wrap64 b) = wrap64 (a - b) := by unfold wrap64; omega
theorem wr_wr (a : Int) : wrap64 (wrap64 a) = wrap64 a := by unfold wrap64; omega
theorem wr_in {a : Int} (h1 : -9223372036854775808 ≤ a) (h2 : a ≤ 9223372036854775807) : wrap64 a = a := by unfold wrap64; omega
theorem wr_fit (a : Int) : -9223372036854775808 ≤ wrap64 a ∧ wrap64 a ≤ 9223372036854775807 := by unfold wrap64; omega

/-- An amount that may stand in a line. -/
def okA (x : Int) : Bool := decide (x ≠ 0 ∧ -1000000000000000 ≤ x ∧ x ≤ 1000000000000000)
theorem okA_iff (x : Int) : okA x = true ↔ x ≠ 0 ∧ -1000000000000000 ≤ x ∧ x ≤ 1000000000000000 := by simp [okA]
theorem okA_no {x : Int} (h : ¬ (x ≠ 0 ∧ -1000000000000000 ≤ x ∧ x ≤ 1000000000000000)) : okA x = false := by
  cases e : okA x
  · rfl
  · exact absurd ((okA_iff x).1 e) h

/-- Lines that rise, behind an account. -/
def lnB : Int → List Pr → Bool
  | _, [] => true
  | last, l :: t => if last < l.1 ∧ l.1 ≤ 9 ∧ okA l.2 = true then lnB l.1 t else false
theorem lnB_yes {last : Int} {l : Pr} {t : List Pr} (h1 : last < l.1) (h2 : l.1 ≤ 9) (h3 : okA l.2 = true) : lnB last (l :: t) = lnB l.1 t := by
  rw [lnB, if_pos ⟨h1, h2, h3⟩]
theorem lnB_no {last : Int} {l : Pr} {t : List Pr} (h : ¬ (last < l.1 ∧ l.1 ≤ 9 ∧ okA l.2 = true)) : lnB last (l :: t) = false := by
  rw [lnB, if_neg h]

/-- The head of an entry. -/
def hdB (e : En) : Bool := decide (1 ≤ e.day ∧ e.day ≤ 292194 ∧ 0 ≤ e.fr ∧ e.fr ≤ 1000000000 ∧ 2 ≤ e.ls.length ∧ e.ls.length ≤ 9)
theorem hdB_iff (e : En) : hdB e = true ↔ 1 ≤ e.day ∧ e.day ≤ 292194 ∧ 0 ≤ e.fr ∧ e.fr ≤ 1000000000 ∧ 2 ≤ e.ls.length ∧ e.ls.length ≤ 9 := by simp [hdB]
/-- Formed. -/
def fm (e : En) : Bool := hdB e && lnB 0 e.ls
theorem fm_hd {e : En} (h : fm e = true) : hdB e = true := by unfold fm at h; cases h1 : hdB e <;> simp_all
theorem fm_no {e : En} (h : ¬ (1 ≤ e.day ∧ e.day ≤ 292194 ∧ 0 ≤ e.fr ∧ e.fr ≤ 1000000000 ∧ 2 ≤ e.ls.length ∧ e.ls.length ≤ 9)) : fm e = false := by
  unfold fm
  cases h1 : hdB e
  · rfl
  · exact absurd ((hdB_iff e).1 h1) h
theorem fm_yes {e : En} (h : 1 ≤ e.day ∧ e.day ≤ 292194 ∧ 0 ≤ e.fr ∧ e.fr ≤ 1000000000 ∧ 2 ≤ e.ls.length ∧ e.ls.length ≤ 9) : fm e = lnB 0 e.ls := by
  unfold fm; rw [(hdB_iff e).2 h]; rfl
theorem fm_len {e : En} (h : fm e = true) : 2 ≤ e.ls.length ∧ e.ls.length ≤ 9 := ((hdB_iff e).1 (fm_hd h)).2.2.2.2

/-- All amounts of lines; those of an account. -/
def tot (ls : List Pr) : Int := (ls.map (·.2)).sum
def ofA (acc : Int) (ls : List Pr) : Int := (ls.map fun l => if l.1 = acc then l.2 else 0).sum
theorem tot_nil : tot [] = 0 := rfl
theorem tot_cons (l : Pr) (t : List Pr) : tot (l :: t) = l.2 + tot t := by simp [tot]
theorem tot_snoc (ls : List Pr) (l : Pr) : tot (ls ++ [l]) = tot ls + l.2 := by simp [tot]
theorem ofA_nil (acc : Int) : ofA acc [] = 0 := rfl
theorem ofA_cons (acc : Int) (l : Pr) (t : List Pr) : ofA acc (l :: t) = (if l.1 = acc then l.2 else 0) + ofA acc t := by simp [ofA]
theorem ofA_snoc (acc : Int) (ls : List Pr) (l : Pr) : ofA acc (ls ++ [l]) = ofA acc ls + if l.1 = acc then l.2 else 0 := by simp [ofA]

theorem lnB_all {last : Int} {ls : List Pr} (h : lnB last ls = true) : ∀ l ∈ ls, last < l.1 ∧ l.1 ≤ 9 ∧ okA l.2 = true := by
  induction ls generalizing last with
  | nil => intro l hl; cases hl
  | cons l t ih =>
    by_cases c : last < l.1 ∧ l.1 ≤ 9 ∧ okA l.2 = true
    · rw [lnB_yes c.1 c.2.1 c.2.2] at h
      intro x hx
      rcases List.mem_cons.1 hx with rfl | hx
      · exact c
      · have := ih h x hx
        exact ⟨by omega, this.2⟩
    · rw [lnB_no c] at h; cases h
theorem fm_lines {e : En} (h : fm e = true) : ∀ l ∈ e.ls, 1 ≤ l.1 ∧ l.1 ≤ 9 ∧ okA l.2 = true := by
  have h2 := h
  rw [fm_yes ((hdB_iff e).1 (fm_hd h))] at h2
  intro l hl
  have := lnB_all h2 l hl
  exact ⟨by omega, this.2⟩
theorem tot_bound {ls : List Pr} (h : ∀ l ∈ ls, okA l.2 = true) : -(1000000000000000 * (ls.length : Int)) ≤ tot ls ∧ tot ls ≤ 1000000000000000 * (ls.length : Int) := by
  induction ls with
  | nil => simp [tot]
  | cons l t ih =>
    have a := (okA_iff _).1 (h l (by simp))
    have b := ih fun x hx => h x (by simp [hx])
    rw [tot_cons]
    simp only [List.length_cons]
    omega

/-- All accounts together: what lines come to. -/
def accs : List Int := [1, 2, 3, 4, 5, 6, 7, 8, 9]
def allA (f : Int → Int) : Int := f 1 + f 2 + f 3 + f 4 + f 5 + f 6 + f 7 + f 8 + f 9
theorem allA_add (f g : Int → Int) : allA (fun a => f a + g a) = allA f + allA g := by simp only [allA]; omega
theorem allA_zero : allA (fun _ => 0) = 0 := rfl
theorem allA_one {a x : Int} (h1 : 1 ≤ a) (h2 : a ≤ 9) : allA (fun acc => if a = acc then x else 0) = x := by
  have : a = 1 ∨ a = 2 ∨ a = 3 ∨ a = 4 ∨ a = 5 ∨ a = 6 ∨ a = 7 ∨ a = 8 ∨ a = 9 := by omega
  unfold allA
  rcases this with rfl | rfl | rfl | rfl | rfl | rfl | rfl | rfl | rfl <;> simp
theorem allA_of {ls : List Pr} (h : ∀ l ∈ ls, 1 ≤ l.1 ∧ l.1 ≤ 9) : allA (fun acc => ofA acc ls) = tot ls := by
  induction ls with
  | nil => rfl
  | cons l t ih =>
    have a := h l (by simp)
    rw [tot_cons, ← ih fun x hx => h x (by simp [hx])]
    simp only [ofA_cons]
    rw [allA_add, allA_one a.1 a.2]

/-- Right. -/
def rgt (e : En) : Bool := fm e && (tot e.ls == 0)
theorem rgt_iff (e : En) : rgt e = true ↔ fm e = true ∧ tot e.ls = 0 := by simp [rgt]

/-- What an account has in entries that are asked for. -/
def bal (p : Int → Bool) (acc : Int) (es : List En) : Int := (es.map fun e => if p e.day = true then ofA acc e.ls else 0).sum
theorem bal_nil (p : Int → Bool) (acc : Int) : bal p acc [] = 0 := rfl
theorem bal_cons (p : Int → Bool) (acc : Int) (e : En) (es : List En) : bal p acc (e :: es) = (if p e.day = true then ofA acc e.ls else 0) + bal p acc es := by simp [bal]
theorem bal_snoc (p : Int → Bool) (acc : Int) (es : List En) (e : En) : bal p acc (es ++ [e]) = bal p acc es + if p e.day = true then ofA acc e.ls else 0 := by simp [bal]
theorem bal_yes {p : Int → Bool} {acc : Int} {es : List En} {k : Nat} {e : En} (h : es[k]? = some e) (hp : p e.day = true) : bal p acc (es.take (k + 1)) = bal p acc (es.take k) + ofA acc e.ls := by
  rw [take_more h, bal_snoc, if_pos hp]
theorem bal_no {p : Int → Bool} {acc : Int} {es : List En} {k : Nat} {e : En} (h : es[k]? = some e) (hp : p e.day = false) : bal p acc (es.take (k + 1)) = bal p acc (es.take k) := by
  rw [take_more h, bal_snoc, if_neg (by rw [hp]; simp), Int.add_zero]
theorem bal_congr {p q : Int → Bool} {acc : Int} {es : List En} (h : ∀ e ∈ es, p e.day = q e.day) : bal p acc es = bal q acc es := by
  unfold bal
  congr 1
  exact List.map_congr_left fun e he => by rw [h e he]
theorem bal_none {p : Int → Bool} {acc : Int} {es : List En} (h : ∀ e ∈ es, p e.day = false) : bal p acc es = 0 := by
  induction es with
  | nil => rfl
  | cons e t ih => rw [bal_cons, h e (by simp), ih fun x hx => h x (by simp [hx])]; simp
/-- Days up to one. -/
def upto (d x : Int) : Bool := decide (x ≤ d)
theorem allA_bal {p : Int → Bool} {es : List En} (h : ∀ e ∈ es, rgt e = true) : allA (fun acc => bal p acc es) = 0 := by
  induction es with
  | nil => rfl
  | cons e t ih =>
    simp only [bal_cons]
    rw [allA_add, ih fun x hx => h x (by simp [hx])]
    obtain ⟨a, b⟩ := (rgt_iff e).1 (h e (by simp))
    by_cases hp : p e.day = true
    · simp only [hp, if_true]
      rw [allA_of fun l hl => ⟨(fm_lines a l hl).1, (fm_lines a l hl).2.1⟩, b]; rfl
    · simp only [hp]; rfl
/-- Two conditions that part a third one. -/
theorem bal_part {p q r : Int → Bool} {acc : Int} {es : List En} (h : ∀ d, (if p d = true then (1 : Int) else 0) = (if q d = true then 1 else 0) + if r d = true then 1 else 0) : bal p acc es = bal q acc es + bal r acc es := by
  induction es with
  | nil => rfl
  | cons e t ih =>
    rw [bal_cons, bal_cons, bal_cons, ih]
    have := h e.day
    cases hp : p e.day <;> cases hq : q e.day <;> cases hr : r e.day <;> simp [hp, hq, hr] at this ⊢ <;> omega

end Bk
end Go.Proofs.Ytheamhjgohacdaa
