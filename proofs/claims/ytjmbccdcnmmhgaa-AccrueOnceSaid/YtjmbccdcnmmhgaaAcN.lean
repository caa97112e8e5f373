/-
  A step laid on end, slice by slice: plain mathematics. Conditions: those of each theorem. No model.
-/
import Derived.Test.YtjmbccdcnmmhgaaAc
namespace Go.Proofs.Ytjmbccdcnmmhgaa
open Sp Sl
namespace Acr
set_option linter.unusedVariables false

/-- A step that has a value from a day on. -/
def trn (ps : List Stm.Pr) (d v : Int) : List Stm.Pr := if v = Stm.lst 0 ps ∨ 292194 < d then ps else ps ++ [(d, v)]
theorem trn_same {ps : List Stm.Pr} {d v : Int} (h : v = Stm.lst 0 ps) : trn ps d v = ps := if_pos (.inl h)
theorem trn_late {ps : List Stm.Pr} {d v : Int} (h : 292194 < d) : trn ps d v = ps := if_pos (.inr h)
theorem trn_more {ps : List Stm.Pr} {d v : Int} (h : v ≠ Stm.lst 0 ps) (h2 : d ≤ 292194) : trn ps d v = ps ++ [(d, v)] := if_neg (by omega)
theorem trn_len (ps : List Stm.Pr) (d v : Int) : (trn ps d v).length ≤ ps.length + 1 := by
  unfold trn; split <;> simp
theorem trn_ok {ps : List Stm.Pr} {d v : Int} (hR : Stm.Right ps) (hd : ∀ x ∈ ps, x.1 < d) (h1 : 1 ≤ d) (hv : -4000000000000000000 ≤ v ∧ v ≤ 4000000000000000000) :
    Stm.Right (trn ps d v) ∧ (∀ x ∈ trn ps d v, x.1 ≤ d) ∧ ∀ t, t ≤ 292194 → Stm.val 0 (trn ps d v) t = if d ≤ t then v else Stm.val 0 ps t := by
  by_cases e : v = Stm.lst 0 ps
  · rw [trn_same e]
    refine ⟨hR, fun x hx => Int.le_of_lt (hd x hx), fun t ht => ?_⟩
    split
    · rw [Stm.val_lst 0 ps t fun x hx => by have := hd x hx; omega, e]
    · rfl
  · by_cases hl : d ≤ 292194
    · rw [trn_more e hl]
      have hr : Stm.Rt 0 0 (ps ++ [(d, v)]) := hR.1.snoc hd (by show (0 : Int) < d; omega) hl e
      refine ⟨⟨hr, fun x hx => ?_⟩, fun x hx => ?_, fun t ht => Stm.val_snoc hr t⟩
      · rcases List.mem_append.1 hx with hx | hx
        · exact hR.2 x hx
        · rw [List.mem_singleton.1 hx]; exact (Stm.fits_iff v).2 hv
      · rcases List.mem_append.1 hx with hx | hx
        · exact Int.le_of_lt (hd x hx)
        · rw [List.mem_singleton.1 hx]; exact Int.le_refl _
    · rw [trn_late (by omega)]
      exact ⟨hR, fun x hx => Int.le_of_lt (hd x hx), fun t ht => by rw [if_neg (by omega)]⟩
theorem cst_hi {l : List Sc} {d : Int} (h : ∀ y ∈ l, y.s.2 ≤ d) : cst l d = 0 := by
  induction l with
  | nil => rfl
  | cons x l ih =>
    have := h x (by simp)
    rw [cst, if_neg (by omega), ih fun y hy => h y (by simp [hy])]
/-- What has been laid of some slices, up to a day. -/
structure Pre (l : List Sc) (ps : List Stm.Pr) (e : Int) : Prop where
  r : Stm.Right ps
  lt : ∀ x ∈ ps, x.1 < e
  lo : 1 ≤ e
  hi : e ≤ 292195
  v : ∀ d, 1 ≤ d → d < e → Stm.val 0 ps d = cst l d
  e : ∀ y ∈ l, y.s.2 ≤ e
theorem Pre.nil : Pre [] [] 1 := ⟨⟨trivial, fun x hx => by cases hx⟩, (fun x hx => by cases hx), Int.le_refl _, by decide, (fun d _ _ => rfl), fun y hy => by cases hy⟩
theorem Pre.gap {l : List Sc} {ps : List Stm.Pr} {e f : Int} (h : Pre l ps e) (h1 : e < f) (h2 : f ≤ 292194) : Pre l (trn ps e 0) f := by
  obtain ⟨k1, k2, k3⟩ := trn_ok h.r h.lt h.lo (v := 0) (by omega)
  refine ⟨k1, fun x hx => by have := k2 x hx; omega, by have := h.lo; omega, by omega, fun d d1 d2 => ?_, fun y hy => by have := h.e y hy; omega⟩
  rw [k3 d (by omega)]
  split
  · rw [cst_hi fun y hy => by have := h.e y hy; omega]
  · exact h.v d d1 (by omega)
theorem Pre.slice {l : List Sc} {ps : List Stm.Pr} {x : Sc} (h : Pre l ps x.s.1) (h1 : x.s.1 < x.s.2) (h2 : x.s.2 ≤ 292195) (hy : 0 ≤ x.y ∧ x.y ≤ 4000000000000000000) : Pre (l ++ [x]) (trn ps x.s.1 x.y) x.s.2 := by
  obtain ⟨k1, k2, k3⟩ := trn_ok h.r h.lt h.lo (v := x.y) (by omega)
  refine ⟨k1, fun z hz => by have := k2 z hz; omega, by have := h.lo; omega, h2, fun d d1 d2 => ?_, fun y hy => ?_⟩
  · rw [k3 d (by omega), cst_snoc h.e]
    split
    · rw [if_pos ⟨by assumption, d2⟩]
    · rw [if_neg (by omega)]
      exact h.v d d1 (by omega)
  · rcases List.mem_append.1 hy with hy | hy
    · have := h.e y hy; omega
    · rw [List.mem_singleton.1 hy]; exact Int.le_refl _
theorem Pre.fin {l : List Sc} {ps : List Stm.Pr} {e : Int} (h : Pre l ps e) : Crv l (trn ps e 0) := by
  obtain ⟨k1, k2, k3⟩ := trn_ok h.r h.lt h.lo (v := 0) (by omega)
  refine ⟨k1, fun d d1 d2 => ?_⟩
  rw [k3 d d2]
  split
  · rw [cst_hi fun y hy => by have := h.e y hy; omega]
  · exact h.v d d1 (by omega)
/-- One round. -/
def one (x : Sc) (e : Int) : Bool := decide (e ≤ x.s.1 ∧ x.s.1 < x.s.2 ∧ x.s.2 ≤ 292195 ∧ 0 ≤ x.y ∧ x.y ≤ 4000000000000000000)
theorem rr_cons (x : Sc) (l : List Sc) (e : Int) : rr e (x :: l) = (one x e && rr x.s.2 l) := rfl

end Acr
end Go.Proofs.Ytjmbccdcnmmhgaa
