/-
  Two steps together: plain mathematics, without the model. Conditions: those of each theorem.
-/
import Derived.Test.YtngpcabengmoiaaAddN
namespace Go.Proofs.Ytngpcabengmoiaa
open Go.RowKit St
namespace Stp
set_option linter.unusedVariables false

/-- A step with its own values, turned. -/
def ng (ps : List Pr) : List Pr := ps.map fun x => (x.1, -x.2)
theorem ng_at (ps : List Pr) : (ng ps).map (·.1) = ps.map (·.1) := by simp [ng]
theorem ng_val (ps : List Pr) : (ng ps).map (·.2) = ps.map (fun x => -x.2) := by simp [ng]
theorem ng_len (ps : List Pr) : (ng ps).length = ps.length := by simp [ng]
theorem ng_rt {day held : Int} {ps : List Pr} (h : Rt day held ps) : Rt day (-held) (ng ps) := by
  induction ps generalizing day held with
  | nil => trivial
  | cons x r ih => exact ⟨h.1, h.2.1, fun e => h.2.2.1 (by simp only at e; omega), ih h.2.2.2⟩
theorem ng_right {ps : List Pr} (h : Right ps) : Right (ng ps) := by
  refine ⟨?_, fun x hx => ?_⟩
  · have := ng_rt h.1
    simpa using this
  · obtain ⟨y, hy, rfl⟩ := List.mem_map.1 hx
    have := (fits_iff _).1 (h.2 y hy)
    exact (fits_iff _).2 (by simp only; omega)
theorem ng_v (held : Int) (ps : List Pr) (d : Int) : val (-held) (ng ps) d = - val held ps d := by
  induction ps generalizing held with
  | nil => rfl
  | cons x r ih =>
    show (if x.1 ≤ d then val (-x.2) (ng r) d else -held) = -(if x.1 ≤ d then val x.2 r d else held)
    split
    · exact ih x.2
    · rfl
theorem nil_right : Right [] := ⟨trivial, fun x hx => by cases hx⟩
theorem addL_is {ps qs : List Pr} (hp : Right ps) (hq : Right qs) : Is (addL ps qs) (addG ps qs) := made_add hp.1 hq.1
theorem addL_right {ps qs : List Pr} (hp : Right ps) (hq : Right qs) (hf : AllFit ps qs) : Right (addL ps qs) := ⟨(addL_is hp hq).1, (addL_is hp hq).fit_iff.2 hf⟩
theorem ng_fit {ps : List Pr} : AllFit ps (ng ps) := by
  intro d _ _
  have := ng_v 0 ps d
  unfold addG
  rw [show (0 : Int) = -0 from rfl, this, show (-0 : Int) = 0 from rfl]
  rw [show val 0 ps d + -val 0 ps d = 0 by omega]
  decide
theorem ng_add {ps : List Pr} (hp : Right ps) : addL ps (ng ps) = [] := by
  refine (addL_is hp (ng_right hp)).unique (h := fun _ => 0) ⟨trivial, fun d _ _ => rfl⟩ fun d _ _ => ?_
  have := ng_v 0 ps d
  unfold addG
  rw [show (0 : Int) = -0 from rfl, this, show (-0 : Int) = 0 from rfl]
  omega
theorem nil_fit {ps : List Pr} (hp : Right ps) : AllFit ps [] := by
  intro d _ _
  unfold addG
  rw [show val 0 [] d = 0 from rfl, Int.add_zero]
  exact val_fits hp.2 d
theorem nil_add {ps : List Pr} (hp : Right ps) : addL ps [] = ps := by
  refine (addL_is hp nil_right).unique (h := val 0 ps) ⟨hp.1, fun d _ _ => rfl⟩ fun d _ _ => ?_
  unfold addG
  rw [show val 0 [] d = 0 from rfl, Int.add_zero]
theorem addG_comm (ps qs : List Pr) : addG ps qs = addG qs ps := by funext d; unfold addG; omega
theorem fit_comm {ps qs : List Pr} : AllFit ps qs ↔ AllFit qs ps := by unfold AllFit; rw [addG_comm]
theorem add_comm_ {ps qs : List Pr} (hp : Right ps) (hq : Right qs) : addL qs ps = addL ps qs :=
  (addL_is hq hp).unique (addL_is hp hq) fun d _ _ => by rw [addG_comm]
theorem tot_addG (ps qs : List Pr) (a : Int) (n : Nat) : tot (addG ps qs) a n = tot (val 0 ps) a n + tot (val 0 qs) a n := by
  induction n with
  | zero => rfl
  | succ n ih => simp only [tot]; rw [ih]; unfold addG; omega
theorem tot_same {f g : Int → Int} (a : Int) (n : Nat) (h : ∀ x, a ≤ x → x < a + n → f x = g x) : tot f a n = tot g a n := by
  induction n with
  | zero => rfl
  | succ n ih => simp only [tot]; rw [ih fun x h1 h2 => h x h1 (by omega), h (a + n) (by omega) (by omega)]
theorem sums_add {ps qs : List Pr} (hp : Right ps) (hq : Right qs) (hf : AllFit ps qs) {p q : Int} (h1 : 1 ≤ p) (h2 : p < q) (h3 : q ≤ 292195) : sums (PL (addL ps qs) (p, q)) = sums (PL ps (p, q)) + sums (PL qs (p, q)) := by
  rw [(PL_tot (addL_is hp hq).1 (s := (p, q)) h2).1, (PL_tot hp.1 (s := (p, q)) h2).1, (PL_tot hq.1 (s := (p, q)) h2).1, ← tot_addG]
  refine tot_same _ _ fun x g1 g2 => (addL_is hp hq).2 x (by simp only at g1; omega) ?_
  simp only at g2
  omega
/-- If all three sums are told, they add up. -/
theorem sums_say {ps qs : List Pr} (hp : Right ps) (hq : Right qs) (hf : AllFit ps qs) {p q : Int} (h1 : 1 ≤ p) (h2 : p < q) (h3 : q ≤ 292195) (e1 : se (PL ps (p, q)) = 0) (e2 : se (PL qs (p, q)) = 0) (e3 : se (PL (addL ps qs) (p, q)) = 0) :
    sv (PL ps (p, q)) + sv (PL qs (p, q)) = sv (PL (addL ps qs) (p, q)) := by
  have ok : ∀ {l : List (Pr × Int)}, se l = 0 → sizes l ≤ 4000000000000000000 := by
    intro l h
    unfold se at h
    split at h
    · assumption
    · cases h
  rw [sv_ok (ok e1), sv_ok (ok e2), sv_ok (ok e3), sums_add hp hq hf h1 h2 h3]
theorem add_at {ps qs : List Pr} (hp : Right ps) (hq : Right qs) {x : Int} (h1 : 1 ≤ x) (h2 : x ≤ 292194) : val 0 (addL ps qs) x = val 0 ps x + val 0 qs x := (addL_is hp hq).2 x h1 h2

end Stp
end Go.Proofs.Ytngpcabengmoiaa
