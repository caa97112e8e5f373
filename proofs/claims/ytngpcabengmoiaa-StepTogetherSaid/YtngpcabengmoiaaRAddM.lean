/-
  What the document's Add makes, without model. Conditions: those of each theorem.
-/
import Derived.Test.YtngpcabengmoiaaRSetM
namespace Go.Proofs.Ytngpcabengmoiaa
open Go.RowKit St
namespace Stp
set_option linter.unusedVariables false

theorem val_take {d : Int} : ∀ (ps : List Pr) (j : Nat) (h : Int), (∀ x, ps[j]? = some x → d < x.1) → val h ps d = val h (ps.take j) d
  | [], j, h, _ => by simp
  | x :: r, 0, h, hx => by rw [List.take_zero, show val h ([] : List Pr) d = h from rfl, val, if_neg (by have := hx x (by simp); omega)]
  | x :: r, j + 1, h, hx => by
    rw [List.take_succ_cons, val, val]
    split
    · exact val_take r j x.2 (fun y hy => hx y (by simpa using hy))
    · rfl
/-- How far one of the two has been read. -/
structure Hf (ps : List Pr) (i : Nat) (B : Int) : Prop where
  le : ∀ x, ps[i]? = some x → B ≤ x.1
  lt : ∀ x ∈ ps.take i, x.1 < B
/-- One of the two on a day: it is read on, or not. -/
def Go1 (ps : List Pr) (i i' : Nat) (D : Int) : Prop := (i' = i ∧ ∀ x, ps[i]? = some x → D < x.1) ∨ (i' = i + 1 ∧ ∃ v, ps[i]? = some (D, v))
theorem Hf.start {ps : List Pr} (h : Rt 0 0 ps) : Hf ps 0 1 := ⟨fun x hx => rt_pos (Int.le_refl 0) h x (List.mem_of_getElem? hx), fun x hx => by simp at hx⟩
theorem Hf.step {ps : List Pr} {i i' : Nat} {B D : Int} (h : Hf ps i B) (hr : Rt 0 0 ps) (hB : B ≤ D) (hg : Go1 ps i i' D) :
    Hf ps i' (D + 1) ∧ val 0 ps D = lst 0 (ps.take i') ∧ ∀ d, val 0 (ps.take i') d = if D ≤ d then lst 0 (ps.take i') else val 0 (ps.take i) d := by
  rcases hg with ⟨rfl, hn⟩ | ⟨rfl, v, hz⟩
  · have hv : ∀ d, D ≤ d → val 0 (ps.take i') d = lst 0 (ps.take i') := fun d hd => val_lst 0 _ d (fun x hx => by have := h.lt x hx; omega)
    refine ⟨⟨fun x hx => by have := hn x hx; omega, fun x hx => by have := h.lt x hx; omega⟩, ?_, fun d => ?_⟩
    · rw [val_take ps i' 0 hn, hv D (Int.le_refl _)]
    · split
      · rename_i hd; exact hv d hd
      · rfl
  · have ht := take_more hz
    have hrt := hr.take (i + 1)
    have hs := Rt.pw (hr.take (i + 1 + 1))
    have hlt : ∀ x, ps[i + 1]? = some x → D < x.1 := fun x hx => by
      have h2 := take_more hx
      rw [h2, ht, List.pairwise_append] at hs
      exact hs.2.2 (D, v) (by simp) x (by simp)
    rw [ht] at hrt
    have hl : lst 0 (ps.take (i + 1)) = v := by rw [ht, lst_snoc]
    refine ⟨⟨fun x hx => by have := hlt x hx; omega, fun x hx => ?_⟩, ?_, fun d => ?_⟩
    · rw [ht] at hx
      rcases List.mem_append.1 hx with hx | hx
      · have := h.lt x hx; omega
      · simp at hx; subst hx; simp only; omega
    · rw [val_take ps (i + 1) 0 hlt, hl, ht, val_snoc hrt, if_pos (Int.le_refl _)]
    · rw [hl, ht, val_snoc hrt]
/-- Both, and what was made of them. -/
structure Ai (ps qs : List Pr) (i k : Nat) (B : Int) (out : List Pr) : Prop where
  p : Hf ps i B
  q : Hf qs k B
  w : Wi out B (fun d => val 0 (ps.take i) d + val 0 (qs.take k) d)
  n : out.length ≤ i + k
  b : 1 ≤ B
theorem Ai.start {ps qs : List Pr} (hp : Rt 0 0 ps) (hq : Rt 0 0 qs) : Ai ps qs 0 0 1 [] :=
  ⟨Hf.start hp, Hf.start hq, ⟨trivial, fun x h => by simp at h, fun x h => by simp at h, fun d _ => by simp [val]⟩, by simp, Int.le_refl _⟩
theorem Ai.sum {ps qs : List Pr} {i k i' k' : Nat} {B D : Int} {out : List Pr} (h : Ai ps qs i k B out) (hp : Rt 0 0 ps) (hq : Rt 0 0 qs) (hB : B ≤ D) (g1 : Go1 ps i i' D) (g2 : Go1 qs k k' D) : addG ps qs D = lst 0 (ps.take i') + lst 0 (qs.take k') := by
  rw [addG, (h.p.step hp hB g1).2.1, (h.q.step hq hB g2).2.1]
theorem Ai.next {ps qs : List Pr} {i k i' k' : Nat} {B D : Int} {out : List Pr} (h : Ai ps qs i k B out) (hp : Rt 0 0 ps) (hq : Rt 0 0 qs) (hB : B ≤ D) (g1 : Go1 ps i i' D) (g2 : Go1 qs k k' D) (hi : i + k + 1 ≤ i' + k') {s : Int} (hs : lst 0 (ps.take i') + lst 0 (qs.take k') = s) (hf : St.fits s = true) : Ai ps qs i' k' (D + 1) (wt out D s) := by
  obtain ⟨p1, p2, p3⟩ := h.p.step hp hB g1
  obtain ⟨q1, q2, q3⟩ := h.q.step hq hB g2
  have hw := h.w.put (x := D) (v := s) hB (by have := h.b; omega) hf
  refine ⟨p1, q1, ⟨hw.r, hw.f, hw.lt, fun d hd => ?_⟩, ?_, by have := h.b; omega⟩
  · rw [hw.v d hd, p3 d, q3 d]
    by_cases hd' : D ≤ d
    · rw [if_pos hd', if_pos hd', if_pos hd', hs]
    · rw [if_neg hd', if_neg hd', if_neg hd']
  · have := wt_len out D s
    have := h.n
    omega
/-- All read. -/
theorem Ai.fin {ps qs : List Pr} {i k : Nat} {B : Int} {out : List Pr} (h : Ai ps qs i k B out) (hi : ps.length ≤ i) (hk : qs.length ≤ k) : Right out ∧ ∀ d, d ≤ 292194 → val 0 out d = addG ps qs d := by
  refine ⟨⟨h.w.r, h.w.f⟩, fun d hd => ?_⟩
  rw [h.w.v d hd, List.take_of_length_le hi, List.take_of_length_le hk, addG]
/-- All days' sums fit. -/
def AllFit (ps qs : List Pr) : Prop := ∀ d, 1 ≤ d → d ≤ 292194 → St.fits (addG ps qs d) = true
/-- What Add makes. -/
def addL (ps qs : List Pr) : List Pr := (mks (addG ps qs) (chg (1, 292195) (ps.map (·.1)) (qs.map (·.1)))).1
theorem Ai.all {ps qs : List Pr} (hp : Right ps) (hq : Right qs) {i k : Nat} {B : Int} {out : List Pr} (h : Ai ps qs i k B out) (hi : ps.length ≤ i) (hk : qs.length ≤ k) : AllFit ps qs ∧ out = addL ps qs := by
  obtain ⟨h1, h2⟩ := h.fin hi hk
  have ha : AllFit ps qs := fun d _ d2 => by rw [← h2 d d2]; exact val_fits h1.2 d
  have hm := made_add hp.1 hq.1
  refine ⟨ha, St.right_eq h1 ⟨hm.1, hm.fit_iff.2 ha⟩ fun d d1 d2 => ?_⟩
  rw [h2 d d2]
  exact (hm.2 d d1 d2).symm

end Stp
end Go.Proofs.Ytngpcabengmoiaa
