/-
  What is earned of slices by when: plain mathematics. Conditions: those of each theorem. No model.
-/
import Derived.Test.YtjmbccdcnmmhgaaSm
import Derived.Test.YtjmbccdcnmmhgaaStM
namespace Go.Proofs.Ytjmbccdcnmmhgaa
open Sp Sl
namespace Acr
set_option linter.unusedVariables false

/-- What the days of a slice ahead of a day cost. -/
def wk (x : Sc) (d : Int) : Int := max 0 (min x.s.2 d - x.s.1) * x.y
def ern : List Sc → Int → Int
  | [], _ => 0
  | x :: l, d => wk x d + ern l d
/-- What a day costs. -/
def cst : List Sc → Int → Int
  | [], _ => 0
  | x :: l, d => if x.s.1 ≤ d ∧ d < x.s.2 then x.y else cst l d
/-- Slices may be, from a day on. -/
def Rr (e : Int) : List Sc → Prop
  | [] => True
  | x :: l => e ≤ x.s.1 ∧ x.s.1 < x.s.2 ∧ x.s.2 ≤ 292195 ∧ (0 ≤ x.y ∧ x.y ≤ 4000000000000000000) ∧ Rr x.s.2 l
def rr (e : Int) : List Sc → Bool
  | [] => true
  | x :: l => decide (e ≤ x.s.1 ∧ x.s.1 < x.s.2 ∧ x.s.2 ≤ 292195 ∧ 0 ≤ x.y ∧ x.y ≤ 4000000000000000000) && rr x.s.2 l
theorem rr_iff : ∀ {l : List Sc} {e : Int}, rr e l = true ↔ Rr e l
  | [], e => by simp [rr, Rr]
  | x :: l, e => by rw [rr, Rr, Bool.and_eq_true, decide_eq_true_iff, rr_iff (l := l)]; simp [and_assoc]
def may (l : List Sc) : Bool := decide (l.length ≤ 2000) && rr 1 l
theorem may_iff {l : List Sc} : may l = true ↔ l.length ≤ 2000 ∧ Rr 1 l := by rw [may, Bool.and_eq_true, decide_eq_true_iff, rr_iff]
/-- A 365th, half-even. -/
def hf (n : Int) : Int := (n + 182) / 365
theorem hf_zero : hf 0 = 0 := by decide
theorem hf_mono {a b : Int} (h : a ≤ b) : hf a ≤ hf b := by unfold hf; omega
theorem hf_near (n : Int) : -182 ≤ 365 * hf n - n ∧ 365 * hf n - n ≤ 182 := by unfold hf; omega
/-- What Upto tells. -/
def upc (l : List Sc) (d : Int) : Int := if may l = true then if ern l d ≤ 4000000000000000000 then 0 else 5 else 1
def upv (l : List Sc) (d : Int) : Int := if upc l d = 0 then hf (ern l d) else 0
/-- What Between tells. -/
def btc (l : List Sc) (s : Int × Int) : Int := if may l = true then if rt s = true then upc l s.2 else 1 else 1
def btv (l : List Sc) (s : Int × Int) : Int := if btc l s = 0 then hf (ern l s.2) - hf (ern l s.1) else 0
theorem upc_may {l : List Sc} {d : Int} (h : upc l d = 0) : may l = true ∧ ern l d ≤ 4000000000000000000 := by
  unfold upc at h
  split at h
  · split at h
    · exact ⟨by assumption, by assumption⟩
    · cases h
  · cases h
theorem upc_ok {l : List Sc} {d : Int} (h : may l = true) (h2 : ern l d ≤ 4000000000000000000) : upc l d = 0 := by
  unfold upc; rw [if_pos h, if_pos h2]
theorem upv_ok {l : List Sc} {d : Int} (h : upc l d = 0) : upv l d = hf (ern l d) := by unfold upv; rw [if_pos h]
theorem btc_may {l : List Sc} {s : Int × Int} (h : btc l s = 0) : may l = true ∧ rt s = true ∧ upc l s.2 = 0 := by
  unfold btc at h
  split at h
  · split at h
    · exact ⟨by assumption, by assumption, h⟩
    · cases h
  · cases h
theorem btc_ok {l : List Sc} {s : Int × Int} (h : may l = true) (h2 : rt s = true) : btc l s = upc l s.2 := by
  unfold btc; rw [if_pos h, if_pos h2]
theorem btv_ok {l : List Sc} {s : Int × Int} (h : btc l s = 0) : btv l s = hf (ern l s.2) - hf (ern l s.1) := by unfold btv; rw [if_pos h]
section
variable {l : List Sc} {e a b d : Int}
theorem Rr.low {e' : Int} (h : Rr e l) (he : e' ≤ e) : Rr e' l := by
  cases l with
  | nil => trivial
  | cons x l => exact ⟨by have := h.1; omega, h.2⟩
theorem Rr.mem (h : Rr e l) : ∀ x ∈ l, e ≤ x.s.1 ∧ x.s.1 < x.s.2 ∧ x.s.2 ≤ 292195 ∧ 0 ≤ x.y ∧ x.y ≤ 4000000000000000000 := by
  induction l generalizing e with
  | nil => intro x hx; cases hx
  | cons y l ih =>
    intro x hx
    rcases List.mem_cons.1 hx with rfl | hx
    · exact ⟨h.1, h.2.1, h.2.2.1, h.2.2.2.1⟩
    · have := ih h.2.2.2.2 x hx
      have h1 := h.1
      have h2 := h.2.1
      exact ⟨by omega, this.2⟩
theorem wk_lo {x : Sc} (h : d ≤ x.s.1) : wk x d = 0 := by
  unfold wk; rw [show max 0 (min x.s.2 d - x.s.1) = 0 by omega, Int.zero_mul]
theorem wk_nonneg {x : Sc} (h : 0 ≤ x.y) : 0 ≤ wk x d := Int.mul_nonneg (by omega) h
theorem wk_mono {x : Sc} (h : 0 ≤ x.y) (hab : a ≤ b) : wk x a ≤ wk x b := Int.mul_le_mul_of_nonneg_right (by omega) h
theorem wk_hi {x : Sc} (h : x.s.2 ≤ a) (hb : a ≤ b) : wk x b = wk x a := by unfold wk; rw [show min x.s.2 b = min x.s.2 a by omega]
theorem wk_step {x : Sc} (h : x.s.1 < x.s.2) : wk x (d + 1) - wk x d = if x.s.1 ≤ d ∧ d < x.s.2 then x.y else 0 := by
  unfold wk
  split
  · rename_i h
    rw [show max 0 (min x.s.2 (d + 1) - x.s.1) = max 0 (min x.s.2 d - x.s.1) + 1 by omega, Int.add_mul, Int.one_mul]; omega
  · rename_i h
    rw [show max 0 (min x.s.2 (d + 1) - x.s.1) = max 0 (min x.s.2 d - x.s.1) by omega]; omega
theorem ern_lo (h : Rr e l) (hd : d ≤ e) : ern l d = 0 := by
  induction l generalizing e with
  | nil => rfl
  | cons x l ih =>
    have h1 := h.1
    have h2 := h.2.1
    rw [ern, wk_lo (by omega), ih h.2.2.2.2 (by omega)]; rfl
theorem ern_nonneg (h : Rr e l) : 0 ≤ ern l d := by
  induction l generalizing e with
  | nil => exact Int.le_refl _
  | cons x l ih =>
    have h1 := wk_nonneg (d := d) h.2.2.2.1.1
    have h2 := ih h.2.2.2.2
    rw [ern]; omega
theorem ern_mono (h : Rr e l) (hab : a ≤ b) : ern l a ≤ ern l b := by
  induction l generalizing e with
  | nil => exact Int.le_refl _
  | cons x l ih =>
    have h1 := wk_mono h.2.2.2.1.1 hab
    have h2 := ih h.2.2.2.2
    rw [ern, ern]; omega
theorem ern_hi {t : Int} (h : ∀ x ∈ l, x.s.2 ≤ t) (ht : t ≤ d) : ern l d = ern l t := by
  induction l with
  | nil => rfl
  | cons x l ih => rw [ern, ern, wk_hi (h x (by simp)) ht, ih fun y hy => h y (by simp [hy])]
theorem ern_all (h : Rr e l) : ern l d ≤ ern l 292195 := by
  rcases Int.le_total d 292195 with h1 | h1
  · exact ern_mono h h1
  · exact Int.le_of_eq (ern_hi (fun x hx => (h.mem x hx).2.2.1) h1)
theorem cst_lo (h : Rr e l) (hd : d < e) : cst l d = 0 := by
  induction l generalizing e with
  | nil => rfl
  | cons x l ih =>
    have h1 := h.1
    have h2 := h.2.1
    rw [cst, if_neg (by omega), ih h.2.2.2.2 (by omega)]
theorem cst_in (h : Rr e l) : 0 ≤ cst l d ∧ cst l d ≤ 4000000000000000000 := by
  induction l generalizing e with
  | nil => exact ⟨Int.le_refl _, by show (0 : Int) ≤ 4000000000000000000; decide⟩
  | cons x l ih =>
    rw [cst]
    split
    · exact h.2.2.2.1
    · exact ih h.2.2.2.2
theorem ern_step (h : Rr e l) : ern l (d + 1) - ern l d = cst l d := by
  induction l generalizing e with
  | nil => rfl
  | cons x l ih =>
    have h1 := h.1
    have h2 := h.2.1
    have hs := wk_step (d := d) h.2.1
    rw [ern, ern, cst]
    by_cases hd : x.s.1 ≤ d ∧ d < x.s.2
    · rw [if_pos hd] at hs ⊢
      have e1 := ern_lo h.2.2.2.2 (d := d) (by omega)
      have e2 := ern_lo h.2.2.2.2 (d := d + 1) (by omega)
      omega
    · rw [if_neg hd] at hs ⊢
      have := ih h.2.2.2.2
      omega
theorem ern_tot (h : Rr e l) (n : Nat) : ern l (a + n) - ern l a = Stm.tot (cst l) a n := by
  induction n with
  | zero => simp [Stm.tot]
  | succ n ih =>
    have := ern_step h (d := a + n)
    rw [Stm.tot, show a + ((n + 1 : Nat) : Int) = a + n + 1 by omega]
    omega
/-- Two rows that cost the same on all days ahead of one have earned the same by then. -/
theorem ern_same {m : List Sc} {e' : Int} (h : Rr e l) (k : Rr e' m) (he : ∀ x, x < d → cst l x = cst m x) : ern l d = ern m d := by
  obtain ⟨c, hc1, hc2, hc3⟩ : ∃ c : Int, c ≤ e ∧ c ≤ e' ∧ c ≤ d := ⟨min (min e e') d, by omega, by omega, by omega⟩
  obtain ⟨n, hn⟩ : ∃ n : Nat, d = c + n := ⟨(d - c).toNat, by omega⟩
  have h1 := ern_tot h (a := c) n
  have k1 := ern_tot k (a := c) n
  rw [ern_lo h hc1] at h1
  rw [ern_lo k hc2] at k1
  rw [Stm.tot_same (h := cst m) fun x _ hx => he x (by omega)] at h1
  rw [hn]; omega
theorem ern_append (l m : List Sc) (d : Int) : ern (l ++ m) d = ern l d + ern m d := by
  induction l with
  | nil => simp [ern]
  | cons x l ih => rw [List.cons_append, ern, ern, ih]; omega
theorem Rr.append {m : List Sc} : ∀ {l : List Sc} {e : Int}, Rr e (l ++ m) ↔ Rr e l ∧ ∃ t, e ≤ t ∧ (∀ x ∈ l, x.s.2 ≤ t) ∧ Rr t m
  | [], e => ⟨fun h => ⟨trivial, e, Int.le_refl _, (fun x hx => by cases hx), h⟩, fun ⟨_, t, ht, _, h⟩ => h.low ht⟩
  | x :: l, e => by
    rw [List.cons_append, Rr, Rr, Rr.append (l := l)]
    constructor
    · rintro ⟨h1, h2, h3, h4, h5, t, h6, h7, h8⟩
      refine ⟨⟨h1, h2, h3, h4, h5⟩, t, by omega, fun y hy => ?_, h8⟩
      rcases List.mem_cons.1 hy with rfl | hy
      · exact h6
      · exact h7 y hy
    · rintro ⟨⟨h1, h2, h3, h4, h5⟩, t, h6, h7, h8⟩
      exact ⟨h1, h2, h3, h4, h5, t, h7 x (by simp), fun y hy => h7 y (by simp [hy]), h8⟩
end
/-- A slice that is cut in two. -/
theorem wk_cut {x y z : Sc} {c : Int} (h1 : z.s.1 ≤ c) (h2 : c ≤ z.s.2) (hx : x.s = (z.s.1, c)) (hy : y.s = (c, z.s.2)) (hxy : x.y = z.y) (hyy : y.y = z.y) (d : Int) : wk x d + wk y d = wk z d := by
  unfold wk
  rw [hx, hy, hxy, hyy, ← Int.add_mul]
  congr 1
  show max 0 (min c d - z.s.1) + max 0 (min z.s.2 d - c) = _
  omega
theorem once {p q : List Sc} {x y z : Sc} {c : Int} (h1 : z.s.1 < c) (h2 : c < z.s.2) (hx : x.s = (z.s.1, c)) (hy : y.s = (c, z.s.2)) (hxy : x.y = z.y) (hyy : y.y = z.y) (d : Int) : ern (p ++ x :: y :: q) d = ern (p ++ z :: q) d := by
  rw [ern_append, ern_append, ern, ern, ern]
  have := wk_cut (Int.le_of_lt h1) (Int.le_of_lt h2) hx hy hxy hyy d
  omega
theorem once_may {p q : List Sc} {x y z : Sc} {c : Int} (h1 : z.s.1 < c) (h2 : c < z.s.2) (hx : x.s = (z.s.1, c)) (hy : y.s = (c, z.s.2)) (hxy : x.y = z.y) (hyy : y.y = z.y) (hn : (p ++ z :: q).length < 2000) (h : may (p ++ z :: q) = true) : may (p ++ x :: y :: q) = true := by
  rw [may_iff] at h ⊢
  refine ⟨by simp at hn ⊢; omega, ?_⟩
  obtain ⟨k1, t, k2, k3, k4⟩ := Rr.append.1 h.2
  refine Rr.append.2 ⟨k1, t, k2, k3, ?_⟩
  obtain ⟨g1, g2, g3, g4, g5⟩ := k4
  rw [Rr, Rr, hx, hy, hxy, hyy]
  exact ⟨g1, h1, by show c ≤ 292195; omega, g4, Int.le_refl _, h2, g3, g4, g5⟩
/-- EARNED NEVER FALLS. -/
theorem rises {l : List Sc} {a b : Int} (h : upc l 292195 = 0) (hab : a ≤ b) : upc l a = 0 ∧ upc l b = 0 ∧ 0 ≤ upv l a ∧ upv l a ≤ upv l b ∧ upv l b ≤ upv l 292195 := by
  obtain ⟨h1, h2⟩ := upc_may h
  have hr := (may_iff.1 h1).2
  have ea := ern_all hr (d := a)
  have eb := ern_all hr (d := b)
  have ua := upc_ok h1 (show ern l a ≤ _ by omega)
  have ub := upc_ok h1 (show ern l b ≤ _ by omega)
  refine ⟨ua, ub, ?_, ?_, ?_⟩
  · rw [upv_ok ua, ← hf_zero]; exact hf_mono (ern_nonneg hr)
  · rw [upv_ok ua, upv_ok ub]; exact hf_mono (ern_mono hr hab)
  · rw [upv_ok ub, upv_ok h]; exact hf_mono eb
theorem all_ok {l : List Sc} (h : upc l 292195 = 0) (d : Int) : upc l d = 0 := (rises h (Int.le_refl d)).1
theorem bt_ok {l : List Sc} (h : upc l 292195 = 0) {s : Int × Int} (hs : rt s = true) : btc l s = 0 ∧ btv l s = hf (ern l s.2) - hf (ern l s.1) ∧ 0 ≤ btv l s := by
  have h1 := upc_may h
  have e : btc l s = 0 := by rw [btc_ok h1.1 hs]; exact all_ok h _
  refine ⟨e, btv_ok e, ?_⟩
  rw [btv_ok e]
  have := hf_mono (ern_mono (may_iff.1 h1.1).2 ((rt_iff _).1 hs).2.1)
  omega
/-- What is earned between adds up. -/
def bts (l : List Sc) : List (Int × Int) → Int
  | [] => 0
  | p :: ps => btv l p + bts l ps
theorem bts_append (l : List Sc) (p q : List (Int × Int)) : bts l (p ++ q) = bts l p + bts l q := by
  induction p with
  | nil => simp [bts]
  | cons x p ih => rw [List.cons_append, bts, bts, ih]; omega
theorem bts_chain {l : List Sc} (h : upc l 292195 = 0) {t : Int} (ht : t ≤ 292195) : ∀ {ps : List (Int × Int)} {f : Int}, 1 ≤ f → Chain f t ps → bts l ps = hf (ern l t) - hf (ern l f)
  | [], f, hf1, hc => by have : f = t := hc; subst this; simp [bts]
  | x :: ps, f, hf1, hc => by
    have c1 : x.1 = f := hc.1
    have c2 : x.1 < x.2 := hc.2.1
    have c3 := hc.2.2.le
    rw [bts, bts_chain h ht (by omega) hc.2.2, (bt_ok h ((rt_iff _).2 ⟨by omega, by omega, by omega⟩)).2.1, c1]
    omega
/-- EACH SPAN EARNS WITHIN A CENT WHAT ITS DAYS COST. -/
theorem even {l : List Sc} (a b : Int) : 365 * (hf (ern l b) - hf (ern l a)) - (ern l b - ern l a) ≤ 365 ∧ (ern l b - ern l a) - 365 * (hf (ern l b) - hf (ern l a)) ≤ 365 := by
  have h1 := hf_near (ern l a)
  have h2 := hf_near (ern l b)
  omega
/-- A step that holds what the days cost. -/
def Crv (l : List Sc) (ps : List Stm.Pr) : Prop := Stm.Right ps ∧ ∀ d, 1 ≤ d → d ≤ 292194 → Stm.val 0 ps d = cst l d
theorem Crv.one {l : List Sc} {ps qs : List Stm.Pr} (H : Crv l ps) (K : Crv l qs) : ps = qs := Stm.right_eq H.1 K.1 fun d d1 d2 => (H.2 d d1 d2).trans (K.2 d d1 d2).symm
theorem Crv.sum {l : List Sc} {ps : List Stm.Pr} {e : Int} (H : Crv l ps) (hr : Rr e l) {s : Int × Int} (h1 : 1 ≤ s.1) (h2 : s.1 < s.2) (h3 : s.2 ≤ 292195) : Stm.sums (Stm.PL ps s) = ern l s.2 - ern l s.1 ∧ Stm.sizes (Stm.PL ps s) = ern l s.2 - ern l s.1 := by
  obtain ⟨k1, k2⟩ := Stm.PL_tot H.1.1 h2
  have e1 := ern_tot hr (a := s.1) (s.2 - s.1).toNat
  rw [show s.1 + (((s.2 - s.1).toNat : Nat) : Int) = s.2 by omega] at e1
  refine ⟨?_, ?_⟩
  · rw [k1, e1]
    exact Stm.tot_same fun x x1 x2 => H.2 x (by omega) (by omega)
  · rw [k2, e1]
    refine Stm.tot_same fun x x1 x2 => ?_
    show Stm.mag (Stm.val 0 ps x) = _
    rw [H.2 x (by omega) (by omega)]
    have := (cst_in hr (d := x)).1
    unfold Stm.mag; omega
theorem Crv.upto {l : List Sc} {ps : List Stm.Pr} (H : Crv l ps) (hr : Rr 1 l) {t : Int} (h2 : 1 < t) (h3 : t ≤ 292195) : Stm.sums (Stm.PL ps (1, t)) = ern l t ∧ Stm.sizes (Stm.PL ps (1, t)) = ern l t := by
  have h := H.sum hr (s := (1, t)) (Int.le_refl _) h2 h3
  have e := ern_lo hr (Int.le_refl 1)
  simp only [e] at h
  exact ⟨by omega, by omega⟩
theorem Crv.nil : Crv [] [] := ⟨⟨trivial, fun x hx => by cases hx⟩, fun d _ _ => rfl⟩
/-- One more slice behind all others. -/
theorem cst_snoc {l : List Sc} {x : Sc} (h : ∀ y ∈ l, y.s.2 ≤ x.s.1) (d : Int) : cst (l ++ [x]) d = if x.s.1 ≤ d ∧ d < x.s.2 then x.y else cst l d := by
  induction l with
  | nil => rfl
  | cons y l ih =>
    rw [List.cons_append, cst, cst, ih fun z hz => h z (by simp [hz])]
    have := h y (by simp)
    by_cases h1 : y.s.1 ≤ d ∧ d < y.s.2
    · rw [if_pos h1, if_pos h1, if_neg (by omega)]
    · rw [if_neg h1, if_neg h1]
theorem Crv.set {l : List Sc} {ps : List Stm.Pr} {x : Sc} (H : Crv l ps) (h : ∀ y ∈ l, y.s.2 ≤ x.s.1) (h1 : 1 ≤ x.s.1) (h2 : x.s.1 < x.s.2) (h3 : x.s.2 ≤ 292195) (hy : 0 ≤ x.y ∧ x.y ≤ 4000000000000000000) : Crv (l ++ [x]) (Stm.setR ps x.s x.y) := by
  refine ⟨Stm.setR_right H.1 _ _, fun d d1 d2 => ?_⟩
  rw [Stm.setR_val H.1 h1 (Int.le_of_lt h2) h3 ((Stm.fits_iff _).2 ⟨by omega, hy.2⟩) d d1 d2, cst_snoc h, H.2 d d1 d2]
  by_cases hd : x.s.1 ≤ d ∧ d < x.s.2
  · rw [if_pos ((Stm.inn_iff _ _).2 hd), if_pos hd]
  · rw [if_neg (fun h => hd ((Stm.inn_iff _ _).1 h)), if_neg hd]

end Acr
end Go.Proofs.Ytjmbccdcnmmhgaa
