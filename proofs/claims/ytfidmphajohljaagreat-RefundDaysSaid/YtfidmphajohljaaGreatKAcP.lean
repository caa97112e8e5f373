/-
  What is earned of a policy's slices: plain mathematics. Conditions: those of each theorem.
-/
import Derived.Test.YtfidmphajohljaaGreatMZa
import Derived.Test.YtfidmphajohljaaGreatMFw
namespace Go.Proofs.YtfidmphajohljaaGreat
open Go.RowKit Ba Cv Sp Te Ag Tf Sl Tm Slc
namespace Acr
set_option linter.unusedVariables false
theorem cst_mem {d : Int} : ∀ {l : List Sc} {e : Int}, Rr e l → ∀ {y : Sc}, y ∈ l → y.s.1 ≤ d → d < y.s.2 → cst l d = y.y
 | x :: l, e, h, y, hy, h1, h2 => by
  rw [cst]; rcases List.mem_cons.1 hy with rfl | hy
  ·rw [if_pos ⟨h1, h2⟩]
  ·have := (h.2.2.2.2.mem y hy).1; rw [if_neg (by omega)]; exact cst_mem h.2.2.2.2 hy h1 h2
theorem cst_hiP {d t : Int} {l : List Sc} (h : ∀ x ∈ l, x.s.2 ≤ t) (hd : t ≤ d) : cst l d = 0 := by
 induction l with
 | nil => rfl
 | cons x l ih =>
  have := h x (by simp); rw [cst, if_neg (by omega), ih fun y hy => h y (by simp [hy])]
theorem rr_chain {f t : Int} {ss : List Sc} {e : Int} (h : Rr e ss) (hc : Chain f t (ss.map Sc.s)) : Rr f ss := by
 cases ss with
 | nil => trivial
 | cons x ss =>
  have c1 : x.s.1 = f := hc.1; exact ⟨by omega, h.2⟩
theorem chain_hi {f t : Int} {ss : List Sc} (hc : Chain f t (ss.map Sc.s)) : ∀ x ∈ ss, x.s.2 ≤ t := fun x hx => (hc.mem x.s (List.mem_map.2 ⟨x, hx, rfl⟩)).2.2
theorem of_chain {h : Hi} {vs : List Ve} {ss : List Sc} (H : OfIs h vs 0 ss) : Chain h.s.1 h.s.2 (ss.map Sc.s) := by
 obtain ⟨_, _, o, L, _, hC, _, rfl⟩ := H.ok; rw [List.map_map]; exact hC.ch
theorem policy_ends {h : Hi} {vs : List Ve} {ss : List Sc} (H : OfIs h vs 0 ss) (hm : may ss = true) : ern ss h.s.1 = 0 ∧ ern ss h.s.2 = ern ss 292195 := by
 have hc := of_chain H; have hs := hrt_span H.ok.1; exact ⟨ern_lo (rr_chain (may_iff.1 hm).2 hc) (Int.le_refl _), (ern_hi (chain_hi hc) hs.2.2.1).symm⟩
theorem policy_off {h : Hi} {vs : List Ve} {ss : List Sc} (H : OfIs h vs 0 ss) (hm : may ss = true) {x : Sc} (hx : x ∈ ss) (ho : x.h.on = false) : ern ss x.s.2 = ern ss x.s.1 := by
 have hr := (may_iff.1 hm).2; have hb := hr.mem x hx
 have hy : x.y = 0 := by
  obtain ⟨_, _, o, L, _, _, _, rfl⟩ := H.ok; obtain ⟨z, hz, rfl⟩ := List.mem_map.1 hx; have ho : z.2.on = false := ho; rw [prc_off ho]
 have h1 := ern_tot hr (a := x.s.1) (x.s.2 - x.s.1).toNat; rw [show x.s.1 + (((x.s.2 - x.s.1).toNat : Nat) : Int) = x.s.2 by omega, Stm.tot_const (cst ss) x.s.1 0 _ fun d d1 d2 => by rw [cst_mem hr hx d1 (by omega), hy], Int.mul_zero] at h1; omega
theorem policy_later {h x : Hi} {vs : List Ve} {s1 s2 : List Sc} {c : Ch} (H : OfIs h vs 0 s1) (K : OfIs x vs 0 s2) (e1 : x.s = h.s) (e2 : x.r = h.r) (e3 : x.cs = h.cs) (e4 : x.hs = h.hs ++ [c]) (m1 : may s1 = true) (m2 : may s2 = true) : ern s1 c.dy = ern s2 c.dy := by
 have c1 := of_chain H; have c2 := of_chain K; have r1 := rr_chain (may_iff.1 m1).2 c1; have r2 := rr_chain (may_iff.1 m2).2 c2; obtain ⟨hr, hc, o, L, hO, hC, hb, rfl⟩ := H.ok; obtain ⟨kr, kc, o', K', kO, kC, kb, rfl⟩ := K.ok; have hsp := hrt_span hr; rw [e1] at kC kb r2 c2 ⊢; have hini : ini x = ini h := by unfold ini; rw [e2, e3]
 rw [hini, e4] at kC; rw [e4] at kO; refine ern_same r1 r2 fun d hd => ?_
 by_cases h1 : d < h.s.1
 ·rw [cst_lo r1 h1, cst_lo r2 h1]
 by_cases h2 : h.s.2 ≤ d
 ·rw [cst_hiP (chain_hi c1) h2, cst_hiP (chain_hi c2) h2]
 obtain ⟨y, hy1, hy2, hy3, hy4⟩ := find_in (q := qf (Trf.tol h.s.1 vs)) hC hsp.1 hsp.2.2.1 (by omega) (by omega : d < h.s.2); obtain ⟨z, hz1, hz2, hz3, hz4⟩ := find_in (q := qf (Trf.tol h.s.1 vs)) kC hsp.1 hsp.2.2.1 (by omega) (by omega : d < h.s.2); rw [cst_mem r1 (List.mem_of_find?_eq_some hy1) hy2 hy3, cst_mem r2 (List.mem_of_find?_eq_some hz1) hz2 hz3]; rw [hld_ahead hO kO hd] at hz4; rw [hy4, hz4]; rfl
end Acr
end Go.Proofs.YtfidmphajohljaaGreat
