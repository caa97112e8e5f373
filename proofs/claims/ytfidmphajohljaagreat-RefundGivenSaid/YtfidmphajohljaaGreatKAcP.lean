/-
  What is earned of a policy's slices: plain mathematics. Conditions: those of each theorem.
-/
import Derived.Test.YtfidmphajohljaaGreatMZa
import Derived.Test.YtfidmphajohljaaGreatMFw
set_option linter.unusedVariables false
namespace Go.Proofs.YtfidmphajohljaaGreat
open Go.RowKit Ba Cv Sp Te Ag Tf Sl Tm Slc
namespace Acr
section
variable {f t : Int} {ss : List Sc} {e : Int} {h : Hi} {vs : List Ve}
theorem rr_chain (h : Rr e ss) (hc : Chain f t (ss.map Sc.s)) : Rr f ss := by
 cases ss with
 | nil => trivial
 | cons x ss =>
  have c1 : x.s.1 = f := hc.1; exact ⟨by omega, h.2⟩
theorem chain_hi (hc : Chain f t (ss.map Sc.s)) : ∀ x ∈ ss, x.s.2 ≤ t := fun x hx => (hc.mem x.s (List.mem_map.2 ⟨x, hx, rfl⟩)).2.2
theorem of_chain (H : OfIs h vs 0 ss) : Chain h.s.1 h.s.2 (ss.map Sc.s) := by
 obtain ⟨_, _, o, L, _, hC, _, rfl⟩ := H.ok; rw [List.map_map]; exact hC.ch
theorem policy_ends (H : OfIs h vs 0 ss) (hm : may ss = true) : ern ss h.s.1 = 0 ∧ ern ss h.s.2 = ern ss 292195 := by
 have hc := of_chain H; have hs := hrt_span H.ok.1; exact ⟨ern_lo (rr_chain (may_iff.1 hm).2 hc) (Int.le_refl _), (ern_hi (chain_hi hc) hs.2.2.1).symm⟩
end
end Acr
end Go.Proofs.YtfidmphajohljaaGreat
