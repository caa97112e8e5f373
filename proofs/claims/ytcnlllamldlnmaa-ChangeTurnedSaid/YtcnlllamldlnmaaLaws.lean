/-
  Common steps of the laws. Conditions: those of each theorem.
-/
import Derived.Test.YtcnlllamldlnmaaFew
import Derived.Test.YtcnlllamldlnmaaSameH
import Derived.Test.YtcnlllamldlnmaaRPut
import Derived.Test.YtcnlllamldlnmaaRHist
import Derived.Test.YtcnlllamldlnmaaRBind
import Derived.Test.YtcnlllamldlnmaaPut
import Derived.Test.YtcnlllamldlnmaaHist
import Derived.Test.YtcnlllamldlnmaaAlive11
import Derived.Test.YtcnlllamldlnmaaRRight11
namespace Go.Proofs.Ytcnlllamldlnmaa
open Go.RowKit Ba Cv Sp Te Ag
namespace Tm
set_option linter.unusedVariables false

theorem GivenR.below {w W : World} {r : Rw} (g : GivenR w r) (hb : Below w.heap.size w W) : GivenR W r := ⟨g.c.below hb, g.m⟩
theorem GivenH.below {w W : World} {h : Hr} (g : GivenH w h) (hb : Below w.heap.size w W) : GivenH W h := ⟨g.M.below hb, g.n, g.k, g.m, g.f, g.z⟩
theorem GivenC.below {w W : World} {A : Option Addr} {n c : Nat} {cs : List Co} (g : GivenC w A n c cs) (hb : Below w.heap.size w W) : GivenC W A n c cs := ⟨g.r.below hb, g.m⟩
/-- A history in its box. -/
structure HB (w W : World) (p : Nat) (h : Hr) : Prop where
  b : Below w.heap.size w W
  x : Bx W p 33 (hc h)
  m : HM W (· < W.heap.size) h
  s : HS h
theorem HB.next {w W W' : World} {p : Nat} {h : Hr} (H : HB w W p h) (hb : Below W.heap.size W W') : HB w W' p h := ⟨H.b.trans (hb.mono H.b.size), H.x.keep hb, H.m.below hb, H.s⟩
theorem HB.new {w W W' : World} {h : Hr} {v : Hi} (hb : Below w.heap.size w W) (R : Re0 W v W' h) : HB w (W'.alloc (.cells (hc h) 33)) W'.heap.size h :=
  ⟨(hb.trans (R.b.mono hb.size)).alloc (Nat.le_trans hb.size R.b.size) _, Bx.new _ _ _, R.m.below (alloc_ _ _), R.s⟩
theorem hst_bhi (id bk : Int) (s : Sp) (r : Ri) (cs : List Co) : hst (bhi id bk s r cs) = bnd id bk s r cs := by
  cases h : bnd id bk s r cs
  · rw [show bhi id bk s r cs = zhi by unfold bhi; rw [h]; rfl]; exact kh2
  · rw [show bhi id bk s r cs = ⟨id, bk, s, r, cs, []⟩ by unfold bhi; rw [h]; rfl]
    show (bnd id bk s r cs && true) = true
    rw [h]; rfl
theorem HS.lens {h : Hr} (S : HS h) : h.n ≤ maxLen ∧ h.m ≤ maxLen ∧ ∀ r ∈ h.rs, r.n ≤ maxLen := by
  have h1 := S.n
  have h2 := S.m
  refine ⟨by unfold maxLen; omega, by unfold maxLen; omega, fun r hr => ?_⟩
  have h3 := S.k r hr
  unfold maxLen
  omega

end Tm
end Go.Proofs.Ytcnlllamldlnmaa
