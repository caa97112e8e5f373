/-
  What the laws share. Conditions: the version's lists read as lists, and are short.
-/
import Derived.Test.YthjlhjbblnoldaaGiven
import Derived.Test.YthjlhjbblnoldaaSameV
namespace Go.Proofs.Ythjlhjbblnoldaa
open Go.RowKit Ba Tf
namespace Trf
set_option linter.unusedVariables false

/-- A tariff's box and a version's box. -/
structure B2 (w W : World) (p q : Nat) (A : Option Addr) (n c : Nat) (r : Rw) : Prop where
  b : Below w.heap.size w W
  x : Bx W p 29 #[.slice A n c]
  y : Bx W q 26 (vc r)
section
variable {w W W' : World} {p q : Nat} {A : Option Addr} {n c : Nat} {r : Rw} {rs : List Rw}
theorem B2.next (h : B2 w W p q A n c r) (hb : Below W.heap.size W W') : B2 w W' p q A n c r := ⟨h.b.trans (hb.mono h.b.size), h.x.keep hb, h.y.keep hb⟩
theorem B2.tv : B2 w ((w.alloc (.cells #[.slice A n c] 29)).alloc (.cells (vc r) 26)) w.heap.size (w.heap.size + 1) A n c r := by
  refine ⟨(alloc_ _ _).alloc (by simp) _, (Bx.new _ _ _).alloc _, ?_⟩
  have := Bx.new (w.alloc (.cells #[.slice A n c] 29)) 26 (vc r)
  rw [World.size_alloc] at this
  exact this
theorem B2.vt : B2 w ((w.alloc (.cells (vc r) 26)).alloc (.cells #[.slice A n c] 29)) (w.heap.size + 1) w.heap.size A n c r := by
  refine ⟨(alloc_ _ _).alloc (by simp) _, ?_, (Bx.new _ _ _).alloc _⟩
  have := Bx.new (w.alloc (.cells (vc r) 26)) 29 #[.slice A n c]
  rw [World.size_alloc] at this
  exact this
/-- Behind the row that few is asked of. -/
theorem B2.grown (h : B2 w W p q A n c r) {D : Option Addr} {m d : Nat} {xs : List Rw} {o : Obj} (hO : Own (W.alloc o) W.heap.size D m d xs) (hg : (W.alloc o).grownBy W' (Value.slice D m d).ownBlock) : B2 w W' p q A n c r := by
  have hb : Below W.heap.size W W' := (alloc_ W o).grown hg (by simp) fun j hj => (hO.lt j hj).1
  exact h.next hb
theorem GivenT.vers (G : GivenT w A n c rs) (h : tl rs ≤ 3000) : Vers w A n rs := ⟨G.r, G.m, sm_of h⟩
end
theorem pt_len {vs : List Ve} {v : Ve} : (pt vs v).length ≤ vs.length + 1 := by
  by_cases h : cd vs v = 0
  · rw [pt_ok h, ins_length]; omega
  · rw [pt_no h]; exact Nat.zero_le _
theorem cd_range (vs : List Ve) (v : Ve) : 0 ≤ cd vs v ∧ cd vs v ≤ 8 := by
  unfold cd
  repeat' split
  all_goals omega
end Trf
end Go.Proofs.Ythjlhjbblnoldaa
