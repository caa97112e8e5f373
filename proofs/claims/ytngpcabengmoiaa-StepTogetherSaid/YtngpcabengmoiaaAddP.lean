/-
  What Add of package step calls: made over two steps, in any world that holds what it reads. Conditions: those of each theorem.
-/
import Derived.Test.YtngpcabengmoiaaRAdd
import Derived.Test.YtngpcabengmoiaaQ
import Derived.Laws.EntriesVeiled
namespace Go.Proofs.Ytngpcabengmoiaa
open Go.RowKit St
namespace Stp
set_option linter.unusedVariables false

/-- The two boxed function values. -/
structure AF (w2 W : World) (b6 b7 : Nat) (f1 f2 : Value) (ps qs : List Pr) : Prop where
  x6 : Boxed W b6 40 f1
  x7 : Boxed W b7 40 f2
  v1 : Val W f1 ps
  v2 : Val W f2 qs
  b : Below w2.heap.size w2 W
theorem four (w : World) (a b c d : Obj) : ((((w.alloc a).alloc b).alloc c).alloc d).drew.heap[w.heap.size]? = some a ∧ ((((w.alloc a).alloc b).alloc c).alloc d).drew.heap[w.heap.size + 1]? = some b ∧ ((((w.alloc a).alloc b).alloc c).alloc d).drew.heap[w.heap.size + 1 + 1]? = some c ∧ ((((w.alloc a).alloc b).alloc c).alloc d).drew.heap[w.heap.size + 1 + 1 + 1]? = some d ∧ Below w.heap.size w ((((w.alloc a).alloc b).alloc c).alloc d).drew := by
  have q0 := heap_alloc_new w a
  have q1 := heap_alloc_new (w.alloc a) b
  have q2 := heap_alloc_new ((w.alloc a).alloc b) c
  have q3 := heap_alloc_new (((w.alloc a).alloc b).alloc c) d
  simp only [World.size_alloc] at q1 q2 q3
  refine ⟨?_, ?_, ?_, q3, ((((Below.refl _ w).alloc (Nat.le_refl _) _).alloc (by simp) _).alloc (by simp <;> omega) _).alloc (by simp <;> omega) _ |>.drew⟩
  · exact (Below.heap_alloc _ _ _ (by simp <;> omega)).trans ((Below.heap_alloc _ _ _ (by simp <;> omega)).trans ((Below.heap_alloc _ _ _ (by simp)).trans q0))
  · exact (Below.heap_alloc _ _ _ (by simp <;> omega)).trans ((Below.heap_alloc _ _ _ (by simp)).trans q1)
  · exact (Below.heap_alloc _ _ _ (by simp)).trans q2

/-- made, as Add calls it, in any world that holds what its iterator reads. -/
theorem made_any (W0 W2 : World) (ba bb bs b1 b2 : Nat) (f1 f2 : Value) (ps qs : List Pr) (A : Option Addr) (n c : Nat) (B : Option Addr) (m d : Nat) (hW : Below W0.heap.size W0 W2) (hG : Good W2 ba bb bs A n c B m d (1, 292195) (ps.map (·.1)) (qs.map (·.1)))
    (h1 : Boxed W0 b1 40 f1) (h2 : Boxed W0 b2 40 f2) (hf : Val W0 f1 ps) (hg : Val W0 f2 qs) (hp : Fit ps) (hq : Fit qs) (hn : n ≤ 1000) (hm : m ≤ 1000) :
    Calls Try.prog 16 #[.func (.func 30) #[] #[.pointer (some ⟨ba, 0, none⟩), .pointer (some ⟨bb, 0, none⟩), .pointer (some ⟨bs, 0, none⟩)], .func (.func 19) #[] #[.pointer (some ⟨b1, 0, none⟩), .pointer (some ⟨b2, 0, none⟩)]]
      W2 fun e w' => ∃ A c V d, e = .returned (sg A (addL ps qs).length c V (addL ps qs).length d) ∧ OwnS w' W2.heap.size A (addL ps qs).length c V (addL ps qs).length d ((addL ps qs).map (·.1)) ((addL ps qs).map (·.2)) ∧ Below W2.heap.size W2 w' := by
  have hln : (chg (1, 292195) (ps.map (·.1)) (qs.map (·.1))).length ≤ 1000000 := by
    have := chg_len (1, 292195) (ps.map (·.1)) (qs.map (·.1))
    have h2 := hG.a.1
    have h3 := hG.b.1
    simp at this h2 h3
    omega
  refine (made _ _ _ _ (addG ps qs) _ _ hln enters_changes enters_add1 (changes_stops ba bb bs A n c B m d (1, 292195) _ _ (by omega) (by omega) (Below W2.heap.size) W2 (fun _ _ _ h k => h.trans k) (fun a b h k => k.mono h) (fun _ _ h => h.size) (fun W' h => hG.keep h)) (fun x W' hW' => ?_)).mono ?_
  · have hC := hW.trans (hW'.mono hW.size)
    exact add1 b1 b2 f1 f2 ps qs x W' ((hC.block _ h1.lt).trans h1) ((hC.block _ h2.lt).trans h2) (hf.keep hC) (hg.keep hC) hp hq
  · rintro e w' ⟨A', c', V', d', rfl, hO, hb'⟩
    exact ⟨A', c', V', d', rfl, hO, hb'⟩

/-- What Add gives, to be read. -/
def GivesAM (w : World) (qs : List Pr) (er : Int) (e : Ending) (w' : World) : Prop := ∃ A c V d, e = .returned (.tuple #[sg A qs.length c V qs.length d, .int .i64 er]) ∧ Mk w' A V qs ∧ Below w.heap.size w w'

end Stp
end Go.Proofs.Ytngpcabengmoiaa
