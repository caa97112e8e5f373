/-
  The laws' own loop that turns a step's values: what holds of its drawn region. Conditions: those of each theorem.
-/
import Derived.Test.YtngpcabengmoiaaTg
namespace Go.Proofs.Ytngpcabengmoiaa
open Go.RowKit St
namespace Stp
set_option linter.unusedVariables false

/-- What holds of the twelve operations that have come up. -/
structure R10 (w5 w' : World) (bF bT : Nat) (A : Option Addr) (n c d : Nat) (T : Option Addr) (k ct : Nat) (ad : Addr) (j : Nat) (x y : Int) (zs : List Int) (L : Nat → Bool) (v64 v65 v66 v67 v68 v69 v70 v71 v72 v73 v74 : Value) (g : Nat) (T' : Option Addr) (c' : Nat) : Prop where
  b : Below w5.heap.size w5 w'
  bx : Bx w' bT 24 (.slice A n c) (if L 11 = true then .slice T' (k + 1) c' else .slice T k ct)
  o : L 9 = false → OwnI w' (bT + 1) T k ct zs
  f0 : L 0 = true → v64 = .pointer (some ⟨bT, 1, none⟩)
  f1 : L 1 = true → v65 = .slice T k ct
  f2 : L 2 = true → v66 = .pointer (some ⟨bF, 1, none⟩)
  f3 : L 3 = true → v67 = .slice (some ad) n d
  f4 : L 4 = true → v68 = .int .i64 (j : Int)
  f5 : L 5 = true → v69 = .pointer (some (ad.add j))
  f6 : L 6 = true → v70 = .int .i64 x
  f7 : L 7 = true → v71 = .int .i64 y
  f10 : L 10 = true → v74 = .pointer (some ⟨bT, 1, none⟩)
  f8 : L 8 = true → v72 = .slice (some ⟨g, 0, none⟩) 1 1 ∧ (L 9 = false → Ints w' w'.heap.size (some ⟨g, 0, none⟩) 1 [y])
  f9 : L 9 = true → v73 = .slice T' (k + 1) c' ∧ OwnI w' (bT + 1) T' (k + 1) c' (zs ++ [y])
  d11 : L 11 = true → L 9 = true
  d9 : L 9 = true → L 1 = true
section
variable {w5 w' w'' : World} {bF bT : Nat} {A : Option Addr} {n c d : Nat} {T : Option Addr} {k ct : Nat} {ad : Addr} {j : Nat} {x y : Int} {zs : List Int} {L : Nat → Bool} {v64 v65 v66 v67 v68 v69 v70 v71 v72 v73 v74 : Value} {g : Nat} {T' : Option Addr} {c' : Nat}
theorem R10.s0 (h : R10 w5 w' bF bT A n c d T k ct ad j x y zs L v64 v65 v66 v67 v68 v69 v70 v71 v72 v73 v74 g T' c') : R10 w5 w' bF bT A n c d T k ct ad j x y zs (fun i_ => i_ == 0 || L i_) (.pointer (some ⟨bT, 1, none⟩)) v65 v66 v67 v68 v69 v70 v71 v72 v73 v74 g T' c' := ⟨h.b, h.bx, h.o, (fun _ => rfl), h.f1, h.f2, h.f3, h.f4, h.f5, h.f6, h.f7, h.f10, h.f8, h.f9, h.d11, h.d9⟩
theorem R10.s1 (h : R10 w5 w' bF bT A n c d T k ct ad j x y zs L v64 v65 v66 v67 v68 v69 v70 v71 v72 v73 v74 g T' c') : R10 w5 w' bF bT A n c d T k ct ad j x y zs (fun i_ => i_ == 1 || L i_) v64 (.slice T k ct) v66 v67 v68 v69 v70 v71 v72 v73 v74 g T' c' := ⟨h.b, h.bx, h.o, h.f0, (fun _ => rfl), h.f2, h.f3, h.f4, h.f5, h.f6, h.f7, h.f10, h.f8, h.f9, h.d11, (fun _ => rfl)⟩
theorem R10.s2 (h : R10 w5 w' bF bT A n c d T k ct ad j x y zs L v64 v65 v66 v67 v68 v69 v70 v71 v72 v73 v74 g T' c') : R10 w5 w' bF bT A n c d T k ct ad j x y zs (fun i_ => i_ == 2 || L i_) v64 v65 (.pointer (some ⟨bF, 1, none⟩)) v67 v68 v69 v70 v71 v72 v73 v74 g T' c' := ⟨h.b, h.bx, h.o, h.f0, h.f1, (fun _ => rfl), h.f3, h.f4, h.f5, h.f6, h.f7, h.f10, h.f8, h.f9, h.d11, h.d9⟩
theorem R10.s3 (h : R10 w5 w' bF bT A n c d T k ct ad j x y zs L v64 v65 v66 v67 v68 v69 v70 v71 v72 v73 v74 g T' c') : R10 w5 w' bF bT A n c d T k ct ad j x y zs (fun i_ => i_ == 3 || L i_) v64 v65 v66 (.slice (some ad) n d) v68 v69 v70 v71 v72 v73 v74 g T' c' := ⟨h.b, h.bx, h.o, h.f0, h.f1, h.f2, (fun _ => rfl), h.f4, h.f5, h.f6, h.f7, h.f10, h.f8, h.f9, h.d11, h.d9⟩
theorem R10.s4 (h : R10 w5 w' bF bT A n c d T k ct ad j x y zs L v64 v65 v66 v67 v68 v69 v70 v71 v72 v73 v74 g T' c') : R10 w5 w' bF bT A n c d T k ct ad j x y zs (fun i_ => i_ == 4 || L i_) v64 v65 v66 v67 (.int .i64 (j : Int)) v69 v70 v71 v72 v73 v74 g T' c' := ⟨h.b, h.bx, h.o, h.f0, h.f1, h.f2, h.f3, (fun _ => rfl), h.f5, h.f6, h.f7, h.f10, h.f8, h.f9, h.d11, h.d9⟩
theorem R10.s5 (h : R10 w5 w' bF bT A n c d T k ct ad j x y zs L v64 v65 v66 v67 v68 v69 v70 v71 v72 v73 v74 g T' c') : R10 w5 w' bF bT A n c d T k ct ad j x y zs (fun i_ => i_ == 5 || L i_) v64 v65 v66 v67 v68 (.pointer (some (ad.add j))) v70 v71 v72 v73 v74 g T' c' := ⟨h.b, h.bx, h.o, h.f0, h.f1, h.f2, h.f3, h.f4, (fun _ => rfl), h.f6, h.f7, h.f10, h.f8, h.f9, h.d11, h.d9⟩
theorem R10.s6 (h : R10 w5 w' bF bT A n c d T k ct ad j x y zs L v64 v65 v66 v67 v68 v69 v70 v71 v72 v73 v74 g T' c') : R10 w5 w' bF bT A n c d T k ct ad j x y zs (fun i_ => i_ == 6 || L i_) v64 v65 v66 v67 v68 v69 (.int .i64 x) v71 v72 v73 v74 g T' c' := ⟨h.b, h.bx, h.o, h.f0, h.f1, h.f2, h.f3, h.f4, h.f5, (fun _ => rfl), h.f7, h.f10, h.f8, h.f9, h.d11, h.d9⟩
theorem R10.s7 (h : R10 w5 w' bF bT A n c d T k ct ad j x y zs L v64 v65 v66 v67 v68 v69 v70 v71 v72 v73 v74 g T' c') : R10 w5 w' bF bT A n c d T k ct ad j x y zs (fun i_ => i_ == 7 || L i_) v64 v65 v66 v67 v68 v69 v70 (.int .i64 y) v72 v73 v74 g T' c' := ⟨h.b, h.bx, h.o, h.f0, h.f1, h.f2, h.f3, h.f4, h.f5, h.f6, (fun _ => rfl), h.f10, h.f8, h.f9, h.d11, h.d9⟩
theorem R10.s10 (h : R10 w5 w' bF bT A n c d T k ct ad j x y zs L v64 v65 v66 v67 v68 v69 v70 v71 v72 v73 v74 g T' c') : R10 w5 w' bF bT A n c d T k ct ad j x y zs (fun i_ => i_ == 10 || L i_) v64 v65 v66 v67 v68 v69 v70 v71 v72 v73 (.pointer (some ⟨bT, 1, none⟩)) g T' c' := ⟨h.b, h.bx, h.o, h.f0, h.f1, h.f2, h.f3, h.f4, h.f5, h.f6, h.f7, (fun _ => rfl), h.f8, h.f9, h.d11, h.d9⟩
theorem R10.s8 (h : R10 w5 w' bF bT A n c d T k ct ad j x y zs L v64 v65 v66 v67 v68 v69 v70 v71 v72 v73 v74 g T' c') (hL : L 8 = false) : R10 w5 (w'.alloc (.cells #[.int .i64 y] 3)) bF bT A n c d T k ct ad j x y zs (fun i_ => i_ == 8 || L i_) v64 v65 v66 v67 v68 v69 v70 v71 (.slice (some ⟨w'.heap.size, 0, none⟩) 1 1) v73 v74 w'.heap.size T' c' := by
  have hb : Below w'.heap.size w' (w'.alloc (.cells #[.int .i64 y] 3)) := al1 _ _
  exact ⟨h.b.trans (hb.mono h.b.size), h.bx.keep hb, (fun e => (h.o e).below hb), h.f0, h.f1, h.f2, h.f3, h.f4, h.f5, h.f6, h.f7, h.f10, (fun _ => ⟨rfl, fun _ => by have h_ := ints_new1 w' y; rw [World.size_alloc]; exact h_⟩), (fun e => ⟨(h.f9 e).1, (h.f9 e).2.below hb⟩), h.d11, h.d9⟩
theorem R10.s9 (h : R10 w5 w' bF bT A n c d T k ct ad j x y zs L v64 v65 v66 v67 v68 v69 v70 v71 v72 v73 v74 g T' c') (hL : L 9 = false) (h1 : L 1 = true) (hbT : w5.heap.size ≤ bT) {T2 : Option Addr} {c2' : Nat} (hO : OwnI w'' (bT + 1) T2 (k + 1) c2' (zs ++ [y])) (hg : w'.grownBy w'' (Value.slice T k ct).ownBlock) : R10 w5 w'' bF bT A n c d T k ct ad j x y zs (fun i_ => i_ == 9 || L i_) v64 v65 v66 v67 v68 v69 v70 v71 v72 (.slice T2 (k + 1) c2') v74 g T2 c2' := by
  have h11 := no_of h.d11 hL
  have hx := h.bx
  rw [h11] at hx
  have ho := h.o hL
  have hx2 : Bx w'' bT 24 (.slice A n c) (.slice T k ct) := cells_grown ho hx (by decide) hg
  refine ⟨h.b.grown hg h.b.size (fun r hr => by have := (ho.lt r hr).1; omega), ?_, (fun e => by cases e), h.f0, h.f1, h.f2, h.f3, h.f4, h.f5, h.f6, h.f7, h.f10, (fun e => ⟨(h.f8 e).1, fun e9 => by cases e9⟩), (fun _ => ⟨rfl, hO⟩), (fun _ => rfl), (fun _ => h1)⟩
  show Bx _ _ _ _ (if L 11 = true then _ else _)
  rw [h11]
  exact hx2
theorem R10.s11 (h : R10 w5 w' bF bT A n c d T k ct ad j x y zs L v64 v65 v66 v67 v68 v69 v70 v71 v72 v73 v74 g T' c') (hL : L 11 = false) (h9 : L 9 = true) (hbT : w5.heap.size ≤ bT) : R10 w5 (w'.setCell ⟨bT, 1, none⟩ (.slice T' (k + 1) c')) bF bT A n c d T k ct ad j x y zs (fun i_ => i_ == 11 || L i_) v64 v65 v66 v67 v68 v69 v70 v71 v72 v73 v74 g T' c' := by
  have hx := h.bx
  rw [hL] at hx
  have ho := (h.f9 h9).2
  have n1 := ho.not_box (show w'.heap[bT]? = some (.cells _ 24 (0, 0)) from hx) (by decide)
  exact ⟨h.b.setCell (p := ⟨bT, 1, none⟩) hbT _, hx.set1 _, (fun e => by rw [show (9 == 11 || L 9) = L 9 from rfl, h9] at e; cases e), h.f0, h.f1, h.f2, h.f3, h.f4, h.f5, h.f6, h.f7, h.f10, (fun e => ⟨(h.f8 e).1, fun e9 => by rw [show (9 == 11 || L 9) = L 9 from rfl, h9] at e9; cases e9⟩), (fun e => ⟨(h.f9 h9).1, ho.far (p := ⟨bT, 1, none⟩) n1 _⟩), (fun _ => h9), h.d9⟩
end
/-- What holds at the head of each round: the turned step in its box. -/
structure TJ (w5 wz : World) (A : Option Addr) (n c : Nat) (T : Option Addr) (k ct : Nat) (zs : List Int) : Prop where
  b : Below w5.heap.size w5 wz
  x : Bx wz w5.heap.size 24 (.slice A n c) (.slice T k ct)
  o : OwnI wz (w5.heap.size + 1) T k ct zs

end Stp
end Go.Proofs.Ytngpcabengmoiaa
