/-
  Pieces of package step. Conditions: the rows read as lists of ints.
-/
import Derived.Test.YtjmbccdcnmmhgaaZSet
import Derived.Test.YtjmbccdcnmmhgaaZSpans
import Derived.Test.YtjmbccdcnmmhgaaZRound
import Derived.Laws.EntriesVeiled
import Derived.StillTailTactics
namespace Go.Proofs.Ytjmbccdcnmmhgaa
open Go.RowKit Go.Shelf Stm
namespace Stp
set_option linter.unusedVariables false

attribute [local go_sem] Oper.semAt_some

/-- Below B all lies as it lay, but for two blocks. -/
structure Kb (B b6 b7 : Nat) (w w' : World) : Prop where
  os : w'.os = w.os
  tape : w'.tape = w.tape
  output : w'.output = w.output
  size : w.heap.size ≤ w'.heap.size
  block : ∀ k, k < B → k ≠ b6 → k ≠ b7 → w'.heap[k]? = w.heap[k]?
section
variable {B b6 b7 : Nat} {a b c : World}
theorem Kb.refl (B b6 b7 : Nat) (w : World) : Kb B b6 b7 w w := ⟨rfl, rfl, rfl, Nat.le_refl _, fun _ _ _ _ => rfl⟩
theorem Kb.trans (h : Kb B b6 b7 a b) (k : Kb B b6 b7 b c) : Kb B b6 b7 a c :=
  ⟨k.os.trans h.os, k.tape.trans h.tape, k.output.trans h.output, Nat.le_trans h.size k.size, fun i h1 h2 h3 => (k.block i h1 h2 h3).trans (h.block i h1 h2 h3)⟩
theorem Kb.of (h : Below B a b) : Kb B b6 b7 a b := ⟨h.os, h.tape, h.output, h.size, fun k h1 _ _ => h.block k h1⟩
theorem Kb.set (a : World) {p : Addr} (hp : p.block = b6 ∨ p.block = b7 ∨ B ≤ p.block) (u : Value) : Kb B b6 b7 a (a.setCell p u) :=
  ⟨rfl, rfl, rfl, by simp [World.setCell], fun k h1 h2 h3 => Below.heap_setCell _ _ _ _ (by omega)⟩
theorem Kb.put (a : World) {l : Nat} {o : Obj} (o' : Obj) (hl : B ≤ l) (h : a.heap[l]? = some o) : Kb B b6 b7 a (a.putObj l o') := by
  have hg := grownBy_putObj' a l o'
  exact ⟨hg.os, hg.tape, hg.output, hg.size, fun k h1 _ _ => hg.block k (by have := (Array.getElem?_eq_some_iff.1 h).1; omega) (fun e => by injection e with e; omega)⟩
theorem Kb.below (h : Kb B b6 b7 a b) {C : Nat} (hC : C ≤ B) (h6 : C ≤ b6) (h7 : C ≤ b7) : Below C a b := ⟨h.os, h.tape, h.output, h.size, fun k hk => h.block k (by omega) (by omega) (by omega)⟩
theorem Kb.grown {row : Option Nat} (h : Kb B b6 b7 a b) (hg : b.grownBy c row) (hB : B ≤ b.heap.size) (hr : ∀ r, row = some r → B ≤ r) : Kb B b6 b7 a c :=
  h.trans (Kb.of ((Below.refl B b).grown hg hB hr))
end

/-- The loop's rows and their boxes. -/
structure PJ (w3 : World) (b6 b7 : Nat) (W : World) (A : Option Addr) (n c : Nat) (V : Option Addr) (m d : Nat) (zs : List Pr) (vs : List Int) : Prop where
  sp : OwnP W w3.heap.size A n c zs
  vl : OwnI W w3.heap.size V m d vs
  x6 : Boxed W b6 34 (.slice A n c)
  x7 : Boxed W b7 31 (.slice V m d)
  kb : Kb w3.heap.size b6 b7 w3 W
section
variable {w3 W W2 : World} {b6 b7 : Nat} {A V : Option Addr} {n c m d : Nat} {zs : List Pr} {vs : List Int}
theorem PJ.drew (h : PJ w3 b6 b7 W A n c V m d zs vs) (k : Nat) : PJ w3 b6 b7 (W.drewN k) A n c V m d zs vs := ⟨h.sp, h.vl, h.x6, h.x7, ⟨h.kb.os, h.kb.tape, h.kb.output, h.kb.size, h.kb.block⟩⟩
/-- The last span was turned. -/
theorem PJ.turn {g : Nat} {a : List Pr} {p q : Int} (h : PJ w3 b6 b7 W (some ⟨g, 0, none⟩) n c V m d (a ++ [(p, q)]) vs) (hg : w3.heap.size ≤ g) (h6 : b6 < w3.heap.size) (h7 : b7 < w3.heap.size) (z : Int) :
    PJ w3 b6 b7 (W.setCell ⟨g, a.length * 2 + 1, none⟩ (.int .i64 z)) (some ⟨g, 0, none⟩) n c V m d (a ++ [(p, z)]) vs ∧ Kb w3.heap.size b6 b7 W (W.setCell ⟨g, a.length * 2 + 1, none⟩ (.int .i64 z)) := by
  have hk : Kb w3.heap.size b6 b7 W (W.setCell ⟨g, a.length * 2 + 1, none⟩ (.int .i64 z)) := Kb.set W (.inr (.inr hg)) _
  refine ⟨⟨row_turn z h.sp, h.vl.far (fun k e hk => h.sp.apart h.vl g rfl (by rw [e, hk])) _, ?_, ?_, h.kb.trans hk⟩, hk⟩
  · exact (Below.heap_setCell _ _ _ _ (by simp <;> omega)).trans h.x6
  · exact (Below.heap_setCell _ _ _ _ (by simp <;> omega)).trans h.x7
/-- The spans grew, and their header was stored. -/
theorem PJ.appP (h : PJ w3 b6 b7 W A n c V m d zs vs) (h6 : b6 < w3.heap.size) (h7 : b7 < w3.heap.size) (hne : b6 ≠ b7) {o : Obj} {A2 : Option Addr} {n2 c2 : Nat} {ys : List Pr} (hO : OwnP W2 w3.heap.size A2 n2 c2 ys) (hg : (W.alloc o).grownBy W2 (Value.slice A n c).ownBlock) :
    Boxed W2 b6 34 (.slice A n c) ∧ PJ w3 b6 b7 (W2.setCell ⟨b6, 0, none⟩ (.slice A2 n2 c2)) A2 n2 c2 V m d ys vs ∧ KeepsOthers W (W2.setCell ⟨b6, 0, none⟩ (.slice A2 n2 c2)) ∧ Kb w3.heap.size b6 b7 W (W2.setCell ⟨b6, 0, none⟩ (.slice A2 n2 c2)) := by
  have hO1 := h.sp.alloc o
  have hlow : ∀ b, b < w3.heap.size → W2.heap[b]? = W.heap[b]? := fun b hb => by
    have hs := h.kb.size
    exact (hg.block b (by simp; omega) (fun e => by have := (hO1.lt b e.symm).1; omega)).trans (Below.heap_alloc _ _ _ (by omega))
  have y6 : Boxed W2 b6 34 (.slice A n c) := (hlow b6 h6).trans h.x6
  have y7 : Boxed W2 b7 31 (.slice V m d) := (hlow b7 h7).trans h.x7
  have hv2 : OwnI W2 w3.heap.size V m d vs := (h.vl.alloc o).grown hg (own_apart (fun g e => (hO1.apart (h.vl.alloc o)) g e))
  have hk : Kb w3.heap.size b6 b7 W (W2.setCell ⟨b6, 0, none⟩ (.slice A2 n2 c2)) := by
    have k1 : Kb w3.heap.size b6 b7 W (W.alloc o) := Kb.of ((Below.refl _ W).alloc h.kb.size o)
    exact (k1.grown hg (by have := h.kb.size; simp; omega) (fun r e => (hO1.lt r e).1)).trans (Kb.set W2 (p := ⟨b6, 0, none⟩) (b6 := b6) (.inl rfl) _)
  refine ⟨y6, ⟨hO.far (low_neP hO (by simpa using h6)) _, hv2.far (low_ne hv2 (by simpa using h6)) _, y6.set _, ?_, h.kb.trans hk⟩, ?_, hk⟩
  · exact (Below.heap_setCell _ _ _ _ (by simp <;> omega)).trans y7
  · exact ((KeepsOthers.alloc W o).trans (ko_appP hO1 hg)).trans (KeepsOthers.setCell _ _ _)
/-- The values grew, and their header was stored. -/
theorem PJ.appV (h : PJ w3 b6 b7 W A n c V m d zs vs) (h6 : b6 < w3.heap.size) (h7 : b7 < w3.heap.size) (hne : b6 ≠ b7) {o : Obj} {V2 : Option Addr} {n2 c2 : Nat} {ys : List Int} (hO : OwnI W2 w3.heap.size V2 n2 c2 ys) (hg : (W.alloc o).grownBy W2 (Value.slice V m d).ownBlock) :
    Boxed W2 b7 31 (.slice V m d) ∧ PJ w3 b6 b7 (W2.setCell ⟨b7, 0, none⟩ (.slice V2 n2 c2)) A n c V2 n2 c2 zs ys ∧ KeepsOthers W (W2.setCell ⟨b7, 0, none⟩ (.slice V2 n2 c2)) ∧ Kb w3.heap.size b6 b7 W (W2.setCell ⟨b7, 0, none⟩ (.slice V2 n2 c2)) := by
  have hO1 := h.vl.alloc o
  have hlow : ∀ b, b < w3.heap.size → W2.heap[b]? = W.heap[b]? := fun b hb => by
    have hs := h.kb.size
    exact (hg.block b (by simp; omega) (fun e => by have := (hO1.lt b e.symm).1; omega)).trans (Below.heap_alloc _ _ _ (by omega))
  have y6 : Boxed W2 b6 34 (.slice A n c) := (hlow b6 h6).trans h.x6
  have y7 : Boxed W2 b7 31 (.slice V m d) := (hlow b7 h7).trans h.x7
  have hs2 : OwnP W2 w3.heap.size A n c zs := (h.sp.alloc o).grown hg (own_apart (fun g e hv => (h.sp.alloc o).apart hO1 g hv e))
  have hk : Kb w3.heap.size b6 b7 W (W2.setCell ⟨b7, 0, none⟩ (.slice V2 n2 c2)) := by
    have k1 : Kb w3.heap.size b6 b7 W (W.alloc o) := Kb.of ((Below.refl _ W).alloc h.kb.size o)
    exact (k1.grown hg (by have := h.kb.size; simp; omega) (fun r e => (hO1.lt r e).1)).trans (Kb.set W2 (p := ⟨b7, 0, none⟩) (b7 := b7) (.inr (.inl rfl)) _)
  refine ⟨y7, ⟨hs2.far (low_neP hs2 (by simpa using h7)) _, hO.far (low_ne hO (by simpa using h7)) _, ?_, y7.set _, h.kb.trans hk⟩, ?_, hk⟩
  · exact (Below.heap_setCell _ _ _ _ (by simp <;> omega)).trans y6
  · exact ((KeepsOthers.alloc W o).trans (ko_app hO1 hg)).trans (KeepsOthers.setCell _ _ _)
end

/-- What holds at the head of each round. -/
def PI (w3 : World) (b6 b7 : Nat) (g : Int → Int) (t : Int) (pre : List Int) (W : World) : Prop := ∃ A c V d, PJ w3 b6 b7 W A pre.length c V pre.length d (fr pre t) (pre.map g)
theorem pi_own (w3 : World) (b6 b7 : Nat) (g : Int → Int) (t : Int) : OwnFrom w3.heap.size (fun (pre : List Int) W => PI w3 b6 b7 g t pre W) := by
  rintro pre W W' row ⟨A, c, V, d, h⟩ hg hr
  have hr' := fun r e => (hr r e).2
  exact ⟨A, c, V, d, h.sp.abide hg hr', h.vl.abide hg hr', cells_abide h.x6 hg hr', cells_abide h.x7 hg hr', h.kb.grown hg h.kb.size (fun r e => (hr r e).1)⟩

/-- What Pieces gives. -/
def GivesP (w : World) (l : List Int) (g : Int → Int) (t : Int) (e : Ending) (w' : World) : Prop := ∃ A c V d, e = .returned (.tuple #[.slice A l.length c, .slice V l.length d]) ∧ Spans w' w'.heap.size A l.length (fr l t) ∧ Ints w' w'.heap.size V l.length (l.map g) ∧ Below w.heap.size w w'

theorem Ints.blk {w w' : World} {B n : Nat} {ad : Addr} {xs : List Int} (h : Ints w B (some ad) n xs) (hb : w'.heap[ad.block]? = w.heap[ad.block]?) : Ints w' B (some ad) n xs :=
  ⟨h.1, fun hn => by
    obtain ⟨a', e, hl, hc⟩ := h.2 hn
    injection e with e
    subst e
    exact ⟨ad, rfl, hl, fun j x hx => (World.cell?_of_block (by rw [add_block]; exact hb)).trans (hc j x hx)⟩⟩

/-- The world ahead of the loop. -/
abbrev pieW5 (w2 : World) (A : Option Addr) (n c : Nat) (V : Option Addr) (d : Nat) (s1 : Int) : World :=
  ((((w2.alloc (.cells #[.slice none 0 0] 34)).alloc (.cells #[.slice none 0 0] 31)).alloc (.cells #[.slice A n c, .slice V n d] 38)).alloc (.cells #[.func (.func 40) #[] #[.pointer (some ⟨w2.heap.size + 1 + 1, 0, none⟩)]] 64)).alloc (.cells #[.int .i64 s1] 3)
abbrev pieW3 (w2 : World) (A : Option Addr) (n c : Nat) (V : Option Addr) (d : Nat) (s : Pr) : World :=
  chW (pieW5 w2 A n c V d s.1) s A n c (some ⟨w2.heap.size + 1 + 1 + 1 + 1, 0, none⟩) 1 1
/-- What lies there. -/
structure PW (w2 w3 : World) (A : Option Addr) (n c : Nat) (V : Option Addr) (d : Nat) (s : Pr) (ps : List Pr) : Prop where
  size : w3.heap.size = w2.heap.size + 8
  x6 : Boxed w3 w2.heap.size 34 (.slice none 0 0)
  x7 : Boxed w3 (w2.heap.size + 1) 31 (.slice none 0 0)
  st : Bx w3 (w2.heap.size + 1 + 1) 38 (.slice A n c) (.slice V n d)
  fn : Boxed w3 (w2.heap.size + 1 + 1 + 1) 64 (.func (.func 40) #[] #[.pointer (some ⟨w2.heap.size + 1 + 1, 0, none⟩)])
  ar : Ints w3 w3.heap.size (some ⟨w2.heap.size + 1 + 1 + 1 + 1, 0, none⟩) 1 [s.1]
  bs : Bx w3 (w2.heap.size + 1 + 1 + 1 + 1 + 1) 30 (.int .i64 s.1) (.int .i64 s.2)
  ba : Boxed w3 (w2.heap.size + 1 + 1 + 1 + 1 + 1 + 1) 31 (.slice A n c)
  bb : Boxed w3 (w2.heap.size + 1 + 1 + 1 + 1 + 1 + 2) 31 (.slice (some ⟨w2.heap.size + 1 + 1 + 1 + 1, 0, none⟩) 1 1)
  below : Below w2.heap.size w2 w3
theorem PW.new (w2 : World) (A : Option Addr) (n c : Nat) (V : Option Addr) (d : Nat) (s : Pr) (ps : List Pr) : PW w2 (pieW3 w2 A n c V d s) A n c V d s ps := by
  have b6 := Boxed.new w2 34 (.slice none 0 0)
  have b7 := Boxed.new (w2.alloc (.cells #[.slice none 0 0] 34)) 31 (.slice none 0 0)
  have bt := Bx.new ((w2.alloc (.cells #[.slice none 0 0] 34)).alloc (.cells #[.slice none 0 0] 31)) 38 (.slice A n c) (.slice V n d)
  have bf := Boxed.new (((w2.alloc (.cells #[.slice none 0 0] 34)).alloc (.cells #[.slice none 0 0] 31)).alloc (.cells #[.slice A n c, .slice V n d] 38)) 64 (.func (.func 40) #[] #[.pointer (some ⟨w2.heap.size + 1 + 1, 0, none⟩)])
  have br := ints_new1 ((((w2.alloc (.cells #[.slice none 0 0] 34)).alloc (.cells #[.slice none 0 0] 31)).alloc (.cells #[.slice A n c, .slice V n d] 38)).alloc (.cells #[.func (.func 40) #[] #[.pointer (some ⟨w2.heap.size + 1 + 1, 0, none⟩)]] 64)) s.1
  have c0 := Bx.new (pieW5 w2 A n c V d s.1) 30 (.int .i64 s.1) (.int .i64 s.2)
  have c1 := Boxed.new ((pieW5 w2 A n c V d s.1).alloc (.cells #[.int .i64 s.1, .int .i64 s.2] 30)) 31 (.slice A n c)
  have c2 := Boxed.new (((pieW5 w2 A n c V d s.1).alloc (.cells #[.int .i64 s.1, .int .i64 s.2] 30)).alloc (.cells #[.slice A n c] 31)) 31 (.slice (some ⟨w2.heap.size + 1 + 1 + 1 + 1, 0, none⟩) 1 1)
  simp only [World.size_alloc] at b7 bt bf br c0 c1 c2
  have hB := chW_below (pieW5 w2 A n c V d s.1) s A n c (some ⟨w2.heap.size + 1 + 1 + 1 + 1, 0, none⟩) 1 1
  refine ⟨by simp, ((((((b6.alloc _).alloc _).alloc _).alloc _).alloc _).alloc _).alloc _, (((((b7.alloc _).alloc _).alloc _).alloc _).alloc _).alloc _, ((((bt.alloc _).alloc _).alloc _).alloc _).alloc _, (((bf.alloc _).alloc _).alloc _).alloc _, (br.below hB (by simp)).wide (by simp), (c0.alloc _).alloc _, c1.alloc _, c2, ?_⟩
  refine Below.trans ?_ (hB.mono (by simp <;> omega))
  exact (((((Below.refl _ w2).alloc (Nat.le_refl _) _).alloc (by simp) _).alloc (by simp <;> omega) _).alloc (by simp <;> omega) _).alloc (by simp <;> omega) _

/-- What the iterator reads stays while the body keeps its word. -/
theorem PW.good {w2 w3 W : World} {A : Option Addr} {n c : Nat} {V : Option Addr} {d : Nat} {s : Pr} {ps : List Pr} {C : Nat} {xs : List Int} (h : PW w2 w3 A n c V d s ps) (hk : Kb w3.heap.size w2.heap.size (w2.heap.size + 1) w3 W) (hA : Ints w3 C A n xs) (hC : C ≤ w2.heap.size) :
    Good W (w2.heap.size + 1 + 1 + 1 + 1 + 1 + 1) (w2.heap.size + 1 + 1 + 1 + 1 + 1 + 2) (w2.heap.size + 1 + 1 + 1 + 1 + 1) A n c (some ⟨w2.heap.size + 1 + 1 + 1 + 1, 0, none⟩) 1 1 s xs [s.1] := by
  have hs := h.size
  have kb : ∀ b, b < w2.heap.size + 8 → w2.heap.size + 1 < b → W.heap[b]? = w3.heap[b]? := fun b h1 h2 => hk.block b (by omega) (by omega) (by omega)
  have hC3 := hk.size
  exact ⟨Boxed.cell ((kb _ (by omega) (by omega)).trans h.ba), Boxed.cell ((kb _ (by omega) (by omega)).trans h.bb), Bx.c0 ((kb _ (by omega) (by omega)).trans h.bs), Bx.c1 ((kb _ (by omega) (by omega)).trans h.bs),
    (hA.below (hk.below (C := C) (by omega) (by omega) (by omega)) (Nat.le_refl _)).wide (by omega), (h.ar.blk (kb _ (by simp) (by simp <;> omega))).wide hC3⟩
/-- So does what the function value reads. -/
theorem PW.value {w2 w3 W : World} {A : Option Addr} {n c : Nat} {V : Option Addr} {d : Nat} {s : Pr} {ps : List Pr} {C : Nat} (h : PW w2 w3 A n c V d s ps) (hk : Kb w3.heap.size w2.heap.size (w2.heap.size + 1) w3 W) (hS : Sr w3 C A V n ps) (hC : C ≤ w2.heap.size) (hR : Rt 0 0 ps) (hn : n ≤ 10000) (x : Int) (W' : World) (e : W'.heap = W.heap) :
    Calls Try.prog 40 #[.int .i64 x, .pointer (some ⟨w2.heap.size + 1 + 1, 0, none⟩)] W' fun e w' => e = .returned (.int .i64 (val 0 ps x)) ∧ W' = w' := by
  have hs := h.size
  have kb : ∀ b, b < w2.heap.size + 8 → w2.heap.size + 1 < b → W.heap[b]? = w3.heap[b]? := fun b h1 h2 => hk.block b (by omega) (by omega) (by omega)
  have hS' : Sr W C A V n ps := hS.below (hk.below (C := C) (by omega) (by omega) (by omega)) (Nat.le_refl _)
  have hc : ∀ p, W'.cell? p = W.cell? p := fun p => World.cell?_of_block (by rw [e])
  refine valueOf1 (w2.heap.size + 1 + 1) A n c V d C ps x W' ?_ ⟨hS'.a.keep fun p _ => hc p, hS'.v.keep fun p _ => hc p⟩ hR (by omega)
  unfold Bx
  rw [e]
  exact (kb _ (by omega) (by omega)).trans h.st

end Stp
end Go.Proofs.Ytjmbccdcnmmhgaa
