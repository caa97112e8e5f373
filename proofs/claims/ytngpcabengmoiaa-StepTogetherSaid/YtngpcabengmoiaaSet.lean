/-
  Set of package step. Conditions: the rows read as lists of ints.
-/
import Derived.Test.YtngpcabengmoiaaClos
import Derived.Test.YtngpcabengmoiaaAt
import Derived.Deep.RegionLaw
namespace Go.Proofs.Ytngpcabengmoiaa
open Go.RowKit St
namespace Stp
set_option linter.unusedVariables false

theorem cal {w : World} {p : Addr} {v : Value} {o : Obj} (h : w.cell? p = some v) : (w.alloc o).cell? p = some v := ((Below.refl _ _).alloc (Nat.le_refl _) o : Below w.heap.size w (w.alloc o)).cell (World.block_lt_of_cell? _ _ h) |>.trans h
theorem cst {w : World} {p q r : Addr} {v a b : Value} (h : w.cell? p = some v) (h1 : p.block ≠ q.block) (h2 : p.block ≠ r.block) : ((w.setCell q a).setCell r b).cell? p = some v :=
  (World.cell?_of_block (Below.heap_setCell _ _ _ _ h2)).trans ((World.cell?_of_block (Below.heap_setCell _ _ _ _ h1)).trans h)

/-- What a call gives that makes a step, over an earlier world. -/
def GivesB (w : World) (ps : List Pr) (e : Ending) (w' : World) : Prop := ∃ A c V d, e = .returned (sg A ps.length c V ps.length d) ∧ OwnS w' w.heap.size A ps.length c V ps.length d (ps.map (·.1)) (ps.map (·.2)) ∧ Below w.heap.size w w'

theorem enters_changes : ∀ args w, (callFunc 30 args).run Try.prog w = .ok (.enter 30 args) w := enters_of Try.func30 (by kernel_rfl) rfl
theorem enters_set1 : ∀ args w, (callFunc 26 args).run Try.prog w = .ok (.enter 26 args) w := enters_of Try.func26 (by kernel_rfl) rfl
theorem enters_add1 : ∀ args w, (callFunc 19 args).run Try.prog w = .ok (.enter 19 args) w := enters_of Try.func19 (by kernel_rfl) rfl

/-- The world behind the call of changes, and what its iterator reads there. -/
abbrev chW (W : World) (s : Pr) (A : Option Addr) (la ca : Nat) (B : Option Addr) (lb cb : Nat) : World :=
  ((W.alloc (.cells #[.int .i64 s.1, .int .i64 s.2] 33)).alloc (.cells #[.slice A la ca] 22)).alloc (.cells #[.slice B lb cb] 22)
theorem chW_below (W : World) (s : Pr) (A : Option Addr) (la ca : Nat) (B : Option Addr) (lb cb : Nat) : Below W.heap.size W (chW W s A la ca B lb cb) :=
  (((Below.refl _ _).alloc (Nat.le_refl _) _).alloc (by simp) _).alloc (by simp <;> omega) _
theorem chW_good {W : World} {s : Pr} {A : Option Addr} {la ca : Nat} {B : Option Addr} {lb cb : Nat} {xs ys : List Int} (ha : Ints W W.heap.size A la xs) (hb : Ints W W.heap.size B lb ys) :
    Good (chW W s A la ca B lb cb) (W.heap.size + 1) (W.heap.size + 2) W.heap.size A la ca B lb cb s xs ys := by
  have hB := chW_below W s A la ca B lb cb
  have b0 := Bx.new W 33 (.int .i64 s.1) (.int .i64 s.2)
  have b1 := Boxed.new (W.alloc (.cells #[.int .i64 s.1, .int .i64 s.2] 33)) 22 (.slice A la ca)
  have b2 := Boxed.new ((W.alloc (.cells #[.int .i64 s.1, .int .i64 s.2] 33)).alloc (.cells #[.slice A la ca] 22)) 22 (.slice B lb cb)
  simp only [World.size_alloc] at b1 b2
  have b0' := (b0.alloc (.cells #[.slice A la ca] 22)).alloc (.cells #[.slice B lb cb] 22)
  exact ⟨(b1.alloc _).cell, b2.cell, b0'.c0, b0'.c1, (ha.below hB (Nat.le_refl _)).wide hB.size, (hb.below hB (Nat.le_refl _)).wide hB.size⟩
theorem Good.keep {w w' : World} {ba bb bs : Nat} {A : Option Addr} {la ca : Nat} {B : Option Addr} {lb cb : Nat} {s : Pr} {xs ys : List Int} (h : Good w ba bb bs A la ca B lb cb s xs ys) (hb : Below w.heap.size w w') : Good w' ba bb bs A la ca B lb cb s xs ys := by
  have k : ∀ {p : Addr} {v : Value}, w.cell? p = some v → w'.cell? p = some v := fun {p v} hp => (hb.cell (World.block_lt_of_cell? _ _ hp)).trans hp
  exact ⟨k h.ca, k h.cb, k h.s0, k h.s1, (h.a.below hb (Nat.le_refl _)).wide hb.size, (h.b.below hb (Nat.le_refl _)).wide hb.size⟩
theorem chW_stops {W : World} {s : Pr} {A : Option Addr} {la ca : Nat} {B : Option Addr} {lb cb : Nat} {xs ys : List Int} (ha : Ints W W.heap.size A la xs) (hb : Ints W W.heap.size B lb ys) (hla : la ≤ 1000000) (hlb : lb ≤ 1000000) :
    SeqStopsK Fence.wide 9 Try.prog 30 #[.pointer (some ⟨W.heap.size + 1, 0, none⟩), .pointer (some ⟨W.heap.size + 2, 0, none⟩), .pointer (some ⟨W.heap.size, 0, none⟩)] (fun x : Int => #[.int .i64 x]) (Below (chW W s A la ca B lb cb).heap.size) (fun zs => zs = chg s xs ys) (fun _ => True) (chg s xs ys).length (chW W s A la ca B lb cb) :=
  changes_stops (W.heap.size + 1) (W.heap.size + 2) W.heap.size A la ca B lb cb s xs ys hla hlb _ _ (fun _ _ _ h k => h.trans k) (fun a b h k => k.mono h) (fun _ _ h => h.size) (fun W' h => (chW_good ha hb).keep h)

/-- made, as Set calls it. -/
theorem made_set (W0 W : World) (bs bv bb : Nat) (s : Pr) (v : Int) (fb : Value) (ps : List Pr) (A : Option Addr) (n c : Nat) (ad : Addr) (hW : Below W0.heap.size W0 W)
    (hs : Bx W0 bs 33 (.int .i64 s.1) (.int .i64 s.2)) (hv : Boxed W0 bv 3 (.int .i64 v)) (hb : Boxed W0 bb 40 fb) (hf : Val W0 fb ps) (hA : Ints W0 W0.heap.size A n (ps.map (·.1))) (hn : n ≤ 1000) (hy : Ints W W.heap.size (some ad) 2 [s.1, s.2]) :
    Calls Try.prog 16 #[.func (.func 30) #[] #[.pointer (some ⟨W.heap.size + 1, 0, none⟩), .pointer (some ⟨W.heap.size + 2, 0, none⟩), .pointer (some ⟨W.heap.size, 0, none⟩)], .func (.func 26) #[] #[.pointer (some ⟨bs, 0, none⟩), .pointer (some ⟨bv, 0, none⟩), .pointer (some ⟨bb, 0, none⟩)]]
      (chW W (1, 292195) A n c (some ad) 2 2) (GivesB W0 (mks (setG ps s v) (chg (1, 292195) (ps.map (·.1)) [s.1, s.2])).1) := by
  have hB := hW.trans ((chW_below W (1, 292195) A n c (some ad) 2 2).mono hW.size)
  have hln : (chg (1, 292195) (ps.map (·.1)) [s.1, s.2]).length ≤ 1000000 := by
    have := chg_len (1, 292195) (ps.map (·.1)) [s.1, s.2]
    have h2 := hA.1
    simp at this h2
    omega
  refine (made _ _ _ _ (setG ps s v) _ _ hln enters_changes enters_set1 (chW_stops ((hA.below hW (Nat.le_refl _)).wide hW.size) hy (by omega) (by omega)) (fun d W' hW' => ?_)).mono ?_
  · have hB' := hB.trans (hW'.mono hB.size)
    exact set1 bs bv bb s v fb ps d W' (hs.keep hB') ((hB'.block _ hv.lt).trans hv) ((hB'.block _ hb.lt).trans hb) (hf.keep hB')
  · rintro e w' ⟨A', c', V', d', rfl, hO, hb'⟩
    exact ⟨A', c', V', d', rfl, hO.low hB.size, hB.trans (hb'.mono hB.size)⟩

theorem made_set' (W0 W : World) (N bs bv bb : Nat) (s : Pr) (v : Int) (fb : Value) (ps : List Pr) (A : Option Addr) (n c : Nat) (ad : Addr) (hN : W.heap.size = N) (hW : Below W0.heap.size W0 W)
    (hs : Bx W0 bs 33 (.int .i64 s.1) (.int .i64 s.2)) (hv : Boxed W0 bv 3 (.int .i64 v)) (hb : Boxed W0 bb 40 fb) (hf : Val W0 fb ps) (hA : Ints W0 W0.heap.size A n (ps.map (·.1))) (hn : n ≤ 1000) (hy : Ints W N (some ad) 2 [s.1, s.2]) :
    Calls Try.prog 16 #[.func (.func 30) #[] #[.pointer (some ⟨N + 1, 0, none⟩), .pointer (some ⟨N + 2, 0, none⟩), .pointer (some ⟨N, 0, none⟩)], .func (.func 26) #[] #[.pointer (some ⟨bs, 0, none⟩), .pointer (some ⟨bv, 0, none⟩), .pointer (some ⟨bb, 0, none⟩)]]
      (chW W (1, 292195) A n c (some ad) 2 2) (GivesB W0 (mks (setG ps s v) (chg (1, 292195) (ps.map (·.1)) [s.1, s.2])).1) := by
  subst hN
  exact made_set W0 W bs bv bb s v fb ps A n c ad hW hs hv hb hf hA hn hy

/-- made, as Add calls it. -/
theorem made_add_at (W0 W : World) (b1 b2 : Nat) (f1 f2 : Value) (ps qs : List Pr) (A : Option Addr) (n c : Nat) (B : Option Addr) (m d : Nat) (hW : Below W0.heap.size W0 W)
    (h1 : Boxed W0 b1 40 f1) (h2 : Boxed W0 b2 40 f2) (hf : Val W0 f1 ps) (hg : Val W0 f2 qs) (hp : Fit ps) (hq : Fit qs) (hA : Ints W0 W0.heap.size A n (ps.map (·.1))) (hn : n ≤ 1000) (hB' : Ints W0 W0.heap.size B m (qs.map (·.1))) (hm : m ≤ 1000) :
    Calls Try.prog 16 #[.func (.func 30) #[] #[.pointer (some ⟨W.heap.size + 1, 0, none⟩), .pointer (some ⟨W.heap.size + 2, 0, none⟩), .pointer (some ⟨W.heap.size, 0, none⟩)], .func (.func 19) #[] #[.pointer (some ⟨b1, 0, none⟩), .pointer (some ⟨b2, 0, none⟩)]]
      (chW W (1, 292195) A n c B m d) (GivesB W0 (mks (addG ps qs) (chg (1, 292195) (ps.map (·.1)) (qs.map (·.1)))).1) := by
  have hB := hW.trans ((chW_below W (1, 292195) A n c B m d).mono hW.size)
  have hln : (chg (1, 292195) (ps.map (·.1)) (qs.map (·.1))).length ≤ 1000000 := by
    have := chg_len (1, 292195) (ps.map (·.1)) (qs.map (·.1))
    have h2 := hA.1
    have h3 := hB'.1
    simp at this h2 h3
    omega
  refine (made _ _ _ _ (addG ps qs) _ _ hln enters_changes enters_add1 (chW_stops ((hA.below hW (Nat.le_refl _)).wide hW.size) ((hB'.below hW (Nat.le_refl _)).wide hW.size) (by omega) (by omega)) (fun x W' hW' => ?_)).mono ?_
  · have hC := hB.trans (hW'.mono hB.size)
    exact add1 b1 b2 f1 f2 ps qs x W' ((hC.block _ h1.lt).trans h1) ((hC.block _ h2.lt).trans h2) (hf.keep hC) (hg.keep hC) hp hq
  · rintro e w' ⟨A', c', V', d', rfl, hO, hb'⟩
    exact ⟨A', c', V', d', rfl, hO.low hB.size, hB.trans (hb'.mono hB.size)⟩

end Stp
end Go.Proofs.Ytngpcabengmoiaa
