/-
  The parts SOne, SKeep of this proof. Conditions: those of each theorem.
-/
import Derived.Test.YtplenoaajokpjaaGreatRows
import Derived.Test.YtplenoaajokpjaaGreatMMath
import Derived.WalkKit
import Derived.WalkLawsBesides
import Derived.Lib.Hide
import Derived.Deep.QuietTactic
import Derived.BigQuiet
import Derived.Deep.DeepCutAuto
import Derived.Deep.CutBlock
import Derived.Deep.RegionHeld3
import Derived.WalkSmall
import Derived.IntWalk
import Derived.Below
import Derived.Lib.MinMax
import Derived.RangeFuncNested
import Derived.RangeFuncBound
import Derived.RangeFuncCalls
import Derived.RangeFuncLeaves
import Derived.RangeFuncBox
import Derived.Shelf.Abstract
import Derived.Shelf.RegionOpen
import Derived.OwnWalkIn
import Derived.TacticsInMore
import Derived.LoopNIn
import Derived.LoopIn
import Derived.Maps.AppendAt
import Derived.Laws.AppendOwnNone
import Derived.OwnWalk
namespace Go.Proofs.YtplenoaajokpjaaGreat
open Go.RowKit Sp
namespace Spn
set_option linter.unusedVariables false
abbrev ag (x : Sp) : Value := .agg #[.int .i64 x.1, .int .i64 x.2]
def fit (x : Sp) : Prop := (-9223372036854775808 ≤ x.1 ∧ x.1 ≤ 9223372036854775807) ∧ (-9223372036854775808 ≤ x.2 ∧ x.2 ≤ 9223372036854775807)
theorem rt_t {a b : Int} (h1 : 1 ≤ a) (h2 : a ≤ b) (h3 : b ≤ 292195) : rt (a, b) = true := (rt_iff (a, b)).2 ⟨h1, h2, h3⟩
theorem rt_f {a b : Int} (h : ¬ (1 ≤ a ∧ a ≤ b ∧ b ≤ 292195)) : rt (a, b) = false := (rt_not (a, b)).2 h
theorem bcell {W w1 : World} (hb : Below W.heap.size W w1) : (∀ b o, b < W.heap.size → w1.cell? ⟨b, o, none⟩ = W.cell? ⟨b, o, none⟩) ∧ (∀ b o, b < W.heap.size → w1.frozen? ⟨b, o, none⟩ = W.frozen? ⟨b, o, none⟩) :=
 ⟨fun b o h => hb.cell (p := ⟨b, o, none⟩) h, fun b o h => hb.frozen (p := ⟨b, o, none⟩) h⟩
set_option maxHeartbeats 1000000 in
theorem right (x : Sp) (w : World) : Calls Tryz.prog 50 #[ag x] w fun e w' => e = .returned (.bool (rt x)) ∧ Below w.heap.size w w' := by
 obtain ⟨a, b⟩ := x; by_cases h1 : 1 ≤ a
 ·have t1 : decide (1 ≤ a) = true := by simpa using h1
  by_cases h2 : a ≤ b
  ·have t2 : decide (a ≤ b) = true := by simpa using h2
   by_cases h3 : b ≤ 292195
   ·have t3 : decide (b ≤ 292195) = true := by simpa using h3
    rw [rt_t h1 h2 h3]; clear h1 h2 h3; go_enter Tryz.func50, Tryz.ntmps50; go_wp2; go_ret; exact ⟨rfl, (Below.refl _ _).alloc (Nat.le_refl _) _⟩
   ·have t3 : decide (b ≤ 292195) = false := by simpa using h3
    rw [rt_f (by omega)]; clear h1 h2 h3; go_enter Tryz.func50, Tryz.ntmps50; go_wp2; go_ret; exact ⟨rfl, (Below.refl _ _).alloc (Nat.le_refl _) _⟩
  ·have t2 : decide (a ≤ b) = false := by simpa using h2
   rw [rt_f (by omega)]; clear h1 h2; go_enter Tryz.func50, Tryz.ntmps50; go_wp2; go_ret; exact ⟨rfl, (Below.refl _ _).alloc (Nat.le_refl _) _⟩
 ·have t1 : decide (1 ≤ a) = false := by simpa using h1
  rw [rt_f (by omega)]; clear h1; go_enter Tryz.func50, Tryz.ntmps50; go_wp2; go_ret; exact ⟨rfl, (Below.refl _ _).alloc (Nat.le_refl _) _⟩
set_option maxHeartbeats 1000000 in
theorem rright (x : Sp) (w : World) : Calls Tryz.prog 57 #[ag x] w fun e w' => e = .returned (.bool (rt x)) ∧ Below w.heap.size w w' := by
 obtain ⟨a, b⟩ := x; by_cases h1 : 1 ≤ a
 ·have t1 : decide (1 ≤ a) = true := by simpa using h1
  by_cases h2 : a ≤ b
  ·have t2 : decide (a ≤ b) = true := by simpa using h2
   by_cases h3 : b ≤ 292195
   ·have t3 : decide (b ≤ 292195) = true := by simpa using h3
    rw [rt_t h1 h2 h3]; clear h1 h2 h3; go_enter Tryz.func57, Tryz.ntmps57; go_wp2; go_ret; exact ⟨rfl, (Below.refl _ _).alloc (Nat.le_refl _) _⟩
   ·have t3 : decide (b ≤ 292195) = false := by simpa using h3
    rw [rt_f (by omega)]; clear h1 h2 h3; go_enter Tryz.func57, Tryz.ntmps57; go_wp2; go_ret; exact ⟨rfl, (Below.refl _ _).alloc (Nat.le_refl _) _⟩
  ·have t2 : decide (a ≤ b) = false := by simpa using h2
   rw [rt_f (by omega)]; clear h1 h2; go_enter Tryz.func57, Tryz.ntmps57; go_wp2; go_ret; exact ⟨rfl, (Below.refl _ _).alloc (Nat.le_refl _) _⟩
 ·have t1 : decide (1 ≤ a) = false := by simpa using h1
  rw [rt_f (by omega)]; clear h1; go_enter Tryz.func57, Tryz.ntmps57; go_wp2; go_ret; exact ⟨rfl, (Below.refl _ _).alloc (Nat.le_refl _) _⟩
set_option maxHeartbeats 1000000 in
theorem many (x : Sp) (w : World) : Calls Tryz.prog 85 #[ag x] w fun e w' => e = .returned (.int .i64 (mn x)) ∧ Below w.heap.size w w' := by
 have C := fun w => Lib.hid (right x w)
 obtain ⟨a, b⟩ := x; by_cases hr : rt (a, b) = true
 ·have hm : mn (a, b) = b - a := by rw [mn, if_pos hr]
  rw [hm]; rw [hr] at C; rw [rt_iff] at hr; obtain ⟨h1, h2, h3⟩ := hr; simp only at h1 h2 h3; clear hm; go_enter Tryz.func85, Tryz.ntmps85
  go_wp2_with fail
  refine (C _).out.mono ?_; rintro e w1 ⟨rfl, hb⟩; obtain ⟨hc, hf⟩ := bcell hb; have HB := Lib.hid hb; clear hb; go_wp2; go_ret; exact ⟨rfl, ((Below.refl _ _).alloc (Nat.le_refl _) _).trans (HB.out.mono (by simp))⟩
 ·have hm : mn (a, b) = 0 := by rw [mn, if_neg hr]
  rw [hm]; have hr' : rt (a, b) = false := by simpa using hr
  rw [hr'] at C; clear hm hr hr'; go_enter Tryz.func85, Tryz.ntmps85
  go_wp2_with fail
  refine (C _).out.mono ?_; rintro e w1 ⟨rfl, hb⟩; have HB := Lib.hid hb; clear hb; go_wp2; go_ret; exact ⟨rfl, ((Below.refl _ _).alloc (Nat.le_refl _) _).trans (HB.out.mono (by simp))⟩
set_option maxHeartbeats 1000000 in
theorem inn_ (x : Sp) (d : Int) (w : World) : Calls Tryz.prog 35 #[ag x, .int .i64 d] w fun e w' => e = .returned (.bool (inn x d)) ∧ Below w.heap.size w w' := by
 have C := fun w => Lib.hid (right x w)
 obtain ⟨a, b⟩ := x; by_cases hr : rt (a, b) = true
 ·by_cases h1 : a ≤ d
  ·by_cases h2 : d < b
   ·have hi : inn (a, b) d = true := by simp [inn, hr, h1, h2]
    have t1 : decide (a ≤ d) = true := by simpa using h1
    have t2 : decide (d < b) = true := by simpa using h2
    rw [hi]; rw [hr] at C; clear hi hr h1 h2; go_enter Tryz.func35, Tryz.ntmps35
    go_wp2_with fail
    refine (C _).out.mono ?_; rintro e w1 ⟨rfl, hb⟩; obtain ⟨hc, hf⟩ := bcell hb; have HB := Lib.hid hb; clear hb; go_wp2; go_ret; exact ⟨rfl, ((Below.refl _ _).alloc (Nat.le_refl _) _).trans (HB.out.mono (by simp))⟩
   ·have hi : inn (a, b) d = false := by simp [inn, hr, h1]; omega
    have t1 : decide (a ≤ d) = true := by simpa using h1
    have t2 : decide (d < b) = false := by simpa using h2
    rw [hi]; rw [hr] at C; clear hi hr h1 h2; go_enter Tryz.func35, Tryz.ntmps35
    go_wp2_with fail
    refine (C _).out.mono ?_; rintro e w1 ⟨rfl, hb⟩; obtain ⟨hc, hf⟩ := bcell hb; have HB := Lib.hid hb; clear hb; go_wp2; go_ret; exact ⟨rfl, ((Below.refl _ _).alloc (Nat.le_refl _) _).trans (HB.out.mono (by simp))⟩
  ·have hi : inn (a, b) d = false := by simp [inn, hr, h1]
   have t1 : decide (a ≤ d) = false := by simpa using h1
   rw [hi]; rw [hr] at C; clear hi hr h1; go_enter Tryz.func35, Tryz.ntmps35
   go_wp2_with fail
   refine (C _).out.mono ?_; rintro e w1 ⟨rfl, hb⟩; obtain ⟨hc, hf⟩ := bcell hb; have HB := Lib.hid hb; clear hb; go_wp2; go_ret; exact ⟨rfl, ((Below.refl _ _).alloc (Nat.le_refl _) _).trans (HB.out.mono (by simp))⟩
 ·have hr' : rt (a, b) = false := by simpa using hr
  have hi : inn (a, b) d = false := by simp [inn, hr']
  rw [hi]; rw [hr'] at C; clear hi hr hr'; go_enter Tryz.func35, Tryz.ntmps35
  go_wp2_with fail
  refine (C _).out.mono ?_; rintro e w1 ⟨rfl, hb⟩; obtain ⟨hc, hf⟩ := bcell hb; have HB := Lib.hid hb; clear hb; go_wp2; go_ret; exact ⟨rfl, ((Below.refl _ _).alloc (Nat.le_refl _) _).trans (HB.out.mono (by simp))⟩
set_option maxHeartbeats 1000000 in
theorem rinn (x : Sp) (d : Int) (w : World) : Calls Tryz.prog 41 #[ag x, .int .i64 d] w fun e w' => e = .returned (.bool (inn x d)) ∧ Below w.heap.size w w' := by
 have C := fun w => Lib.hid (rright x w)
 obtain ⟨a, b⟩ := x; by_cases hr : rt (a, b) = true
 ·by_cases h1 : a ≤ d
  ·by_cases h2 : d < b
   ·have hi : inn (a, b) d = true := by simp [inn, hr, h1, h2]
    have t1 : decide (a ≤ d) = true := by simpa using h1
    have t2 : decide (d < b) = true := by simpa using h2
    rw [hi]; rw [hr] at C; clear hi hr h1 h2; go_enter Tryz.func41, Tryz.ntmps41
    go_wp2_with fail
    refine (C _).out.mono ?_; rintro e w1 ⟨rfl, hb⟩; obtain ⟨hc, hf⟩ := bcell hb; have HB := Lib.hid hb; clear hb; go_wp2; go_ret; exact ⟨rfl, ((Below.refl _ _).alloc (Nat.le_refl _) _).trans (HB.out.mono (by simp))⟩
   ·have hi : inn (a, b) d = false := by simp [inn, hr, h1]; omega
    have t1 : decide (a ≤ d) = true := by simpa using h1
    have t2 : decide (d < b) = false := by simpa using h2
    rw [hi]; rw [hr] at C; clear hi hr h1 h2; go_enter Tryz.func41, Tryz.ntmps41
    go_wp2_with fail
    refine (C _).out.mono ?_; rintro e w1 ⟨rfl, hb⟩; obtain ⟨hc, hf⟩ := bcell hb; have HB := Lib.hid hb; clear hb; go_wp2; go_ret; exact ⟨rfl, ((Below.refl _ _).alloc (Nat.le_refl _) _).trans (HB.out.mono (by simp))⟩
  ·have hi : inn (a, b) d = false := by simp [inn, hr, h1]
   have t1 : decide (a ≤ d) = false := by simpa using h1
   rw [hi]; rw [hr] at C; clear hi hr h1; go_enter Tryz.func41, Tryz.ntmps41
   go_wp2_with fail
   refine (C _).out.mono ?_; rintro e w1 ⟨rfl, hb⟩; obtain ⟨hc, hf⟩ := bcell hb; have HB := Lib.hid hb; clear hb; go_wp2; go_ret; exact ⟨rfl, ((Below.refl _ _).alloc (Nat.le_refl _) _).trans (HB.out.mono (by simp))⟩
 ·have hr' : rt (a, b) = false := by simpa using hr
  have hi : inn (a, b) d = false := by simp [inn, hr']
  rw [hi]; rw [hr'] at C; clear hi hr hr'; go_enter Tryz.func41, Tryz.ntmps41
  go_wp2_with fail
  refine (C _).out.mono ?_; rintro e w1 ⟨rfl, hb⟩; obtain ⟨hc, hf⟩ := bcell hb; have HB := Lib.hid hb; clear hb; go_wp2; go_ret; exact ⟨rfl, ((Below.refl _ _).alloc (Nat.le_refl _) _).trans (HB.out.mono (by simp))⟩
end Spn
end Go.Proofs.YtplenoaajokpjaaGreat
namespace Go.Proofs.YtplenoaajokpjaaGreat
open Go.RowKit Sp
namespace Spn
set_option linter.unusedVariables false
def Bx (w : World) (b : Nat) (x y : Int) : Prop := w.heap[b]? = some (.cells #[.int .i64 x, .int .i64 y] 27 (0, 0))
section
variable {w w1 : World} {b B : Nat} {x y p q r s : Int}
theorem Bx.lt (h : Bx w b x y) : b < w.heap.size := by
 rcases Nat.lt_or_ge b w.heap.size with hlt | hge
 ·exact hlt
 ·unfold Bx at h; rw [Array.getElem?_eq_none hge] at h; cases h
theorem Bx.c0 (h : Bx w b x y) : w.cell? ⟨b, 0, none⟩ = some (.int .i64 x) := by rw [cell_of_row w b 0 _ _ _ h]; rfl
theorem Bx.c1 (h : Bx w b x y) : w.cell? ⟨b, 1, none⟩ = some (.int .i64 y) := by rw [cell_of_row w b 1 _ _ _ h]; rfl
theorem Bx.f (h : Bx w b x y) (o : Nat) : w.frozen? ⟨b, o, none⟩ = false := by unfold Bx at h; simp [World.frozen?, h]
theorem Bx.below (h : Bx w b x y) (hb : Below B w w1) (hB : b < B) : Bx w1 b x y := (hb.block b hB).trans h
theorem Bx.keep (h : Bx w b x y) (hb : Below w.heap.size w w1) : Bx w1 b x y := h.below hb h.lt
theorem Bx.alloc (h : Bx w b x y) (o : Obj) : Bx (w.alloc o) b x y := (Below.heap_alloc w o b h.lt).trans h
theorem Bx.new (w : World) (x y : Int) : Bx (w.alloc (.cells #[.int .i64 x, .int .i64 y] 27)) w.heap.size x y := heap_alloc_new w _
theorem Bx.set0 (h : Bx w b x y) (z : Int) : Bx (w.setCell ⟨b, 0, none⟩ (.int .i64 z)) b z y := by
 unfold Bx at h ⊢; rw [heap_setCell_same w b 0 _ _ _ h]; rfl
theorem Bx.set1 (h : Bx w b x y) (z : Int) : Bx (w.setCell ⟨b, 1, none⟩ (.int .i64 z)) b x z := by
 unfold Bx at h ⊢; rw [heap_setCell_same w b 1 _ _ _ h]; rfl
theorem Bx.far (h : Bx w b x y) {a : Addr} (hp : b ≠ a.block) (u : Value) : Bx (w.setCell a u) b x y := (Below.heap_setCell w a u b hp).trans h
theorem bx1 (hb : Below (w.alloc (.cells #[.int .i64 x, .int .i64 y] 27)).heap.size (w.alloc (.cells #[.int .i64 x, .int .i64 y] 27)) w1) :
  Bx w1 w.heap.size x y ∧ Below w.heap.size w w1 :=
 ⟨(Bx.new w x y).keep hb, ((Below.refl _ _).alloc (Nat.le_refl _) _).trans (hb.mono (by simp))⟩
theorem bx2 (hb : Below ((w.alloc (.cells #[.int .i64 x, .int .i64 y] 27)).alloc (.cells #[.int .i64 p, .int .i64 q] 27)).heap.size ((w.alloc (.cells #[.int .i64 x, .int .i64 y] 27)).alloc (.cells #[.int .i64 p, .int .i64 q] 27)) w1) :
  Bx w1 w.heap.size x y ∧ Bx w1 (w.heap.size + 1) p q ∧ Below w.heap.size w w1 := by
 obtain ⟨h1, h2⟩ := bx1 hb; rw [World.size_alloc] at h1 h2; exact ⟨(Bx.new w x y).below h2 (by simp), h1, ((Below.refl _ _).alloc (Nat.le_refl _) _).trans (h2.mono (by simp))⟩
theorem bx3 (hb : Below (((w.alloc (.cells #[.int .i64 x, .int .i64 y] 27)).alloc (.cells #[.int .i64 p, .int .i64 q] 27)).alloc (.cells #[.int .i64 r, .int .i64 s] 27)).heap.size (((w.alloc (.cells #[.int .i64 x, .int .i64 y] 27)).alloc (.cells #[.int .i64 p, .int .i64 q] 27)).alloc (.cells #[.int .i64 r, .int .i64 s] 27)) w1) :
  Bx w1 w.heap.size x y ∧ Bx w1 (w.heap.size + 1) p q ∧ Bx w1 (w.heap.size + 1 + 1) r s ∧ Below w.heap.size w w1 := by
 obtain ⟨h1, h2, h3⟩ := bx2 hb; rw [World.size_alloc] at h1 h2 h3; exact ⟨(Bx.new w x y).below h3 (by simp), h1, h2, ((Below.refl _ _).alloc (Nat.le_refl _) _).trans (h3.mono (by simp))⟩
end
end Spn
end Go.Proofs.YtplenoaajokpjaaGreat
namespace Go.Proofs.YtplenoaajokpjaaGreat
open Go.RowKit Sp
namespace Spn
set_option linter.unusedVariables false
theorem add_block (a : Addr) (n : Nat) : (a.add n).block = a.block := by unfold Addr.add; split <;> rfl
theorem add_add (a : Addr) (i j : Nat) : (a.add i).add j = a.add (i + j) := by
 unfold Addr.add; by_cases hi : i = 0 <;> by_cases hj : j = 0 <;> simp [hi, hj, Nat.add_assoc]
theorem add_one (a : Addr) (i : Nat) : a.add (i + 1) = ⟨(a.add i).block, (a.add i).off + 1, none⟩ := by
 unfold Addr.add; by_cases hi : i = 0 <;> simp [hi, Nat.add_assoc]
def Spans (w : World) (B : Nat) (A : Option Addr) (n : Nat) (xs : List Sp) : Prop :=
 xs.length = n ∧ (0 < n → ∃ ad : Addr, A = some ad ∧ ad.block < B ∧ ∀ (j : Nat) (x : Sp), xs[j]? = some x → w.cell? (ad.add (j * 2)) = some (.int .i64 x.1) ∧ w.cell? (ad.add (j * 2 + 1)) = some (.int .i64 x.2))
section
variable {w w' : World} {B n : Nat} {A : Option Addr} {xs : List Sp}
theorem Spans.nil {A : Option Addr} : Spans w B A 0 [] := ⟨rfl, fun h => absurd h (by omega)⟩
theorem Spans.get {k : Nat} (h : Spans w B A n xs) (hk : k < n) : ∃ (ad : Addr) (x y : Int), A = some ad ∧ ad.block < B ∧ xs[k]? = some (x, y) ∧ w.cell? (ad.add (k * 2)) = some (.int .i64 x) ∧ w.cell? ⟨(ad.add (k * 2)).block, (ad.add (k * 2)).off + 1, none⟩ = some (.int .i64 y) := by
 obtain ⟨ad, e, hb, hc⟩ := h.2 (by omega); have hl : k < xs.length := by have := h.1; omega
 have := hc k _ (List.getElem?_eq_getElem hl); exact ⟨ad, xs[k].1, xs[k].2, e, hb, List.getElem?_eq_getElem hl, this.1, by rw [← add_one]; exact this.2⟩
theorem Spans.keep (h : Spans w B A n xs) (hk : ∀ p : Addr, p.block < B → w'.cell? p = w.cell? p) : Spans w' B A n xs :=
 ⟨h.1, fun hn => by
  obtain ⟨ad, e, hb, hc⟩ := h.2 hn; exact ⟨ad, e, hb, fun j x hx => ⟨(hk _ (by rw [add_block]; exact hb)).trans (hc j x hx).1, (hk _ (by rw [add_block]; exact hb)).trans (hc j x hx).2⟩⟩⟩
theorem Spans.below {C : Nat} (h : Spans w B A n xs) (hb : Below C w w') (hC : B ≤ C) : Spans w' B A n xs := h.keep fun _ hp => hb.cell (Nat.lt_of_lt_of_le hp hC)
theorem Spans.wide {C : Nat} (h : Spans w B A n xs) (hC : B ≤ C) : Spans w C A n xs :=
 ⟨h.1, fun hn => by
  obtain ⟨ad, e, hb, hc⟩ := h.2 hn; exact ⟨ad, e, Nat.lt_of_lt_of_le hb hC, hc⟩⟩
end
end Spn
end Go.Proofs.YtplenoaajokpjaaGreat

namespace Go.Proofs.YtplenoaajokpjaaGreat
open Go.RowKit Go.Shelf Sp
namespace Spn
set_option linter.unusedVariables false
attribute [local go_sem] Oper.semAt_some
theorem kp_yes {xs : List Sp} {k : Nat} {x : Sp} (h : xs[k]? = some x) (hx : Sp.has x = true) : kp (xs.take (k + 1)) = kp (xs.take k) ++ [x] := by
 obtain ⟨hl, e⟩ := List.getElem?_eq_some_iff.1 h; rw [List.take_succ_eq_append_getElem hl, e, kp_append, kp_one, if_pos hx]
theorem kp_not {xs : List Sp} {k : Nat} {x : Sp} (h : xs[k]? = some x) (hx : Sp.has x = false) : kp (xs.take (k + 1)) = kp (xs.take k) := by
 obtain ⟨hl, e⟩ := List.getElem?_eq_some_iff.1 h; rw [List.take_succ_eq_append_getElem hl, e, kp_append, kp_one, if_neg (by simp [hx]), List.append_nil]
theorem kp_lt {xs : List Sp} {k : Nat} {x : Sp} (h : xs[k]? = some x) (hx : Sp.has x = true) : (kp (xs.take k)).length < (kp xs).length := by
 have e : kp xs = kp (xs.take (k + 1)) ++ kp (xs.drop (k + 1)) := by rw [← kp_append, List.take_append_drop]
 rw [e, kp_yes h hx]; simp
theorem grown_of_below {W W' : World} (h : Below W.heap.size W W') : W.grownBy W' none := ⟨h.os, h.tape, h.output, h.size, fun k hk _ => h.block k hk⟩
set_option maxRecDepth 100000 in
set_option maxHeartbeats 2000000 in
theorem days1 (l Bs n₀ len cap : Nat) (A : Option Addr) (xs : List Sp) (hlen : len ≤ 1000000000) (J Jx : List Sp → World → Prop) (W : World)
  (hJ : AbidesFrom W.heap.size J)
  (hY : ∀ pre x W, J pre W → pre.length < (kp xs).length → YieldAt Fence.wide (9 - 1) Tryz.prog l #[ag x] W fun e W' =>
   (e = .returned (.bool true) ∧ J (pre ++ [x]) W' ∧ Below n₀ W W') ∨ (e = .returned (.bool false) ∧ Jx (pre ++ [x]) W'))
  (hn₀ : n₀ ≤ W.heap.size) (hBs : W.cell? ⟨Bs, 0, none⟩ = some (.slice A len cap)) (hS : Spans W n₀ A len xs) (h0 : J [] W) :
  CallsIn Fence.wide 9 Tryz.prog 145 #[.func (.yield l) #[] #[], .pointer (some ⟨Bs, 0, none⟩)] W fun e W' => (∃ v, e = .returned v) ∧
   ((∃ ys, ys = kp xs ∧ J ys W') ∨ (∃ pre, True ∧ Jx pre W')) := by
 have H := Lib.hid hS; have HJ := Lib.hid hJ; have HY := Lib.hid hY; clear hS hJ hY; refine callsIn_of_wp Tryz.func145 rfl trivial ?_ rfl; simp only [Tryz.ntmps145, List.size_toArray, List.length_cons, List.length_nil, Nat.reduceAdd, Nat.reduceSub, Array.replicate_succ, Array.replicate_zero, List.push_toArray, List.append_toArray, List.nil_append, List.cons_append]
 gi_wp2
 gi_loopw [7] (fun i wr => ∃ k : Nat, k ≤ len ∧ i = .int .i64 k ∧ Hid (J (kp (xs.take k)) wr) ∧ Hid (Below n₀ W wr) ∧ W.heap.size ≤ wr.heap.size)
  (fun i _ => len - (intOf i).toNat)
 case atStart => exact ⟨0, Nat.zero_le _, rfl, Lib.hid h0, Lib.hid (Below.refl _ _), Nat.le_refl _⟩
 case round =>
  obtain ⟨k, hk, rfl, HJs, HB, hsz⟩ := hrel; by_cases hlt : k < len
  ·obtain ⟨ad, x, y, rfl, hb, hx, hc, hc'⟩ := (H.out.below HB.out (Nat.le_refl _)).get hlt; have HX := Lib.hid hx; have C := fun w => Lib.hid (callsIn_wide (n := 9 - 1) |>.2 (many (x, y) w))
   clear hx
   gi_wp2_with fail
   refine ⟨trivial, (C _).out.mono ?_⟩; rintro e w1 ⟨rfl, hb1⟩; obtain ⟨X, hB1⟩ := bx1 hb1; have z0 := X.c0; have z1 := X.c1; have HJ1 := Lib.hid (HJ.out _ _ _ none HJs.out (grown_of_below hB1) (fun r e => by cases e)); have HB1 := Lib.hid (HB.out.trans (hB1.mono (Nat.le_trans hn₀ hsz))); have hsz1 : W.heap.size ≤ w1.heap.size := Nat.le_trans hsz hB1.size; clear hb1 hB1 X C hc hc'; cases hh : Sp.has (x, y)
   ·have tm : decide (0 < mn (x, y)) = false := hh; have HH := Lib.hid hh; clear hh; generalize mn (x, y) = m at tm
    gi_wp2
    refine ⟨fun _ h => (by cases h), ?_⟩
    gi_wp2
    go_roundw
    case rel => exact ⟨k + 1, by omega, by go_num, Lib.hid (by rw [kp_not HX.out HH.out]; exact HJ1.out), HB1, hsz1⟩
    case measure => simp [intOf]; omega
   ·have tm : decide (0 < mn (x, y)) = true := hh; have HH := Lib.hid hh; clear hh; generalize mn (x, y) = m at tm; obtain ⟨fn, tmps, assign, body, hy, hR⟩ := HY.out _ (x, y) w1 HJ1.out (kp_lt HX.out HH.out)
    gi_wp2
    refine hR.mono ?_; rintro e W3 (⟨rfl, hJ3, hk3⟩ | ⟨rfl, hJx3⟩)
    ·have HJ3 := Lib.hid hJ3; have HK3 := Lib.hid hk3; clear hJ3 hk3 hR hy
     gi_wp2
     go_roundw
     case rel => exact ⟨k + 1, by omega, by go_num, Lib.hid (by rw [kp_yes HX.out HH.out]; exact HJ3.out), Lib.hid (HB1.out.trans HK3.out), Nat.le_trans hsz1 HK3.out.size⟩
     case measure => simp [intOf]; omega
    ·gi_wp2
     refine bodyPost_ret (results_none rfl _ _ _) rfl ?_; exact ⟨⟨_, rfl⟩, .inr ⟨_, trivial, hJx3⟩⟩
  ·obtain rfl : k = len := by omega
   gi_wp2
   go_end0
   exact ⟨⟨_, rfl⟩, .inl ⟨_, rfl, by have := HJs.out; rwa [List.take_of_length_le (by rw [H.out.1]; exact Nat.le_refl _)] at this⟩⟩
set_option maxHeartbeats 1000000 in
theorem withDays (A : Option Addr) (n c : Nat) (w : World) :
  Calls Tryz.prog 123 #[.slice A n c] w fun e w' => e = .returned (.func (.func 145) #[] #[.pointer (some ⟨w.heap.size, 0, none⟩)]) ∧ w.alloc (.cells #[.slice A n c] 111) = w' := by
 go_enter Tryz.func123, Tryz.ntmps123; go_wp2; go_ret; exact ⟨rfl, rfl⟩
theorem days_stops (Bs n₀ len cap : Nat) (A : Option Addr) (xs : List Sp) (hlen : len ≤ 1000000000) (w : World) (hBs : Bs < w.heap.size) (hn₀ : n₀ ≤ w.heap.size)
  (hc : w.cell? ⟨Bs, 0, none⟩ = some (.slice A len cap)) (hS : Spans w n₀ A len xs) :
  SeqStopsK Fence.wide 9 Tryz.prog 145 #[.pointer (some ⟨Bs, 0, none⟩)] (fun x : Sp => #[ag x]) (Below n₀) (fun ys => ys = kp xs) (fun _ => True) (kp xs).length w := fun l J Jx W hW hJ _ hY h0 =>
 days1 l Bs n₀ len cap A xs hlen J Jx W hJ hY (Nat.le_trans hn₀ hW.size) ((hW.cell (p := ⟨Bs, 0, none⟩) hBs).trans hc) (hS.below hW hn₀) h0
end Spn
end Go.Proofs.YtplenoaajokpjaaGreat
namespace Go.Proofs.YtplenoaajokpjaaGreat
open Go.RowKit Go.Shelf Sp
namespace Spn
set_option linter.unusedVariables false
attribute [local go_sem] Oper.semAt_some
def cel (xs : List Sp) : List Value := xs.flatMap fun x => [.int .i64 x.1, .int .i64 x.2]
theorem cel_nil : cel [] = [] := rfl
theorem cel_append (xs ys : List Sp) : cel (xs ++ ys) = cel xs ++ cel ys := List.flatMap_append
theorem cel_one (x : Sp) : cel [x] = [.int .i64 x.1, .int .i64 x.2] := rfl
theorem cel_length (xs : List Sp) : (cel xs).length = xs.length * 2 := by
 induction xs with
 | nil => rfl
 | cons x xs ih => rw [show x :: xs = [x] ++ xs from rfl, cel_append, List.length_append, ih, cel_one]; simp; omega
theorem cel_get {xs : List Sp} {j : Nat} {x : Sp} (h : xs[j]? = some x) : (cel xs)[j * 2]? = some (.int .i64 x.1) ∧ (cel xs)[j * 2 + 1]? = some (.int .i64 x.2) := by
 induction xs generalizing j with
 | nil => simp at h
 | cons y ys ih =>
  rw [show y :: ys = [y] ++ ys from rfl, cel_append, cel_one]; cases j with
  | zero => simp at h; subst h; simp
  | succ j =>
   simp at h; obtain ⟨h1, h2⟩ := ih h; have e1 : (j + 1) * 2 = j * 2 + 2 := by omega
   rw [e1, List.getElem?_append_right (by simp), List.getElem?_append_right (by simp)]; exact ⟨by simpa using h1, by simpa using h2⟩
theorem cel_cell (xs : List Sp) : ∀ u ∈ cel xs, u.oneCell' = true := by
 intro u hu; obtain ⟨x, _, hx⟩ := List.mem_flatMap.1 hu; simp at hx; rcases hx with rfl | rfl <;> rfl
def Own (w : World) (base : Nat) (A : Option Addr) (n c : Nat) (xs : List Sp) : Prop := w.ownsRow base 27 2 (.slice A n c) n (cel xs)
section
variable {w w' : World} {base n c : Nat} {A : Option Addr} {xs : List Sp}
theorem Own.nil : Own w base none 0 0 [] := World.ownsRow_nil w base _ 2
theorem Own.len (h : Own w base A n c xs) : xs.length = n := by have := h.1; rw [cel_length] at this; omega
theorem Own.spans (h : Own w base A n c xs) : Spans w w.heap.size A n xs ∧ n ≤ c := by
 rcases h.2 with ⟨e, hn⟩ | ⟨g, cap, cur, e, hb, hh, hnc, hm, hs, ht⟩
 ·injection e with e1 e2 e3
  subst hn; have hl := h.len; exact ⟨⟨hl, fun h => absurd h (by omega)⟩, by omega⟩
 ·injection e with e1 e2 e3
  subst e1 e3; refine ⟨⟨h.len, fun _ => ⟨_, rfl, ?_, fun j x hx => ?_⟩⟩, hnc⟩
  ·rcases Nat.lt_or_ge g w.heap.size with hlt | hge
   ·exact hlt
   ·rw [Array.getElem?_eq_none hge] at hh; cases hh
  ·exact ⟨World.ownsRow.cells (g := g) h rfl (j * 2) _ (cel_get hx).1, World.ownsRow.cells (g := g) h rfl (j * 2 + 1) _ (cel_get hx).2⟩
theorem Own.lt (h : Own w base A n c xs) : ∀ k, (Value.slice A n c).ownBlock = some k → base ≤ k ∧ k < w.heap.size := World.ownsRow.lt h
theorem Own.alloc (h : Own w base A n c xs) (o : Obj) : Own (w.alloc o) base A n c xs := World.ownsRow.alloc h o
theorem Own.grown {row : Option Nat} (h : Own w base A n c xs) (hg : w.grownBy w' row) (hne : (Value.slice A n c).ownBlock = none ∨ (Value.slice A n c).ownBlock ≠ row) : Own w' base A n c xs := World.ownsRow.kept h hg hne
theorem Own.below (h : Own w base A n c xs) (hb : Below w.heap.size w w') : Own w' base A n c xs := by
 refine World.ownsRow.kept h (grown_of_below hb) ?_; cases A with
 | none => exact .inl rfl
 | some a => exact .inr (by simp [Value.ownBlock])
end
def Gives (w : World) (zs : List Sp) (e : Ending) (w' : World) : Prop := ∃ A k c, e = .returned (.slice A k c) ∧ Spans w' w'.heap.size A k zs ∧ k ≤ c ∧ Below w.heap.size w w' ∧ ∀ ad : Addr, A = some ad → w.heap.size ≤ ad.block
theorem info_span : (Tryz.prog.info? 27).map (fun i => (i.zero, i.size, i.bytes)) = some (some (.agg #[.int .i64 0, .int .i64 0]), 2, 16) := by kernel_rfl
theorem new_cells (w : World) (x y : Int) (j : Nat) (u : Value) (h : [Value.int .i64 x, .int .i64 y][j]? = some u) : (w.alloc (.cells #[.int .i64 x, .int .i64 y] 27)).cell? ((⟨w.heap.size, 0, none⟩ : Addr).add j) = some u := by
 have X := Bx.new w x y
 match j, h with
 | 0, h => simp at h; subst h; exact X.c0
 | 1, h => simp at h; subst h; exact X.c1
 | j + 2, h => simp at h
theorem own_of_row {w : World} {base k : Nat} {v : Value} {xs : List Sp} (h : w.ownsRow base 27 2 v k (cel xs)) : ∃ A c, v = .slice A k c ∧ Own w base A k c xs := by
 rcases h.2 with ⟨rfl, hn⟩ | ⟨g, cap, cur, rfl, hr⟩
 ·subst hn; exact ⟨_, _, rfl, h⟩
 ·exact ⟨_, _, rfl, h⟩
theorem bx_kept {W W' : World} {row : Option Nat} {b : Nat} {x y : Int} (h : Bx W b x y) (hg : W.grownBy W' row) (hr : ∀ r, row = some r → ∃ o : Obj, W.heap[r]? = some o ∧ o.isCells = false) : Bx W' b x y := by
 refine (hg.block b h.lt ?_).trans h; intro e; obtain ⟨o, ho, hc⟩ := hr b e.symm; unfold Bx at h; rw [h] at ho; cases ho; cases hc
set_option maxRecDepth 100000 in
set_option maxHeartbeats 2000000 in
theorem keep (A : Option Addr) (n c : Nat) (xs : List Sp) (w : World) (hS : Spans w w.heap.size A n xs) (hn : n ≤ 1000000) :
  Calls Tryz.prog 96 #[.slice A n c] w (Gives w (kp xs)) := by
 obtain ⟨i0, hi, hz0, hz1, hz2⟩ := info_parts info_span; have hkl : (kp xs).length ≤ 1000000 := Nat.le_trans (List.length_filter_le _ _) (by rw [hS.1]; exact hn); have H := Lib.hid hS; clear hS; refine callsIn_wide (n := 10) |>.1 ?_
 refine callsIn_of_wp_marks Tryz.func96 rfl trivial ?_ rfl; simp only [Tryz.ntmps96, List.size_toArray, List.length_cons, List.length_nil, Nat.reduceAdd, Nat.reduceSub, Array.replicate_succ, Array.replicate_zero, List.push_toArray, List.append_toArray, List.nil_append, List.cons_append]
 gi_wp2_with fail
 refine ⟨trivial, (callsIn_wide.2 (withDays A n c _)).mono ?_⟩; rintro e w' ⟨rfl, rfl⟩; have bO := Boxed.new w 111 (.slice none 0 0); have bN := Boxed.new (w.alloc (.cells #[.slice none 0 0] 111)) 111 (.slice A n c); rw [World.size_alloc] at bN; have hB0 : Below w.heap.size w ((w.alloc (.cells #[.slice none 0 0] 111)).alloc (.cells #[.slice A n c] 111)) := ((Below.refl _ w).alloc (Nat.le_refl _) _).alloc (by simp) _
 gi_wp2
 refine wpIn_rangeFunc_ownH rfl (by decide) (gf := 145) (lb := #[.pointer (some ⟨w.heap.size + 1, 0, none⟩)]) rfl trivial (enters_of Tryz.func145 (by kernel_rfl) rfl)
  (days_stops (w.heap.size + 1) w.heap.size n c A xs (by omega) _ (by simp) (by simp; omega) bN.cell (H.out.below hB0 (Nat.le_refl _))) belowK_t (belowK_b (by simp; omega)) (Below.refl _ _) (fun _ => rfl)
  (fun pre W => (∃ v, Boxed W w.heap.size 111 v ∧ W.ownsRow w.heap.size 27 2 v pre.length (cel pre) ∧ True) ∧ Below w.heap.size w W)
  (fun _ _ _ => False)
  (OwnFrom.and (Own.from (holdsRow_own w.heap.size w.heap.size 111 27 2 (fun pre : List Sp => pre.length) (fun pre => cel pre) (fun _ _ => True)) _) (ownFrom_below (Nat.le_refl _) (by simp; omega)))
  (fun _ _ _ _ _ hs _ _ => hs)
  ⟨⟨_, bO.alloc _, World.ownsRow_nil _ _ _ _, trivial⟩, hB0⟩
  (fun x a' W => ∃ b, Bx W b x.1 x.2 ∧ a' = { tmps := #[.slice A n c, undef, .slice none 0 0, .pointer (some ⟨w.heap.size, 0, none⟩), .pointer (some ⟨b, 0, none⟩), .slice A n c, .func (.func 145) #[] #[.pointer (some ⟨w.heap.size + 1, 0, none⟩)], ag x, undef, undef, undef, undef, undef], defers := [] })
  (fun x a' _ X Y row hs hg hr => by obtain ⟨b, h1, h2⟩ := hs; exact ⟨b, bx_kept h1 hg (fun r e => (hr r e).2), h2⟩)
  ?assign ?body ?done ?stop
 case assign =>
  rintro l pre x W K ⟨⟨v, hv, hrow, _⟩, hB⟩ hK
  gi_wp2
  exact hK _ _ ((KeepsOthers.alloc _ _).from _) ((Below.refl _ W).alloc hB.size _) ⟨⟨v, hv.alloc _, hrow.alloc _, trivial⟩, hB.alloc hB.size _⟩ ⟨W.heap.size, Bx.new W _ _, rfl⟩
 case body =>
  rintro l pre x a' W hl ⟨r, hr⟩ ⟨⟨v, hv, hrow, _⟩, hB⟩ ⟨b, X, rfl⟩ hlt; have hc := hv.cell; have x0 := X.c0; have x1 := X.c1
  gi_wp2_with (gi_at_builtin; refine wpListIn_append_own _ rfl _ _ 111 rfl w.heap.size 27 i0 (.agg #[.int .i64 0, .int .i64 0]) 2 16 Tryz.underlying111 hi hz0 hz1 hz2 rfl (by decide) _ _ _ rfl (hrow.alloc _) ⟨W.heap.size, 0, none⟩ 1 1 [.int .i64 x.1, .int .i64 x.2] rfl rfl (new_cells _ _ _) (by simp [Value.oneCell']) (by unfold maxLen; omega) (by omega) (by have := hB.size; simp; omega) ?_; intro v' w1 hown' hgrow _; obtain ⟨g', cap', rfl⟩ := ownsRow_succ hown'; obtain ⟨hv1, hv2, hr2, hk2, hb2⟩ := hv.appended (by decide) hrow hB.size (Nat.le_refl _) hown' hgrow; have hc1 := hv1.cell; have hf1 := hv1.frozen)
  exact ⟨hk2.from _, hb2, ⟨_, hv2, by rw [cel_append, cel_one]; simpa using hr2, trivial⟩, hB.trans hb2⟩
 case done =>
  rintro D ys W hD rfl ⟨⟨v, hv, hrow, _⟩, hB⟩ hK; have hc := hv.cell
  gi_wp2
  refine ⟨by simp, .inl ⟨_, _, rfl, run_takeDeferred hK, ?_⟩⟩; have hrow2 := ownsRow_putObj hrow (Obj.deferred none) hK rfl; obtain ⟨A', c', rfl, hO⟩ := own_of_row hrow2; exact ⟨_, results_tmp rfl _ _ _, A', _, c', rfl, hO.spans.1, hO.spans.2, hB.trans (belowK_b (w := w) (Nat.le_refl _) W D _ _ (by simp at hD; omega) hK rfl rfl), fun ad e => (hO.lt ad.block (by rw [e]; rfl)).1⟩
 case stop =>
  rintro D c pre W _ _ h _; exact h.elim
end Spn
end Go.Proofs.YtplenoaajokpjaaGreat
namespace Go.Proofs.YtplenoaajokpjaaGreat
open Go.RowKit Sp
namespace Spn
set_option linter.unusedVariables false
theorem spans_new1 (w : World) (x y : Int) : Spans (w.alloc (.cells #[.int .i64 x, .int .i64 y] 27)) (w.alloc (.cells #[.int .i64 x, .int .i64 y] 27)).heap.size (some ⟨w.heap.size, 0, none⟩) 1 [(x, y)] := by
 refine ⟨rfl, fun _ => ⟨_, rfl, by simp, fun j z hz => ?_⟩⟩; have X := Bx.new w x y
 match j, hz with
 | 0, hz => simp at hz; subst hz; exact ⟨X.c0, X.c1⟩
theorem spans_new (w : World) (xs : List Sp) (cs : Array Value) (e : cs.toList = cel xs) : Spans (w.alloc (.cells cs 27)) (w.alloc (.cells cs 27)).heap.size (some ⟨w.heap.size, 0, none⟩) xs.length xs := by
 refine ⟨rfl, fun _ => ⟨_, rfl, by simp, fun j z hz => ?_⟩⟩; have hh : (w.alloc (.cells cs 27)).heap[w.heap.size]? = some (.cells cs 27 (0, 0)) := heap_alloc_new w _
 have c : ∀ i, (w.alloc (.cells cs 27)).cell? ((⟨w.heap.size, 0, none⟩ : Addr).add i) = (cel xs)[i]? := by
  intro i; have ea : (⟨w.heap.size, 0, none⟩ : Addr).add i = ⟨w.heap.size, i, none⟩ := by unfold Addr.add; split <;> simp_all
  rw [ea, cell_of_row _ _ i _ _ _ hh, ← e]; simp
 rw [c, c]; exact cel_get hz
end Spn
end Go.Proofs.YtplenoaajokpjaaGreat
namespace Go.Proofs.YtplenoaajokpjaaGreat
open Go.RowKit Sp
namespace Spn
set_option linter.unusedVariables false
theorem spans_cells {w : World} {B : Nat} {ad : Addr} {m : Nat} {ys : List Sp} (h : Spans w B (some ad) m ys) (j : Nat) (u : Value) (hu : (cel ys)[j]? = some u) : w.cell? (ad.add j) = some u := by
 have hl : j < ys.length * 2 := by rw [← cel_length]; exact (List.getElem?_eq_some_iff.1 hu).1
 have hm : j / 2 < ys.length := by omega
 have hy : ys[j / 2]? = some ys[j / 2] := List.getElem?_eq_getElem hm; obtain ⟨ad', e, _, hc⟩ := h.2 (by have := h.1; omega); injection e with e
 subst e; obtain ⟨c0, c1⟩ := hc _ _ hy; obtain ⟨g0, g1⟩ := cel_get hy; rcases (by omega : j = j / 2 * 2 ∨ j = j / 2 * 2 + 1) with hj | hj
 ·rw [hj, g0] at hu; rw [hj, c0]; exact hu
 ·rw [hj, g1] at hu; rw [hj, c1]; exact hu
theorem wpList_app (w : World) {ops : Array Oper} {rest : List Oper} {o : Oper} {a : Act} {Q : Exit → Act → World → Prop} (hgd : o.guard = none) (s x : Operand)
  (ho : o.op = .call { callee := .builtin .append, args := #[s, x], argTypes := #[111, 111] })
  (base : Nat) (A : Option Addr) (n c : Nat) (xs : List Sp) (hs : a.eval s = .slice A n c) (hown : Own w base A n c xs)
  (B : Nat) (C : Option Addr) (m d : Nat) (ys : List Sp) (hx : a.eval x = .slice C m d) (hr : Spans w B C m ys) (hnil : C = none → m = 0 ∧ d = 0) (hlen : n + m ≤ 4000000) (hbase : base ≤ w.heap.size)
  (h : ∀ A' c' w', Own w' base A' (n + m) c' (xs ++ ys) → w.grownBy w' (Value.slice A n c).ownBlock → wpList Tryz.prog ops Q rest (a.put o.dst (.slice A' (n + m) c')) w') :
  wpList Tryz.prog ops Q (o :: rest) a w := by
 obtain ⟨i, hi, hz, h1, h2⟩ := info_parts info_span; cases C with
 | none =>
  obtain ⟨rfl, rfl⟩ := hnil rfl; have hy : ys = [] := List.eq_nil_of_length_eq_zero hr.1; subst hy; refine wpList_append_own_none hgd s x _ ho base 27 i 2 Tryz.underlying111 hi (.slice A n c) n _ hs hown hx ?_; have hh := h A c w (by simpa [Own] using hown) (World.grownBy.refl w _); simpa using hh
 | some ad =>
  refine wpList_append_own w hgd s x _ ho base 27 i _ 2 16 Tryz.underlying111 hi hz h1 h2 rfl (by omega) (.slice A n c) n _ hs hown ad m d (cel ys) hx (by rw [cel_length, hr.1]) (spans_cells hr) (cel_cell ys) (by unfold maxLen; omega) (by omega) hbase ?_; intro v' w' hown' hg _; rw [← cel_append] at hown'; obtain ⟨A', c', rfl, hO⟩ := own_of_row hown'; exact h A' c' w' hO hg
theorem grown_below {w w' : World} {B : Nat} {row : Option Nat} (hg : w.grownBy w' row) (hB : B ≤ w.heap.size) (hr : ∀ k, row = some k → B ≤ k) : Below B w w' := (Below.refl B w).grown hg hB hr
end Spn
end Go.Proofs.YtplenoaajokpjaaGreat
