/-
  The parts Base, One of this proof. Conditions: those of each theorem.
-/
import Derived.Test.YtplenoaajokpjaaGreatRows
import Derived.Test.YtplenoaajokpjaaGreatMMath
import Derived.WalkKit
import Derived.WalkLawsBesides
import Derived.Lib.Hide
import Derived.Deep.QuietTactic
import Derived.BigQuiet
import Derived.Deep.DeepCutAuto
import Derived.Deep.CutBlock
import Derived.Deep.RegionHeld3
import Derived.WalkSmall
import Derived.IntWalk
import Derived.Below
import Derived.Lib.SliceRun
import Derived.Laws.AppendOwnNone
import Derived.OwnWalk
import Derived.Maps.AppendAt
import Derived.ArgAppend
import Derived.Deep.AppendLies
import Derived.Laws.EntriesVeiled
import Derived.Defers
import Derived.StillTailTactics
import Derived.Deep.SlicePairs
namespace Go.Proofs.YtplenoaajokpjaaGreat
open Go.RowKit Ba Cv Sp Te
namespace Tm
set_option linter.unusedVariables false
theorem bcell {W w1 : World} (hb : Below W.heap.size W w1) : (∀ b o, b < W.heap.size → w1.cell? ⟨b, o, none⟩ = W.cell? ⟨b, o, none⟩) ∧ (∀ b o, b < W.heap.size → w1.frozen? ⟨b, o, none⟩ = W.frozen? ⟨b, o, none⟩) :=
 ⟨fun b o h => hb.cell (p := ⟨b, o, none⟩) h, fun b o h => hb.frozen (p := ⟨b, o, none⟩) h⟩
theorem add_block (a : Addr) (n : Nat) : (a.add n).block = a.block := by unfold Addr.add; split <;> rfl
theorem add_one (a : Addr) (i : Nat) : a.add (i + 1) = ⟨(a.add i).block, (a.add i).off + 1, none⟩ := by
 unfold Addr.add; by_cases hi : i = 0 <;> simp [hi, Nat.add_assoc]
theorem add_two (a : Addr) (i : Nat) : a.add (i + 2) = ⟨(a.add i).block, (a.add i).off + 2, none⟩ := by
 unfold Addr.add; by_cases hi : i = 0 <;> simp [hi, Nat.add_assoc]
def Bx (w : World) (b : Nat) (t : TypeId) (xs : Array Value) : Prop := w.heap[b]? = some (.cells xs t (0, 0))
section
variable {w w1 : World} {b B : Nat} {t : TypeId} {xs : Array Value}
theorem Bx.lt (h : Bx w b t xs) : b < w.heap.size := by
 rcases Nat.lt_or_ge b w.heap.size with hlt | hge
 ·exact hlt
 ·unfold Bx at h; rw [Array.getElem?_eq_none hge] at h; cases h
theorem Bx.c (h : Bx w b t xs) (o : Nat) : w.cell? ⟨b, o, none⟩ = xs[o]? := by rw [cell_of_row w b o _ _ _ h]
theorem Bx.f (h : Bx w b t xs) (o : Nat) : w.frozen? ⟨b, o, none⟩ = false := by unfold Bx at h; simp [World.frozen?, h]
theorem Bx.below (h : Bx w b t xs) (hb : Below B w w1) (hB : b < B) : Bx w1 b t xs := (hb.block b hB).trans h
theorem Bx.keep (h : Bx w b t xs) (hb : Below w.heap.size w w1) : Bx w1 b t xs := h.below hb h.lt
theorem Bx.alloc (h : Bx w b t xs) (o : Obj) : Bx (w.alloc o) b t xs := (Below.heap_alloc w o b h.lt).trans h
theorem Bx.new (w : World) (t : TypeId) (xs : Array Value) : Bx (w.alloc (.cells xs t)) w.heap.size t xs := heap_alloc_new w _
theorem Bx.set (h : Bx w b t xs) (o : Nat) (z : Value) : Bx (w.setCell ⟨b, o, none⟩ z) b t (xs.setIfInBounds o z) := by
 unfold Bx at h ⊢; rw [heap_setCell_same w b o _ _ _ h]
theorem Bx.far (h : Bx w b t xs) {a : Addr} (hp : b ≠ a.block) (u : Value) : Bx (w.setCell a u) b t xs := (Below.heap_setCell w a u b hp).trans h
end
theorem bx1 {w w1 : World} {t : TypeId} {xs : Array Value} (hb : Below (w.alloc (.cells xs t)).heap.size (w.alloc (.cells xs t)) w1) : Bx w1 w.heap.size t xs ∧ Below w.heap.size w w1 :=
 ⟨(Bx.new w t xs).keep hb, ((Below.refl _ _).alloc (Nat.le_refl _) _).trans (hb.mono (by simp))⟩
theorem alloc_ (w : World) (o : Obj) : Below w.heap.size w (w.alloc o) := (Below.refl _ _).alloc (Nat.le_refl _) _
theorem add_more (a : Addr) (i k : Nat) : a.add (i + (k + 1)) = ⟨(a.add i).block, (a.add i).off + (k + 1), none⟩ := by
 unfold Addr.add; by_cases hi : i = 0 <;> simp [hi, Nat.add_assoc]
theorem grown_of_below {W W' : World} (h : Below W.heap.size W W') : W.grownBy W' none := ⟨h.os, h.tape, h.output, h.size, fun k hk _ => h.block k hk⟩
theorem below_of_grown {w w' : World} (h : w.grownBy w' none) : Below w.heap.size w w' := (Below.refl _ w).grown h (Nat.le_refl _) (fun k hk => by cases hk)
abbrev Yes (w : World) (b : Bool) (e : Ending) (w' : World) : Prop := e = .returned (.bool b) ∧ Below w.heap.size w w'
theorem below_drewN {B : Nat} {w w' : World} (h : Below B w w') (n : Nat) : Below B w (w'.drewN n) := ⟨h.os, h.tape, h.output, h.size, h.block⟩
theorem below_alloc {w w' : World} {o : Obj} (h : Below (w.alloc o).heap.size (w.alloc o) w') : Below w.heap.size w w' := (alloc_ w o).trans (h.mono (by simp))
theorem undrew {w w' : World} (h : Below w.drew.heap.size w.drew w') : Below w.heap.size w w' := ⟨h.os, h.tape, h.output, h.size, h.block⟩
abbrev sc (x : Sp) : Array Value := #[.int .i64 x.1, .int .i64 x.2]
abbrev sg (x : Sp) : Value := .agg (sc x)
abbrev rc (r : Ri) : Array Value := #[.int .i64 r.k, .int .i64 r.v, .int .i64 r.a, .int .i64 r.z]
abbrev rg (r : Ri) : Value := .agg (rc r)
abbrev cc (c : Co) : Array Value := #[.int .i64 c.p, .int .i64 c.l, .int .i64 c.g, .int .i64 c.d, .int .i64 c.s]
abbrev cg (c : Co) : Value := .agg (cc c)
abbrev tc (s : Sp) (r : Ri) (A : Option Addr) (n c : Nat) : Array Value := #[.int .i64 s.1, .int .i64 s.2, .int .i64 r.k, .int .i64 r.v, .int .i64 r.a, .int .i64 r.z, .slice A n c]
abbrev tg (s : Sp) (r : Ri) (A : Option Addr) (n c : Nat) : Value := .agg (tc s r A n c)
structure Ext (w : World) where
 W : World
 b : Below w.heap.size w W
theorem quietE {P : Program} {id : Nat} {Q : Exit → Act → World → Prop} {a : Act} {w : World} {l : List Oper} (hm : P.follows .mixedOrders = true) (hB : Region.lexB .any l.toArray = true)
  (h : wpQuiet P l.toArray (fun w' => ∃ p : Ext w, w' = p.W) (fun a' => ∀ w', (∃ p : Ext w, w' = p.W) → Q .normal a' w') l a) : (Code.region id l.toArray true).wp P Q a w :=
 wp_region_quiet (C := fun w' => ∃ p : Ext w, w' = p.W) hm hB ⟨⟨{ w with drawn := w.drawn + 1 }, ⟨rfl, rfl, rfl, Nat.le_refl _, fun _ _ => rfl⟩⟩, rfl⟩ (by simpa using h)
theorem ext_of {P : Program} {f : FuncId} {args : Array Value} {w : World} {p : Ext w} {v : Value} (h : Calls P f args p.W fun e w' => e = .returned v ∧ Below p.W.heap.size p.W w') :
  Calls P f args p.W fun e w'' => e = .returned v ∧ ∃ q : Ext w, w'' = q.W := h.mono fun _ _ ⟨he, hb⟩ => ⟨he, ⟨_, p.b.trans (hb.mono p.b.size)⟩, rfl⟩
theorem Bx.ext {w : World} {b : Nat} {t : TypeId} {xs : Array Value} (h : Bx w b t xs) (p : Ext w) (o : Nat) : p.W.cell? ⟨b, o, none⟩ = xs[o]? := (h.keep p.b).c o
end Tm
end Go.Proofs.YtplenoaajokpjaaGreat

namespace Go.Proofs.YtplenoaajokpjaaGreat
open Go.RowKit Ba Cv Sp Te
namespace Tm
set_option linter.unusedVariables false
theorem rt_t {a b : Int} (h1 : 1 ≤ a) (h2 : a ≤ b) (h3 : b ≤ 292195) : rt (a, b) = true := (rt_iff (a, b)).2 ⟨h1, h2, h3⟩
theorem rt_f {a b : Int} (h : ¬ (1 ≤ a ∧ a ≤ b ∧ b ≤ 292195)) : rt (a, b) = false := (rt_not (a, b)).2 h
set_option maxHeartbeats 1000000 in
theorem span_right (x : Sp) (w : World) : Calls Tryz.prog 50 #[sg x] w fun e w' => e = .returned (.bool (rt x)) ∧ Below w.heap.size w w' := by
 obtain ⟨a, b⟩ := x; by_cases h1 : 1 ≤ a
 ·have t1 : decide (1 ≤ a) = true := by simpa using h1
  by_cases h2 : a ≤ b
  ·have t2 : decide (a ≤ b) = true := by simpa using h2
   by_cases h3 : b ≤ 292195
   ·have t3 : decide (b ≤ 292195) = true := by simpa using h3
    rw [rt_t h1 h2 h3]; clear h1 h2 h3; go_enter Tryz.func50, Tryz.ntmps50; go_wp2; go_ret; exact ⟨rfl, (Below.refl _ _).alloc (Nat.le_refl _) _⟩
   ·have t3 : decide (b ≤ 292195) = false := by simpa using h3
    rw [rt_f (by omega)]; clear h1 h2 h3; go_enter Tryz.func50, Tryz.ntmps50; go_wp2; go_ret; exact ⟨rfl, (Below.refl _ _).alloc (Nat.le_refl _) _⟩
  ·have t2 : decide (a ≤ b) = false := by simpa using h2
   rw [rt_f (by omega)]; clear h1 h2; go_enter Tryz.func50, Tryz.ntmps50; go_wp2; go_ret; exact ⟨rfl, (Below.refl _ _).alloc (Nat.le_refl _) _⟩
 ·have t1 : decide (1 ≤ a) = false := by simpa using h1
  rw [rt_f (by omega)]; clear h1; go_enter Tryz.func50, Tryz.ntmps50; go_wp2; go_ret; exact ⟨rfl, (Below.refl _ _).alloc (Nat.le_refl _) _⟩
set_option maxHeartbeats 1000000 in
theorem span_many (x : Sp) (w : World) : Calls Tryz.prog 85 #[sg x] w fun e w' => e = .returned (.int .i64 (mn x)) ∧ Below w.heap.size w w' := by
 have C := fun w => Lib.hid (span_right x w)
 obtain ⟨a, b⟩ := x; by_cases hr : rt (a, b) = true
 ·have hm : mn (a, b) = b - a := by rw [mn, if_pos hr]
  rw [hm]; rw [hr] at C; rw [rt_iff] at hr; obtain ⟨h1, h2, h3⟩ := hr; simp only at h1 h2 h3; clear hm; go_enter Tryz.func85, Tryz.ntmps85
  go_wp2_with fail
  refine (C _).out.mono ?_; rintro e w1 ⟨rfl, hb⟩; obtain ⟨hc, hf⟩ := bcell hb; have HB := Lib.hid hb; clear hb; go_wp2; go_ret; exact ⟨rfl, ((Below.refl _ _).alloc (Nat.le_refl _) _).trans (HB.out.mono (by simp))⟩
 ·have hm : mn (a, b) = 0 := by rw [mn, if_neg hr]
  rw [hm]; have hr' : rt (a, b) = false := by simpa using hr
  rw [hr'] at C; clear hm hr hr'; go_enter Tryz.func85, Tryz.ntmps85
  go_wp2_with fail
  refine (C _).out.mono ?_; rintro e w1 ⟨rfl, hb⟩; have HB := Lib.hid hb; clear hb; go_wp2; go_ret; exact ⟨rfl, ((Below.refl _ _).alloc (Nat.le_refl _) _).trans (HB.out.mono (by simp))⟩
set_option maxHeartbeats 1000000 in
theorem within (n lo hi : Int) (w : World) : Calls Tryz.prog 107 #[.int .i64 n, .int .i64 lo, .int .i64 hi] w fun e w' => e = .returned (.bool (wi n lo hi)) ∧ w = w' := by
 by_cases h1 : lo ≤ n
 ·have t1 : decide (lo ≤ n) = true := by simpa using h1
  by_cases h2 : n ≤ hi
  ·have t2 : decide (n ≤ hi) = true := by simpa using h2
   rw [wi_iff.2 ⟨h1, h2⟩]; clear h1 h2; go_enter Tryz.func107, Tryz.ntmps107; go_wp2; go_ret; exact ⟨rfl, rfl⟩
  ·have t2 : decide (n ≤ hi) = false := by simpa using h2
   rw [wi_no (by omega)]; clear h1 h2; go_enter Tryz.func107, Tryz.ntmps107; go_wp2; go_ret; exact ⟨rfl, rfl⟩
 ·have t1 : decide (lo ≤ n) = false := by simpa using h1
  rw [wi_no (by omega)]; clear h1; go_enter Tryz.func107, Tryz.ntmps107; go_wp2; go_ret; exact ⟨rfl, rfl⟩
set_option maxHeartbeats 1000000 in
theorem risk_right (k v a z : Int) (w : World) : Calls Tryz.prog 79 #[rg ⟨k, v, a, z⟩] w (Yes w (rk k v a z)) := by
 have C := fun n lo hi w => Lib.hid (within n lo hi w)
 cases t0 : wi k 0 3
 ·rw [show rk k v a z = false by unfold rk; rw [t0]; rfl]; go_enter Tryz.func79, Tryz.ntmps79
  go_wp2_with (go_at_call 107; refine (C _ _ _ _).out.mono ?_; rintro e w' ⟨rfl, rfl⟩)
  go_ret; exact ⟨rfl, alloc_ _ _⟩
 ·skip
  cases t1 : wi v 1 1000000000000000
  ·rw [show rk k v a z = false by unfold rk; rw [t0, t1]; rfl]; go_enter Tryz.func79, Tryz.ntmps79
   go_wp2_with (go_at_call 107; refine (C _ _ _ _).out.mono ?_; rintro e w' ⟨rfl, rfl⟩)
   go_ret; exact ⟨rfl, alloc_ _ _⟩
  ·skip
   cases t2 : wi a 0 200
   ·rw [show rk k v a z = false by unfold rk; rw [t0, t1, t2]; rfl]; go_enter Tryz.func79, Tryz.ntmps79
    go_wp2_with (go_at_call 107; refine (C _ _ _ _).out.mono ?_; rintro e w' ⟨rfl, rfl⟩)
    go_ret; exact ⟨rfl, alloc_ _ _⟩
   ·skip
    cases t3 : wi z 0 99
    ·rw [show rk k v a z = false by unfold rk; rw [t0, t1, t2, t3]; rfl]; go_enter Tryz.func79, Tryz.ntmps79
     go_wp2_with (go_at_call 107; refine (C _ _ _ _).out.mono ?_; rintro e w' ⟨rfl, rfl⟩)
     go_ret; exact ⟨rfl, alloc_ _ _⟩
    ·rw [show rk k v a z = true by unfold rk; rw [t0, t1, t2, t3]; rfl]; go_enter Tryz.func79, Tryz.ntmps79
     go_wp2_with (go_at_call 107; refine (C _ _ _ _).out.mono ?_; rintro e w' ⟨rfl, rfl⟩)
     go_ret; exact ⟨rfl, alloc_ _ _⟩
set_option maxHeartbeats 1000000 in
theorem rrisk_right (k v a z : Int) (w : World) : Calls Tryz.prog 100 #[rg ⟨k, v, a, z⟩] w (Yes w (rk k v a z)) := by
 by_cases h0 : k < 0
 ·have t0 : decide (k < 0) = true := by simpa using h0
  rw [rk_no (by omega)]; clear h0; go_enter Tryz.func100, Tryz.ntmps100; go_wp2; go_ret; exact ⟨rfl, alloc_ _ _⟩
 ·have t0 : decide (k < 0) = false := by simpa using h0
  by_cases h1 : 3 < k
  ·have t1 : decide (3 < k) = true := by simpa using h1
   rw [rk_no (by omega)]; clear h0 h1; go_enter Tryz.func100, Tryz.ntmps100; go_wp2; go_ret; exact ⟨rfl, alloc_ _ _⟩
  ·have t1 : decide (3 < k) = false := by simpa using h1
   by_cases h2 : v < 1
   ·have t2 : decide (v < 1) = true := by simpa using h2
    rw [rk_no (by omega)]; clear h0 h1 h2; go_enter Tryz.func100, Tryz.ntmps100; go_wp2; go_ret; exact ⟨rfl, alloc_ _ _⟩
   ·have t2 : decide (v < 1) = false := by simpa using h2
    by_cases h3 : 1000000000000000 < v
    ·have t3 : decide (1000000000000000 < v) = true := by simpa using h3
     rw [rk_no (by omega)]; clear h0 h1 h2 h3; go_enter Tryz.func100, Tryz.ntmps100; go_wp2; go_ret; exact ⟨rfl, alloc_ _ _⟩
    ·have t3 : decide (1000000000000000 < v) = false := by simpa using h3
     by_cases h4 : ¬ 0 ≤ a
     ·have t4 : decide (0 ≤ a) = false := by simpa using h4
      rw [rk_no (by omega)]; clear h0 h1 h2 h3 h4; go_enter Tryz.func100, Tryz.ntmps100; go_wp2; go_ret; exact ⟨rfl, alloc_ _ _⟩
     ·have t4 : decide (0 ≤ a) = true := by simpa using h4
      by_cases h5 : ¬ a ≤ 200
      ·have t5 : decide (a ≤ 200) = false := by simpa using h5
       rw [rk_no (by omega)]; clear h0 h1 h2 h3 h4 h5; go_enter Tryz.func100, Tryz.ntmps100; go_wp2; go_ret; exact ⟨rfl, alloc_ _ _⟩
      ·have t5 : decide (a ≤ 200) = true := by simpa using h5
       by_cases h6 : ¬ 0 ≤ z
       ·have t6 : decide (0 ≤ z) = false := by simpa using h6
        rw [rk_no (by omega)]; clear h0 h1 h2 h3 h4 h5 h6; go_enter Tryz.func100, Tryz.ntmps100; go_wp2; go_ret; exact ⟨rfl, alloc_ _ _⟩
       ·have t6 : decide (0 ≤ z) = true := by simpa using h6
        by_cases h7 : ¬ z ≤ 99
        ·have t7 : decide (z ≤ 99) = false := by simpa using h7
         rw [rk_no (by omega)]; clear h0 h1 h2 h3 h4 h5 h6 h7; go_enter Tryz.func100, Tryz.ntmps100; go_wp2; go_ret; exact ⟨rfl, alloc_ _ _⟩
        ·have t7 : decide (z ≤ 99) = true := by simpa using h7
         rw [rk_yes (by omega)]; clear h0 h1 h2 h3 h4 h5 h6 h7; go_enter Tryz.func100, Tryz.ntmps100; go_wp2; go_ret; exact ⟨rfl, alloc_ _ _⟩
set_option maxHeartbeats 1000000 in
theorem cov_right (c : Co) (w : World) : Calls Tryz.prog 111 #[cg c] w (Yes w (ok c)) := by
 by_cases h0 : c.p < 0
 ·have t0 : decide (c.p < 0) = true := by simpa using h0
  rw [ok_no (c := c) (by unfold Ok; omega)]; clear h0; go_enter Tryz.func111, Tryz.ntmps111; go_wp2; go_ret; exact ⟨rfl, alloc_ _ _⟩
 ·have t0 : decide (c.p < 0) = false := by simpa using h0
  by_cases h1 : 7 < c.p
  ·have t1 : decide (7 < c.p) = true := by simpa using h1
   rw [ok_no (c := c) (by unfold Ok; omega)]; clear h0 h1; go_enter Tryz.func111, Tryz.ntmps111; go_wp2; go_ret; exact ⟨rfl, alloc_ _ _⟩
  ·have t1 : decide (7 < c.p) = false := by simpa using h1
   by_cases h2 : c.s < 1
   ·have t2 : decide (c.s < 1) = true := by simpa using h2
    rw [ok_no (c := c) (by unfold Ok; omega)]; clear h0 h1 h2; go_enter Tryz.func111, Tryz.ntmps111; go_wp2; go_ret; exact ⟨rfl, alloc_ _ _⟩
   ·have t2 : decide (c.s < 1) = false := by simpa using h2
    by_cases h3 : 10000 < c.s
    ·have t3 : decide (10000 < c.s) = true := by simpa using h3
     rw [ok_no (c := c) (by unfold Ok; omega)]; clear h0 h1 h2 h3; go_enter Tryz.func111, Tryz.ntmps111; go_wp2; go_ret; exact ⟨rfl, alloc_ _ _⟩
    ·have t3 : decide (10000 < c.s) = false := by simpa using h3
     by_cases h4 : ¬ 0 ≤ c.d
     ·have t4 : decide (0 ≤ c.d) = false := by simpa using h4
      rw [ok_no (c := c) (by unfold Ok; omega)]; clear h0 h1 h2 h3 h4; go_enter Tryz.func111, Tryz.ntmps111; go_wp2; go_ret; exact ⟨rfl, alloc_ _ _⟩
     ·have t4 : decide (0 ≤ c.d) = true := by simpa using h4
      by_cases h5 : ¬ c.d < c.l
      ·have t5 : decide (c.d < c.l) = false := by simpa using h5
       rw [ok_no (c := c) (by unfold Ok; omega)]; clear h0 h1 h2 h3 h4 h5; go_enter Tryz.func111, Tryz.ntmps111; go_wp2; go_ret; exact ⟨rfl, alloc_ _ _⟩
      ·have t5 : decide (c.d < c.l) = true := by simpa using h5
       by_cases h6 : ¬ c.l ≤ c.g
       ·have t6 : decide (c.l ≤ c.g) = false := by simpa using h6
        rw [ok_no (c := c) (by unfold Ok; omega)]; clear h0 h1 h2 h3 h4 h5 h6; go_enter Tryz.func111, Tryz.ntmps111; go_wp2; go_ret; exact ⟨rfl, alloc_ _ _⟩
       ·have t6 : decide (c.l ≤ c.g) = true := by simpa using h6
        by_cases h7 : ¬ c.g ≤ 1000000000000000
        ·have t7 : decide (c.g ≤ 1000000000000000) = false := by simpa using h7
         rw [ok_no (c := c) (by unfold Ok; omega)]; clear h0 h1 h2 h3 h4 h5 h6 h7; go_enter Tryz.func111, Tryz.ntmps111; go_wp2; go_ret; exact ⟨rfl, alloc_ _ _⟩
        ·have t7 : decide (c.g ≤ 1000000000000000) = true := by simpa using h7
         rw [ok_yes (c := c) (by unfold Ok; omega)]; clear h0 h1 h2 h3 h4 h5 h6 h7; go_enter Tryz.func111, Tryz.ntmps111; go_wp2; go_ret; exact ⟨rfl, alloc_ _ _⟩
set_option maxHeartbeats 1000000 in
theorem rcov_right (c : Co) (w : World) : Calls Tryz.prog 104 #[cg c] w (Yes w (ok c)) := by
 by_cases h0 : c.p < 0
 ·have t0 : decide (c.p < 0) = true := by simpa using h0
  rw [ok_no (c := c) (by unfold Ok; omega)]; clear h0; go_enter Tryz.func104, Tryz.ntmps104; go_wp2; go_ret; exact ⟨rfl, alloc_ _ _⟩
 ·have t0 : decide (c.p < 0) = false := by simpa using h0
  by_cases h1 : 7 < c.p
  ·have t1 : decide (7 < c.p) = true := by simpa using h1
   rw [ok_no (c := c) (by unfold Ok; omega)]; clear h0 h1; go_enter Tryz.func104, Tryz.ntmps104; go_wp2; go_ret; exact ⟨rfl, alloc_ _ _⟩
  ·have t1 : decide (7 < c.p) = false := by simpa using h1
   by_cases h2 : c.s < 1
   ·have t2 : decide (c.s < 1) = true := by simpa using h2
    rw [ok_no (c := c) (by unfold Ok; omega)]; clear h0 h1 h2; go_enter Tryz.func104, Tryz.ntmps104; go_wp2; go_ret; exact ⟨rfl, alloc_ _ _⟩
   ·have t2 : decide (c.s < 1) = false := by simpa using h2
    by_cases h3 : 10000 < c.s
    ·have t3 : decide (10000 < c.s) = true := by simpa using h3
     rw [ok_no (c := c) (by unfold Ok; omega)]; clear h0 h1 h2 h3; go_enter Tryz.func104, Tryz.ntmps104; go_wp2; go_ret; exact ⟨rfl, alloc_ _ _⟩
    ·have t3 : decide (10000 < c.s) = false := by simpa using h3
     by_cases h4 : ¬ 0 ≤ c.d
     ·have t4 : decide (0 ≤ c.d) = false := by simpa using h4
      rw [ok_no (c := c) (by unfold Ok; omega)]; clear h0 h1 h2 h3 h4; go_enter Tryz.func104, Tryz.ntmps104; go_wp2; go_ret; exact ⟨rfl, alloc_ _ _⟩
     ·have t4 : decide (0 ≤ c.d) = true := by simpa using h4
      by_cases h5 : ¬ c.d < c.l
      ·have t5 : decide (c.d < c.l) = false := by simpa using h5
       rw [ok_no (c := c) (by unfold Ok; omega)]; clear h0 h1 h2 h3 h4 h5; go_enter Tryz.func104, Tryz.ntmps104; go_wp2; go_ret; exact ⟨rfl, alloc_ _ _⟩
      ·have t5 : decide (c.d < c.l) = true := by simpa using h5
       by_cases h6 : ¬ c.l ≤ c.g
       ·have t6 : decide (c.l ≤ c.g) = false := by simpa using h6
        rw [ok_no (c := c) (by unfold Ok; omega)]; clear h0 h1 h2 h3 h4 h5 h6; go_enter Tryz.func104, Tryz.ntmps104; go_wp2; go_ret; exact ⟨rfl, alloc_ _ _⟩
       ·have t6 : decide (c.l ≤ c.g) = true := by simpa using h6
        by_cases h7 : ¬ c.g ≤ 1000000000000000
        ·have t7 : decide (c.g ≤ 1000000000000000) = false := by simpa using h7
         rw [ok_no (c := c) (by unfold Ok; omega)]; clear h0 h1 h2 h3 h4 h5 h6 h7; go_enter Tryz.func104, Tryz.ntmps104; go_wp2; go_ret; exact ⟨rfl, alloc_ _ _⟩
        ·have t7 : decide (c.g ≤ 1000000000000000) = true := by simpa using h7
         rw [ok_yes (c := c) (by unfold Ok; omega)]; clear h0 h1 h2 h3 h4 h5 h6 h7; go_enter Tryz.func104, Tryz.ntmps104; go_wp2; go_ret; exact ⟨rfl, alloc_ _ _⟩
end Tm
end Go.Proofs.YtplenoaajokpjaaGreat
namespace Go.Proofs.YtplenoaajokpjaaGreat
open Go.RowKit Ba Cv Sp Te
namespace Tm
set_option linter.unusedVariables false
structure Fiv (w : World) (a : Addr) (c : Co) : Prop where
 c0 : w.cell? a = some (.int .i64 c.p)
 c1 : w.cell? ⟨a.block, a.off + 1, none⟩ = some (.int .i64 c.l)
 c2 : w.cell? ⟨a.block, a.off + 2, none⟩ = some (.int .i64 c.g)
 c3 : w.cell? ⟨a.block, a.off + 3, none⟩ = some (.int .i64 c.d)
 c4 : w.cell? ⟨a.block, a.off + 4, none⟩ = some (.int .i64 c.s)
theorem Fiv.keep {w w' : World} {a : Addr} {c : Co} (h : Fiv w a c) (hk : ∀ p : Addr, p.block = a.block → w'.cell? p = w.cell? p) : Fiv w' a c :=
 ⟨(hk _ rfl).trans h.c0, (hk ⟨a.block, a.off + 1, none⟩ rfl).trans h.c1, (hk ⟨a.block, a.off + 2, none⟩ rfl).trans h.c2, (hk ⟨a.block, a.off + 3, none⟩ rfl).trans h.c3, (hk ⟨a.block, a.off + 4, none⟩ rfl).trans h.c4⟩
def cl5 (c : Co) : List Value := [.int .i64 c.p, .int .i64 c.l, .int .i64 c.g, .int .i64 c.d, .int .i64 c.s]
theorem fiv_of {w : World} {a : Addr} {c : Co} {j : Nat} (h : ∀ (o : Nat) (u : Value), (cl5 c)[o]? = some u → w.cell? (a.add (j + o)) = some u) : Fiv w (a.add j) c :=
 ⟨h 0 _ rfl, by rw [← add_more a j 0]; exact h 1 _ rfl, by rw [← add_more a j 1]; exact h 2 _ rfl, by rw [← add_more a j 2]; exact h 3 _ rfl, by rw [← add_more a j 3]; exact h 4 _ rfl⟩
theorem fiv_back {w : World} {a : Addr} {c : Co} {j : Nat} (h : Fiv w (a.add j) c) : ∀ (o : Nat) (u : Value), (cl5 c)[o]? = some u → w.cell? (a.add (j + o)) = some u := by
 intro o u hu
 match o, hu with
 | 0, hu => injection hu with hu; subst hu; exact h.c0
 | 1, hu => injection hu with hu; subst hu; rw [add_more a j 0]; exact h.c1
 | 2, hu => injection hu with hu; subst hu; rw [add_more a j 1]; exact h.c2
 | 3, hu => injection hu with hu; subst hu; rw [add_more a j 2]; exact h.c3
 | 4, hu => injection hu with hu; subst hu; rw [add_more a j 3]; exact h.c4
def cel5 (cs : List Co) : List Value := cs.flatMap cl5
theorem cel5_append (xs ys : List Co) : cel5 (xs ++ ys) = cel5 xs ++ cel5 ys := List.flatMap_append
theorem cel5_one (c : Co) : cel5 [c] = cl5 c := by simp [cel5]
theorem cel5_length (xs : List Co) : (cel5 xs).length = xs.length * 5 := by
 induction xs with
 | nil => rfl
 | cons x xs ih => rw [show x :: xs = [x] ++ xs from rfl, cel5_append, List.length_append, ih, cel5_one]; simp [cl5]; omega
theorem cel5_get {xs : List Co} {j : Nat} {c : Co} (h : xs[j]? = some c) {o : Nat} (ho : o < 5) : (cel5 xs)[j * 5 + o]? = (cl5 c)[o]? := by
 induction xs generalizing j with
 | nil => simp at h
 | cons y ys ih =>
  have hl : (cl5 y).length = 5 := rfl; rw [show y :: ys = [y] ++ ys from rfl, cel5_append, cel5_one]; cases j with
  | zero => simp at h; subst h; rw [Nat.zero_mul, Nat.zero_add, List.getElem?_append_left (by omega)]
  | succ j =>
   simp at h; rw [List.getElem?_append_right (by omega), hl, show (j + 1) * 5 + o - 5 = j * 5 + o by omega]; exact ih h
theorem cel5_cell (xs : List Co) : ∀ u ∈ cel5 xs, u.oneCell' = true := by
 intro u hu; obtain ⟨x, _, hx⟩ := List.mem_flatMap.1 hu; simp [cl5] at hx; rcases hx with rfl | rfl | rfl | rfl | rfl <;> rfl
def Cvs (w : World) (ok : Nat → Prop) (A : Option Addr) (n : Nat) (cs : List Co) : Prop :=
 cs.length = n ∧ (0 < n → ∃ ad : Addr, A = some ad ∧ ok ad.block ∧ ∀ (j : Nat) (c : Co), cs[j]? = some c → Fiv w (ad.add (j * 5)) c)
section
variable {w w' : World} {ok ok' : Nat → Prop} {n : Nat} {A : Option Addr} {cs : List Co}
theorem Cvs.nil {A : Option Addr} : Cvs w ok A 0 [] := ⟨rfl, fun h => absurd h (by omega)⟩
theorem Cvs.keep (h : Cvs w ok A n cs) (hk : ∀ p : Addr, ok p.block → w'.cell? p = w.cell? p) (hw : ∀ b, ok b → ok' b) : Cvs w' ok' A n cs :=
 ⟨h.1, fun hn => by
  obtain ⟨ad, e, hb, hc⟩ := h.2 hn; exact ⟨ad, e, hw _ hb, fun j x hx => (hc j x hx).keep fun p hp => hk p (by rw [hp, add_block]; exact hb)⟩⟩
theorem Cvs.below (h : Cvs w (· < w.heap.size) A n cs) (hb : Below w.heap.size w w') : Cvs w' (· < w'.heap.size) A n cs := h.keep (fun _ hp => hb.cell hp) fun b h => Nat.lt_of_lt_of_le h hb.size
theorem Cvs.get {k : Nat} (h : Cvs w ok A n cs) (hk : k < n) : ∃ (ad : Addr) (c : Co), A = some ad ∧ ok ad.block ∧ cs[k]? = some c ∧ Fiv w (ad.add (k * 5)) c := by
 obtain ⟨ad, e, hb, hc⟩ := h.2 (by omega); have hl : k < cs.length := by have := h.1; omega
 exact ⟨ad, cs[k], e, hb, List.getElem?_eq_getElem hl, hc k _ (List.getElem?_eq_getElem hl)⟩
theorem Cvs.noroom (h : Cvs w ok none n cs) : n = 0 := by
 rcases Nat.eq_zero_or_pos n with h0 | h0
 ·exact h0
 ·obtain ⟨ad, e, _⟩ := h.2 h0; cases e
theorem Cvs.cells {ad : Addr} (h : Cvs w ok (some ad) n cs) (j : Nat) (u : Value) (hu : (cel5 cs)[j]? = some u) : w.cell? (ad.add j) = some u := by
 have hl : j < cs.length * 5 := by rw [← cel5_length]; exact (List.getElem?_eq_some_iff.1 hu).1
 have hm : j / 5 < cs.length := by omega
 have hy : cs[j / 5]? = some cs[j / 5] := List.getElem?_eq_getElem hm; obtain ⟨ad', e, _, hc⟩ := h.2 (by have := h.1; omega); injection e with e
 subst e; have hj : j / 5 * 5 + j % 5 = j := by omega
 have g := cel5_get hy (o := j % 5) (by omega); rw [hj] at g; have := fiv_back (hc _ _ hy) (j % 5) u (by rw [← g]; exact hu); rwa [hj] at this
theorem Cvs.take (h : Cvs w ok A n cs) {k : Nat} (hk : k ≤ n) : Cvs w ok A k (cs.take k) := by
 refine ⟨by rw [List.length_take, h.1]; omega, fun hn => ?_⟩; obtain ⟨ad, e, hb, hc⟩ := h.2 (by omega); refine ⟨ad, e, hb, fun j c hj => hc j c ?_⟩; rw [List.getElem?_take] at hj; split at hj
 ·exact hj
 ·cases hj
theorem add_add (a : Addr) (i j : Nat) : (a.add i).add j = a.add (i + j) := Go.Deep.add_add a i j
theorem Cvs.drop {ad : Addr} (h : Cvs w ok (some ad) n cs) {k : Nat} (hk : k ≤ n) : Cvs w ok (some (ad.add (k * 5))) (n - k) (cs.drop k) := by
 refine ⟨by rw [List.length_drop, h.1], fun hn => ?_⟩; obtain ⟨ad', e, hb, hc⟩ := h.2 (by omega); injection e with e
 subst e; refine ⟨_, rfl, by rw [add_block]; exact hb, fun j c hj => ?_⟩; rw [List.getElem?_drop] at hj; have := hc (k + j) c hj; rw [add_add, ← Nat.add_mul]; exact this
end
end Tm
end Go.Proofs.YtplenoaajokpjaaGreat
namespace Go.Proofs.YtplenoaajokpjaaGreat
open Go.RowKit Ba Cv Sp Te
namespace Tm
set_option linter.unusedVariables false
theorem c_own_ {w : World} {base n : Nat} {v : Value} {xs : List Co} (h : w.ownsRow base 41 5 v n (cel5 xs)) : ∃ A c, v = .slice A n c ∧ Cvs w (fun b => base ≤ b ∧ b < w.heap.size) A n xs := by
 have hl : xs.length = n := by have := h.1; rw [cel5_length] at this; omega
 rcases h.2 with ⟨rfl, hn⟩ | ⟨g, cap, cur, rfl, hb, hh, hnc, hm, hs, ht⟩
 ·subst hn; exact ⟨_, _, rfl, hl, fun h => absurd h (by omega)⟩
 ·refine ⟨_, _, rfl, hl, fun _ => ⟨_, rfl, ⟨hb, ?_⟩, fun j x hx => fiv_of fun o u hu => ?_⟩⟩
  ·rcases Nat.lt_or_ge g w.heap.size with hlt | hge
   ·exact hlt
   ·rw [Array.getElem?_eq_none hge] at hh; cases hh
  ·have ho : o < 5 := (List.getElem?_eq_some_iff.1 hu).1; exact World.ownsRow.cells (g := g) h rfl (j * 5 + o) _ ((cel5_get hx ho).trans hu)
theorem info_cover : (Tryz.prog.info? 41).map (fun i => (i.zero, i.size, i.bytes)) = some (some (.agg #[.int .i64 0, .int .i64 0, .int .i64 0, .int .i64 0, .int .i64 0]), 5, 40) := by kernel_rfl
def COwn (w : World) (base : Nat) (A : Option Addr) (n c : Nat) (xs : List Co) : Prop := w.ownsRow base 41 5 (.slice A n c) n (cel5 xs)
section
variable {w w' : World} {base n c : Nat} {A : Option Addr} {xs : List Co}
theorem COwn.nil : COwn w base none 0 0 [] := World.ownsRow_nil w base _ 5
theorem COwn.len (h : COwn w base A n c xs) : xs.length = n := by have := h.1; rw [cel5_length] at this; omega
theorem COwn.lt (h : COwn w base A n c xs) : ∀ k, (Value.slice A n c).ownBlock = some k → base ≤ k ∧ k < w.heap.size := World.ownsRow.lt h
theorem COwn.below (h : COwn w base A n c xs) (hb : Below w.heap.size w w') : COwn w' base A n c xs := by
 refine World.ownsRow.kept h (grown_of_below hb) ?_; cases A with
 | none => exact .inl rfl
 | some a => exact .inr (by simp [Value.ownBlock])
theorem COwn.row (h : COwn w base A n c xs) : Cvs w (fun b => base ≤ b ∧ b < w.heap.size) A n xs := by
 obtain ⟨A', c', e, hl⟩ := c_own_ h; injection e with e1 e2 e3
 subst e1; exact hl
theorem COwn.drew (h : COwn w base A n c xs) : COwn w.drew base A n c xs := h
theorem COwn.made (w : World) : COwn (w.alloc (.cells #[] 41)) w.heap.size (some ⟨w.heap.size, 0, none⟩) 0 0 [] := World.ownsRow_made w #[] 0 (Nat.le_refl _) (Nat.zero_le _) (by simp)
end
theorem own_of_row_c {w : World} {base k : Nat} {v : Value} {xs : List Co} (h : w.ownsRow base 41 5 v k (cel5 xs)) : ∃ A c, v = .slice A k c ∧ COwn w base A k c xs := by
 rcases h.2 with ⟨rfl, hn⟩ | ⟨g, cap, cur, rfl, hr⟩
 ·subst hn; exact ⟨_, _, rfl, h⟩
 ·exact ⟨_, _, rfl, h⟩
theorem run_app_c (w : World) (ty : TypeId) (base : Nat) (A : Option Addr) (n c : Nat) (xs : List Co) (hown : COwn w base A n c xs)
  (ok : Nat → Prop) (C : Option Addr) (m d : Nat) (ys : List Co) (hr : Cvs w ok C m ys) (hnil : C = none → m = 0 ∧ d = 0) (hlen : n + m ≤ 4000000) (hbase : base ≤ w.heap.size) :
  ∃ A' c' w', (Builtin.append_ #[30, 30] ty #[.slice A n c, .slice C m d]).run Tryz.prog w = .ok (.slice A' (n + m) c') w' ∧ COwn w' base A' (n + m) c' (xs ++ ys) ∧ w.grownBy w' (Value.slice A n c).ownBlock := by
 obtain ⟨i, hi, hz, h1, h2⟩ := info_parts info_cover; cases C with
 | none =>
  obtain ⟨rfl, rfl⟩ := hnil rfl; have hy : ys = [] := List.eq_nil_of_length_eq_zero hr.1; subst hy; exact ⟨A, c, w, run_append_owned_none (P := Tryz.prog) (w := w) base _ ty 41 i 5 Tryz.underlying30 hi _ n _ hown, by rw [List.append_nil]; exact hown, World.grownBy.refl w _⟩
 | some ad =>
  obtain ⟨v', w', hrun, hO, hg, _⟩ := run_append_own (P := Tryz.prog) w base 30 ty 41 i _ 5 40 Tryz.underlying30 hi hz h1 h2 rfl (by omega) (.slice A n c) n _ hown ad m d (cel5 ys) (by rw [cel5_length, hr.1]) ((Cvs.cells hr)) (cel5_cell ys) (by unfold maxLen; omega) (by omega) hbase; rw [← cel5_append] at hO; obtain ⟨A', c', rfl, hO'⟩ := own_of_row_c hO; exact ⟨A', c', w', hrun, hO', hg⟩
theorem wpList_app_c (w : World) {ops : Array Oper} {rest : List Oper} {o : Oper} {a : Act} {Q : Exit → Act → World → Prop} (hgd : o.guard = none) (s x : Operand)
  (ho : o.op = .call { callee := .builtin .append, args := #[s, x], argTypes := #[30, 30] })
  (base : Nat) (A : Option Addr) (n c : Nat) (xs : List Co) (hs : a.eval s = .slice A n c) (hown : COwn w base A n c xs)
  (ok : Nat → Prop) (C : Option Addr) (m d : Nat) (ys : List Co) (hx : a.eval x = .slice C m d) (hr : Cvs w ok C m ys) (hnil : C = none → m = 0 ∧ d = 0) (N : Nat) (hN : n + m = N) (hlen : n + m ≤ 4000000) (hbase : base ≤ w.heap.size)
  (h : ∀ A' c' w', COwn w' base A' N c' (xs ++ ys) → w.grownBy w' (Value.slice A n c).ownBlock → wpList Tryz.prog ops Q rest (a.put o.dst (.slice A' N c')) w') :
  wpList Tryz.prog ops Q (o :: rest) a w := by
 subst hN; refine wpList_plain hgd fun K hK => ?_
 obtain ⟨A', c', w', hrun, hO, hg⟩ := run_app_c w o.type base A n c xs hown ok C m d ys hr hnil hlen hbase; unfold Oper.wp; simp [execOp, ho, resolve, invoke, builtin, hs, hx, hrun, Result.andThen]; exact hK _ _ (h A' c' w' hO hg)
theorem step_app_c (w : World) {ops : Array Oper} {o : Oper} {a : Act} {K : Act → World → Prop} {Q : Exit → Act → World → Prop} {E : Prop} (hgd : o.guard = none) (s x : Operand)
  (ho : o.op = .call { callee := .builtin .append, args := #[s, x], argTypes := #[30, 30] })
  (base : Nat) (A : Option Addr) (n c : Nat) (xs : List Co) (hs : a.eval s = .slice A n c) (hown : COwn w base A n c xs)
  (ok : Nat → Prop) (C : Option Addr) (m d : Nat) (ys : List Co) (hx : a.eval x = .slice C m d) (hr : Cvs w ok C m ys) (hnil : C = none → m = 0 ∧ d = 0) (N : Nat) (hN : n + m = N) (hlen : n + m ≤ 4000000) (hbase : base ≤ w.heap.size)
  (h : ∀ A' c' w', COwn w' base A' N c' (xs ++ ys) → w.grownBy w' (Value.slice A n c).ownBlock → K (a.put o.dst (.slice A' N c')) w') :
  if Region.wanted o (yielded ops a.tmps) = true then Oper.wp Tryz.prog o a w K Q else E := by
 subst hN; have hw : Region.wanted o (yielded ops a.tmps) = true := by simp [Region.wanted, hgd]
 rw [if_pos hw]; obtain ⟨A', c', w', hrun, hO, hg⟩ := run_app_c w o.type base A n c xs hown ok C m d ys hr hnil hlen hbase; unfold Oper.wp execOp; simp only [ho, resolve, invoke, builtin, Sem.run_bind, Sem.run_pure, Result.andThen_ok, List.map_toArray, List.map_cons, List.map_nil, hs, hx, hrun]; exact h A' c' w' hO hg
end Tm
end Go.Proofs.YtplenoaajokpjaaGreat
