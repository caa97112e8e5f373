/-
  The parts ZBase, ZIter, ZApp, ZRight, ZVal of this proof. Conditions: those of each theorem.
-/
import Derived.Test.YtfidmphajohljaaGreatHq
import Derived.Test.YtfidmphajohljaaGreatKTOne
import Derived.Test.YtfidmphajohljaaGreatMSp
import Derived.Test.YtfidmphajohljaaGreatMTm
import Derived.Test.YtfidmphajohljaaGreatRows
import Derived.Test.YtfidmphajohljaaGreatMZa
import Derived.WalkKit
import Derived.WalkLawsBesides
import Derived.Lib.Hide
import Derived.Deep.QuietTactic
import Derived.BigQuiet
import Derived.Deep.DeepCutAuto
import Derived.Deep.CutBlock
import Derived.Deep.RegionHeld3
import Derived.WalkSmall
import Derived.IntWalk
import Derived.Below
import Derived.Lib.MinMax
import Derived.Lib.SliceRun
import Derived.Laws.AppendOwnNone
import Derived.OwnWalk
import Derived.Maps.AppendAt
import Derived.RangeFuncNested
import Derived.RangeFuncBound
import Derived.RangeFuncCalls
import Derived.RangeFuncLeaves
import Derived.RangeFuncBox
import Derived.Shelf.Abstract
import Derived.Shelf.RegionOpen
import Derived.OwnWalkIn
import Derived.TacticsInMore
import Derived.LoopNIn
import Derived.LoopIn
import Derived.Test.YtfidmphajohljaaGreatMPl
import Derived.Lib.SlicesSearch
import Derived.Deep.LoopGhost
set_option maxHeartbeats 8000000
set_option maxRecDepth 1000000
set_option linter.unusedVariables false
namespace Go.Proofs.YtfidmphajohljaaGreat
open Go.RowKit Stm
namespace Stp
abbrev ag (x : Pr) : Value := .agg #[.int .i64 x.1, .int .i64 x.2]
abbrev sg (A : Option Addr) (n c : Nat) (V : Option Addr) (m d : Nat) : Value := .agg #[.slice A n c, .slice V m d]
theorem add_block (a : Addr) (n : Nat) : (a.add n).block = a.block := by unfold Addr.add; split <;> rfl
theorem add_one (a : Addr) (i : Nat) : a.add (i + 1) = ⟨(a.add i).block, (a.add i).off + 1, none⟩ := Trf.add_one a i
def Bx (w : World) (b : Nat) (t : TypeId) (x y : Value) : Prop := w.heap[b]? = some (.cells #[x, y] t (0, 0))
section
variable {w w1 : World} {b B : Nat} {t : TypeId} {x y z : Value}
theorem Bx.lt (h : Bx w b t x y) : b < w.heap.size := by
 rcases Nat.lt_or_ge b w.heap.size with hlt | hge
 ·exact hlt
 ·unfold Bx at h; rw [Array.getElem?_eq_none hge] at h; cases h
theorem Bx.c0 (h : Bx w b t x y) : w.cell? ⟨b, 0, none⟩ = some x := by rw [cell_of_row w b 0 _ _ _ h]; rfl
theorem Bx.c1 (h : Bx w b t x y) : w.cell? ⟨b, 1, none⟩ = some y := by rw [cell_of_row w b 1 _ _ _ h]; rfl
theorem Bx.f (h : Bx w b t x y) (o : Nat) : w.frozen? ⟨b, o, none⟩ = false := by unfold Bx at h; simp [World.frozen?, h]
theorem Bx.below (h : Bx w b t x y) (hb : Below B w w1) (hB : b < B) : Bx w1 b t x y := (hb.block b hB).trans h
theorem Bx.keep (h : Bx w b t x y) (hb : Below w.heap.size w w1) : Bx w1 b t x y := h.below hb h.lt
theorem Bx.alloc (h : Bx w b t x y) (o : Obj) : Bx (w.alloc o) b t x y := (Below.heap_alloc w o b h.lt).trans h
theorem Bx.new (w : World) (t : TypeId) (x y : Value) : Bx (w.alloc (.cells #[x, y] t)) w.heap.size t x y := heap_alloc_new w _
theorem Bx.set0 (h : Bx w b t x y) (z : Value) : Bx (w.setCell ⟨b, 0, none⟩ z) b t z y := by
 unfold Bx at h ⊢; rw [heap_setCell_same w b 0 _ _ _ h]; rfl
theorem Bx.set1 (h : Bx w b t x y) (z : Value) : Bx (w.setCell ⟨b, 1, none⟩ z) b t x z := by
 unfold Bx at h ⊢; rw [heap_setCell_same w b 1 _ _ _ h]; rfl
theorem Bx.far (h : Bx w b t x y) {a : Addr} (hp : b ≠ a.block) (u : Value) : Bx (w.setCell a u) b t x y := (Below.heap_setCell w a u b hp).trans h
end
def Ints (w : World) (B : Nat) (A : Option Addr) (n : Nat) (xs : List Int) : Prop :=
 xs.length = n ∧ (0 < n → ∃ ad : Addr, A = some ad ∧ ad.block < B ∧ ∀ (j : Nat) (x : Int), xs[j]? = some x → w.cell? (ad.add j) = some (.int .i64 x))
section
variable {w w' : World} {B n : Nat} {A : Option Addr} {xs : List Int}
theorem Ints.get {k : Nat} (h : Ints w B A n xs) (hk : k < n) : ∃ (ad : Addr) (x : Int), A = some ad ∧ ad.block < B ∧ xs[k]? = some x ∧ w.cell? (ad.add k) = some (.int .i64 x) := Spn.Ints.get h hk
theorem Ints.keep (h : Ints w B A n xs) (hk : ∀ p : Addr, p.block < B → w'.cell? p = w.cell? p) : Ints w' B A n xs := Spn.Ints.keep h hk
theorem Ints.below {C : Nat} (h : Ints w B A n xs) (hb : Below C w w') (hC : B ≤ C) : Ints w' B A n xs := h.keep fun _ hp => hb.cell (Nat.lt_of_lt_of_le hp hC)
theorem Ints.wide {C : Nat} (h : Ints w B A n xs) (hC : B ≤ C) : Ints w C A n xs := Spn.Ints.wide h hC
end
structure Sx (w : World) (B : Nat) (A : Option Addr) (n : Nat) (V : Option Addr) (m : Nat) (xs vs : List Int) : Prop where
 a : Ints w B A n xs
 v : Ints w B V m vs
section
variable {w w' : World} {B n m : Nat} {A V : Option Addr} {xs vs : List Int}
theorem Sx.below {C : Nat} (h : Sx w B A n V m xs vs) (hb : Below C w w') (hC : B ≤ C) : Sx w' B A n V m xs vs := ⟨h.a.below hb hC, h.v.below hb hC⟩
theorem Sx.wide {C : Nat} (h : Sx w B A n V m xs vs) (hC : B ≤ C) : Sx w C A n V m xs vs := ⟨h.a.wide hC, h.v.wide hC⟩
theorem Sx.keep_ (h : Sx w w.heap.size A n V m xs vs) (hb : Below w.heap.size w w') : Sx w' w'.heap.size A n V m xs vs := (h.below hb (Nat.le_refl _)).wide hb.size
end
def OwnI (w : World) (base : Nat) (A : Option Addr) (n c : Nat) (xs : List Int) : Prop := w.ownsRow base 3 1 (.slice A n c) n (xs.map (Value.int .i64))
theorem grown_of_below {W W' : World} (h : Below W.heap.size W W') : W.grownBy W' none := Tm.grown_of_below h
section
variable {w w' : World} {base n c : Nat} {A : Option Addr} {xs : List Int}
theorem OwnI.nil : OwnI w base none 0 0 [] := World.ownsRow_nil w base _ 1
theorem OwnI.len (h : OwnI w base A n c xs) : xs.length = n := by have := h.1; simpa using this
theorem OwnI.ints (h : OwnI w base A n c xs) : Ints w w.heap.size A n xs ∧ n ≤ c := by
 rcases h.2 with ⟨e, hn⟩ | ⟨g, cap, cur, e, hb, hh, hnc, hm, hs, ht⟩
 ·injection e with e1 e2 e3
  subst hn; have hl := h.len; exact ⟨⟨hl, fun h => absurd h (by omega)⟩, by omega⟩
 ·injection e with e1 e2 e3
  subst e1 e3; refine ⟨⟨h.len, fun _ => ⟨_, rfl, ?_, fun j x hx => ?_⟩⟩, hnc⟩
  ·rcases Nat.lt_or_ge g w.heap.size with hlt | hge
   ·exact hlt
   ·rw [Array.getElem?_eq_none hge] at hh; cases hh
  ·exact World.ownsRow.cells (g := g) h rfl j _ (by simp [hx])
theorem OwnI.lt (h : OwnI w base A n c xs) : ∀ k, (Value.slice A n c).ownBlock = some k → base ≤ k ∧ k < w.heap.size := World.ownsRow.lt h
theorem OwnI.alloc (h : OwnI w base A n c xs) (o : Obj) : OwnI (w.alloc o) base A n c xs := World.ownsRow.alloc h o
theorem OwnI.below (h : OwnI w base A n c xs) (hb : Below w.heap.size w w') : OwnI w' base A n c xs := by
 refine World.ownsRow.kept h (grown_of_below hb) ?_; cases A with
 | none => exact .inl rfl
 | some a => exact .inr (by simp [Value.ownBlock])
theorem OwnI.grown {row : Option Nat} (h : OwnI w base A n c xs) (hg : w.grownBy w' row) (hne : (Value.slice A n c).ownBlock = none ∨ (Value.slice A n c).ownBlock ≠ row) : OwnI w' base A n c xs := World.ownsRow.kept h hg hne
end
theorem info_int : (Tryz.prog.info? 3).map (fun i => (i.zero, i.size, i.bytes)) = some (some (.int .i64 0), 1, 8) := by kernel_rfl
theorem ints_cells {w : World} {B : Nat} {ad : Addr} {m : Nat} {ys : List Int} (hr : Ints w B (some ad) m ys) (j : Nat) (u : Value) (hu : (ys.map (Value.int .i64))[j]? = some u) : w.cell? (ad.add j) = some u := by
 rw [List.getElem?_map] at hu; cases hy : ys[j]? with
 | none => rw [hy] at hu; cases hu
 | some y =>
  rw [hy] at hu; simp at hu; subst hu
  have hm : 0 < m := by
   have := (List.getElem?_eq_some_iff.1 hy).1; have := hr.1; omega
  obtain ⟨ad', e, _, hc⟩ := hr.2 hm; injection e with e
  subst e; exact hc j y hy
theorem ints_one (ys : List Int) : ∀ u ∈ ys.map (Value.int .i64), u.oneCell' = true := by
 intro u hu; obtain ⟨y, _, rfl⟩ := List.mem_map.1 hu; rfl
theorem own_of_row {w : World} {base k : Nat} {v : Value} {xs : List Int} (h : w.ownsRow base 3 1 v k (xs.map (Value.int .i64))) : ∃ A c, v = .slice A k c ∧ OwnI w base A k c xs := by
 rcases h.2 with ⟨rfl, hn⟩ | ⟨g, cap, cur, rfl, hr⟩
 ·subst hn; exact ⟨_, _, rfl, h⟩
 ·exact ⟨_, _, rfl, h⟩
theorem fits_ (v : Int) (w : World) : Calls Tryz.prog 150 #[.int .i64 v] w fun e w' => e = .returned (.bool (Stm.fits v)) ∧ w = w' := by
 by_cases h1 : -4000000000000000000 ≤ v
 ·have t1 : decide (-4000000000000000000 ≤ v) = true := by simpa using h1
  by_cases h2 : v ≤ 4000000000000000000
  ·have t2 : decide (v ≤ 4000000000000000000) = true := by simpa using h2
   rw [(Stm.fits_iff v).2 ⟨h1, h2⟩]; clear h1 h2; go_enter Tryz.func150, Tryz.ntmps150; go_wp2; go_ret; exact ⟨rfl, rfl⟩
  ·have t2 : decide (v ≤ 4000000000000000000) = false := by simpa using h2
   rw [(Stm.fits_not v).2 (fun h => h2 h.2)]; clear h1 h2; go_enter Tryz.func150, Tryz.ntmps150; go_wp2; go_ret; exact ⟨rfl, rfl⟩
 ·have t1 : decide (-4000000000000000000 ≤ v) = false := by simpa using h1
  rw [(Stm.fits_not v).2 (fun h => h1 h.1)]; clear h1; go_enter Tryz.func150, Tryz.ntmps150; go_wp2; go_ret; exact ⟨rfl, rfl⟩
theorem full_t {a b : Int} (h1 : 1 ≤ a) (h2 : a < b) (h3 : b ≤ 292195) : full (a, b) = true := (full_iff (a, b)).2 ⟨h1, h2, h3⟩
theorem full_f {a b : Int} (h : ¬ (1 ≤ a ∧ a < b ∧ b ≤ 292195)) : full (a, b) = false := by
 cases hf : full (a, b)
 ·rfl
 ·exact absurd ((full_iff _).1 hf) h
theorem full_ (x : Pr) (w : World) : Calls Tryz.prog 124 #[ag x] w fun e w' => e = .returned (.bool (full x)) ∧ Below w.heap.size w w' := by
 obtain ⟨a, b⟩ := x; by_cases h1 : 1 ≤ a
 ·have t1 : decide (1 ≤ a) = true := by simpa using h1
  by_cases h2 : a < b
  ·have t2 : decide (a < b) = true := by simpa using h2
   by_cases h3 : b ≤ 292195
   ·have t3 : decide (b ≤ 292195) = true := by simpa using h3
    rw [full_t h1 h2 h3]; clear h1 h2 h3; go_enter Tryz.func124, Tryz.ntmps124; go_wp2; go_ret; exact ⟨rfl, (Below.refl _ _).alloc (Nat.le_refl _) _⟩
   ·have t3 : decide (b ≤ 292195) = false := by simpa using h3
    rw [full_f (by omega)]; clear h1 h2 h3; go_enter Tryz.func124, Tryz.ntmps124; go_wp2; go_ret; exact ⟨rfl, (Below.refl _ _).alloc (Nat.le_refl _) _⟩
  ·have t2 : decide (a < b) = false := by simpa using h2
   rw [full_f (by omega)]; clear h1 h2; go_enter Tryz.func124, Tryz.ntmps124; go_wp2; go_ret; exact ⟨rfl, (Below.refl _ _).alloc (Nat.le_refl _) _⟩
 ·have t1 : decide (1 ≤ a) = false := by simpa using h1
  rw [full_f (by omega)]; clear h1; go_enter Tryz.func124, Tryz.ntmps124; go_wp2; go_ret; exact ⟨rfl, (Below.refl _ _).alloc (Nat.le_refl _) _⟩
theorem inn_t {a b d : Int} (h1 : a ≤ d) (h2 : d < b) : inn (a, b) d = true := (inn_iff (a, b) d).2 ⟨h1, h2⟩
theorem inn_f {a b d : Int} (h : ¬ (a ≤ d ∧ d < b)) : inn (a, b) d = false := by
 cases hf : inn (a, b) d
 ·rfl
 ·exact absurd ((inn_iff _ _).1 hf) h
theorem in_ (x : Pr) (d : Int) (w : World) : Calls Tryz.prog 176 #[ag x, .int .i64 d] w fun e w' => e = .returned (.bool (inn x d)) ∧ Below w.heap.size w w' := by
 obtain ⟨a, b⟩ := x; by_cases h1 : a ≤ d
 ·have t1 : decide (a ≤ d) = true := by simpa using h1
  by_cases h2 : d < b
  ·have t2 : decide (d < b) = true := by simpa using h2
   rw [inn_t h1 h2]; clear h1 h2; go_enter Tryz.func176, Tryz.ntmps176; go_wp2; go_ret; exact ⟨rfl, (Below.refl _ _).alloc (Nat.le_refl _) _⟩
  ·have t2 : decide (d < b) = false := by simpa using h2
   rw [inn_f (fun h => h2 h.2)]; clear h1 h2; go_enter Tryz.func176, Tryz.ntmps176; go_wp2; go_ret; exact ⟨rfl, (Below.refl _ _).alloc (Nat.le_refl _) _⟩
 ·have t1 : decide (a ≤ d) = false := by simpa using h1
  rw [inn_f (fun h => h1 h.1)]; clear h1; go_enter Tryz.func176, Tryz.ntmps176; go_wp2; go_ret; exact ⟨rfl, (Below.refl _ _).alloc (Nat.le_refl _) _⟩
open Go.Shelf
attribute [local go_sem] Oper.semAt_some
structure Good (w : World) (ba bb bs : Nat) (A : Option Addr) (la ca : Nat) (B : Option Addr) (lb cb : Nat) (s : Pr) (xs ys : List Int) : Prop where
 ca : w.cell? ⟨ba, 0, none⟩ = some (.slice A la ca)
 cb : w.cell? ⟨bb, 0, none⟩ = some (.slice B lb cb)
 s0 : w.cell? ⟨bs, 0, none⟩ = some (.int .i64 s.1)
 s1 : w.cell? ⟨bs, 1, none⟩ = some (.int .i64 s.2)
 a : Ints w w.heap.size A la xs
 b : Ints w w.heap.size B lb ys
theorem drew_below {w w1 : World} {n : Nat} (h : Below (w.drewN n).heap.size (w.drewN n) w1) : Below w.heap.size w w1 := ⟨h.os, h.tape, h.output, h.size, h.block⟩
theorem changes1 (l ba bb bs : Nat) (A : Option Addr) (la ca : Nat) (B : Option Addr) (lb cb : Nat) (s : Pr) (xs ys : List Int) (hla : la ≤ 1000000) (hlb : lb ≤ 1000000) (Kp : World → World → Prop) (J Jx : List Int → World → Prop) (W : World)
  (hKt : ∀ a b c : World, Kp a b → Kp b c → Kp a c) (hKg : ∀ a b : World, W.heap.size ≤ a.heap.size → Below a.heap.size a b → Kp a b) (hKs : ∀ a b : World, Kp a b → a.heap.size ≤ b.heap.size)
  (hJ : AbidesFrom W.heap.size J)
  (hY : ∀ pre x W, J pre W → pre.length < (chg s xs ys).length → YieldAt Fence.wide (9 - 1) Tryz.prog l #[.int .i64 x] W fun e W' =>
   (e = .returned (.bool true) ∧ J (pre ++ [x]) W' ∧ Kp W W') ∨ (e = .returned (.bool false) ∧ Jx (pre ++ [x]) W'))
  (hG : ∀ W', Kp W W' → Good W' ba bb bs A la ca B lb cb s xs ys) (h0 : J [] W) :
  CallsIn Fence.wide 9 Tryz.prog 175 #[.func (.yield l) #[] #[], .pointer (some ⟨ba, 0, none⟩), .pointer (some ⟨bb, 0, none⟩), .pointer (some ⟨bs, 0, none⟩)] W fun e W' => (∃ v, e = .returned v) ∧
   ((∃ zs, zs = chg s xs ys ∧ J zs W') ∨ (∃ pre, True ∧ Jx pre W')) := by
 have HG := qh hG; have HJ := qh hJ; have HY := qh hY; have HKt := qh hKt; have HKg := qh hKg; have HKs := qh hKs; have hK0 := qh (hKg W W (Nat.le_refl _) (Below.refl _ _)); have HLa := qh (hG W (hKg W W (Nat.le_refl _) (Below.refl _ _))).a.1; have HLb := qh (hG W (hKg W W (Nat.le_refl _) (Below.refl _ _))).b.1; clear hG hJ hY hKt hKg hKs; obtain ⟨s1, s2⟩ := s; have CI := fun d w => qh (callsIn_wide (n := 9 - 1) |>.2 (in_ (s1, s2) d w))
 refine callsIn_of_wp Tryz.func175 rfl trivial ?_ rfl; simp only [Tryz.ntmps175, List.size_toArray, List.length_cons, List.length_nil, Nat.reduceAdd, Nat.reduceSub, Array.replicate_succ, Array.replicate_zero, List.push_toArray, List.append_toArray, List.nil_append, List.cons_append]
 gi_wp2
 gi_loopw [5, 6] (fun si sj wr => ∃ (i j : Nat) (pre : List Int), i ≤ la ∧ j ≤ lb ∧ si = .int .i64 i ∧ sj = .int .i64 j ∧ Hid (Gs (s1, s2) xs ys pre i j) ∧ Hid (J pre wr) ∧ Hid (Kp W wr) ∧ W.heap.size ≤ wr.heap.size)
  (fun si sj _ => la + lb - (intOf si).toNat - (intOf sj).toNat)
 case atStart => exact ⟨0, 0, [], Nat.zero_le _, Nat.zero_le _, rfl, rfl, qh (Gs.start _ _ _), qh h0, hK0, Nat.le_refl _⟩
 case round =>
  obtain ⟨i, j, pre, hi, hj, rfl, rfl, HE, HJs, HK, hsz⟩ := hrel; have G := HG.out _ HK.out; have g1 := G.ca; have g2 := G.cb; have g3 := G.s0; have g4 := G.s1; simp only at g3 g4; have HGa := qh G.a; have HGb := qh G.b; clear G; by_cases hil : i < la
  ·have ti : decide ((i : Int) < (la : Int)) = true := by simp; omega
   have ti2 : decide (i < la) = true := by simpa using hil
   have hi2 : (i : Int) < (la : Int) := by omega
   obtain ⟨ad, x, rfl, _, hx, hcx⟩ := HGa.out.get hil; by_cases hjl : j < lb
   ·have tj : decide ((j : Int) < (lb : Int)) = true := by simp; omega
    have tj2 : decide (j < lb) = true := by simpa using hjl
    have tq : ((j : Int) == (lb : Int)) = false := by rw [beq_eq_false_iff_ne]; omega
    have tq2 : (j == lb) = false := by rw [beq_eq_false_iff_ne]; omega
    have hj2 : (j : Int) < (lb : Int) := by omega
    obtain ⟨av, y, rfl, _, hy, hcy⟩ := HGb.out.get hjl; rcases Int.lt_trichotomy x y with hl | hl | hl
    ·have HN := qh (HE.out.lt hx hy hl); have tl : decide (x < y) = true := by simpa using hl
     clear hx hy hl
     gi_wp2
     refine wpIn_wide.2 ?_
     go_quiet (fail)
     gi_wp2_with fail
     refine ⟨trivial, (CI x _).out.mono ?_⟩; rintro e w1 ⟨rfl, hb1⟩; have hB1 : Below wr.heap.size wr w1 := drew_below hb1; have HJ1 := qh (HJ.out _ _ _ none HJs.out (grown_of_below hB1) (fun r e => by cases e)); have HK1 := qh (HKt.out _ _ _ HK.out (HKg.out _ _ hsz hB1)); have hsz1 : W.heap.size ≤ w1.heap.size := Nat.le_trans hsz hB1.size; have G1 := HG.out _ HK1.out; clear hb1 hB1; cases hh : inn (s1, s2) x
     ·have HN1 := qh (HN.out.skip hh); clear hh
      gi_wp2
      refine ⟨fun _ h => (by cases h), ?_⟩
      gi_wp2
      go_roundw
      case rel => exact ⟨i + 1, j, pre, by omega, by omega, by go_num, by go_num, HN1, HJ1, HK1, hsz1⟩
      case measure => simp [intOf]; omega
     ·have HN1 := qh (HN.out.take hh); obtain ⟨fn, tmps, assign, body, hy, hR⟩ := HY.out _ x w1 HJ1.out (HN.out.len hh); clear hh
      gi_wp2
      refine hR.mono ?_; rintro e W3 (⟨rfl, hJ3, hk3⟩ | ⟨rfl, hJx3⟩)
      ·have HJ3 := qh hJ3; have HK3 := qh (HKt.out _ _ _ HK1.out hk3); have hsz3 : W.heap.size ≤ W3.heap.size := Nat.le_trans hsz1 (HKs.out _ _ hk3); clear hJ3 hk3 hR hy
       gi_wp2
       go_roundw
       case rel => exact ⟨i + 1, j, pre ++ [x], by omega, by omega, by go_num, by go_num, HN1, HJ3, HK3, hsz3⟩
       case measure => simp [intOf]; omega
      ·gi_wp2
       refine bodyPost_ret (results_none rfl _ _ _) rfl ?_; exact ⟨⟨_, rfl⟩, .inr ⟨_, trivial, hJx3⟩⟩
    ·subst hl; have HN := qh (HE.out.eq hx hy); have tl : decide (x < x) = false := by simp
     have te : (x == x) = true := by simp
     clear hx hy
     gi_wp2
     refine wpIn_wide.2 ?_
     go_quiet (fail)
     gi_wp2_with fail
     refine ⟨trivial, (CI x _).out.mono ?_⟩; rintro e w1 ⟨rfl, hb1⟩; have hB1 : Below wr.heap.size wr w1 := drew_below hb1; have HJ1 := qh (HJ.out _ _ _ none HJs.out (grown_of_below hB1) (fun r e => by cases e)); have HK1 := qh (HKt.out _ _ _ HK.out (HKg.out _ _ hsz hB1)); have hsz1 : W.heap.size ≤ w1.heap.size := Nat.le_trans hsz hB1.size; have G1 := HG.out _ HK1.out; clear hb1 hB1; cases hh : inn (s1, s2) x
     ·have HN1 := qh (HN.out.skip hh); clear hh
      gi_wp2
      refine ⟨fun _ h => (by cases h), ?_⟩
      gi_wp2
      go_roundw
      case rel => exact ⟨i + 1, j + 1, pre, by omega, by omega, by go_num, by go_num, HN1, HJ1, HK1, hsz1⟩
      case measure => simp [intOf]; omega
     ·have HN1 := qh (HN.out.take hh); obtain ⟨fn, tmps, assign, body, hy, hR⟩ := HY.out _ x w1 HJ1.out (HN.out.len hh); clear hh
      gi_wp2
      refine hR.mono ?_; rintro e W3 (⟨rfl, hJ3, hk3⟩ | ⟨rfl, hJx3⟩)
      ·have HJ3 := qh hJ3; have HK3 := qh (HKt.out _ _ _ HK1.out hk3); have hsz3 : W.heap.size ≤ W3.heap.size := Nat.le_trans hsz1 (HKs.out _ _ hk3); clear hJ3 hk3 hR hy
       gi_wp2
       go_roundw
       case rel => exact ⟨i + 1, j + 1, pre ++ [x], by omega, by omega, by go_num, by go_num, HN1, HJ3, HK3, hsz3⟩
       case measure => simp [intOf]; omega
      ·gi_wp2
       refine bodyPost_ret (results_none rfl _ _ _) rfl ?_; exact ⟨⟨_, rfl⟩, .inr ⟨_, trivial, hJx3⟩⟩
    ·have HN := qh (HE.out.gt hx hy hl); have tl : decide (x < y) = false := by simp; omega
     have te : (x == y) = false := by rw [beq_eq_false_iff_ne]; omega
     clear hx hy hl
     gi_wp2
     refine wpIn_wide.2 ?_
     go_quiet (fail)
     gi_wp2_with fail
     refine ⟨trivial, (CI y _).out.mono ?_⟩; rintro e w1 ⟨rfl, hb1⟩; have hB1 : Below wr.heap.size wr w1 := drew_below hb1; have HJ1 := qh (HJ.out _ _ _ none HJs.out (grown_of_below hB1) (fun r e => by cases e)); have HK1 := qh (HKt.out _ _ _ HK.out (HKg.out _ _ hsz hB1)); have hsz1 : W.heap.size ≤ w1.heap.size := Nat.le_trans hsz hB1.size; have G1 := HG.out _ HK1.out; clear hb1 hB1; cases hh : inn (s1, s2) y
     ·have HN1 := qh (HN.out.skip hh); clear hh
      gi_wp2
      refine ⟨fun _ h => (by cases h), ?_⟩
      gi_wp2
      go_roundw
      case rel => exact ⟨i, j + 1, pre, by omega, by omega, by go_num, by go_num, HN1, HJ1, HK1, hsz1⟩
      case measure => simp [intOf]; omega
     ·have HN1 := qh (HN.out.take hh); obtain ⟨fn, tmps, assign, body, hy, hR⟩ := HY.out _ y w1 HJ1.out (HN.out.len hh); clear hh
      gi_wp2
      refine hR.mono ?_; rintro e W3 (⟨rfl, hJ3, hk3⟩ | ⟨rfl, hJx3⟩)
      ·have HJ3 := qh hJ3; have HK3 := qh (HKt.out _ _ _ HK1.out hk3); have hsz3 : W.heap.size ≤ W3.heap.size := Nat.le_trans hsz1 (HKs.out _ _ hk3); clear hJ3 hk3 hR hy
       gi_wp2
       go_roundw
       case rel => exact ⟨i, j + 1, pre ++ [y], by omega, by omega, by go_num, by go_num, HN1, HJ3, HK3, hsz3⟩
       case measure => simp [intOf]; omega
      ·gi_wp2
       refine bodyPost_ret (results_none rfl _ _ _) rfl ?_; exact ⟨⟨_, rfl⟩, .inr ⟨_, trivial, hJx3⟩⟩
   ·obtain rfl : lb = j := by omega
    have HN := qh (HE.out.a hx (by rw [HLb.out]; exact Nat.le_refl _)); clear hx
    gi_wp2
    refine wpIn_wide.2 ?_
    go_quiet (fail)
    gi_wp2_with fail
    refine ⟨trivial, (CI x _).out.mono ?_⟩; rintro e w1 ⟨rfl, hb1⟩; have hB1 : Below wr.heap.size wr w1 := drew_below hb1; have HJ1 := qh (HJ.out _ _ _ none HJs.out (grown_of_below hB1) (fun r e => by cases e)); have HK1 := qh (HKt.out _ _ _ HK.out (HKg.out _ _ hsz hB1)); have hsz1 : W.heap.size ≤ w1.heap.size := Nat.le_trans hsz hB1.size; have G1 := HG.out _ HK1.out; clear hb1 hB1; cases hh : inn (s1, s2) x
    ·have HN1 := qh (HN.out.skip hh); clear hh
     gi_wp2
     refine ⟨fun _ h => (by cases h), ?_⟩
     gi_wp2
     go_roundw
     case rel => exact ⟨i + 1, lb, pre, by omega, by omega, by go_num, by go_num, HN1, HJ1, HK1, hsz1⟩
     case measure => simp [intOf]; omega
    ·have HN1 := qh (HN.out.take hh); obtain ⟨fn, tmps, assign, body, hy, hR⟩ := HY.out _ x w1 HJ1.out (HN.out.len hh); clear hh
     gi_wp2
     refine hR.mono ?_; rintro e W3 (⟨rfl, hJ3, hk3⟩ | ⟨rfl, hJx3⟩)
     ·have HJ3 := qh hJ3; have HK3 := qh (HKt.out _ _ _ HK1.out hk3); have hsz3 : W.heap.size ≤ W3.heap.size := Nat.le_trans hsz1 (HKs.out _ _ hk3); clear hJ3 hk3 hR hy
      gi_wp2
      go_roundw
      case rel => exact ⟨i + 1, lb, pre ++ [x], by omega, by omega, by go_num, by go_num, HN1, HJ3, HK3, hsz3⟩
      case measure => simp [intOf]; omega
     ·gi_wp2
      refine bodyPost_ret (results_none rfl _ _ _) rfl ?_; exact ⟨⟨_, rfl⟩, .inr ⟨_, trivial, hJx3⟩⟩
  ·obtain rfl : la = i := by omega
   by_cases hjl : j < lb
   ·have tj : decide ((j : Int) < (lb : Int)) = true := by simp; omega
    have tj2 : decide (j < lb) = true := by simpa using hjl
    have tq : ((j : Int) == (lb : Int)) = false := by rw [beq_eq_false_iff_ne]; omega
    have tq2 : (j == lb) = false := by rw [beq_eq_false_iff_ne]; omega
    have hj2 : (j : Int) < (lb : Int) := by omega
    obtain ⟨av, y, rfl, _, hy, hcy⟩ := HGb.out.get hjl; have HN := qh (HE.out.b hy (by rw [HLa.out]; exact Nat.le_refl _)); clear hy
    gi_wp2
    refine wpIn_wide.2 ?_
    go_quiet (fail)
    gi_wp2_with fail
    refine ⟨trivial, (CI y _).out.mono ?_⟩; rintro e w1 ⟨rfl, hb1⟩; have hB1 : Below wr.heap.size wr w1 := drew_below hb1; have HJ1 := qh (HJ.out _ _ _ none HJs.out (grown_of_below hB1) (fun r e => by cases e)); have HK1 := qh (HKt.out _ _ _ HK.out (HKg.out _ _ hsz hB1)); have hsz1 : W.heap.size ≤ w1.heap.size := Nat.le_trans hsz hB1.size; have G1 := HG.out _ HK1.out; clear hb1 hB1; cases hh : inn (s1, s2) y
    ·have HN1 := qh (HN.out.skip hh); clear hh
     gi_wp2
     refine ⟨fun _ h => (by cases h), ?_⟩
     gi_wp2
     go_roundw
     case rel => exact ⟨la, j + 1, pre, by omega, by omega, by go_num, by go_num, HN1, HJ1, HK1, hsz1⟩
     case measure => simp [intOf]; omega
    ·have HN1 := qh (HN.out.take hh); obtain ⟨fn, tmps, assign, body, hy, hR⟩ := HY.out _ y w1 HJ1.out (HN.out.len hh); clear hh
     gi_wp2
     refine hR.mono ?_; rintro e W3 (⟨rfl, hJ3, hk3⟩ | ⟨rfl, hJx3⟩)
     ·have HJ3 := qh hJ3; have HK3 := qh (HKt.out _ _ _ HK1.out hk3); have hsz3 : W.heap.size ≤ W3.heap.size := Nat.le_trans hsz1 (HKs.out _ _ hk3); clear hJ3 hk3 hR hy
      gi_wp2
      go_roundw
      case rel => exact ⟨la, j + 1, pre ++ [y], by omega, by omega, by go_num, by go_num, HN1, HJ3, HK3, hsz3⟩
      case measure => simp [intOf]; omega
     ·gi_wp2
      refine bodyPost_ret (results_none rfl _ _ _) rfl ?_; exact ⟨⟨_, rfl⟩, .inr ⟨_, trivial, hJx3⟩⟩
   ·obtain rfl : lb = j := by omega
    have HZ := qh (HE.out.fin (by rw [HLa.out]; exact Nat.le_refl _) (by rw [HLb.out]; exact Nat.le_refl _))
    gi_wp2
    go_end0
    exact ⟨⟨_, rfl⟩, .inl ⟨_, HZ.out, HJs.out⟩⟩
theorem changes (s : Pr) (A : Option Addr) (la ca : Nat) (B : Option Addr) (lb cb : Nat) (w : World) :
  Calls Tryz.prog 152 #[ag s, .slice A la ca, .slice B lb cb] w fun e w' => e = .returned (.func (.func 175) #[] #[.pointer (some ⟨w.heap.size + 1, 0, none⟩), .pointer (some ⟨w.heap.size + 2, 0, none⟩), .pointer (some ⟨w.heap.size, 0, none⟩)]) ∧
   ((w.alloc (.cells #[.int .i64 s.1, .int .i64 s.2] 23)).alloc (.cells #[.slice A la ca] 63)).alloc (.cells #[.slice B lb cb] 63) = w' := by
 obtain ⟨a, b⟩ := s; go_enter Tryz.func152, Tryz.ntmps152; go_wp2; go_ret; exact ⟨rfl, rfl⟩
theorem changes_stops (ba bb bs : Nat) (A : Option Addr) (la ca : Nat) (B : Option Addr) (lb cb : Nat) (s : Pr) (xs ys : List Int) (hla : la ≤ 1000000) (hlb : lb ≤ 1000000) (Kp : World → World → Prop) (w : World)
  (hKt : ∀ a b c : World, Kp a b → Kp b c → Kp a c) (hKg : ∀ a b : World, w.heap.size ≤ a.heap.size → Below a.heap.size a b → Kp a b) (hKs : ∀ a b : World, Kp a b → a.heap.size ≤ b.heap.size)
  (hG : ∀ W', Kp w W' → Good W' ba bb bs A la ca B lb cb s xs ys) :
  SeqStopsK Fence.wide 9 Tryz.prog 175 #[.pointer (some ⟨ba, 0, none⟩), .pointer (some ⟨bb, 0, none⟩), .pointer (some ⟨bs, 0, none⟩)] (fun x : Int => #[.int .i64 x]) Kp (fun zs => zs = chg s xs ys) (fun _ => True) (chg s xs ys).length w := fun l J Jx W hW hJ _ hY h0 =>
 changes1 l ba bb bs A la ca B lb cb s xs ys hla hlb Kp J Jx W hKt (fun a b h => hKg a b (Nat.le_trans hW.size h)) hKs hJ hY (fun W' h => hG W' (hKt _ _ _ (hKg _ _ (Nat.le_refl _) hW) h)) h0
end Stp
end Go.Proofs.YtfidmphajohljaaGreat
namespace Go.Proofs.YtfidmphajohljaaGreat
open Go.RowKit Stm
namespace Stp
def Wh (w : World) (u v : Value) : Prop := v.ownBlock = u.ownBlock ∨ ∃ g, v.ownBlock = some g ∧ w.heap.size ≤ g
theorem run_appW (w : World) (base : Nat) (ty : TypeId) (A : Option Addr) (n c : Nat) (xs : List Int) (hown : OwnI w base A n c xs) (ad : Addr) (m d B : Nat) (ys : List Int) (hr : Ints w B (some ad) m ys) (h0 : 0 < m) (hlen : n + m ≤ 4000000) (hbase : base ≤ w.heap.size) :
  ∃ A' c' w', (Builtin.append_ #[63, 63] ty #[.slice A n c, .slice (some ad) m d]).run Tryz.prog w = .ok (.slice A' (n + m) c') w' ∧ OwnI w' base A' (n + m) c' (xs ++ ys) ∧ w.grownBy w' (Value.slice A n c).ownBlock ∧ Wh w (.slice A n c) (.slice A' (n + m) c') := by
 obtain ⟨i, hi, hz, h1, h2⟩ := info_parts info_int; have hl : (ys.map (Value.int .i64)).length = m * 1 := by simpa using hr.1
 obtain ⟨v', w', hrun, hO, hg, _⟩ := run_append_own (P := Tryz.prog) w base 63 ty 3 i _ 1 8 Tryz.underlying63 hi hz h1 h2 rfl (by omega) (.slice A n c) n _ hown ad m d (ys.map (Value.int .i64)) hl (ints_cells hr) (ints_one ys) (by unfold maxLen; omega) (by omega) hbase; rw [← List.map_append] at hO; obtain ⟨A', c', rfl, hO'⟩ := own_of_row hO; refine ⟨A', c', w', hrun, hO', hg, ?_⟩; rcases hown.2 with ⟨e, hn⟩ | ⟨g, cap, cur, e, hbg, hgg, hnc, hcm, hcs, htake⟩
 ·injection e with e1 e2 e3
  subst e1 e2 e3; have hx := run_append_nil (P := Tryz.prog) w 63 ty 3 i _ Tryz.underlying63 hi hz ad m d (ys.map (Value.int .i64)) (by rw [h1]; exact hl) (ints_cells hr) h0 (by omega) (by rw [h2]; omega); rw [hrun] at hx; injection hx with hx1 hx2
  injection hx1 with hx3
  refine .inr ⟨w.heap.size, ?_, Nat.le_refl _⟩; rw [hx3]; rfl
 ·injection e with e1 e2 e3
  subst e1 e3; by_cases hroom : n + m ≤ c
  ·have hx := run_append_room (P := Tryz.prog) w 63 ty 3 i Tryz.underlying63 hi g n c cur hgg ad m d (ys.map (Value.int .i64)) (by rw [h1]; exact hl) (ints_cells hr) (ints_one ys) hroom (by rw [h1, hl, hcs]; omega); rw [hrun] at hx; injection hx with hx1 hx2
   injection hx1 with hx3
   refine .inl ?_; rw [hx3]; rfl
  ·have hx := run_append_grow (P := Tryz.prog) w 63 ty 3 i _ Tryz.underlying63 hi hz ⟨g, 0, none⟩ n c (xs.map (Value.int .i64)) (by rw [h1]; exact hown.1) (World.ownsRow.cells (g := g) hown rfl) ad m d (ys.map (Value.int .i64)) (by rw [h1]; exact hl) (ints_cells hr) (by omega) (by omega) (growslice_fits (by omega) (by rw [h2]; omega)); rw [hrun] at hx; injection hx with hx1 hx2
   injection hx1 with hx3
   refine .inr ⟨w.heap.size, ?_, Nat.le_refl _⟩; rw [hx3]; rfl
theorem step_appW (w : World) {ops : Array Oper} {o : Oper} {a : Act} {K : Act → World → Prop} {Q : Exit → Act → World → Prop} {E : Prop} (hgd : o.guard = none) (s x : Operand)
  (ho : o.op = .call { callee := .builtin .append, args := #[s, x], argTypes := #[63, 63] })
  (base : Nat) (A : Option Addr) (n c : Nat) (xs : List Int) (hs : a.eval s = .slice A n c) (hown : OwnI w base A n c xs)
  (B : Nat) (ad : Addr) (m d : Nat) (ys : List Int) (hx : a.eval x = .slice (some ad) m d) (hr : Ints w B (some ad) m ys) (h0 : 0 < m) (hlen : n + m ≤ 4000000) (hbase : base ≤ w.heap.size)
  (h : ∀ A' c' w', OwnI w' base A' (n + m) c' (xs ++ ys) → w.grownBy w' (Value.slice A n c).ownBlock → Wh w (.slice A n c) (.slice A' (n + m) c') → K (a.put o.dst (.slice A' (n + m) c')) w') :
  if Region.wanted o (yielded ops a.tmps) = true then Oper.wp Tryz.prog o a w K Q else E := by
 have hw : Region.wanted o (yielded ops a.tmps) = true := by simp [Region.wanted, hgd]
 rw [if_pos hw]; obtain ⟨A', c', w', hrun, r1, r2, r3⟩ := run_appW w base o.type A n c xs hown ad m d B ys hr h0 hlen hbase; unfold Oper.wp execOp; simp only [ho, resolve, invoke, builtin, Sem.run_bind, Sem.run_pure, Result.andThen_ok, List.map_toArray, List.map_cons, List.map_nil, hs, hx, hrun]; exact h A' c' w' r1 r2 r3
structure OwnS (w : World) (base : Nat) (A : Option Addr) (n c : Nat) (V : Option Addr) (m d : Nat) (xs vs : List Int) : Prop where
 a : OwnI w base A n c xs
 v : OwnI w base V m d vs
 dj : ∀ g, (Value.slice A n c).ownBlock = some g → (Value.slice V m d).ownBlock ≠ some g
section
variable {w w' w2 : World} {base n c m d : Nat} {A V : Option Addr} {xs vs : List Int}
theorem OwnS.nil : OwnS w base none 0 0 none 0 0 [] [] := ⟨OwnI.nil, OwnI.nil, fun g h => by cases h⟩
theorem OwnS.below (h : OwnS w base A n c V m d xs vs) (hb : Below w.heap.size w w') : OwnS w' base A n c V m d xs vs := ⟨h.a.below hb, h.v.below hb, h.dj⟩
theorem OwnS.alloc (h : OwnS w base A n c V m d xs vs) (o : Obj) : OwnS (w.alloc o) base A n c V m d xs vs := ⟨h.a.alloc o, h.v.alloc o, h.dj⟩
theorem OwnS.sx (h : OwnS w base A n c V m d xs vs) : Sx w w.heap.size A n V m xs vs := ⟨h.a.ints.1, h.v.ints.1⟩
theorem own_apart {u v : Value} (hd : ∀ g, u.ownBlock = some g → v.ownBlock ≠ some g) : v.ownBlock = none ∨ v.ownBlock ≠ u.ownBlock := by
 cases hv : v.ownBlock with
 | none => exact .inl rfl
 | some g => exact .inr (fun e => hd g e.symm hv)
theorem OwnS.appA (h : OwnS w base A n c V m d xs vs) {A' : Option Addr} {n' c' : Nat} {zs : List Int} (hO : OwnI w' base A' n' c' zs) (hg : w.grownBy w' (Value.slice A n c).ownBlock) (hw : Wh w (.slice A n c) (.slice A' n' c')) : OwnS w' base A' n' c' V m d zs vs := by
 refine ⟨hO, h.v.grown hg (own_apart h.dj), fun g e => ?_⟩; rcases hw with e2 | ⟨k, e2, hk⟩
 ·exact h.dj g (by rw [← e2]; exact e)
 ·rw [e] at e2; injection e2 with e2
  intro hv; have := (h.v.lt g hv).2; omega
theorem OwnS.appV (h : OwnS w base A n c V m d xs vs) {V' : Option Addr} {m' d' : Nat} {zs : List Int} (hO : OwnI w' base V' m' d' zs) (hg : w.grownBy w' (Value.slice V m d).ownBlock) (hw : Wh w (.slice V m d) (.slice V' m' d')) : OwnS w' base A n c V' m' d' xs zs := by
 refine ⟨h.a.grown hg (own_apart fun g e hv => h.dj g hv e), hO, fun g e hv => ?_⟩; rcases hw with e2 | ⟨k, e2, hk⟩
 ·exact h.dj g e (by rw [← e2]; exact hv)
 ·rw [hv] at e2; injection e2 with e2
  have := (h.a.lt g e).2; omega
theorem OwnI.far (h : OwnI w base A n c xs) {p : Addr} (hp : ∀ g, (Value.slice A n c).ownBlock = some g → g ≠ p.block) (u : Value) : OwnI (w.setCell p u) base A n c xs := by
 refine World.ownsRow.kept h (row := some p.block) ⟨rfl, rfl, rfl, (KeepsWalks.setCell w _ u).size, fun k _ hk => Below.heap_setCell _ _ _ k (fun e => hk (by rw [e]))⟩ ?_; cases hv : (Value.slice A n c).ownBlock with
 | none => exact .inl rfl
 | some g => exact .inr (fun e => hp g hv (by injection e))
theorem OwnS.far (h : OwnS w base A n c V m d xs vs) {p : Addr} (hp : ∀ g, (Value.slice A n c).ownBlock = some g → g ≠ p.block) (hq : ∀ g, (Value.slice V m d).ownBlock = some g → g ≠ p.block) (u : Value) : OwnS (w.setCell p u) base A n c V m d xs vs := ⟨h.a.far hp u, h.v.far hq u, h.dj⟩
theorem OwnI.not_box {t : TypeId} {cs : Array Value} {b : Nat} (h : OwnI w base A n c xs) (hb : w.heap[b]? = some (.cells cs t (0, 0))) (ht : t ≠ 3) : ∀ g, (Value.slice A n c).ownBlock = some g → g ≠ b := by
 intro g e hgb; subst hgb; rcases h.2 with ⟨e2, _⟩ | ⟨g', cap, cur, e2, _, hgg, _⟩
 ·rw [e2] at e; cases e
 ·rw [e2] at e; simp [Value.ownBlock] at e; subst e; rw [hb] at hgg; simp at hgg; exact ht hgg.2
theorem OwnI.abide {row : Option Nat} (h : OwnI w base A n c xs) (hg : w.grownBy w' row) (hr : ∀ r, row = some r → ∃ o : Obj, w.heap[r]? = some o ∧ o.isCells = false) : OwnI w' base A n c xs := by
 refine World.ownsRow.kept h hg ?_; rcases h.2 with ⟨e, _⟩ | ⟨g, cap, cur, e, _, hgb, _⟩
 ·rw [e]; exact .inl rfl
 ·rw [e]; refine .inr fun e' => ?_
  obtain ⟨o, ho, hc⟩ := hr g (by simpa [Value.ownBlock] using e'.symm); rw [hgb] at ho; cases ho; cases hc
theorem cells_abide {row : Option Nat} {b : Nat} {cs : Array Value} {t : TypeId} (h : w.heap[b]? = some (.cells cs t (0, 0))) (hg : w.grownBy w' row) (hr : ∀ r, row = some r → ∃ o : Obj, w.heap[r]? = some o ∧ o.isCells = false) : w'.heap[b]? = some (.cells cs t (0, 0)) := by
 refine (hg.block b (Array.getElem?_eq_some_iff.1 h).1 ?_).trans h; intro e; obtain ⟨o, ho, hc⟩ := hr b e.symm; rw [h] at ho; cases ho; cases hc
theorem cells_grown {b : Nat} {cs : Array Value} {t : TypeId} (hO : OwnI w base A n c xs) (h : w.heap[b]? = some (.cells cs t (0, 0))) (ht : t ≠ 3) (hg : w.grownBy w' (Value.slice A n c).ownBlock) : w'.heap[b]? = some (.cells cs t (0, 0)) :=
 (hg.block b (Array.getElem?_eq_some_iff.1 h).1 (fun e => hO.not_box h ht b e.symm rfl)).trans h
theorem ints_new1 (w : World) (x : Int) : Ints (w.alloc (.cells #[.int .i64 x] 3)) (w.heap.size + 1) (some ⟨w.heap.size, 0, none⟩) 1 [x] := by
 refine ⟨rfl, fun _ => ⟨_, rfl, by simp, fun j z hz => ?_⟩⟩; have hh : (w.alloc (.cells #[.int .i64 x] 3)).heap[w.heap.size]? = some (.cells #[.int .i64 x] 3 (0, 0)) := heap_alloc_new w _
 match j, hz with
 | 0, hz =>
  simp at hz; subst hz; have ea : (⟨w.heap.size, 0, none⟩ : Addr).add 0 = ⟨w.heap.size, 0, none⟩ := by unfold Addr.add; simp
  rw [ea, cell_of_row _ _ 0 _ _ _ hh]; rfl
 | j + 1, hz => simp at hz
end
section
variable {w : World} {base b n c : Nat} {A : Option Addr} {xs : List Int} {m d : Nat} {V : Option Addr} {vs : List Int} {w' : World} {B : Nat}
theorem OwnI.low (h : OwnI w base A n c xs) (hb : b ≤ base) : OwnI w b A n c xs := by
 refine ⟨h.1, ?_⟩; rcases h.2 with e | ⟨g, cap, cur, e, hbg, rest⟩
 ·exact .inl e
 ·exact .inr ⟨g, cap, cur, e, Nat.le_trans hb hbg, rest⟩
theorem OwnS.low (h : OwnS w base A n c V m d xs vs) (hb : b ≤ base) : OwnS w b A n c V m d xs vs := ⟨h.a.low hb, h.v.low hb, h.dj⟩
theorem size_set (w : World) (p : Addr) (u : Value) : (w.setCell p u).heap.size = w.heap.size := by simp [World.setCell]
theorem ints_new1' (w : World) (x : Int) (N : Nat) (h : w.heap.size = N) : Ints (w.alloc (.cells #[.int .i64 x] 3)) (N + 1) (some ⟨N, 0, none⟩) 1 [x] := by subst h; exact ints_new1 w x
theorem ko_app (hO : OwnI w base A n c xs) (hg : w.grownBy w' (Value.slice A n c).ownBlock) : KeepsOthers w w' := by
 refine KeepsOthers.of_grownBy hg fun j o ej hj => ?_
 rcases hO.2 with ⟨e, _⟩ | ⟨g, cap, cur, e, _, hgb, _⟩
 ·rw [e] at ej; cases ej
 ·rw [e] at ej; simp [Value.ownBlock] at ej; subst ej; rw [hgb] at hj; cases hj; rfl
theorem low_ne (hO : OwnI w base A n c xs) (hb : b < base) : ∀ g, (Value.slice A n c).ownBlock = some g → g ≠ b := fun g e => by have := (hO.lt g e).1; omega
theorem below_app (hO : OwnI w base A n c xs) (hg : w.grownBy w' (Value.slice A n c).ownBlock) (hB : B ≤ base) (hbase : B ≤ w.heap.size) : Below B w w' :=
 (Below.refl B w).grown hg hbase (fun k e => Nat.le_trans hB (hO.lt k e).1)
theorem bx_ints {w w1 : World} (h : Sx w w.heap.size A n V m xs vs) : Sx (w.alloc (.cells #[.slice A n c, .slice V m d] 77)) w.heap.size A n V m xs vs :=
 h.below ((Below.refl _ _).alloc (Nat.le_refl _) _) (Nat.le_refl _)
end
theorem right_ne (A : Option Addr) (n c : Nat) (V : Option Addr) (m d : Nat) (xs vs : List Int) (w : World) (hS : Sx w w.heap.size A n V m xs vs) (h : n ≠ m) :
  Calls Tryz.prog 123 #[sg A n c V m d] w fun e w' => e = .returned (.bool (rg xs vs)) ∧ Below w.heap.size w w' := by
 rw [rg_ne (by rw [hS.a.1, hS.v.1]; exact h)]; have t1 : ((n : Int) == (m : Int)) = false := by rw [beq_eq_false_iff_ne]; omega
 have t2 : (n == m) = false := by rw [beq_eq_false_iff_ne]; exact h
 have t3 : ((n : Int) != (m : Int)) = true := by rw [bne_iff_ne]; omega
 have t4 : (n != m) = true := by rw [bne_iff_ne]; exact h
 clear hS; go_enter Tryz.func123, Tryz.ntmps123; go_wp2; go_ret; exact ⟨rfl, (Below.refl _ _).alloc (Nat.le_refl _) _⟩
theorem right_eq (A : Option Addr) (n c : Nat) (V : Option Addr) (d : Nat) (xs vs : List Int) (w : World) (hS : Sx w w.heap.size A n V n xs vs) (hn : n ≤ 1000000) :
  Calls Tryz.prog 123 #[sg A n c V n d] w fun e w' => e = .returned (.bool (rg xs vs)) ∧ Below w.heap.size w w' := by
 rw [rg_eq (by rw [hS.a.1, hS.v.1])]; have hzl : (xs.zip vs).length = n := by simp [hS.a.1, hS.v.1]
 have HL := qh hzl; have CF := fun v w => qh (fits_ v w)
 have HS := qh (bx_ints (c := c) (d := d) (w1 := w) hS); have HSv := qh hS; clear hS hzl; obtain ⟨R, hR⟩ : ∃ R, rb 0 0 (xs.zip vs) = R := ⟨_, rfl⟩; rw [hR]; have HR := qh hR; clear hR; go_enter Tryz.func123, Tryz.ntmps123; go_wp2
 go_loopw [3, 4, 17] (fun sd sh i w' => ∃ (k nd : Nat) (day held : Int), k ≤ n ∧ i = .int .i64 (k : Int) ∧ sd = .int .i64 day ∧ sh = .int .i64 held ∧ Hid (rb day held ((xs.zip vs).drop k) = R) ∧ w' = (w.alloc (.cells #[.slice A n c, .slice V n d] 77)).drewN nd) (fun _ _ i _ => n - (intOf i).toNat)
 case atStart => exact ⟨0, 0, 0, 0, Nat.zero_le _, rfl, rfl, rfl, HR, rfl⟩
 case round =>
  obtain ⟨k, nd, day, held, hk, rfl, rfl, rfl, HB, rfl⟩ := hrel; by_cases hlt : k < n
  ·obtain ⟨ad, x, rfl, hb, hx, hc⟩ := HS.out.a.get hlt; obtain ⟨av, v, rfl, hbv, hv, hcv⟩ := HS.out.v.get hlt; have HD := qh (drop_get (zip_get hx hv)); have hlt2 : (k : Int) < (n : Int) := by omega
   have hxl : ad.block < w.heap.size := hb; have hvl : av.block < w.heap.size := hbv; clear hx hv; by_cases g1 : x ≤ day
   ·have t1 : decide (x ≤ day) = true := by simpa using g1
    have HF := qh (show R = false by rw [← HB.out, HD.out]; exact rb_no (fun h => by have := h.1; simp only at this; omega)); clear g1; go_wp2; go_ret; exact ⟨(by rw [HF.out]; rfl), below_drewN ((Below.refl _ _).alloc (Nat.le_refl _) _) _⟩
   ·have t1 : decide (x ≤ day) = false := by simpa using g1
    by_cases g2 : 292194 < x
    ·have t2 : decide (292194 < x) = true := by simpa using g2
     have HF := qh (show R = false by rw [← HB.out, HD.out]; exact rb_no (fun h => by have := h.2.1; simp only at this; omega)); clear g1 g2; go_wp2; go_ret; exact ⟨(by rw [HF.out]; rfl), below_drewN ((Below.refl _ _).alloc (Nat.le_refl _) _) _⟩
    ·have t2 : decide (292194 < x) = false := by simpa using g2
     have CV := fun w => CF v w
     cases g3 : Stm.fits v
     ·have HF := qh (show R = false by rw [← HB.out, HD.out]; exact rb_no (fun h => by have := h.2.2.1; simp only at this; rw [g3] at this; cases this)); rw [g3] at CV; clear g1 g2 g3 CF
      go_wp2_with (go_at_call 150; refine (CV _).out.mono ?_; rintro e w' ⟨rfl, rfl⟩)
      go_ret; exact ⟨(by rw [HF.out]; rfl), below_drewN ((Below.refl _ _).alloc (Nat.le_refl _) _) _⟩
     ·by_cases g4 : v = held
      ·have t4 : (v == held) = true := by simpa using g4
       have HF := qh (show R = false by rw [← HB.out, HD.out]; exact rb_no (fun h => h.2.2.2 g4)); rw [g3] at CV; clear g1 g2 g3 g4 CF
       go_wp2_with (go_at_call 150; refine (CV _).out.mono ?_; rintro e w' ⟨rfl, rfl⟩)
       go_ret; exact ⟨(by rw [HF.out]; rfl), below_drewN ((Below.refl _ _).alloc (Nat.le_refl _) _) _⟩
      ·have t4 : (v == held) = false := by simpa using g4
       have HN := qh (show rb x v ((xs.zip vs).drop (k + 1)) = R by rw [← HB.out, HD.out]; exact (rb_yes (x := (x, v)) (by simp only; omega) (by simp only; omega) g3 g4).symm); rw [g3] at CV; clear g1 g2 g3 g4 CF
       go_wp2_with (go_at_call 150; refine (CV _).out.mono ?_; rintro e w' ⟨rfl, rfl⟩)
       go_quiet (fail)
       go_wp2; go_roundw
       case rel => exact ⟨k + 1, _, x, v, by omega, by go_num, rfl, rfl, HN, rfl⟩
       case measure => simp [intOf]; omega
  ·have HF := qh (show R = true by rw [← HB.out, List.drop_of_length_le (by rw [HL.out]; omega)]; rfl); go_wp2; go_ret; exact ⟨(by rw [HF.out]; rfl), below_drewN ((Below.refl _ _).alloc (Nat.le_refl _) _) _⟩
theorem right (A : Option Addr) (n c : Nat) (V : Option Addr) (m d : Nat) (xs vs : List Int) (w : World) (hS : Sx w w.heap.size A n V m xs vs) (hn : n ≤ 1000000) :
  Calls Tryz.prog 123 #[sg A n c V m d] w fun e w' => e = .returned (.bool (rg xs vs)) ∧ Below w.heap.size w w' := by
 by_cases h : n = m
 ·subst h; exact right_eq A n c V d xs vs w hS hn
 ·exact right_ne A n c V m d xs vs w hS h
theorem isNaN (x : Int) (w : World) : Calls Tryz.prog 128 #[.int .i64 x] w fun e w' => e = .returned (.bool false) ∧ w = w' := Tm.isNaN x w
theorem isNaN2 (x : Int) (w : World) : Calls Tryz.prog 183 #[.int .i64 x] w fun e w' => e = .returned (.bool false) ∧ w = w' := by
 go_enter Tryz.func183, Tryz.ntmps183; go_wp2; go_ret; exact ⟨rfl, rfl⟩
theorem less (x y : Int) (w : World) : Calls Tryz.prog 167 #[.int .i64 x, .int .i64 y] w fun e w' => e = .returned (.bool (decide (x < y))) ∧ w = w' := by
 have C := fun a w => qh (isNaN a w)
 go_enter Tryz.func167, Tryz.ntmps167
 go_wp2_with (go_at_call 128; refine (C _ _).out.mono ?_; rintro e w' ⟨rfl, rfl⟩)
 go_ret; exact ⟨rfl, rfl⟩
theorem search (A : Option Addr) (n c B : Nat) (zs : List Int) (x : Int) (w : World) (hS : Ints w B A n zs) (hn : n ≤ 1000000) (hs : zs.Pairwise (· < ·)) :
  Calls Tryz.prog 174 #[.slice A n c, .int .i64 x] w fun e w' => e = .returned (.tuple #[.int .i64 (zs.countP (· < x) : Nat), .bool (zs.contains x)]) ∧ w = w' := by
 have hl : zs.length = n := hS.1; have hs' : (zs.take n).Pairwise (· ≤ ·) := by rw [List.take_of_length_le (by omega)]; exact hs.imp (fun h => Int.le_of_lt h)
 have S := qh (Lib.sorted_at zs n (by omega) hs'); have HT := qh (show zs.take n = zs from List.take_of_length_le (by omega)); have HS := qh hS; have HLE := qh hl; have CL := fun a b w => qh (less a b w)
 have CN := fun a w => qh (isNaN2 a w)
 clear hs hs' hS hl; go_enter Tryz.func174, Tryz.ntmps174; go_wp2
 go_loopg [7, 8] n (fun g s7 s8 wr => ∃ lo hi : Nat, s7 = .int .i64 lo ∧ s8 = .int .i64 hi ∧ lo ≤ hi ∧ hi ≤ n ∧ hi - lo ≤ g ∧ wr = w ∧ Hid ((∀ t, t < lo → zs.getD t 0 < x) ∧ (∀ t, hi ≤ t → t < n → x ≤ zs.getD t 0)))
 case atStart => exact ⟨0, n, rfl, rfl, Nat.zero_le _, Nat.le_refl _, by omega, rfl, qh ⟨fun t ht => absurd ht (Nat.not_lt_zero _), fun t h1 h2 => by omega⟩⟩
 case round =>
  obtain ⟨lo, hi, rfl, rfl, hlh, hin, hg, rfl, I⟩ := hrel; by_cases hlt : lo < hi
  ·obtain ⟨ad, y, rfl, hb, hy, cm⟩ := HS.out.get (show (lo + hi) / 2 < n by omega); have Y := qh (show zs.getD ((lo + hi) / 2) 0 = y by rw [List.getD_eq_getElem?_getD, hy]; rfl); clear hy; by_cases hyx : y < x
   ·have t1 : decide (y < x) = true := by simpa using hyx
    go_wp2_with (go_at_call 167; refine (CL _ _ _).out.mono ?_; rintro e w' ⟨rfl, rfl⟩)
    go_roundg (hi - ((lo + hi) / 2 + 1))
    case measure => omega
    case rel =>
     refine ⟨(lo + hi) / 2 + 1, hi, by rw [show ((lo : Int) + (hi : Int)) / 2 + 1 = (((lo + hi) / 2 + 1 : Nat) : Int) by omega], rfl, by omega, hin, Nat.le_refl _, rfl, qh ⟨fun t ht => ?_, I.out.2⟩⟩; have := S.out t ((lo + hi) / 2) (by omega) (by omega); rw [Y.out] at this; omega
   ·have t1 : decide (y < x) = false := by simpa using hyx
    go_wp2_with (go_at_call 167; refine (CL _ _ _).out.mono ?_; rintro e w' ⟨rfl, rfl⟩)
    go_roundg ((lo + hi) / 2 - lo)
    case measure => omega
    case rel =>
     refine ⟨lo, (lo + hi) / 2, rfl, by rw [show ((lo : Int) + (hi : Int)) / 2 = (((lo + hi) / 2 : Nat) : Int) by omega], by omega, by omega, Nat.le_refl _, rfl, qh ⟨I.out.1, fun t ht htn => ?_⟩⟩; have := S.out ((lo + hi) / 2) t ht htn; rw [Y.out] at this; omega
  ·obtain rfl : lo = hi := by omega
   obtain ⟨e1, e2⟩ := Lib.search_end zs n lo x (by rw [HLE.out]; exact Nat.le_refl _) hin I.out.1 I.out.2 S.out; rw [HT.out] at e1 e2; have E1 := qh e1; have E2 := qh e2; clear e1 e2; by_cases hnn : lo < n
   ·obtain ⟨ad, y, rfl, hb, hy, cm⟩ := HS.out.get hnn; have Y := qh (show zs.getD lo 0 = y by rw [List.getD_eq_getElem?_getD, hy]; rfl); clear hy; have hlt2 : (lo : Int) < (n : Int) := by omega
    by_cases hyx : y = x
    ·have t1 : (y == x) = true := by simpa using hyx
     have E3 := qh (show zs.contains x = true by rw [E2.out, Y.out]; simp; omega); clear hyx
     go_wp2_with (go_at_call 183; refine (CN _ _).out.mono ?_; rintro e w' ⟨rfl, rfl⟩)
     go_ret2; exact ⟨by rw [E1.out, E3.out]; first | rfl | simp, rfl⟩
    ·have t1 : (y == x) = false := by simpa using hyx
     have E3 := qh (show zs.contains x = false by rw [E2.out, Y.out]; simp; omega); clear hyx
     go_wp2_with (go_at_call 183; refine (CN _ _).out.mono ?_; rintro e w' ⟨rfl, rfl⟩)
     go_ret2; exact ⟨by rw [E1.out, E3.out]; first | rfl | simp, rfl⟩
   ·have E3 := qh (show zs.contains x = false by rw [E2.out]; simp; omega)
    go_wp2_with (go_at_call 183; refine (CN _ _).out.mono ?_; rintro e w' ⟨rfl, rfl⟩)
    go_ret2; exact ⟨by rw [E1.out, E3.out]; first | rfl | simp, rfl⟩
def Sr (w : World) (B : Nat) (A V : Option Addr) (n : Nat) (ps : List Pr) : Prop := Sx w B A n V n (ps.map (·.1)) (ps.map (·.2))
section
variable {w w' : World} {B n : Nat} {A V : Option Addr} {ps : List Pr}
theorem Sr.below {C : Nat} (h : Sr w B A V n ps) (hb : Below C w w') (hC : B ≤ C) : Sr w' B A V n ps := Sx.below h hb hC
theorem Sr.wide {C : Nat} (h : Sr w B A V n ps) (hC : B ≤ C) : Sr w C A V n ps := Sx.wide h hC
theorem Sr.keep_ (h : Sr w w.heap.size A V n ps) (hb : Below w.heap.size w w') : Sr w' w'.heap.size A V n ps := Sx.keep_ h hb
theorem Sr.len (h : Sr w B A V n ps) : ps.length = n := by have := h.a.1; simpa using this
end
theorem valueOf (A : Option Addr) (n c : Nat) (V : Option Addr) (m d : Nat) (w : World) :
  Calls Tryz.prog 151 #[sg A n c V m d] w fun e w' => e = .returned (.func (.func 173) #[] #[.pointer (some ⟨w.heap.size, 0, none⟩)]) ∧ w.alloc (.cells #[.slice A n c, .slice V m d] 77) = w' := by
 go_enter Tryz.func151, Tryz.ntmps151; go_wp2; go_ret; exact ⟨rfl, rfl⟩
theorem valueOf1 (b : Nat) (A : Option Addr) (n c : Nat) (V : Option Addr) (d B : Nat) (ps : List Pr) (x : Int) (w : World) (hb : Bx w b 77 (.slice A n c) (.slice V n d)) (hS : Sr w B A V n ps) (hR : Rt 0 0 ps) (hn : n ≤ 1000000) :
  Calls Tryz.prog 173 #[.int .i64 x, .pointer (some ⟨b, 0, none⟩)] w fun e w' => e = .returned (.int .i64 (val 0 ps x)) ∧ w = w' := by
 have CS := qh (search A n c B _ x w hS.a hn hR.sorted); obtain ⟨f1, f2, f3⟩ := found hR x; have c0 := hb.c0; have c1 := hb.c1; have HS := qh hS.v; have hcl : (ps.map (·.1)).countP (· < x) ≤ n := by have := List.countP_le_length (p := fun a => decide (a < x)) (l := ps.map (·.1)); have := hS.a.1; omega
 clear hS hR hb; generalize (ps.map (·.1)).countP (· < x) = k at CS f1 f2 f3 hcl; generalize (ps.map (·.1)).contains x = q at CS f1 f2 f3; generalize val 0 ps x = r at f1 f2 f3; cases q
 ·have F1 := qh (f2 rfl); have F2 := qh (f3 rfl); clear f1 f2 f3; cases k with
  | zero =>
   obtain rfl := F1.out rfl; go_enter Tryz.func173, Tryz.ntmps173
   go_wp2_with (go_at_call 174; refine CS.out.mono ?_; rintro e w' ⟨rfl, rfl⟩)
   go_ret; exact ⟨rfl, rfl⟩
  | succ j =>
   have F3 := qh (F2.out j rfl); obtain ⟨ad, r', rfl, _, hx, hc⟩ := HS.out.get (show j < n by omega); obtain rfl : r = r' := by have := F3.out; rw [hx] at this; simpa using this.symm
   obtain ⟨k, hk⟩ : ∃ k, j + 1 = k := ⟨_, rfl⟩; rw [hk] at CS hcl; have tk : ((k : Int) == 0) = false := by rw [beq_eq_false_iff_ne]; omega
   have tk2 : (k == 0) = false := by rw [beq_eq_false_iff_ne]; omega
   have e1 : (k : Int) - 1 = (j : Int) := by omega
   have hj : j < n := by omega
   have hj2 : (j : Int) < (n : Int) := by omega
   clear hx hk F1 F2 F3 HS; go_enter Tryz.func173, Tryz.ntmps173
   go_wp2_with (go_at_call 174; refine CS.out.mono ?_; rintro e w' ⟨rfl, rfl⟩)
   go_ret; exact ⟨rfl, rfl⟩
 ·have F1 := qh (f1 rfl); clear f1 f2 f3
  have hkn : k < n := by
   have := (List.getElem?_eq_some_iff.1 F1.out).1; have := HS.out.1; omega
  obtain ⟨ad, r', rfl, _, hx, hc⟩ := HS.out.get hkn; obtain rfl : r = r' := by have := F1.out; rw [hx] at this; simpa using this.symm
  have hj2 : (k : Int) < (n : Int) := by omega
  clear hx F1 HS; go_enter Tryz.func173, Tryz.ntmps173
  go_wp2_with (go_at_call 174; refine CS.out.mono ?_; rintro e w' ⟨rfl, rfl⟩)
  go_ret; exact ⟨rfl, rfl⟩
end Stp
end Go.Proofs.YtfidmphajohljaaGreat
