/-
  The parts Alike, Same12 of this proof. Conditions: those of each theorem.
-/
import Derived.Test.YtplenoaajokpjaaGreatMSw
import Derived.Test.YtplenoaajokpjaaGreatKInv
namespace Go.Proofs.YtplenoaajokpjaaGreat
open Go.RowKit Ba Cv Sp Te Ag Sl Tm
namespace Slc
set_option linter.unusedVariables false
structure Two (xs ys : Array Value) (w W : World) : Prop where
 b : Below w.heap.size w W
 x : Bx W w.heap.size 60 xs
 y : Bx W (w.heap.size + 1) 60 ys
theorem Two.next {xs ys : Array Value} {w W W' : World} (h : Two xs ys w W) (hb : Below W.heap.size W W') : Two xs ys w W' := ⟨h.b.trans (hb.mono h.b.size), h.x.keep hb, h.y.keep hb⟩
theorem Two.start (xs ys : Array Value) (w : World) : Two xs ys w ((w.alloc (.cells xs 60)).alloc (.cells ys 60)) := by
 refine ⟨(alloc_ _ _).alloc (by simp) _, (Bx.new _ _ _).alloc _, ?_⟩; have := Bx.new (w.alloc (.cells xs 60)) 60 ys; rw [World.size_alloc] at this; exact this
structure Gd (w : World) (r : Rw) : Prop where
 c : Cvs w (· < w.heap.size) r.A r.n r.v.h.cs
 n : r.n ≤ 3000
theorem Gd.below {w W : World} {r : Rw} (g : Gd w r) (hb : Below w.heap.size w W) : Gd W r := ⟨g.c.below hb, g.n⟩
theorem run_span (x y : Sp) (w : World) : (Op.equalIn 10000 27 (sg x) (sg y)).run Tryz.prog w = .ok (decide (x = y)) w := by
 obtain ⟨a, b⟩ := x; obtain ⟨a2, b2⟩ := y; refine (eq_span 9998 w a b a2 b2).trans (congrArg (fun b => Result.ok b w) ?_); rw [Bool.eq_iff_iff]; simp
theorem run_risk (x y : Ri) (w : World) : (Op.equalIn 10000 29 (rg x) (rg y)).run Tryz.prog w = .ok (decide (x = y)) w := by
 obtain ⟨k, v, a, z⟩ := x; obtain ⟨k2, v2, a2, z2⟩ := y; refine (eq_risk 9998 w k v a z k2 v2 a2 z2).trans (congrArg (fun b => Result.ok b w) ?_); rw [Bool.eq_iff_iff]; simp [and_assoc]
theorem run_holding (x y : Rw) (w : World) : (Op.equalIn 10000 137 (.agg #[.bool x.v.h.on, .int .i64 x.v.h.r.k, .int .i64 x.v.h.r.v, .int .i64 x.v.h.r.a, .int .i64 x.v.h.r.z]) (.agg #[.bool y.v.h.on, .int .i64 y.v.h.r.k, .int .i64 y.v.h.r.v, .int .i64 y.v.h.r.a, .int .i64 y.v.h.r.z])).run Tryz.prog w = .ok (decide (x.v.h.on = y.v.h.on ∧ x.v.h.r = y.v.h.r)) w := by
 refine (eq_holding 9997 w _ _ _ _ _ _ _ _ _ _).trans (congrArg (fun b => Result.ok b w) ?_); obtain ⟨⟨s, ⟨o, ⟨k, v, a, z⟩, cs⟩, u⟩, A, n, c⟩ := x; obtain ⟨⟨s2, ⟨o2, ⟨k2, v2, a2, z2⟩, cs2⟩, u2⟩, A2, n2, c2⟩ := y; rw [Bool.eq_iff_iff]; simp [and_assoc]
theorem hd_eq (x y : Hd) : decide (x = y) = (decide (x.on = y.on ∧ x.r = y.r) && decide (x.cs = y.cs)) := by
 rw [Bool.eq_iff_iff]; cases x; cases y; simp [and_assoc]
theorem sc_eq (x y : Sc) : decide (x = y) = (decide (x.s = y.s ∧ (x.h.on = y.h.on ∧ x.h.r = y.h.r) ∧ x.y = y.y) && decide (x.h.cs = y.h.cs)) := by
 obtain ⟨s, ⟨o, r, cs⟩, u⟩ := x; obtain ⟨s2, ⟨o2, r2, cs2⟩, u2⟩ := y; rw [Bool.eq_iff_iff]; simp only [decide_eq_true_eq, Bool.and_eq_true, Sc.mk.injEq, Hd.mk.injEq]; constructor
 ·rintro ⟨h1, ⟨h2, h3, h4⟩, h5⟩; exact ⟨⟨h1, ⟨h2, h3⟩, h5⟩, h4⟩
 ·rintro ⟨⟨h1, ⟨h2, h3⟩, h5⟩, h4⟩; exact ⟨h1, ⟨h2, h3, h4⟩, h5⟩
theorem setl5 (x0 x1 x2 x3 x4 a0 a1 a2 a3 a4 : Value) : setl 0 [a0, a1, a2, a3, a4] #[x0, x1, x2, x3, x4] = #[a0, a1, a2, a3, a4] := by simp [setl]
theorem setl8 (x0 x1 x2 x3 x4 x5 x6 x7 a0 a1 a2 a3 a4 a5 a6 a7 : Value) : setl 0 [a0, a1, a2, a3, a4, a5, a6, a7] #[x0, x1, x2, x3, x4, x5, x6, x7] = #[a0, a1, a2, a3, a4, a5, a6, a7] := by simp [setl]
theorem setl9 (x0 x1 x2 x3 x4 x5 x6 x7 x8 a0 a1 a2 a3 a4 a5 a6 a7 a8 : Value) : setl 0 [a0, a1, a2, a3, a4, a5, a6, a7, a8] #[x0, x1, x2, x3, x4, x5, x6, x7, x8] = #[a0, a1, a2, a3, a4, a5, a6, a7, a8] := by simp [setl]
structure BB (r : Rw) (t : TypeId) (ys : Array Value) (w W : World) : Prop where
 b : Below w.heap.size w W
 x : Bx W w.heap.size 60 (vc r)
 y : Bx W (w.heap.size + 1) t ys
theorem BB.next {r : Rw} {t : TypeId} {ys : Array Value} {w W W' : World} (h : BB r t ys w W) (hb : Below W.heap.size W W') : BB r t ys w W' := ⟨h.b.trans (hb.mono h.b.size), h.x.keep hb, h.y.keep hb⟩
theorem BB.start (r : Rw) (t : TypeId) (ys : Array Value) (w : World) : BB r t ys w ((w.alloc (.cells (vc r) 60)).alloc (.cells ys t)) := by
 refine ⟨(alloc_ _ _).alloc (by simp) _, (Bx.new _ _ _).alloc _, ?_⟩; have := Bx.new (w.alloc (.cells (vc r) 60)) t ys; rw [World.size_alloc] at this; exact this
set_option maxRecDepth 100000 in
set_option maxHeartbeats 1000000 in
theorem holds_ (r : Rw) (w : World) : Calls Tryz.prog 98 #[vg r] w fun e w' => e = .returned (.agg #[.bool r.v.h.on, .int .i64 r.v.h.r.k, .int .i64 r.v.h.r.v, .int .i64 r.v.h.r.a, .int .i64 r.v.h.r.z]) ∧ Below w.heap.size w w' := by
 go_enter Tryz.func98, Tryz.ntmps98; go_wp2; have H0 := BB.start r 137 #[.bool r.v.h.on, .int .i64 r.v.h.r.k, .int .i64 r.v.h.r.v, .int .i64 r.v.h.r.a, .int .i64 r.v.h.r.z] w; have hx := H0.y; refine bodyPost_ret (v := .agg #[.bool r.v.h.on, .int .i64 r.v.h.r.k, .int .i64 r.v.h.r.v, .int .i64 r.v.h.r.a, .int .i64 r.v.h.r.z]) ?res rfl ⟨rfl, H0.b⟩
 case res =>
  have x0 := hx.c 0; have x1 := hx.c 1; have x2 := hx.c 2; have x3 := hx.c 3; have x4 := hx.c 4; simp at x0 x1 x2 x3 x4; simp [results, Tryz.results98, go_sem, x0, x1, x2, x3, x4]
end Slc
end Go.Proofs.YtplenoaajokpjaaGreat

namespace Go.Proofs.YtplenoaajokpjaaGreat
open Go.RowKit Ba Cv Sp Te Ag Sl Tm
namespace Slc
set_option linter.unusedVariables false
set_option maxRecDepth 100000 in
set_option maxHeartbeats 4000000 in
theorem alike_h (a b : Rw) (w : World) (ga : Gd w a) (gb : Gd w b) : Calls Tryz.prog 97 #[vg a, vg b, .func (.func 98) #[] #[]] w (Yes w (decide (a.v.h = b.v.h))) := by
 obtain ⟨W, hW⟩ : ∃ W, (w.alloc (.cells (vc a) 60)).alloc (.cells (vc b) 60) = W := ⟨_, rfl⟩; have H0 := Lib.hid (show Two (vc a) (vc b) w W by rw [← hW]; exact Two.start _ _ w); have HW := Lib.hid hW; clear hW; have C1 := fun p : Ext W => Lib.hid (holds_ a p.W)
 have C2 := fun p : Ext W => Lib.hid (holds_ b p.W)
 have C3 := fun p : Ext W => Lib.hid (equal a.A b.A a.n b.n a.c b.c a.v.h.cs b.v.h.cs p.W _ _ ((ga.c.below H0.out.b).below p.b) ((gb.c.below H0.out.b).below p.b) ga.n gb.n)
 rw [hd_eq]; have q0 := fun w => Lib.hid (run_holding a b w)
 clear ga gb; obtain ⟨B1, hB1⟩ : ∃ B1, decide (a.v.h.on = b.v.h.on ∧ a.v.h.r = b.v.h.r) = B1 := ⟨_, rfl⟩; obtain ⟨B2, hB2⟩ : ∃ B2, decide (a.v.h.cs = b.v.h.cs) = B2 := ⟨_, rfl⟩; rw [hB1] at q0 ⊢; rw [hB2] at C3 ⊢; clear hB1 hB2; have x0 : ∀ p : Ext W, p.W.cell? ⟨w.heap.size, 0, none⟩ = some (.int .i64 a.v.s.1) := fun p => H0.out.x.ext p 0
 have x1 : ∀ p : Ext W, p.W.cell? ⟨w.heap.size, 1, none⟩ = some (.int .i64 a.v.s.2) := fun p => H0.out.x.ext p 1
 have x2 : ∀ p : Ext W, p.W.cell? ⟨w.heap.size, 2, none⟩ = some (.bool a.v.h.on) := fun p => H0.out.x.ext p 2
 have x3 : ∀ p : Ext W, p.W.cell? ⟨w.heap.size, 3, none⟩ = some (.int .i64 a.v.h.r.k) := fun p => H0.out.x.ext p 3
 have x4 : ∀ p : Ext W, p.W.cell? ⟨w.heap.size, 4, none⟩ = some (.int .i64 a.v.h.r.v) := fun p => H0.out.x.ext p 4
 have x5 : ∀ p : Ext W, p.W.cell? ⟨w.heap.size, 5, none⟩ = some (.int .i64 a.v.h.r.a) := fun p => H0.out.x.ext p 5
 have x6 : ∀ p : Ext W, p.W.cell? ⟨w.heap.size, 6, none⟩ = some (.int .i64 a.v.h.r.z) := fun p => H0.out.x.ext p 6
 have x7 : ∀ p : Ext W, p.W.cell? ⟨w.heap.size, 7, none⟩ = some (.slice a.A a.n a.c) := fun p => H0.out.x.ext p 7
 have x8 : ∀ p : Ext W, p.W.cell? ⟨w.heap.size, 8, none⟩ = some (.int .i64 a.v.y) := fun p => H0.out.x.ext p 8
 have y0 : ∀ p : Ext W, p.W.cell? ⟨w.heap.size + 1, 0, none⟩ = some (.int .i64 b.v.s.1) := fun p => H0.out.y.ext p 0
 have y1 : ∀ p : Ext W, p.W.cell? ⟨w.heap.size + 1, 1, none⟩ = some (.int .i64 b.v.s.2) := fun p => H0.out.y.ext p 1
 have y2 : ∀ p : Ext W, p.W.cell? ⟨w.heap.size + 1, 2, none⟩ = some (.bool b.v.h.on) := fun p => H0.out.y.ext p 2
 have y3 : ∀ p : Ext W, p.W.cell? ⟨w.heap.size + 1, 3, none⟩ = some (.int .i64 b.v.h.r.k) := fun p => H0.out.y.ext p 3
 have y4 : ∀ p : Ext W, p.W.cell? ⟨w.heap.size + 1, 4, none⟩ = some (.int .i64 b.v.h.r.v) := fun p => H0.out.y.ext p 4
 have y5 : ∀ p : Ext W, p.W.cell? ⟨w.heap.size + 1, 5, none⟩ = some (.int .i64 b.v.h.r.a) := fun p => H0.out.y.ext p 5
 have y6 : ∀ p : Ext W, p.W.cell? ⟨w.heap.size + 1, 6, none⟩ = some (.int .i64 b.v.h.r.z) := fun p => H0.out.y.ext p 6
 have y7 : ∀ p : Ext W, p.W.cell? ⟨w.heap.size + 1, 7, none⟩ = some (.slice b.A b.n b.c) := fun p => H0.out.y.ext p 7
 have y8 : ∀ p : Ext W, p.W.cell? ⟨w.heap.size + 1, 8, none⟩ = some (.int .i64 b.v.y) := fun p => H0.out.y.ext p 8
 cases B1
 ·have q : ∀ w : World, (Op.equalIn 10000 137 (.agg #[.bool a.v.h.on, .int .i64 a.v.h.r.k, .int .i64 a.v.h.r.v, .int .i64 a.v.h.r.a, .int .i64 a.v.h.r.z]) (.agg #[.bool b.v.h.on, .int .i64 b.v.h.r.k, .int .i64 b.v.h.r.v, .int .i64 b.v.h.r.a, .int .i64 b.v.h.r.z])).run Tryz.prog w = .ok false w := fun w => (q0 w).out
  clear q0; go_enter Tryz.func97, Tryz.ntmps97
  go_upto_region 1 with fail
  rw [HW.out]; clear HW; have ne : Nonempty (Ext W) := ⟨⟨W, Below.refl _ _⟩⟩; refine quietE (by kernel_rfl) (by kernel_rfl) ?_
  repeat (first | go_big_quiet_skip | quiet_step (first
   | (go_at_call 98; with_reducible exact ext_of (C1 _).out)
   | (go_at_call 98; with_reducible exact ext_of (C2 _).out)
   | (go_at_call 124; with_reducible exact ext_of (C3 _).out)
   | fail))
  refine wpQuiet_nil ?_; rintro _ ⟨p, rfl⟩; have HB := Lib.hid (H0.out.b.trans (p.b.mono H0.out.b.size)); clear C1 C2 C3 ne q x0 x1 x2 x3 x4 x5 x6 x7 x8 y0 y1 y2 y3 y4 y5 y6 y7 y8; go_wp2; go_ret; exact ⟨rfl, HB.out⟩
 ·have q : ∀ w : World, (Op.equalIn 10000 137 (.agg #[.bool a.v.h.on, .int .i64 a.v.h.r.k, .int .i64 a.v.h.r.v, .int .i64 a.v.h.r.a, .int .i64 a.v.h.r.z]) (.agg #[.bool b.v.h.on, .int .i64 b.v.h.r.k, .int .i64 b.v.h.r.v, .int .i64 b.v.h.r.a, .int .i64 b.v.h.r.z])).run Tryz.prog w = .ok true w := fun w => (q0 w).out
  clear q0; go_enter Tryz.func97, Tryz.ntmps97
  go_upto_region 1 with fail
  rw [HW.out]; clear HW; have ne : Nonempty (Ext W) := ⟨⟨W, Below.refl _ _⟩⟩; refine quietE (by kernel_rfl) (by kernel_rfl) ?_
  repeat (first | go_big_quiet_skip | quiet_step (first
   | (go_at_call 98; with_reducible exact ext_of (C1 _).out)
   | (go_at_call 98; with_reducible exact ext_of (C2 _).out)
   | (go_at_call 124; with_reducible exact ext_of (C3 _).out)
   | fail))
  refine wpQuiet_nil ?_; rintro _ ⟨p, rfl⟩; have HB := Lib.hid (H0.out.b.trans (p.b.mono H0.out.b.size)); clear C1 C2 C3 ne q x0 x1 x2 x3 x4 x5 x6 x7 x8 y0 y1 y2 y3 y4 y5 y6 y7 y8; go_wp2; go_ret; exact ⟨rfl, HB.out⟩
end Slc
end Go.Proofs.YtplenoaajokpjaaGreat
