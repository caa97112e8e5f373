/-
  The parts Alike, Same12 of this proof. Conditions: those of each theorem.
-/
import Derived.Test.YtbjnjeidgdmdiaaGreatMSw
import Derived.Test.YtbjnjeidgdmdiaaGreatKInv
namespace Go.Proofs.YtbjnjeidgdmdiaaGreat
open Go.RowKit Ba Cv Sp Te Ag Sl Tm
namespace Slc
set_option linter.unusedVariables false
structure Two (xs ys : Array Value) (w W : World) : Prop where
 b : Below w.heap.size w W
 x : Bx W w.heap.size 73 xs
 y : Bx W (w.heap.size + 1) 73 ys
theorem Two.next {xs ys : Array Value} {w W W' : World} (h : Two xs ys w W) (hb : Below W.heap.size W W') : Two xs ys w W' := ⟨h.b.trans (hb.mono h.b.size), h.x.keep hb, h.y.keep hb⟩
theorem Two.start (xs ys : Array Value) (w : World) : Two xs ys w ((w.alloc (.cells xs 73)).alloc (.cells ys 73)) := by
 refine ⟨(alloc_ _ _).alloc (by simp) _, (Bx.new _ _ _).alloc _, ?_⟩; have := Bx.new (w.alloc (.cells xs 73)) 73 ys; rw [World.size_alloc] at this; exact this
structure Gd (w : World) (r : Rw) : Prop where
 c : Cvs w (· < w.heap.size) r.A r.n r.v.h.cs
 n : r.n ≤ 3000
theorem Gd.below {w W : World} {r : Rw} (g : Gd w r) (hb : Below w.heap.size w W) : Gd W r := ⟨g.c.below hb, g.n⟩
theorem run_span (x y : Sp) (w : World) : (Op.equalIn 10000 23 (sg x) (sg y)).run Tryz.prog w = .ok (decide (x = y)) w := by
 obtain ⟨a, b⟩ := x; obtain ⟨a2, b2⟩ := y; refine (eq_span 9998 w a b a2 b2).trans (congrArg (fun b => Result.ok b w) ?_); rw [Bool.eq_iff_iff]; simp
theorem run_risk (x y : Ri) (w : World) : (Op.equalIn 10000 25 (rg x) (rg y)).run Tryz.prog w = .ok (decide (x = y)) w := by
 obtain ⟨k, v, a, z⟩ := x; obtain ⟨k2, v2, a2, z2⟩ := y; refine (eq_risk 9998 w k v a z k2 v2 a2 z2).trans (congrArg (fun b => Result.ok b w) ?_); rw [Bool.eq_iff_iff]; simp [and_assoc]
theorem run_holding (x y : Rw) (w : World) : (Op.equalIn 10000 146 (.agg #[.bool x.v.h.on, .int .i64 x.v.h.r.k, .int .i64 x.v.h.r.v, .int .i64 x.v.h.r.a, .int .i64 x.v.h.r.z]) (.agg #[.bool y.v.h.on, .int .i64 y.v.h.r.k, .int .i64 y.v.h.r.v, .int .i64 y.v.h.r.a, .int .i64 y.v.h.r.z])).run Tryz.prog w = .ok (decide (x.v.h.on = y.v.h.on ∧ x.v.h.r = y.v.h.r)) w := by
 refine (eq_holding 9997 w _ _ _ _ _ _ _ _ _ _).trans (congrArg (fun b => Result.ok b w) ?_); obtain ⟨⟨s, ⟨o, ⟨k, v, a, z⟩, cs⟩, u⟩, A, n, c⟩ := x; obtain ⟨⟨s2, ⟨o2, ⟨k2, v2, a2, z2⟩, cs2⟩, u2⟩, A2, n2, c2⟩ := y; rw [Bool.eq_iff_iff]; simp [and_assoc]
theorem run_said (x y : Rw) (w : World) : (Op.equalIn 10000 167 (.agg #[.int .i64 x.v.s.1, .int .i64 x.v.s.2, .bool x.v.h.on, .int .i64 x.v.h.r.k, .int .i64 x.v.h.r.v, .int .i64 x.v.h.r.a, .int .i64 x.v.h.r.z, .int .i64 x.v.y]) (.agg #[.int .i64 y.v.s.1, .int .i64 y.v.s.2, .bool y.v.h.on, .int .i64 y.v.h.r.k, .int .i64 y.v.h.r.v, .int .i64 y.v.h.r.a, .int .i64 y.v.h.r.z, .int .i64 y.v.y])).run Tryz.prog w = .ok (decide (x.v.s = y.v.s ∧ (x.v.h.on = y.v.h.on ∧ x.v.h.r = y.v.h.r) ∧ x.v.y = y.v.y)) w := by
 refine (eq_said 9996 w _ _ _ _ _ _ _ _ _ _ _ _ _ _ _ _).trans (congrArg (fun b => Result.ok b w) ?_); obtain ⟨⟨⟨f, t⟩, ⟨o, ⟨k, v, a, z⟩, cs⟩, u⟩, A, n, c⟩ := x; obtain ⟨⟨⟨f2, t2⟩, ⟨o2, ⟨k2, v2, a2, z2⟩, cs2⟩, u2⟩, A2, n2, c2⟩ := y; rw [Bool.eq_iff_iff]; simp [and_assoc]
theorem hd_eq (x y : Hd) : decide (x = y) = (decide (x.on = y.on ∧ x.r = y.r) && decide (x.cs = y.cs)) := by
 rw [Bool.eq_iff_iff]; cases x; cases y; simp [and_assoc]
theorem sc_eq (x y : Sc) : decide (x = y) = (decide (x.s = y.s ∧ (x.h.on = y.h.on ∧ x.h.r = y.h.r) ∧ x.y = y.y) && decide (x.h.cs = y.h.cs)) := by
 obtain ⟨s, ⟨o, r, cs⟩, u⟩ := x; obtain ⟨s2, ⟨o2, r2, cs2⟩, u2⟩ := y; rw [Bool.eq_iff_iff]; simp only [decide_eq_true_eq, Bool.and_eq_true, Sc.mk.injEq, Hd.mk.injEq]; constructor
 ·rintro ⟨h1, ⟨h2, h3, h4⟩, h5⟩; exact ⟨⟨h1, ⟨h2, h3⟩, h5⟩, h4⟩
 ·rintro ⟨⟨h1, ⟨h2, h3⟩, h5⟩, h4⟩; exact ⟨h1, ⟨h2, h3, h4⟩, h5⟩
theorem setl5 (x0 x1 x2 x3 x4 a0 a1 a2 a3 a4 : Value) : setl 0 [a0, a1, a2, a3, a4] #[x0, x1, x2, x3, x4] = #[a0, a1, a2, a3, a4] := by simp [setl]
theorem setl8 (x0 x1 x2 x3 x4 x5 x6 x7 a0 a1 a2 a3 a4 a5 a6 a7 : Value) : setl 0 [a0, a1, a2, a3, a4, a5, a6, a7] #[x0, x1, x2, x3, x4, x5, x6, x7] = #[a0, a1, a2, a3, a4, a5, a6, a7] := by simp [setl]
theorem setl9 (x0 x1 x2 x3 x4 x5 x6 x7 x8 a0 a1 a2 a3 a4 a5 a6 a7 a8 : Value) : setl 0 [a0, a1, a2, a3, a4, a5, a6, a7, a8] #[x0, x1, x2, x3, x4, x5, x6, x7, x8] = #[a0, a1, a2, a3, a4, a5, a6, a7, a8] := by simp [setl]
structure BB (r : Rw) (t : TypeId) (ys : Array Value) (w W : World) : Prop where
 b : Below w.heap.size w W
 x : Bx W w.heap.size 73 (vc r)
 y : Bx W (w.heap.size + 1) t ys
theorem BB.next {r : Rw} {t : TypeId} {ys : Array Value} {w W W' : World} (h : BB r t ys w W) (hb : Below W.heap.size W W') : BB r t ys w W' := ⟨h.b.trans (hb.mono h.b.size), h.x.keep hb, h.y.keep hb⟩
theorem BB.start (r : Rw) (t : TypeId) (ys : Array Value) (w : World) : BB r t ys w ((w.alloc (.cells (vc r) 73)).alloc (.cells ys t)) := by
 refine ⟨(alloc_ _ _).alloc (by simp) _, (Bx.new _ _ _).alloc _, ?_⟩; have := Bx.new (w.alloc (.cells (vc r) 73)) t ys; rw [World.size_alloc] at this; exact this
set_option maxRecDepth 100000 in
set_option maxHeartbeats 1000000 in
theorem holds_ (r : Rw) (w : World) : Calls Tryz.prog 109 #[vg r] w fun e w' => e = .returned (.agg #[.bool r.v.h.on, .int .i64 r.v.h.r.k, .int .i64 r.v.h.r.v, .int .i64 r.v.h.r.a, .int .i64 r.v.h.r.z]) ∧ Below w.heap.size w w' := by
 go_enter Tryz.func109, Tryz.ntmps109; go_wp2; have H0 := BB.start r 146 #[.bool r.v.h.on, .int .i64 r.v.h.r.k, .int .i64 r.v.h.r.v, .int .i64 r.v.h.r.a, .int .i64 r.v.h.r.z] w; have hx := H0.y; refine bodyPost_ret (v := .agg #[.bool r.v.h.on, .int .i64 r.v.h.r.k, .int .i64 r.v.h.r.v, .int .i64 r.v.h.r.a, .int .i64 r.v.h.r.z]) ?res rfl ⟨rfl, H0.b⟩
 case res =>
  have x0 := hx.c 0; have x1 := hx.c 1; have x2 := hx.c 2; have x3 := hx.c 3; have x4 := hx.c 4; simp at x0 x1 x2 x3 x4; simp [results, Tryz.results109, go_sem, x0, x1, x2, x3, x4]
structure SY (w : World) (r : Rw) (L : Nat → Bool) (w' : World) (v3 v4 v5 v6 v7 v8 v9 : Value) : Prop where
 b : Below w.heap.size w w'
 x : Bx w' w.heap.size 73 (vc r)
 y : ∃ x0 x1 x2 x3 x4 x5 x6 x7 : Value, Bx w' (w.heap.size + 1) 167 #[x0, x1, x2, x3, x4, x5, x6, x7]
 f0 : L 0 = true → v3 = .pointer (some ⟨w.heap.size, 0, none⟩)
 f1 : L 1 = true → v4 = sg r.v.s
 f2 : L 2 = true → v5 = vg r
 f3 : L 3 = true → v6 = .agg #[.bool r.v.h.on, .int .i64 r.v.h.r.k, .int .i64 r.v.h.r.v, .int .i64 r.v.h.r.a, .int .i64 r.v.h.r.z]
 f4 : L 4 = true → v7 = .pointer (some ⟨w.heap.size, 8, none⟩)
 f5 : L 5 = true → v8 = .int .i64 r.v.y
 f6 : L 6 = true → v9 = .agg #[.int .i64 r.v.s.1, .int .i64 r.v.s.2, .bool r.v.h.on, .int .i64 r.v.h.r.k, .int .i64 r.v.h.r.v, .int .i64 r.v.h.r.a, .int .i64 r.v.h.r.z, .int .i64 r.v.y]
 f7 : L 7 = true → Bx w' (w.heap.size + 1) 167 #[.int .i64 r.v.s.1, .int .i64 r.v.s.2, .bool r.v.h.on, .int .i64 r.v.h.r.k, .int .i64 r.v.h.r.v, .int .i64 r.v.h.r.a, .int .i64 r.v.h.r.z, .int .i64 r.v.y]
theorem SY.up {w : World} {r : Rw} {L : Nat → Bool} {w' w2 : World} {v3 v4 v5 v6 v7 v8 v9 : Value} (H : SY w r L w' v3 v4 v5 v6 v7 v8 v9) (hb : Below w'.heap.size w' w2) : SY w r L w2 v3 v4 v5 v6 v7 v8 v9 :=
 ⟨H.b.trans (hb.mono H.b.size), H.x.keep hb, (by obtain ⟨x0, x1, x2, x3, x4, x5, x6, x7, h⟩ := H.y; exact ⟨_, _, _, _, _, _, _, _, h.keep hb⟩), H.f0, H.f1, H.f2, H.f3, H.f4, H.f5, H.f6, fun l => (H.f7 l).keep hb⟩
theorem SY.s0 {w : World} {r : Rw} {L : Nat → Bool} {w' : World} {v3 v4 v5 v6 v7 v8 v9 : Value} (H : SY w r L w' v3 v4 v5 v6 v7 v8 v9) {z : Value} (k : z = .pointer (some ⟨w.heap.size, 0, none⟩)) : SY w r (fun j => j == 0 || L j) w' z v4 v5 v6 v7 v8 v9 := ⟨H.b, H.x, H.y, fun _ => k, H.f1, H.f2, H.f3, H.f4, H.f5, H.f6, H.f7⟩
theorem SY.s1 {w : World} {r : Rw} {L : Nat → Bool} {w' : World} {v3 v4 v5 v6 v7 v8 v9 : Value} (H : SY w r L w' v3 v4 v5 v6 v7 v8 v9) {z : Value} (k : z = sg r.v.s) : SY w r (fun j => j == 1 || L j) w' v3 z v5 v6 v7 v8 v9 := ⟨H.b, H.x, H.y, H.f0, fun _ => k, H.f2, H.f3, H.f4, H.f5, H.f6, H.f7⟩
theorem SY.s2 {w : World} {r : Rw} {L : Nat → Bool} {w' : World} {v3 v4 v5 v6 v7 v8 v9 : Value} (H : SY w r L w' v3 v4 v5 v6 v7 v8 v9) {z : Value} (k : z = vg r) : SY w r (fun j => j == 2 || L j) w' v3 v4 z v6 v7 v8 v9 := ⟨H.b, H.x, H.y, H.f0, H.f1, fun _ => k, H.f3, H.f4, H.f5, H.f6, H.f7⟩
theorem SY.s3 {w : World} {r : Rw} {L : Nat → Bool} {w' : World} {v3 v4 v5 v6 v7 v8 v9 : Value} (H : SY w r L w' v3 v4 v5 v6 v7 v8 v9) {z : Value} (k : z = .agg #[.bool r.v.h.on, .int .i64 r.v.h.r.k, .int .i64 r.v.h.r.v, .int .i64 r.v.h.r.a, .int .i64 r.v.h.r.z]) : SY w r (fun j => j == 3 || L j) w' v3 v4 v5 z v7 v8 v9 := ⟨H.b, H.x, H.y, H.f0, H.f1, H.f2, fun _ => k, H.f4, H.f5, H.f6, H.f7⟩
theorem SY.s4 {w : World} {r : Rw} {L : Nat → Bool} {w' : World} {v3 v4 v5 v6 v7 v8 v9 : Value} (H : SY w r L w' v3 v4 v5 v6 v7 v8 v9) {z : Value} (k : z = .pointer (some ⟨w.heap.size, 8, none⟩)) : SY w r (fun j => j == 4 || L j) w' v3 v4 v5 v6 z v8 v9 := ⟨H.b, H.x, H.y, H.f0, H.f1, H.f2, H.f3, fun _ => k, H.f5, H.f6, H.f7⟩
theorem SY.s5 {w : World} {r : Rw} {L : Nat → Bool} {w' : World} {v3 v4 v5 v6 v7 v8 v9 : Value} (H : SY w r L w' v3 v4 v5 v6 v7 v8 v9) {z : Value} (k : z = .int .i64 r.v.y) : SY w r (fun j => j == 5 || L j) w' v3 v4 v5 v6 v7 z v9 := ⟨H.b, H.x, H.y, H.f0, H.f1, H.f2, H.f3, H.f4, fun _ => k, H.f6, H.f7⟩
theorem SY.s6 {w : World} {r : Rw} {L : Nat → Bool} {w' : World} {v3 v4 v5 v6 v7 v8 v9 : Value} (H : SY w r L w' v3 v4 v5 v6 v7 v8 v9) {z : Value} (k : z = .agg #[.int .i64 r.v.s.1, .int .i64 r.v.s.2, .bool r.v.h.on, .int .i64 r.v.h.r.k, .int .i64 r.v.h.r.v, .int .i64 r.v.h.r.a, .int .i64 r.v.h.r.z, .int .i64 r.v.y]) : SY w r (fun j => j == 6 || L j) w' v3 v4 v5 v6 v7 v8 z := ⟨H.b, H.x, H.y, H.f0, H.f1, H.f2, H.f3, H.f4, H.f5, fun _ => k, H.f7⟩
theorem SY.s7 {w : World} {r : Rw} {L : Nat → Bool} {w' : World} {v3 v4 v5 v6 v7 v8 v9 : Value} (H : SY w r L w' v3 v4 v5 v6 v7 v8 v9) : SY w r (fun j => j == 7 || L j) (sets (w.heap.size + 1) 0 [.int .i64 r.v.s.1, .int .i64 r.v.s.2, .bool r.v.h.on, .int .i64 r.v.h.r.k, .int .i64 r.v.h.r.v, .int .i64 r.v.h.r.a, .int .i64 r.v.h.r.z, .int .i64 r.v.y] w') v3 v4 v5 v6 v7 v8 v9 := by
 obtain ⟨x0, x1, x2, x3, x4, x5, x6, x7, hy⟩ := H.y; have h := hy.sets [.int .i64 r.v.s.1, .int .i64 r.v.s.2, .bool r.v.h.on, .int .i64 r.v.h.r.k, .int .i64 r.v.h.r.v, .int .i64 r.v.h.r.a, .int .i64 r.v.h.r.z, .int .i64 r.v.y] 0; rw [setl8] at h; exact ⟨sets_below _ (by omega) 0 w' H.b, H.x.sets_far (by omega) _ 0, ⟨_, _, _, _, _, _, _, _, h⟩, H.f0, H.f1, H.f2, H.f3, H.f4, H.f5, H.f6, fun _ => h⟩
set_option maxRecDepth 100000 in
set_option maxHeartbeats 4000000 in
theorem says_ (r : Rw) (w : World) : Calls Tryz.prog 130 #[vg r] w fun e w' => e = .returned (.agg #[.int .i64 r.v.s.1, .int .i64 r.v.s.2, .bool r.v.h.on, .int .i64 r.v.h.r.k, .int .i64 r.v.h.r.v, .int .i64 r.v.h.r.a, .int .i64 r.v.h.r.z, .int .i64 r.v.y]) ∧ Below w.heap.size w w' := by
 obtain ⟨W, hW⟩ : ∃ W, (w.alloc (.cells (vc r) 73)).alloc (.cells #[.int .i64 0, .int .i64 0, .bool false, .int .i64 0, .int .i64 0, .int .i64 0, .int .i64 0, .int .i64 0] 167) = W := ⟨_, rfl⟩; have H0 := Lib.hid (show BB r 167 #[.int .i64 0, .int .i64 0, .bool false, .int .i64 0, .int .i64 0, .int .i64 0, .int .i64 0, .int .i64 0] w W by rw [← hW]; exact BB.start r _ _ w); have HW := Lib.hid hW; clear hW; go_enter Tryz.func130, Tryz.ntmps130
 go_upto_region 1 with fail
 rw [HW.out]; refine wp_region_steps (fun L_ a_ w_ => ∃ (v3 v4 v5 v6 v7 v8 v9 : Value), a_ = { tmps := #[vg r, .pointer (some ⟨w.heap.size, 0, none⟩), .pointer (some ⟨w.heap.size + 1, 0, none⟩), v3, v4, v5, v6, v7, v8, v9], defers := [] } ∧ Hid (SY w r L_ w_ v3 v4 v5 v6 v7 v8 v9)) (by kernel_rfl) (by kernel_rfl) ?_ (AllSteps.cons ?_ (AllSteps.cons ?_ (AllSteps.cons ?_ (AllSteps.cons ?_ (AllSteps.cons ?_ (AllSteps.cons ?_ (AllSteps.cons ?_ (AllSteps.cons ?_ AllSteps.nil)))))))) ?_
 ·exact ⟨_, _, _, _, _, _, _, rfl, Lib.hid ⟨H0.out.b.trans ⟨rfl, rfl, rfl, Nat.le_refl _, fun _ _ => rfl⟩, H0.out.x, ⟨_, _, _, _, _, _, _, _, H0.out.y⟩, (fun h => by cases h), (fun h => by cases h), (fun h => by cases h), (fun h => by cases h), (fun h => by cases h), (fun h => by cases h), (fun h => by cases h), (fun h => by cases h)⟩⟩
 ·rintro L_ a_ w_ hL hd ⟨v3, v4, v5, v6, v7, v8, v9, rfl, HR⟩ K hK; clear hd; go_simp; exact hK.out _ _ ⟨_, _, _, _, _, _, _, rfl, Lib.hid (HR.out.s0 rfl)⟩
 ·rintro L_ a_ w_ hL hd ⟨v3, v4, v5, v6, v7, v8, v9, rfl, HR⟩ K hK; have e0 := HR.out.f0 (hd ⟨0, .data⟩ (by simp) rfl); subst e0; have x0 := HR.out.x.c 0; have x1 := HR.out.x.c 1; simp at x0 x1; clear hd; go_simp; exact hK.out _ _ ⟨_, _, _, _, _, _, _, rfl, Lib.hid (HR.out.s1 rfl)⟩
 ·rintro L_ a_ w_ hL hd ⟨v3, v4, v5, v6, v7, v8, v9, rfl, HR⟩ K hK; have x0 := HR.out.x.c 0; have x1 := HR.out.x.c 1; have x2 := HR.out.x.c 2; have x3 := HR.out.x.c 3; have x4 := HR.out.x.c 4; have x5 := HR.out.x.c 5; have x6 := HR.out.x.c 6; have x7 := HR.out.x.c 7; have x8 := HR.out.x.c 8; simp at x0 x1 x2 x3 x4 x5 x6 x7 x8; clear hd; go_simp; exact hK.out _ _ ⟨_, _, _, _, _, _, _, rfl, Lib.hid (HR.out.s2 rfl)⟩
 ·rintro L_ a_ w_ hL hd ⟨v3, v4, v5, v6, v7, v8, v9, rfl, HR⟩ K hK; have e2 := HR.out.f2 (hd ⟨2, .data⟩ (by simp) rfl); subst e2; clear hd; go_simp; refine (holds_ r w_).mono ?_; rintro e w5 ⟨rfl, hb5⟩; have HR2 := Lib.hid (HR.out.up hb5); clear hb5
  try go_simp
  exact hK.out _ _ ⟨_, _, _, _, _, _, _, rfl, Lib.hid (HR2.out.s3 rfl)⟩
 ·rintro L_ a_ w_ hL hd ⟨v3, v4, v5, v6, v7, v8, v9, rfl, HR⟩ K hK; clear hd; go_simp; exact hK.out _ _ ⟨_, _, _, _, _, _, _, rfl, Lib.hid (HR.out.s4 rfl)⟩
 ·rintro L_ a_ w_ hL hd ⟨v3, v4, v5, v6, v7, v8, v9, rfl, HR⟩ K hK; have e4 := HR.out.f4 (hd ⟨4, .data⟩ (by simp) rfl); subst e4; have x8 := HR.out.x.c 8; simp at x8; clear hd; go_simp; exact hK.out _ _ ⟨_, _, _, _, _, _, _, rfl, Lib.hid (HR.out.s5 rfl)⟩
 ·rintro L_ a_ w_ hL hd ⟨v3, v4, v5, v6, v7, v8, v9, rfl, HR⟩ K hK; have e1 := HR.out.f1 (hd ⟨1, .data⟩ (by simp) rfl); subst e1; have e3 := HR.out.f3 (hd ⟨3, .data⟩ (by simp) rfl); subst e3; have e5 := HR.out.f5 (hd ⟨5, .data⟩ (by simp) rfl); subst e5; clear hd; go_simp; exact hK.out _ _ ⟨_, _, _, _, _, _, _, rfl, Lib.hid (HR.out.s6 rfl)⟩
 ·rintro L_ a_ w_ hL hd ⟨v3, v4, v5, v6, v7, v8, v9, rfl, HR⟩ K hK; have e6 := HR.out.f6 (hd ⟨6, .data⟩ (by simp) rfl); subst e6; obtain ⟨y0, y1, y2, y3, y4, y5, y6, y7, hy⟩ := HR.out.y; have fy := hy.f; have z0 := hy.c 0; have z1 := hy.c 1; have z2 := hy.c 2; have z3 := hy.c 3; have z4 := hy.c 4; have z5 := hy.c 5; have z6 := hy.c 6; have z7 := hy.c 7; simp at z0 z1 z2 z3 z4 z5 z6 z7; clear hd; go_simp; exact hK.out _ _ ⟨_, _, _, _, _, _, _, rfl, Lib.hid (HR.out.s7)⟩
 ·rintro L_ a_ w_ hL ⟨v3, v4, v5, v6, v7, v8, v9, rfl, HR⟩; have hx := HR.out.f7 (hL 7 (by decide)); have HB := Lib.hid HR.out.b; clear HR hL; dsimp only [Exit.then]; go_step; go_wp2; refine bodyPost_ret (v := .agg #[.int .i64 r.v.s.1, .int .i64 r.v.s.2, .bool r.v.h.on, .int .i64 r.v.h.r.k, .int .i64 r.v.h.r.v, .int .i64 r.v.h.r.a, .int .i64 r.v.h.r.z, .int .i64 r.v.y]) ?res rfl ⟨rfl, HB.out⟩
  case res =>
   have x0 := hx.c 0; have x1 := hx.c 1; have x2 := hx.c 2; have x3 := hx.c 3; have x4 := hx.c 4; have x5 := hx.c 5; have x6 := hx.c 6; have x7 := hx.c 7; simp at x0 x1 x2 x3 x4 x5 x6 x7; simp [results, Tryz.results130, go_sem, x0, x1, x2, x3, x4, x5, x6, x7]
end Slc
end Go.Proofs.YtbjnjeidgdmdiaaGreat

namespace Go.Proofs.YtbjnjeidgdmdiaaGreat
open Go.RowKit Ba Cv Sp Te Ag Sl Tm
namespace Slc
set_option linter.unusedVariables false
set_option maxRecDepth 100000 in
set_option maxHeartbeats 4000000 in
theorem alike_h (a b : Rw) (w : World) (ga : Gd w a) (gb : Gd w b) : Calls Tryz.prog 108 #[vg a, vg b, .func (.func 109) #[] #[]] w (Yes w (decide (a.v.h = b.v.h))) := by
 obtain ⟨W, hW⟩ : ∃ W, (w.alloc (.cells (vc a) 73)).alloc (.cells (vc b) 73) = W := ⟨_, rfl⟩; have H0 := Lib.hid (show Two (vc a) (vc b) w W by rw [← hW]; exact Two.start _ _ w); have HW := Lib.hid hW; clear hW; have C1 := fun p : Ext W => Lib.hid (holds_ a p.W)
 have C2 := fun p : Ext W => Lib.hid (holds_ b p.W)
 have C3 := fun p : Ext W => Lib.hid (equal a.A b.A a.n b.n a.c b.c a.v.h.cs b.v.h.cs p.W _ _ ((ga.c.below H0.out.b).below p.b) ((gb.c.below H0.out.b).below p.b) ga.n gb.n)
 rw [hd_eq]; have q0 := fun w => Lib.hid (run_holding a b w)
 clear ga gb; obtain ⟨B1, hB1⟩ : ∃ B1, decide (a.v.h.on = b.v.h.on ∧ a.v.h.r = b.v.h.r) = B1 := ⟨_, rfl⟩; obtain ⟨B2, hB2⟩ : ∃ B2, decide (a.v.h.cs = b.v.h.cs) = B2 := ⟨_, rfl⟩; rw [hB1] at q0 ⊢; rw [hB2] at C3 ⊢; clear hB1 hB2; have x0 : ∀ p : Ext W, p.W.cell? ⟨w.heap.size, 0, none⟩ = some (.int .i64 a.v.s.1) := fun p => H0.out.x.ext p 0
 have x1 : ∀ p : Ext W, p.W.cell? ⟨w.heap.size, 1, none⟩ = some (.int .i64 a.v.s.2) := fun p => H0.out.x.ext p 1
 have x2 : ∀ p : Ext W, p.W.cell? ⟨w.heap.size, 2, none⟩ = some (.bool a.v.h.on) := fun p => H0.out.x.ext p 2
 have x3 : ∀ p : Ext W, p.W.cell? ⟨w.heap.size, 3, none⟩ = some (.int .i64 a.v.h.r.k) := fun p => H0.out.x.ext p 3
 have x4 : ∀ p : Ext W, p.W.cell? ⟨w.heap.size, 4, none⟩ = some (.int .i64 a.v.h.r.v) := fun p => H0.out.x.ext p 4
 have x5 : ∀ p : Ext W, p.W.cell? ⟨w.heap.size, 5, none⟩ = some (.int .i64 a.v.h.r.a) := fun p => H0.out.x.ext p 5
 have x6 : ∀ p : Ext W, p.W.cell? ⟨w.heap.size, 6, none⟩ = some (.int .i64 a.v.h.r.z) := fun p => H0.out.x.ext p 6
 have x7 : ∀ p : Ext W, p.W.cell? ⟨w.heap.size, 7, none⟩ = some (.slice a.A a.n a.c) := fun p => H0.out.x.ext p 7
 have x8 : ∀ p : Ext W, p.W.cell? ⟨w.heap.size, 8, none⟩ = some (.int .i64 a.v.y) := fun p => H0.out.x.ext p 8
 have y0 : ∀ p : Ext W, p.W.cell? ⟨w.heap.size + 1, 0, none⟩ = some (.int .i64 b.v.s.1) := fun p => H0.out.y.ext p 0
 have y1 : ∀ p : Ext W, p.W.cell? ⟨w.heap.size + 1, 1, none⟩ = some (.int .i64 b.v.s.2) := fun p => H0.out.y.ext p 1
 have y2 : ∀ p : Ext W, p.W.cell? ⟨w.heap.size + 1, 2, none⟩ = some (.bool b.v.h.on) := fun p => H0.out.y.ext p 2
 have y3 : ∀ p : Ext W, p.W.cell? ⟨w.heap.size + 1, 3, none⟩ = some (.int .i64 b.v.h.r.k) := fun p => H0.out.y.ext p 3
 have y4 : ∀ p : Ext W, p.W.cell? ⟨w.heap.size + 1, 4, none⟩ = some (.int .i64 b.v.h.r.v) := fun p => H0.out.y.ext p 4
 have y5 : ∀ p : Ext W, p.W.cell? ⟨w.heap.size + 1, 5, none⟩ = some (.int .i64 b.v.h.r.a) := fun p => H0.out.y.ext p 5
 have y6 : ∀ p : Ext W, p.W.cell? ⟨w.heap.size + 1, 6, none⟩ = some (.int .i64 b.v.h.r.z) := fun p => H0.out.y.ext p 6
 have y7 : ∀ p : Ext W, p.W.cell? ⟨w.heap.size + 1, 7, none⟩ = some (.slice b.A b.n b.c) := fun p => H0.out.y.ext p 7
 have y8 : ∀ p : Ext W, p.W.cell? ⟨w.heap.size + 1, 8, none⟩ = some (.int .i64 b.v.y) := fun p => H0.out.y.ext p 8
 cases B1
 ·have q : ∀ w : World, (Op.equalIn 10000 146 (.agg #[.bool a.v.h.on, .int .i64 a.v.h.r.k, .int .i64 a.v.h.r.v, .int .i64 a.v.h.r.a, .int .i64 a.v.h.r.z]) (.agg #[.bool b.v.h.on, .int .i64 b.v.h.r.k, .int .i64 b.v.h.r.v, .int .i64 b.v.h.r.a, .int .i64 b.v.h.r.z])).run Tryz.prog w = .ok false w := fun w => (q0 w).out
  clear q0; go_enter Tryz.func108, Tryz.ntmps108
  go_upto_region 1 with fail
  rw [HW.out]; clear HW; have ne : Nonempty (Ext W) := ⟨⟨W, Below.refl _ _⟩⟩; refine quietE (by kernel_rfl) (by kernel_rfl) ?_
  repeat (first | go_big_quiet_skip | quiet_step (first
   | (go_at_call 109; with_reducible exact ext_of (C1 _).out)
   | (go_at_call 109; with_reducible exact ext_of (C2 _).out)
   | (go_at_call 145; with_reducible exact ext_of (C3 _).out)
   | fail))
  refine wpQuiet_nil ?_; rintro _ ⟨p, rfl⟩; have HB := Lib.hid (H0.out.b.trans (p.b.mono H0.out.b.size)); clear C1 C2 C3 ne q x0 x1 x2 x3 x4 x5 x6 x7 x8 y0 y1 y2 y3 y4 y5 y6 y7 y8; go_wp2; go_ret; exact ⟨rfl, HB.out⟩
 ·have q : ∀ w : World, (Op.equalIn 10000 146 (.agg #[.bool a.v.h.on, .int .i64 a.v.h.r.k, .int .i64 a.v.h.r.v, .int .i64 a.v.h.r.a, .int .i64 a.v.h.r.z]) (.agg #[.bool b.v.h.on, .int .i64 b.v.h.r.k, .int .i64 b.v.h.r.v, .int .i64 b.v.h.r.a, .int .i64 b.v.h.r.z])).run Tryz.prog w = .ok true w := fun w => (q0 w).out
  clear q0; go_enter Tryz.func108, Tryz.ntmps108
  go_upto_region 1 with fail
  rw [HW.out]; clear HW; have ne : Nonempty (Ext W) := ⟨⟨W, Below.refl _ _⟩⟩; refine quietE (by kernel_rfl) (by kernel_rfl) ?_
  repeat (first | go_big_quiet_skip | quiet_step (first
   | (go_at_call 109; with_reducible exact ext_of (C1 _).out)
   | (go_at_call 109; with_reducible exact ext_of (C2 _).out)
   | (go_at_call 145; with_reducible exact ext_of (C3 _).out)
   | fail))
  refine wpQuiet_nil ?_; rintro _ ⟨p, rfl⟩; have HB := Lib.hid (H0.out.b.trans (p.b.mono H0.out.b.size)); clear C1 C2 C3 ne q x0 x1 x2 x3 x4 x5 x6 x7 x8 y0 y1 y2 y3 y4 y5 y6 y7 y8; go_wp2; go_ret; exact ⟨rfl, HB.out⟩
set_option maxRecDepth 100000 in
set_option maxHeartbeats 4000000 in
theorem alike_s (a b : Rw) (w : World) (ga : Gd w a) (gb : Gd w b) : Calls Tryz.prog 129 #[vg a, vg b, .func (.func 130) #[] #[]] w (Yes w (decide (a.v = b.v))) := by
 obtain ⟨W, hW⟩ : ∃ W, (w.alloc (.cells (vc a) 73)).alloc (.cells (vc b) 73) = W := ⟨_, rfl⟩; have H0 := Lib.hid (show Two (vc a) (vc b) w W by rw [← hW]; exact Two.start _ _ w); have HW := Lib.hid hW; clear hW; have C1 := fun p : Ext W => Lib.hid (says_ a p.W)
 have C2 := fun p : Ext W => Lib.hid (says_ b p.W)
 have C3 := fun p : Ext W => Lib.hid (equal a.A b.A a.n b.n a.c b.c a.v.h.cs b.v.h.cs p.W _ _ ((ga.c.below H0.out.b).below p.b) ((gb.c.below H0.out.b).below p.b) ga.n gb.n)
 rw [sc_eq]; have q0 := fun w => Lib.hid (run_said a b w)
 clear ga gb; obtain ⟨B1, hB1⟩ : ∃ B1, decide (a.v.s = b.v.s ∧ (a.v.h.on = b.v.h.on ∧ a.v.h.r = b.v.h.r) ∧ a.v.y = b.v.y) = B1 := ⟨_, rfl⟩; obtain ⟨B2, hB2⟩ : ∃ B2, decide (a.v.h.cs = b.v.h.cs) = B2 := ⟨_, rfl⟩; rw [hB1] at q0 ⊢; rw [hB2] at C3 ⊢; clear hB1 hB2; have x0 : ∀ p : Ext W, p.W.cell? ⟨w.heap.size, 0, none⟩ = some (.int .i64 a.v.s.1) := fun p => H0.out.x.ext p 0
 have x1 : ∀ p : Ext W, p.W.cell? ⟨w.heap.size, 1, none⟩ = some (.int .i64 a.v.s.2) := fun p => H0.out.x.ext p 1
 have x2 : ∀ p : Ext W, p.W.cell? ⟨w.heap.size, 2, none⟩ = some (.bool a.v.h.on) := fun p => H0.out.x.ext p 2
 have x3 : ∀ p : Ext W, p.W.cell? ⟨w.heap.size, 3, none⟩ = some (.int .i64 a.v.h.r.k) := fun p => H0.out.x.ext p 3
 have x4 : ∀ p : Ext W, p.W.cell? ⟨w.heap.size, 4, none⟩ = some (.int .i64 a.v.h.r.v) := fun p => H0.out.x.ext p 4
 have x5 : ∀ p : Ext W, p.W.cell? ⟨w.heap.size, 5, none⟩ = some (.int .i64 a.v.h.r.a) := fun p => H0.out.x.ext p 5
 have x6 : ∀ p : Ext W, p.W.cell? ⟨w.heap.size, 6, none⟩ = some (.int .i64 a.v.h.r.z) := fun p => H0.out.x.ext p 6
 have x7 : ∀ p : Ext W, p.W.cell? ⟨w.heap.size, 7, none⟩ = some (.slice a.A a.n a.c) := fun p => H0.out.x.ext p 7
 have x8 : ∀ p : Ext W, p.W.cell? ⟨w.heap.size, 8, none⟩ = some (.int .i64 a.v.y) := fun p => H0.out.x.ext p 8
 have y0 : ∀ p : Ext W, p.W.cell? ⟨w.heap.size + 1, 0, none⟩ = some (.int .i64 b.v.s.1) := fun p => H0.out.y.ext p 0
 have y1 : ∀ p : Ext W, p.W.cell? ⟨w.heap.size + 1, 1, none⟩ = some (.int .i64 b.v.s.2) := fun p => H0.out.y.ext p 1
 have y2 : ∀ p : Ext W, p.W.cell? ⟨w.heap.size + 1, 2, none⟩ = some (.bool b.v.h.on) := fun p => H0.out.y.ext p 2
 have y3 : ∀ p : Ext W, p.W.cell? ⟨w.heap.size + 1, 3, none⟩ = some (.int .i64 b.v.h.r.k) := fun p => H0.out.y.ext p 3
 have y4 : ∀ p : Ext W, p.W.cell? ⟨w.heap.size + 1, 4, none⟩ = some (.int .i64 b.v.h.r.v) := fun p => H0.out.y.ext p 4
 have y5 : ∀ p : Ext W, p.W.cell? ⟨w.heap.size + 1, 5, none⟩ = some (.int .i64 b.v.h.r.a) := fun p => H0.out.y.ext p 5
 have y6 : ∀ p : Ext W, p.W.cell? ⟨w.heap.size + 1, 6, none⟩ = some (.int .i64 b.v.h.r.z) := fun p => H0.out.y.ext p 6
 have y7 : ∀ p : Ext W, p.W.cell? ⟨w.heap.size + 1, 7, none⟩ = some (.slice b.A b.n b.c) := fun p => H0.out.y.ext p 7
 have y8 : ∀ p : Ext W, p.W.cell? ⟨w.heap.size + 1, 8, none⟩ = some (.int .i64 b.v.y) := fun p => H0.out.y.ext p 8
 cases B1
 ·have q : ∀ w : World, (Op.equalIn 10000 167 (.agg #[.int .i64 a.v.s.1, .int .i64 a.v.s.2, .bool a.v.h.on, .int .i64 a.v.h.r.k, .int .i64 a.v.h.r.v, .int .i64 a.v.h.r.a, .int .i64 a.v.h.r.z, .int .i64 a.v.y]) (.agg #[.int .i64 b.v.s.1, .int .i64 b.v.s.2, .bool b.v.h.on, .int .i64 b.v.h.r.k, .int .i64 b.v.h.r.v, .int .i64 b.v.h.r.a, .int .i64 b.v.h.r.z, .int .i64 b.v.y])).run Tryz.prog w = .ok false w := fun w => (q0 w).out
  clear q0; go_enter Tryz.func129, Tryz.ntmps129
  go_upto_region 1 with fail
  rw [HW.out]; clear HW; have ne : Nonempty (Ext W) := ⟨⟨W, Below.refl _ _⟩⟩; refine quietE (by kernel_rfl) (by kernel_rfl) ?_
  repeat (first | go_big_quiet_skip | quiet_step (first
   | (go_at_call 130; with_reducible exact ext_of (C1 _).out)
   | (go_at_call 130; with_reducible exact ext_of (C2 _).out)
   | (go_at_call 145; with_reducible exact ext_of (C3 _).out)
   | fail))
  refine wpQuiet_nil ?_; rintro _ ⟨p, rfl⟩; have HB := Lib.hid (H0.out.b.trans (p.b.mono H0.out.b.size)); clear C1 C2 C3 ne q x0 x1 x2 x3 x4 x5 x6 x7 x8 y0 y1 y2 y3 y4 y5 y6 y7 y8; go_wp2; go_ret; exact ⟨rfl, HB.out⟩
 ·have q : ∀ w : World, (Op.equalIn 10000 167 (.agg #[.int .i64 a.v.s.1, .int .i64 a.v.s.2, .bool a.v.h.on, .int .i64 a.v.h.r.k, .int .i64 a.v.h.r.v, .int .i64 a.v.h.r.a, .int .i64 a.v.h.r.z, .int .i64 a.v.y]) (.agg #[.int .i64 b.v.s.1, .int .i64 b.v.s.2, .bool b.v.h.on, .int .i64 b.v.h.r.k, .int .i64 b.v.h.r.v, .int .i64 b.v.h.r.a, .int .i64 b.v.h.r.z, .int .i64 b.v.y])).run Tryz.prog w = .ok true w := fun w => (q0 w).out
  clear q0; go_enter Tryz.func129, Tryz.ntmps129
  go_upto_region 1 with fail
  rw [HW.out]; clear HW; have ne : Nonempty (Ext W) := ⟨⟨W, Below.refl _ _⟩⟩; refine quietE (by kernel_rfl) (by kernel_rfl) ?_
  repeat (first | go_big_quiet_skip | quiet_step (first
   | (go_at_call 130; with_reducible exact ext_of (C1 _).out)
   | (go_at_call 130; with_reducible exact ext_of (C2 _).out)
   | (go_at_call 145; with_reducible exact ext_of (C3 _).out)
   | fail))
  refine wpQuiet_nil ?_; rintro _ ⟨p, rfl⟩; have HB := Lib.hid (H0.out.b.trans (p.b.mono H0.out.b.size)); clear C1 C2 C3 ne q x0 x1 x2 x3 x4 x5 x6 x7 x8 y0 y1 y2 y3 y4 y5 y6 y7 y8; go_wp2; go_ret; exact ⟨rfl, HB.out⟩
end Slc
end Go.Proofs.YtbjnjeidgdmdiaaGreat
