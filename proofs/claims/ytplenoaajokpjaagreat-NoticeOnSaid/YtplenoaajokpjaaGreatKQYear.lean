/-
  One and Year of package quote. Conditions: those of each theorem.
-/
import Derived.Test.YtplenoaajokpjaaGreatMQb
namespace Go.Proofs.YtplenoaajokpjaaGreat
open Go.RowKit Ba Tf Cv Qm
namespace Qo
set_option linter.unusedVariables false
theorem flip {P : Program} {f : FuncId} {args : Array Value} {w : World} {v : Value} (h : Calls P f args w fun e w' => e = .returned v ∧ w = w') : Calls P f args w fun e w' => e = .returned v ∧ w' = w :=
 h.mono fun _ _ ⟨he, hm⟩ => ⟨he, hm.symm⟩
structure B3 (w W : World) (r : Rw) (x : Ri) (c : Co) : Prop where
 b : Below w.heap.size w W
 v : Bx W w.heap.size 70 (vc r)
 r : Bx W (w.heap.size + 1) 29 (rc x)
 c : Bx W (w.heap.size + 1 + 1) 41 (cc c)
section
variable {w W W' : World} {r : Rw} {x : Ri} {c : Co}
theorem B3.next (h : B3 w W r x c) (hb : Below W.heap.size W W') : B3 w W' r x c := ⟨h.b.trans (hb.mono h.b.size), h.v.keep hb, h.r.keep hb, h.c.keep hb⟩
theorem B3.start (w : World) (r : Rw) (x : Ri) (c : Co) : B3 w (((w.alloc (.cells (vc r) 70)).alloc (.cells (rc x) 29)).alloc (.cells (cc c) 41)) r x c := by
 refine ⟨((alloc_ _ _).alloc (by simp) _).alloc (by simp; omega) _, ((Bx.new _ _ _).alloc _).alloc _, ?_, ?_⟩
 ·have := (Bx.new (w.alloc (.cells (vc r) 70)) 29 (rc x)).alloc (.cells (cc c) 41); rw [World.size_alloc] at this; exact this
 ·have := Bx.new ((w.alloc (.cells (vc r) 70)).alloc (.cells (rc x) 29)) 41 (cc c); rw [World.size_alloc, World.size_alloc] at this; exact this
end
theorem ins_box {W : World} {b : Nat} {xs : List Int} (h : Bx W b 3 (xs.map (Value.int .i64)).toArray) (ok : Nat → Prop) (hb : ok b) : Ins W ok (some ⟨b, 0, none⟩) xs.length xs := by
 refine ⟨rfl, fun _ => ⟨_, rfl, hb, fun j x hx => ?_⟩⟩; rw [Addr.add_lit, Nat.zero_add, h.c]; simp [hx]
theorem base_cell {W : World} {b : Nat} {r : Rw} {k : Nat} (h : Bx W b 70 (vc r)) (hk : k ≤ 3) : W.cell? ⟨b, 1 + k, none⟩ = some (.int .i64 (bs r.v (k : Int))) := by
 rw [h.c]
 match k, hk with
 | 0, _ => rfl
 | 1, _ => rfl
 | 2, _ => rfl
 | 3, _ => rfl
abbrev Tells (w : World) (v : Int × Int) (e : Ending) (w' : World) : Prop := e = .returned (.tuple #[.int .i64 v.1, .int .i64 v.2]) ∧ Below w.heap.size w w'
set_option maxRecDepth 100000 in
set_option maxHeartbeats 2000000 in
theorem cost_arg1 (r : Rw) (x : Ri) (c : Co) (w : World) (CV : ∀ W : World, Below w.heap.size w W → Hid (Calls Tryz.prog 116 #[vg r] W (Yes W false))) : Calls Tryz.prog 91 #[vg r, rg x, cg c] w (Tells w (0, 1)) := by
 obtain ⟨W, hW⟩ : ∃ W, (((w.alloc (.cells (vc r) 70)).alloc (.cells (rc x) 29)).alloc (.cells (cc c) 41)) = W := ⟨_, rfl⟩; have HB0 := Lib.hid (show B3 w W r x c by rw [← hW]; exact B3.start w r x c); have HW := Lib.hid hW; clear hW; go_enter Tryz.func91, Tryz.ntmps91
 go_wp2_with fail
 rw [HW.out]; refine (CV _ HB0.out.b).out.mono ?_; rintro e w1 ⟨rfl, hb1⟩; have HB1 := Lib.hid (HB0.out.next hb1); clear hb1 HB0 HW CV; have x0 := HB1.out.v.c 0; have x1 := HB1.out.v.c 1; have x2 := HB1.out.v.c 2; have x3 := HB1.out.v.c 3; have x4 := HB1.out.v.c 4; have x5 := HB1.out.v.c 5; have x6 := HB1.out.v.c 6; have x7 := HB1.out.v.c 7; have x8 := HB1.out.v.c 8; have y0 := HB1.out.r.c 0; have y1 := HB1.out.r.c 1; have y2 := HB1.out.r.c 2; have y3 := HB1.out.r.c 3; have z0 := HB1.out.c.c 0; have z1 := HB1.out.c.c 1; have z2 := HB1.out.c.c 2; have z3 := HB1.out.c.c 3; have z4 := HB1.out.c.c 4; simp at x0 x1 x2 x3 x4 x5 x6 x7 x8 y0 y1 y2 y3 z0 z1 z2 z3 z4; go_wp2; go_ret2; exact ⟨rfl, HB1.out.b⟩
set_option maxRecDepth 100000 in
set_option maxHeartbeats 2000000 in
theorem cost_arg2 (r : Rw) (x : Ri) (c : Co) (w : World) (CV : ∀ W : World, Below w.heap.size w W → Hid (Calls Tryz.prog 116 #[vg r] W (Yes W true))) (CR : ∀ W : World, Hid (Calls Tryz.prog 79 #[rg x] W (Yes W false))) : Calls Tryz.prog 91 #[vg r, rg x, cg c] w (Tells w (0, 1)) := by
 obtain ⟨W, hW⟩ : ∃ W, (((w.alloc (.cells (vc r) 70)).alloc (.cells (rc x) 29)).alloc (.cells (cc c) 41)) = W := ⟨_, rfl⟩; have HB0 := Lib.hid (show B3 w W r x c by rw [← hW]; exact B3.start w r x c); have HW := Lib.hid hW; clear hW; go_enter Tryz.func91, Tryz.ntmps91
 go_wp2_with fail
 rw [HW.out]; refine (CV _ HB0.out.b).out.mono ?_; rintro e w1 ⟨rfl, hb1⟩; have HB1 := Lib.hid (HB0.out.next hb1); clear hb1 HB0 HW CV; have x0 := HB1.out.v.c 0; have x1 := HB1.out.v.c 1; have x2 := HB1.out.v.c 2; have x3 := HB1.out.v.c 3; have x4 := HB1.out.v.c 4; have x5 := HB1.out.v.c 5; have x6 := HB1.out.v.c 6; have x7 := HB1.out.v.c 7; have x8 := HB1.out.v.c 8; have y0 := HB1.out.r.c 0; have y1 := HB1.out.r.c 1; have y2 := HB1.out.r.c 2; have y3 := HB1.out.r.c 3; have z0 := HB1.out.c.c 0; have z1 := HB1.out.c.c 1; have z2 := HB1.out.c.c 2; have z3 := HB1.out.c.c 3; have z4 := HB1.out.c.c 4; simp at x0 x1 x2 x3 x4 x5 x6 x7 x8 y0 y1 y2 y3 z0 z1 z2 z3 z4
 go_wp2_with fail
 refine (CR _).out.mono ?_; rintro e w2 ⟨rfl, hb2⟩; have HB2 := Lib.hid (HB1.out.next hb2); clear hb2 HB1 CR x0 x1 x2 x3 x4 x5 x6 x7 x8 y0 y1 y2 y3 z0 z1 z2 z3 z4; have x0 := HB2.out.v.c 0; have x1 := HB2.out.v.c 1; have x2 := HB2.out.v.c 2; have x3 := HB2.out.v.c 3; have x4 := HB2.out.v.c 4; have x5 := HB2.out.v.c 5; have x6 := HB2.out.v.c 6; have x7 := HB2.out.v.c 7; have x8 := HB2.out.v.c 8; have y0 := HB2.out.r.c 0; have y1 := HB2.out.r.c 1; have y2 := HB2.out.r.c 2; have y3 := HB2.out.r.c 3; have z0 := HB2.out.c.c 0; have z1 := HB2.out.c.c 1; have z2 := HB2.out.c.c 2; have z3 := HB2.out.c.c 3; have z4 := HB2.out.c.c 4; simp at x0 x1 x2 x3 x4 x5 x6 x7 x8 y0 y1 y2 y3 z0 z1 z2 z3 z4; go_wp2; go_ret2; exact ⟨rfl, HB2.out.b⟩
set_option maxRecDepth 100000 in
set_option maxHeartbeats 2000000 in
theorem cost_arg3 (r : Rw) (x : Ri) (c : Co) (w : World) (CV : ∀ W : World, Below w.heap.size w W → Hid (Calls Tryz.prog 116 #[vg r] W (Yes W true))) (CR : ∀ W : World, Hid (Calls Tryz.prog 79 #[rg x] W (Yes W true))) (CC : ∀ W : World, Hid (Calls Tryz.prog 111 #[cg c] W (Yes W false))) : Calls Tryz.prog 91 #[vg r, rg x, cg c] w (Tells w (0, 1)) := by
 obtain ⟨W, hW⟩ : ∃ W, (((w.alloc (.cells (vc r) 70)).alloc (.cells (rc x) 29)).alloc (.cells (cc c) 41)) = W := ⟨_, rfl⟩; have HB0 := Lib.hid (show B3 w W r x c by rw [← hW]; exact B3.start w r x c); have HW := Lib.hid hW; clear hW; go_enter Tryz.func91, Tryz.ntmps91
 go_wp2_with fail
 rw [HW.out]; refine (CV _ HB0.out.b).out.mono ?_; rintro e w1 ⟨rfl, hb1⟩; have HB1 := Lib.hid (HB0.out.next hb1); clear hb1 HB0 HW CV; have x0 := HB1.out.v.c 0; have x1 := HB1.out.v.c 1; have x2 := HB1.out.v.c 2; have x3 := HB1.out.v.c 3; have x4 := HB1.out.v.c 4; have x5 := HB1.out.v.c 5; have x6 := HB1.out.v.c 6; have x7 := HB1.out.v.c 7; have x8 := HB1.out.v.c 8; have y0 := HB1.out.r.c 0; have y1 := HB1.out.r.c 1; have y2 := HB1.out.r.c 2; have y3 := HB1.out.r.c 3; have z0 := HB1.out.c.c 0; have z1 := HB1.out.c.c 1; have z2 := HB1.out.c.c 2; have z3 := HB1.out.c.c 3; have z4 := HB1.out.c.c 4; simp at x0 x1 x2 x3 x4 x5 x6 x7 x8 y0 y1 y2 y3 z0 z1 z2 z3 z4
 go_wp2_with fail
 refine (CR _).out.mono ?_; rintro e w2 ⟨rfl, hb2⟩; have HB2 := Lib.hid (HB1.out.next hb2); clear hb2 HB1 CR x0 x1 x2 x3 x4 x5 x6 x7 x8 y0 y1 y2 y3 z0 z1 z2 z3 z4; have x0 := HB2.out.v.c 0; have x1 := HB2.out.v.c 1; have x2 := HB2.out.v.c 2; have x3 := HB2.out.v.c 3; have x4 := HB2.out.v.c 4; have x5 := HB2.out.v.c 5; have x6 := HB2.out.v.c 6; have x7 := HB2.out.v.c 7; have x8 := HB2.out.v.c 8; have y0 := HB2.out.r.c 0; have y1 := HB2.out.r.c 1; have y2 := HB2.out.r.c 2; have y3 := HB2.out.r.c 3; have z0 := HB2.out.c.c 0; have z1 := HB2.out.c.c 1; have z2 := HB2.out.c.c 2; have z3 := HB2.out.c.c 3; have z4 := HB2.out.c.c 4; simp at x0 x1 x2 x3 x4 x5 x6 x7 x8 y0 y1 y2 y3 z0 z1 z2 z3 z4
 go_wp2_with fail
 refine (CC _).out.mono ?_; rintro e w3 ⟨rfl, hb3⟩; have HB3 := Lib.hid (HB2.out.next hb3); clear hb3 HB2 CC x0 x1 x2 x3 x4 x5 x6 x7 x8 y0 y1 y2 y3 z0 z1 z2 z3 z4; have x0 := HB3.out.v.c 0; have x1 := HB3.out.v.c 1; have x2 := HB3.out.v.c 2; have x3 := HB3.out.v.c 3; have x4 := HB3.out.v.c 4; have x5 := HB3.out.v.c 5; have x6 := HB3.out.v.c 6; have x7 := HB3.out.v.c 7; have x8 := HB3.out.v.c 8; have y0 := HB3.out.r.c 0; have y1 := HB3.out.r.c 1; have y2 := HB3.out.r.c 2; have y3 := HB3.out.r.c 3; have z0 := HB3.out.c.c 0; have z1 := HB3.out.c.c 1; have z2 := HB3.out.c.c 2; have z3 := HB3.out.c.c 3; have z4 := HB3.out.c.c 4; simp at x0 x1 x2 x3 x4 x5 x6 x7 x8 y0 y1 y2 y3 z0 z1 z2 z3 z4; go_wp2; go_ret2; exact ⟨rfl, HB3.out.b⟩
set_option maxRecDepth 100000 in
set_option maxHeartbeats 2000000 in
theorem cost_none (r : Rw) (x : Ri) (c : Co) (w : World) (CV : ∀ W : World, Below w.heap.size w W → Hid (Calls Tryz.prog 116 #[vg r] W (Yes W true))) (CR : ∀ W : World, Hid (Calls Tryz.prog 79 #[rg x] W (Yes W true))) (CC : ∀ W : World, Hid (Calls Tryz.prog 111 #[cg c] W (Yes W true))) (t1 : decide ((r.lz : Int) ≤ x.z) = true) : Calls Tryz.prog 91 #[vg r, rg x, cg c] w (Tells w (0, 7)) := by
 obtain ⟨W, hW⟩ : ∃ W, (((w.alloc (.cells (vc r) 70)).alloc (.cells (rc x) 29)).alloc (.cells (cc c) 41)) = W := ⟨_, rfl⟩; have HB0 := Lib.hid (show B3 w W r x c by rw [← hW]; exact B3.start w r x c); have HW := Lib.hid hW; clear hW; go_enter Tryz.func91, Tryz.ntmps91
 go_wp2_with fail
 rw [HW.out]; refine (CV _ HB0.out.b).out.mono ?_; rintro e w1 ⟨rfl, hb1⟩; have HB1 := Lib.hid (HB0.out.next hb1); clear hb1 HB0 HW CV; have x0 := HB1.out.v.c 0; have x1 := HB1.out.v.c 1; have x2 := HB1.out.v.c 2; have x3 := HB1.out.v.c 3; have x4 := HB1.out.v.c 4; have x5 := HB1.out.v.c 5; have x6 := HB1.out.v.c 6; have x7 := HB1.out.v.c 7; have x8 := HB1.out.v.c 8; have y0 := HB1.out.r.c 0; have y1 := HB1.out.r.c 1; have y2 := HB1.out.r.c 2; have y3 := HB1.out.r.c 3; have z0 := HB1.out.c.c 0; have z1 := HB1.out.c.c 1; have z2 := HB1.out.c.c 2; have z3 := HB1.out.c.c 3; have z4 := HB1.out.c.c 4; simp at x0 x1 x2 x3 x4 x5 x6 x7 x8 y0 y1 y2 y3 z0 z1 z2 z3 z4
 go_wp2_with fail
 refine (CR _).out.mono ?_; rintro e w2 ⟨rfl, hb2⟩; have HB2 := Lib.hid (HB1.out.next hb2); clear hb2 HB1 CR x0 x1 x2 x3 x4 x5 x6 x7 x8 y0 y1 y2 y3 z0 z1 z2 z3 z4; have x0 := HB2.out.v.c 0; have x1 := HB2.out.v.c 1; have x2 := HB2.out.v.c 2; have x3 := HB2.out.v.c 3; have x4 := HB2.out.v.c 4; have x5 := HB2.out.v.c 5; have x6 := HB2.out.v.c 6; have x7 := HB2.out.v.c 7; have x8 := HB2.out.v.c 8; have y0 := HB2.out.r.c 0; have y1 := HB2.out.r.c 1; have y2 := HB2.out.r.c 2; have y3 := HB2.out.r.c 3; have z0 := HB2.out.c.c 0; have z1 := HB2.out.c.c 1; have z2 := HB2.out.c.c 2; have z3 := HB2.out.c.c 3; have z4 := HB2.out.c.c 4; simp at x0 x1 x2 x3 x4 x5 x6 x7 x8 y0 y1 y2 y3 z0 z1 z2 z3 z4
 go_wp2_with fail
 refine (CC _).out.mono ?_; rintro e w3 ⟨rfl, hb3⟩; have HB3 := Lib.hid (HB2.out.next hb3); clear hb3 HB2 CC x0 x1 x2 x3 x4 x5 x6 x7 x8 y0 y1 y2 y3 z0 z1 z2 z3 z4; have x0 := HB3.out.v.c 0; have x1 := HB3.out.v.c 1; have x2 := HB3.out.v.c 2; have x3 := HB3.out.v.c 3; have x4 := HB3.out.v.c 4; have x5 := HB3.out.v.c 5; have x6 := HB3.out.v.c 6; have x7 := HB3.out.v.c 7; have x8 := HB3.out.v.c 8; have y0 := HB3.out.r.c 0; have y1 := HB3.out.r.c 1; have y2 := HB3.out.r.c 2; have y3 := HB3.out.r.c 3; have z0 := HB3.out.c.c 0; have z1 := HB3.out.c.c 1; have z2 := HB3.out.c.c 2; have z3 := HB3.out.c.c 3; have z4 := HB3.out.c.c 4; simp at x0 x1 x2 x3 x4 x5 x6 x7 x8 y0 y1 y2 y3 z0 z1 z2 z3 z4; go_wp2; go_ret2; exact ⟨rfl, HB3.out.b⟩
set_option maxRecDepth 100000 in
set_option maxHeartbeats 2000000 in
theorem cost_ok (r : Rw) (k z p : Nat) (xv xa cl' cg' cd' cs' : Int) (w : World) (M : Mean w (· < w.heap.size) r) (S : Lo r)
  (CV : ∀ W : World, Below w.heap.size w W → Hid (Calls Tryz.prog 116 #[vg r] W (Yes W true))) (CR : ∀ W : World, Hid (Calls Tryz.prog 79 #[rg ⟨k, xv, xa, z⟩] W (Yes W true))) (CC : ∀ W : World, Hid (Calls Tryz.prog 111 #[cg ⟨p, cl', cg', cd', cs'⟩] W (Yes W true)))
  (hk : k ≤ 3) (hz : z < r.lz) (hp : p < r.lp) (hv : 0 ≤ xv ∧ xv ≤ 4000000000000000000) (ps : List Int) (hps : ps = parts r.v ⟨k, xv, xa, z⟩ ⟨p, cl', cg', cd', cs'⟩) (hb : ∀ y ∈ ps, 0 ≤ y ∧ y ≤ 100000) (T : Option Int) (hT : tk xv ps = T) :
  Calls Tryz.prog 91 #[vg r, rg ⟨k, xv, xa, z⟩, cg ⟨p, cl', cg', cd', cs'⟩] w (Tells w (tkN (T.map (max · r.v.mn)), tkE T)) := by
 obtain ⟨W, hW⟩ : ∃ W, (((w.alloc (.cells (vc r) 70)).alloc (.cells (rc ⟨k, xv, xa, z⟩) 29)).alloc (.cells (cc ⟨p, cl', cg', cd', cs'⟩) 41)) = W := ⟨_, rfl⟩; have HB0 := Lib.hid (show B3 w W r ⟨k, xv, xa, z⟩ ⟨p, cl', cg', cd', cs'⟩ by rw [← hW]; exact B3.start w r ⟨k, xv, xa, z⟩ ⟨p, cl', cg', cd', cs'⟩); have HW := Lib.hid hW; clear hW; go_enter Tryz.func91, Tryz.ntmps91
 go_wp2_with fail
 rw [HW.out]; refine (CV _ HB0.out.b).out.mono ?_; rintro e w1 ⟨rfl, hb1⟩; have HB1 := Lib.hid (HB0.out.next hb1); clear hb1 HB0 HW CV; have x0 := HB1.out.v.c 0; have x1 := HB1.out.v.c 1; have x2 := HB1.out.v.c 2; have x3 := HB1.out.v.c 3; have x4 := HB1.out.v.c 4; have x5 := HB1.out.v.c 5; have x6 := HB1.out.v.c 6; have x7 := HB1.out.v.c 7; have x8 := HB1.out.v.c 8; have y0 := HB1.out.r.c 0; have y1 := HB1.out.r.c 1; have y2 := HB1.out.r.c 2; have y3 := HB1.out.r.c 3; have z0 := HB1.out.c.c 0; have z1 := HB1.out.c.c 1; have z2 := HB1.out.c.c 2; have z3 := HB1.out.c.c 3; have z4 := HB1.out.c.c 4; simp at x0 x1 x2 x3 x4 x5 x6 x7 x8 y0 y1 y2 y3 z0 z1 z2 z3 z4
 go_wp2_with fail
 refine (CR _).out.mono ?_; rintro e w2 ⟨rfl, hb2⟩; have HB2 := Lib.hid (HB1.out.next hb2); clear hb2 HB1 CR x0 x1 x2 x3 x4 x5 x6 x7 x8 y0 y1 y2 y3 z0 z1 z2 z3 z4; have x0 := HB2.out.v.c 0; have x1 := HB2.out.v.c 1; have x2 := HB2.out.v.c 2; have x3 := HB2.out.v.c 3; have x4 := HB2.out.v.c 4; have x5 := HB2.out.v.c 5; have x6 := HB2.out.v.c 6; have x7 := HB2.out.v.c 7; have x8 := HB2.out.v.c 8; have y0 := HB2.out.r.c 0; have y1 := HB2.out.r.c 1; have y2 := HB2.out.r.c 2; have y3 := HB2.out.r.c 3; have z0 := HB2.out.c.c 0; have z1 := HB2.out.c.c 1; have z2 := HB2.out.c.c 2; have z3 := HB2.out.c.c 3; have z4 := HB2.out.c.c 4; simp at x0 x1 x2 x3 x4 x5 x6 x7 x8 y0 y1 y2 y3 z0 z1 z2 z3 z4
 go_wp2_with fail
 refine (CC _).out.mono ?_; rintro e w3 ⟨rfl, hb3⟩; have HB3 := Lib.hid (HB2.out.next hb3); clear hb3 HB2 CC x0 x1 x2 x3 x4 x5 x6 x7 x8 y0 y1 y2 y3 z0 z1 z2 z3 z4; have x0 := HB3.out.v.c 0; have x1 := HB3.out.v.c 1; have x2 := HB3.out.v.c 2; have x3 := HB3.out.v.c 3; have x4 := HB3.out.v.c 4; have x5 := HB3.out.v.c 5; have x6 := HB3.out.v.c 6; have x7 := HB3.out.v.c 7; have x8 := HB3.out.v.c 8; have y0 := HB3.out.r.c 0; have y1 := HB3.out.r.c 1; have y2 := HB3.out.r.c 2; have y3 := HB3.out.r.c 3; have z0 := HB3.out.c.c 0; have z1 := HB3.out.c.c 1; have z2 := HB3.out.c.c 2; have z3 := HB3.out.c.c 3; have z4 := HB3.out.c.c 4; simp at x0 x1 x2 x3 x4 x5 x6 x7 x8 y0 y1 y2 y3 z0 z1 z2 z3 z4; have t1 : decide ((r.lz : Int) ≤ (z : Int)) = false := decide_eq_false (by omega); have t1' : decide (r.lz ≤ z) = false := decide_eq_false (by omega); obtain ⟨az, zv, eZ, _, gz, cz⟩ := (M.z.below HB3.out.b).get hz; obtain ⟨ap, pv, eP, _, gp, cp⟩ := (M.p.below HB3.out.b).get hp; have cb := base_cell HB3.out.v hk; have hla := S.a; have CB := fun (W : World) (h : Below w.heap.size w W) => Lib.hid (band r.A r.la r.ca r.v.ag xa W _ (M.a.below h) (by unfold maxLen; omega))
 have CT := fun (W : World) (L : Option Addr) (d : Nat) (hS : Ins W (· < W.heap.size) L 5 ps) => Lib.hid (by have h := taken L 5 d ps xv W hS (by unfold maxLen; omega) hv hb; rw [hT] at h; exact h)
 have e5 : ps = [bs r.v k, bnd xa r.v.ag, zv, pv, cs'] := by
  rw [hps]; unfold parts; simp only [Int.toNat_natCast, List.getD_eq_getElem?_getD, gz, gp, Option.getD_some]
 rw [eZ] at x6; rw [eP] at x7; generalize bnd xa r.v.ag = bv at CB e5; generalize bs r.v k = sv at cb e5; have HE5 := Lib.hid e5; have kz : (z : Int) < (r.lz : Int) := by omega
 have kp : (p : Int) < (r.lp : Int) := by omega
 have kk : (k : Int) < 4 := by omega
 clear e5 gz gp hb hps hT eZ eP; go_wp2; refine wp_region_still_tail 24 (by kernel_rfl) (by kernel_rfl) ?_; simp only [List.take_succ_cons, List.take_zero, List.drop_succ_cons, List.drop_zero]
 repeat still_step
 still_call (flip (CB w3.drew (HB3.out.b.trans (B := w.heap.size) ⟨rfl, rfl, rfl, Nat.le_refl _, fun _ _ => rfl⟩)).out)
 repeat still_step
 refine wpStill_nil ?_; have HB4 := Lib.hid (show B3 w w3.drew r ⟨k, xv, xa, z⟩ ⟨p, cl', cg', cd', cs'⟩ from HB3.out.next ⟨rfl, rfl, rfl, Nat.le_refl _, fun _ _ => rfl⟩); change wpList _ _ _ _ _ w3.drew; generalize w3.drew = w4 at HB4 ⊢; have HL := Lib.hid (Bx.new w4 3 #[.int .i64 sv, .int .i64 bv, .int .i64 zv, .int .i64 pv, .int .i64 cs']); have HI := Lib.hid (show Ins (w4.alloc (.cells #[.int .i64 sv, .int .i64 bv, .int .i64 zv, .int .i64 pv, .int .i64 cs'] 3)) (· < (w4.alloc (.cells #[.int .i64 sv, .int .i64 bv, .int .i64 zv, .int .i64 pv, .int .i64 cs'] 3)).heap.size) (some ⟨w4.heap.size, 0, none⟩) 5 ps by rw [HE5.out]; exact ins_box (xs := [sv, bv, zv, pv, cs']) HL.out _ HL.out.lt); have CT1 := CT _ _ 5 HI.out; have HB5 := Lib.hid (HB4.out.next (alloc_ w4 (.cells #[.int .i64 sv, .int .i64 bv, .int .i64 zv, .int .i64 pv, .int .i64 cs'] 3))); clear CT CB HB3 HL HI x0 x1 x2 x3 x4 x5 x6 x7 x8 y0 y1 y2 y3 z0 z1 z2 z3 z4 cb cz cp M S HB4; have x0 := HB5.out.v.c 0; have x1 := HB5.out.v.c 1; have x2 := HB5.out.v.c 2; have x3 := HB5.out.v.c 3; have x4 := HB5.out.v.c 4; have x5 := HB5.out.v.c 5; have x6 := HB5.out.v.c 6; have x7 := HB5.out.v.c 7; have x8 := HB5.out.v.c 8; have y0 := HB5.out.r.c 0; have y1 := HB5.out.r.c 1; have y2 := HB5.out.r.c 2; have y3 := HB5.out.r.c 3; have z0 := HB5.out.c.c 0; have z1 := HB5.out.c.c 1; have z2 := HB5.out.c.c 2; have z3 := HB5.out.c.c 3; have z4 := HB5.out.c.c 4; simp at x0 x1 x2 x3 x4 x5 x6 x7 x8 y0 y1 y2 y3 z0 z1 z2 z3 z4
 go_wp2_with fail
 refine CT1.out.mono ?_; rintro e w5 ⟨rfl, hb5⟩; have HB6 := Lib.hid (HB5.out.next hb5); clear hb5 HB5 CT1 x0 x1 x2 x3 x4 x5 x6 x7 x8 y0 y1 y2 y3 z0 z1 z2 z3 z4; have x0 := HB6.out.v.c 0; have x1 := HB6.out.v.c 1; have x2 := HB6.out.v.c 2; have x3 := HB6.out.v.c 3; have x4 := HB6.out.v.c 4; have x5 := HB6.out.v.c 5; have x6 := HB6.out.v.c 6; have x7 := HB6.out.v.c 7; have x8 := HB6.out.v.c 8; have y0 := HB6.out.r.c 0; have y1 := HB6.out.r.c 1; have y2 := HB6.out.r.c 2; have y3 := HB6.out.r.c 3; have z0 := HB6.out.c.c 0; have z1 := HB6.out.c.c 1; have z2 := HB6.out.c.c 2; have z3 := HB6.out.c.c 3; have z4 := HB6.out.c.c 4; simp at x0 x1 x2 x3 x4 x5 x6 x7 x8 y0 y1 y2 y3 z0 z1 z2 z3 z4; cases T with
 | none =>
  go_wp2; go_ret2; exact ⟨rfl, HB6.out.b⟩
 | some t =>
  simp only [tkN, tkE]; go_wp2; go_ret2; exact ⟨rfl, HB6.out.b⟩
theorem cost (r : Rw) (x : Ri) (c : Co) (w : World) (M : Mean w (· < w.heap.size) r) (S : Lo r) : Calls Tryz.prog 91 #[vg r, rg x, cg c] w (Tells w (qd r.v x c)) := by
 have CV := fun (W : World) (h : Below w.heap.size w W) => Lib.hid (version_ r W (M.below h) S)
 have CR := fun W => Lib.hid (risk_right x.k x.v x.a x.z W)
 have CC := fun W => Lib.hid (cov_right c W)
 cases h1 : ver r.v
 ·rw [h1] at CV; rw [qd_arg (by unfold can; rw [h1]; rfl)]; exact cost_arg1 r x c w CV
 rw [h1] at CV; cases h2 : rk x.k x.v x.a x.z
 ·rw [h2] at CR; rw [qd_arg (by unfold can; rw [h1, h2]; rfl)]; exact cost_arg2 r x c w CV CR
 rw [h2] at CR; cases h3 : ok c
 ·rw [h3] at CC; rw [qd_arg (by unfold can; rw [h1, h2, h3]; rfl)]; exact cost_arg3 r x c w CV CR CC
 rw [h3] at CC; have hc : can r.v x c = true := by unfold can; rw [h1, h2, h3]; rfl
 have hl := M.z.1; by_cases hz : (r.v.zn.length : Int) ≤ x.z
 ·rw [qd_none hc hz]; exact cost_none r x c w CV CR CC (decide_eq_true (by omega))
 have hpl := (vok h1).pl; have hl2 := M.p.1; have hpb := parts_bd hc; obtain ⟨k, xv, xa, z⟩ := x; obtain ⟨p, l, g, d, s⟩ := c; obtain ⟨q1, q2, q3, q4⟩ := rk_iff.1 h2; obtain ⟨o1, o2, _⟩ := ok_iff.1 h3; simp only at q1 q2 q3 q4 o1 o2 hz; obtain ⟨k, rfl⟩ := Int.eq_ofNat_of_zero_le q1.1; obtain ⟨z, rfl⟩ := Int.eq_ofNat_of_zero_le q4.1; obtain ⟨p, rfl⟩ := Int.eq_ofNat_of_zero_le o1; have h := cost_ok r k z p xv xa l g d s w M S CV CR CC (by omega) (by omega) (by omega) ⟨by omega, by omega⟩ _ rfl hpb _ rfl; cases ht : tk xv (parts r.v ⟨k, xv, xa, z⟩ ⟨p, l, g, d, s⟩) with
 | none =>
  rw [qd_over hc hz ht]; rw [ht] at h; exact h
 | some t =>
  rw [qd_ok hc hz ht]; rw [ht] at h; exact h
end Qo
end Go.Proofs.YtplenoaajokpjaaGreat
namespace Go.Proofs.YtplenoaajokpjaaGreat
open Go.RowKit Ba Tf Cv Qm
namespace Qo
set_option linter.unusedVariables false
structure YB (w W : World) (r : Rw) (x : Ri) (s : Int) (q : Bool) : Prop where
 b : Below w.heap.size w W
 v : Bx W w.heap.size 70 (vc r)
 r : Bx W (w.heap.size + 1) 29 (rc x)
 a : Adds W (w.heap.size + 1 + 1) s q
section
variable {w W W' : World} {r : Rw} {x : Ri} {s t : Int} {b d : Bool}
theorem YB.next (h : YB w W r x s b) (hb : Below W.heap.size W W') : YB w W' r x s b := ⟨h.b.trans (hb.mono h.b.size), h.v.keep hb, h.r.keep hb, h.a.keep hb⟩
theorem YB.turn (h : YB w W r x s b) (hA : Adds W' (w.heap.size + 1 + 1) t d) (hT : Turned (w.heap.size + 1 + 1) W W') : YB w W' r x t d :=
 ⟨hT.below h.b (by omega), (hT.block _ h.v.lt (by omega) (by omega)).trans h.v, (hT.block _ h.r.lt (by omega) (by omega)).trans h.r, hA⟩
theorem YB.start {w1 : World} (w : World) (r : Rw) (x : Ri) (hA : Adds w1 ((w.alloc (.cells (vc r) 70)).alloc (.cells (rc x) 29)).heap.size 0 true)
  (hb : Below ((w.alloc (.cells (vc r) 70)).alloc (.cells (rc x) 29)).heap.size ((w.alloc (.cells (vc r) 70)).alloc (.cells (rc x) 29)) w1) : YB w w1 r x 0 true := by
 have e : ((w.alloc (.cells (vc r) 70)).alloc (.cells (rc x) 29)).heap.size = w.heap.size + 1 + 1 := by simp
 have hw : Below w.heap.size w ((w.alloc (.cells (vc r) 70)).alloc (.cells (rc x) 29)) := (alloc_ _ _).alloc (by simp) _; refine ⟨hw.trans (hb.mono hw.size), ((Bx.new _ _ _).alloc _).keep hb, ?_, by rw [← e]; exact hA⟩; have := Bx.new (w.alloc (.cells (vc r) 70)) 29 (rc x); rw [World.size_alloc] at this; exact Bx.keep this hb
end
def Sf (t s : Int) (b : Bool) : Prop := (b = true ∧ t = s) ∨ (b = false ∧ 4000000000000000000 < t)
theorem Sf.next {t s a : Int} {b : Bool} (h : Sf t s b) (hs : 0 ≤ s ∧ s ≤ 4000000000000000000) (ha : 0 ≤ a) : Sf (t + a) (nxs s a b) (nxb s a b) ∧ 0 ≤ nxs s a b ∧ nxs s a b ≤ 4000000000000000000 := by
 rcases h with ⟨rfl, rfl⟩ | ⟨rfl, h⟩
 ·by_cases h1 : a ≤ 4000000000000000000 - t
  ·rw [show nxs t a true = t + a by unfold nxs; rw [if_pos ⟨rfl, h1⟩], show nxb t a true = true by unfold nxb; rw [decide_eq_true h1]; rfl]; exact ⟨.inl ⟨rfl, rfl⟩, by omega, by omega⟩
  ·rw [show nxs t a true = t by unfold nxs; rw [if_neg (fun e => h1 e.2)], show nxb t a true = false by unfold nxb; rw [decide_eq_false h1]; rfl]; exact ⟨.inr ⟨rfl, by omega⟩, by omega, by omega⟩
 ·rw [show nxs s a false = s by unfold nxs; rw [if_neg (fun e => by cases e.1)], show nxb s a false = false from rfl]; exact ⟨.inr ⟨rfl, by omega⟩, by omega, by omega⟩
theorem Sf.done {f : Co → Int × Int} {t s : Int} {b : Bool} (h : Sf t s b) (hs : s ≤ 4000000000000000000) : yr f t [] = if b = true then (s, 0) else (0, 5) := by
 rcases h with ⟨rfl, rfl⟩ | ⟨rfl, h⟩
 ·rw [yr_done (by omega)]; rfl
 ·rw [yr_over h]; rfl
set_option maxRecDepth 100000 in
set_option maxHeartbeats 4000000 in
theorem year (r : Rw) (x : Ri) (A : Option Addr) (n d : Nat) (cs : List Co) (w : World) (M : Mean w (· < w.heap.size) r) (S : Lo r) (hC : Cvs w (· < w.heap.size) A n cs) (hn : n ≤ maxLen) :
  Calls Tryz.prog 67 #[vg r, rg x, .slice A n d] w (Tells w (yr (qd r.v x) 0 cs)) := by
 unfold maxLen at hn; have HC := Lib.hid hC; have C := fun (c : Co) (W : World) (h : Below w.heap.size w W) => Lib.hid (cost r x c W (M.below h) S)
 have HQ := Lib.hid (qd_bd r.v x); generalize qd r.v x = f at C HQ ⊢; obtain ⟨R, hR⟩ : ∃ R, yr f 0 cs = R := ⟨_, rfl⟩; rw [hR]; have HR := Lib.hid hR; clear M S hC hR; go_enter Tryz.func67, Tryz.ntmps67
 go_wp2_with fail
 refine (adder _).mono ?_; rintro e w1 ⟨rfl, hA1, hB1⟩; have HY := Lib.hid (YB.start w r x hA1 hB1); clear hA1 hB1; go_wp2
 go_loopw [8, 9, 12, 18] (fun s8 s9 s12 i w' => ∃ (k : Nat) (s t : Int) (b : Bool) (W : World), k ≤ n ∧ i = .int .i64 (k : Int) ∧ s8 = .int .i64 s ∧ s9 = .bool b ∧ W = w' ∧ 0 ≤ s ∧ s ≤ 4000000000000000000 ∧ Hid (YB w W r x s b) ∧ Hid (yr f t (cs.drop k) = R) ∧ Hid (Sf t s b)) (fun _ _ _ i _ => n - (intOf i).toNat)
 case atStart => exact ⟨0, 0, 0, true, _, Nat.zero_le _, rfl, rfl, rfl, rfl, by omega, by omega, HY, HR, Lib.hid (.inl ⟨rfl, rfl⟩)⟩
 case round =>
  obtain ⟨k, s, t, b, W, hk, rfl, rfl, rfl, rfl, hs0, hs1, HB, HT, HF⟩ := hrel; clear HY; by_cases hlt : k < n
  ·obtain ⟨ad, c, rfl, hb, hc, hN⟩ := (HC.out.below HB.out.b).get hlt; have HD := Lib.hid (drop_get hc); obtain ⟨c0, c1, c2, c3, c4⟩ := hN; have hlt2 : (k : Int) < (n : Int) := by omega
   obtain ⟨q1, q2, q3, q4, q5⟩ := HQ.out c; have C1 := C c (W.alloc (.cells #[.int .i64 c.p, .int .i64 c.l, .int .i64 c.g, .int .i64 c.d, .int .i64 c.s] 41)) (HB.out.b.alloc HB.out.b.size _); have HB1 := Lib.hid (HB.out.next (alloc_ W (.cells #[.int .i64 c.p, .int .i64 c.l, .int .i64 c.g, .int .i64 c.d, .int .i64 c.s] 41))); obtain ⟨⟨m, cd⟩, hp⟩ : ∃ p, f c = p := ⟨_, rfl⟩; rw [hp] at C1 q1 q2 q3 q4 q5; simp only at q1 q2 q3 q4 q5; have HE := Lib.hid (fun h : cd ≠ 0 => show R = (0, cd) by rw [← HT.out, HD.out, yr_err (by rw [hp]; exact h), hp]); have HO := Lib.hid (fun h : cd = 0 => show yr f (t + m) (cs.drop (k + 1)) = R by rw [← HT.out, HD.out, yr_step (by rw [hp]; exact h), hp]); clear hb hc C HT HD hp; have x0 := HB1.out.v.c 0; have x1 := HB1.out.v.c 1; have x2 := HB1.out.v.c 2; have x3 := HB1.out.v.c 3; have x4 := HB1.out.v.c 4; have x5 := HB1.out.v.c 5; have x6 := HB1.out.v.c 6; have x7 := HB1.out.v.c 7; have x8 := HB1.out.v.c 8; have y0 := HB1.out.r.c 0; have y1 := HB1.out.r.c 1; have y2 := HB1.out.r.c 2; have y3 := HB1.out.r.c 3; simp at x0 x1 x2 x3 x4 x5 x6 x7 x8 y0 y1 y2 y3
   go_wp2_with fail
   refine C1.out.mono ?_; rintro e w2 ⟨rfl, hb2⟩; have HB2 := Lib.hid (HB1.out.next hb2); clear hb2 HB1 C1 HB c0 c1 c2 c3 c4 x0 x1 x2 x3 x4 x5 x6 x7 x8 y0 y1 y2 y3; by_cases hcd : cd = 0
   ·subst hcd; have C2 := Lib.hid (add _ s m b w2 HB2.out.a ⟨hs0, hs1⟩ ⟨q1, q2⟩); have HG := Lib.hid (HF.out.next ⟨hs0, hs1⟩ q1); have HO2 := Lib.hid (HO.out rfl); generalize nxs s m b = s' at C2 HG; generalize nxb s m b = b' at C2 HG; clear HE HO HF q5
    go_wp2_with fail
    refine C2.out.mono ?_; rintro e w3 ⟨rfl, hA3, hT3⟩; have HB3 := Lib.hid (HB2.out.turn hA3 hT3); clear hA3 hT3 C2 HB2; go_wp2; go_roundw
    case rel => exact ⟨k + 1, s', _, b', _, by omega, by go_num, rfl, rfl, rfl, HG.out.2.1, HG.out.2.2, HB3, HO2, Lib.hid HG.out.1⟩
    case measure => simp [intOf]; omega
   ·have t1 : (cd == 0) = false := by rw [beq_eq_false_iff_ne]; exact hcd
    have HE2 := Lib.hid (HE.out hcd); clear HO HE hcd; go_wp2; go_ret2; exact ⟨by rw [HE2.out]; rfl, HB2.out.b⟩
  ·have HE := Lib.hid (show R = if b = true then (s, 0) else (0, 5) by rw [← HT.out, List.drop_of_length_le (by rw [HC.out.1]; omega)]; exact HF.out.done hs1); cases b with
   | true =>
    go_wp2; go_ret2; exact ⟨by rw [HE.out]; rfl, HB.out.b⟩
   | false =>
    go_wp2; go_ret2; exact ⟨by rw [HE.out]; rfl, HB.out.b⟩
end Qo
end Go.Proofs.YtplenoaajokpjaaGreat
