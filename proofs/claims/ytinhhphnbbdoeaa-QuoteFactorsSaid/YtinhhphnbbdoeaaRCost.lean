/-
  The document's One of layer 9: what a year of a cover costs. Conditions: the version's lists read as lists, and are no longer than memory.
-/
import Derived.Test.YtinhhphnbbdoeaaCost
import Derived.Test.YtinhhphnbbdoeaaRVer
import Derived.Test.YtinhhphnbbdoeaaRefEven
namespace Go.Proofs.Ytinhhphnbbdoeaa
open Go.RowKit Ba Tf Cv Qm
namespace Qo
set_option linter.unusedVariables false

set_option maxRecDepth 100000 in
set_option maxHeartbeats 2000000 in
theorem rcost_arg1 (r : Rw) (x : Ri) (c : Co) (w : World) (CV : ∀ W : World, Below w.heap.size w W → Hid (Calls Try.prog 16 #[vg r] W (Yes W false))) : Calls Try.prog 12 #[vg r, rg x, cg c] w (Tells w (0, 1)) := by
  obtain ⟨W, hW⟩ : ∃ W, (((w.alloc (.cells (vc r) 26)).alloc (.cells (rc x) 28)).alloc (.cells (cc c) 30)) = W := ⟨_, rfl⟩
  have HB0 := Lib.hid (show B3 w W r x c by rw [← hW]; exact B3.start w r x c)
  have HW := Lib.hid hW
  clear hW
  go_enter Try.func12, Try.ntmps12
  go_wp2_with fail
  rw [HW.out]
  refine (CV _ HB0.out.b).out.mono ?_
  rintro e w1 ⟨rfl, hb1⟩
  have HB1 := Lib.hid (HB0.out.next hb1)
  clear hb1 HB0 HW CV
  have x0 := HB1.out.v.c 0
  have x1 := HB1.out.v.c 1
  have x2 := HB1.out.v.c 2
  have x3 := HB1.out.v.c 3
  have x4 := HB1.out.v.c 4
  have x5 := HB1.out.v.c 5
  have x6 := HB1.out.v.c 6
  have x7 := HB1.out.v.c 7
  have x8 := HB1.out.v.c 8
  have y0 := HB1.out.r.c 0
  have y1 := HB1.out.r.c 1
  have y2 := HB1.out.r.c 2
  have y3 := HB1.out.r.c 3
  have z0 := HB1.out.c.c 0
  have z1 := HB1.out.c.c 1
  have z2 := HB1.out.c.c 2
  have z3 := HB1.out.c.c 3
  have z4 := HB1.out.c.c 4
  simp at x0 x1 x2 x3 x4 x5 x6 x7 x8 y0 y1 y2 y3 z0 z1 z2 z3 z4
  go_wp2
  go_ret2
  exact ⟨rfl, HB1.out.b⟩

set_option maxRecDepth 100000 in
set_option maxHeartbeats 2000000 in
theorem rcost_arg2 (r : Rw) (x : Ri) (c : Co) (w : World) (CV : ∀ W : World, Below w.heap.size w W → Hid (Calls Try.prog 16 #[vg r] W (Yes W true))) (CR : ∀ W : World, Hid (Calls Try.prog 23 #[rg x] W (Yes W false))) : Calls Try.prog 12 #[vg r, rg x, cg c] w (Tells w (0, 1)) := by
  obtain ⟨W, hW⟩ : ∃ W, (((w.alloc (.cells (vc r) 26)).alloc (.cells (rc x) 28)).alloc (.cells (cc c) 30)) = W := ⟨_, rfl⟩
  have HB0 := Lib.hid (show B3 w W r x c by rw [← hW]; exact B3.start w r x c)
  have HW := Lib.hid hW
  clear hW
  go_enter Try.func12, Try.ntmps12
  go_wp2_with fail
  rw [HW.out]
  refine (CV _ HB0.out.b).out.mono ?_
  rintro e w1 ⟨rfl, hb1⟩
  have HB1 := Lib.hid (HB0.out.next hb1)
  clear hb1 HB0 HW CV
  have x0 := HB1.out.v.c 0
  have x1 := HB1.out.v.c 1
  have x2 := HB1.out.v.c 2
  have x3 := HB1.out.v.c 3
  have x4 := HB1.out.v.c 4
  have x5 := HB1.out.v.c 5
  have x6 := HB1.out.v.c 6
  have x7 := HB1.out.v.c 7
  have x8 := HB1.out.v.c 8
  have y0 := HB1.out.r.c 0
  have y1 := HB1.out.r.c 1
  have y2 := HB1.out.r.c 2
  have y3 := HB1.out.r.c 3
  have z0 := HB1.out.c.c 0
  have z1 := HB1.out.c.c 1
  have z2 := HB1.out.c.c 2
  have z3 := HB1.out.c.c 3
  have z4 := HB1.out.c.c 4
  simp at x0 x1 x2 x3 x4 x5 x6 x7 x8 y0 y1 y2 y3 z0 z1 z2 z3 z4
  go_wp2_with fail
  refine (CR _).out.mono ?_
  rintro e w2 ⟨rfl, hb2⟩
  have HB2 := Lib.hid (HB1.out.next hb2)
  clear hb2 HB1 CR x0 x1 x2 x3 x4 x5 x6 x7 x8 y0 y1 y2 y3 z0 z1 z2 z3 z4
  have x0 := HB2.out.v.c 0
  have x1 := HB2.out.v.c 1
  have x2 := HB2.out.v.c 2
  have x3 := HB2.out.v.c 3
  have x4 := HB2.out.v.c 4
  have x5 := HB2.out.v.c 5
  have x6 := HB2.out.v.c 6
  have x7 := HB2.out.v.c 7
  have x8 := HB2.out.v.c 8
  have y0 := HB2.out.r.c 0
  have y1 := HB2.out.r.c 1
  have y2 := HB2.out.r.c 2
  have y3 := HB2.out.r.c 3
  have z0 := HB2.out.c.c 0
  have z1 := HB2.out.c.c 1
  have z2 := HB2.out.c.c 2
  have z3 := HB2.out.c.c 3
  have z4 := HB2.out.c.c 4
  simp at x0 x1 x2 x3 x4 x5 x6 x7 x8 y0 y1 y2 y3 z0 z1 z2 z3 z4
  go_wp2
  go_ret2
  exact ⟨rfl, HB2.out.b⟩

set_option maxRecDepth 100000 in
set_option maxHeartbeats 2000000 in
theorem rcost_arg3 (r : Rw) (x : Ri) (c : Co) (w : World) (CV : ∀ W : World, Below w.heap.size w W → Hid (Calls Try.prog 16 #[vg r] W (Yes W true))) (CR : ∀ W : World, Hid (Calls Try.prog 23 #[rg x] W (Yes W true))) (CC : ∀ W : World, Hid (Calls Try.prog 24 #[cg c] W (Yes W false))) : Calls Try.prog 12 #[vg r, rg x, cg c] w (Tells w (0, 1)) := by
  obtain ⟨W, hW⟩ : ∃ W, (((w.alloc (.cells (vc r) 26)).alloc (.cells (rc x) 28)).alloc (.cells (cc c) 30)) = W := ⟨_, rfl⟩
  have HB0 := Lib.hid (show B3 w W r x c by rw [← hW]; exact B3.start w r x c)
  have HW := Lib.hid hW
  clear hW
  go_enter Try.func12, Try.ntmps12
  go_wp2_with fail
  rw [HW.out]
  refine (CV _ HB0.out.b).out.mono ?_
  rintro e w1 ⟨rfl, hb1⟩
  have HB1 := Lib.hid (HB0.out.next hb1)
  clear hb1 HB0 HW CV
  have x0 := HB1.out.v.c 0
  have x1 := HB1.out.v.c 1
  have x2 := HB1.out.v.c 2
  have x3 := HB1.out.v.c 3
  have x4 := HB1.out.v.c 4
  have x5 := HB1.out.v.c 5
  have x6 := HB1.out.v.c 6
  have x7 := HB1.out.v.c 7
  have x8 := HB1.out.v.c 8
  have y0 := HB1.out.r.c 0
  have y1 := HB1.out.r.c 1
  have y2 := HB1.out.r.c 2
  have y3 := HB1.out.r.c 3
  have z0 := HB1.out.c.c 0
  have z1 := HB1.out.c.c 1
  have z2 := HB1.out.c.c 2
  have z3 := HB1.out.c.c 3
  have z4 := HB1.out.c.c 4
  simp at x0 x1 x2 x3 x4 x5 x6 x7 x8 y0 y1 y2 y3 z0 z1 z2 z3 z4
  go_wp2_with fail
  refine (CR _).out.mono ?_
  rintro e w2 ⟨rfl, hb2⟩
  have HB2 := Lib.hid (HB1.out.next hb2)
  clear hb2 HB1 CR x0 x1 x2 x3 x4 x5 x6 x7 x8 y0 y1 y2 y3 z0 z1 z2 z3 z4
  have x0 := HB2.out.v.c 0
  have x1 := HB2.out.v.c 1
  have x2 := HB2.out.v.c 2
  have x3 := HB2.out.v.c 3
  have x4 := HB2.out.v.c 4
  have x5 := HB2.out.v.c 5
  have x6 := HB2.out.v.c 6
  have x7 := HB2.out.v.c 7
  have x8 := HB2.out.v.c 8
  have y0 := HB2.out.r.c 0
  have y1 := HB2.out.r.c 1
  have y2 := HB2.out.r.c 2
  have y3 := HB2.out.r.c 3
  have z0 := HB2.out.c.c 0
  have z1 := HB2.out.c.c 1
  have z2 := HB2.out.c.c 2
  have z3 := HB2.out.c.c 3
  have z4 := HB2.out.c.c 4
  simp at x0 x1 x2 x3 x4 x5 x6 x7 x8 y0 y1 y2 y3 z0 z1 z2 z3 z4
  go_wp2_with fail
  refine (CC _).out.mono ?_
  rintro e w3 ⟨rfl, hb3⟩
  have HB3 := Lib.hid (HB2.out.next hb3)
  clear hb3 HB2 CC x0 x1 x2 x3 x4 x5 x6 x7 x8 y0 y1 y2 y3 z0 z1 z2 z3 z4
  have x0 := HB3.out.v.c 0
  have x1 := HB3.out.v.c 1
  have x2 := HB3.out.v.c 2
  have x3 := HB3.out.v.c 3
  have x4 := HB3.out.v.c 4
  have x5 := HB3.out.v.c 5
  have x6 := HB3.out.v.c 6
  have x7 := HB3.out.v.c 7
  have x8 := HB3.out.v.c 8
  have y0 := HB3.out.r.c 0
  have y1 := HB3.out.r.c 1
  have y2 := HB3.out.r.c 2
  have y3 := HB3.out.r.c 3
  have z0 := HB3.out.c.c 0
  have z1 := HB3.out.c.c 1
  have z2 := HB3.out.c.c 2
  have z3 := HB3.out.c.c 3
  have z4 := HB3.out.c.c 4
  simp at x0 x1 x2 x3 x4 x5 x6 x7 x8 y0 y1 y2 y3 z0 z1 z2 z3 z4
  go_wp2
  go_ret2
  exact ⟨rfl, HB3.out.b⟩

set_option maxRecDepth 100000 in
set_option maxHeartbeats 2000000 in
theorem rcost_none (r : Rw) (x : Ri) (c : Co) (w : World) (CV : ∀ W : World, Below w.heap.size w W → Hid (Calls Try.prog 16 #[vg r] W (Yes W true))) (CR : ∀ W : World, Hid (Calls Try.prog 23 #[rg x] W (Yes W true))) (CC : ∀ W : World, Hid (Calls Try.prog 24 #[cg c] W (Yes W true))) (t1 : decide ((r.lz : Int) ≤ x.z) = true) : Calls Try.prog 12 #[vg r, rg x, cg c] w (Tells w (0, 7)) := by
  obtain ⟨W, hW⟩ : ∃ W, (((w.alloc (.cells (vc r) 26)).alloc (.cells (rc x) 28)).alloc (.cells (cc c) 30)) = W := ⟨_, rfl⟩
  have HB0 := Lib.hid (show B3 w W r x c by rw [← hW]; exact B3.start w r x c)
  have HW := Lib.hid hW
  clear hW
  go_enter Try.func12, Try.ntmps12
  go_wp2_with fail
  rw [HW.out]
  refine (CV _ HB0.out.b).out.mono ?_
  rintro e w1 ⟨rfl, hb1⟩
  have HB1 := Lib.hid (HB0.out.next hb1)
  clear hb1 HB0 HW CV
  have x0 := HB1.out.v.c 0
  have x1 := HB1.out.v.c 1
  have x2 := HB1.out.v.c 2
  have x3 := HB1.out.v.c 3
  have x4 := HB1.out.v.c 4
  have x5 := HB1.out.v.c 5
  have x6 := HB1.out.v.c 6
  have x7 := HB1.out.v.c 7
  have x8 := HB1.out.v.c 8
  have y0 := HB1.out.r.c 0
  have y1 := HB1.out.r.c 1
  have y2 := HB1.out.r.c 2
  have y3 := HB1.out.r.c 3
  have z0 := HB1.out.c.c 0
  have z1 := HB1.out.c.c 1
  have z2 := HB1.out.c.c 2
  have z3 := HB1.out.c.c 3
  have z4 := HB1.out.c.c 4
  simp at x0 x1 x2 x3 x4 x5 x6 x7 x8 y0 y1 y2 y3 z0 z1 z2 z3 z4
  go_wp2_with fail
  refine (CR _).out.mono ?_
  rintro e w2 ⟨rfl, hb2⟩
  have HB2 := Lib.hid (HB1.out.next hb2)
  clear hb2 HB1 CR x0 x1 x2 x3 x4 x5 x6 x7 x8 y0 y1 y2 y3 z0 z1 z2 z3 z4
  have x0 := HB2.out.v.c 0
  have x1 := HB2.out.v.c 1
  have x2 := HB2.out.v.c 2
  have x3 := HB2.out.v.c 3
  have x4 := HB2.out.v.c 4
  have x5 := HB2.out.v.c 5
  have x6 := HB2.out.v.c 6
  have x7 := HB2.out.v.c 7
  have x8 := HB2.out.v.c 8
  have y0 := HB2.out.r.c 0
  have y1 := HB2.out.r.c 1
  have y2 := HB2.out.r.c 2
  have y3 := HB2.out.r.c 3
  have z0 := HB2.out.c.c 0
  have z1 := HB2.out.c.c 1
  have z2 := HB2.out.c.c 2
  have z3 := HB2.out.c.c 3
  have z4 := HB2.out.c.c 4
  simp at x0 x1 x2 x3 x4 x5 x6 x7 x8 y0 y1 y2 y3 z0 z1 z2 z3 z4
  go_wp2_with fail
  refine (CC _).out.mono ?_
  rintro e w3 ⟨rfl, hb3⟩
  have HB3 := Lib.hid (HB2.out.next hb3)
  clear hb3 HB2 CC x0 x1 x2 x3 x4 x5 x6 x7 x8 y0 y1 y2 y3 z0 z1 z2 z3 z4
  have x0 := HB3.out.v.c 0
  have x1 := HB3.out.v.c 1
  have x2 := HB3.out.v.c 2
  have x3 := HB3.out.v.c 3
  have x4 := HB3.out.v.c 4
  have x5 := HB3.out.v.c 5
  have x6 := HB3.out.v.c 6
  have x7 := HB3.out.v.c 7
  have x8 := HB3.out.v.c 8
  have y0 := HB3.out.r.c 0
  have y1 := HB3.out.r.c 1
  have y2 := HB3.out.r.c 2
  have y3 := HB3.out.r.c 3
  have z0 := HB3.out.c.c 0
  have z1 := HB3.out.c.c 1
  have z2 := HB3.out.c.c 2
  have z3 := HB3.out.c.c 3
  have z4 := HB3.out.c.c 4
  simp at x0 x1 x2 x3 x4 x5 x6 x7 x8 y0 y1 y2 y3 z0 z1 z2 z3 z4
  go_wp2
  go_ret2
  exact ⟨rfl, HB3.out.b⟩

set_option maxRecDepth 100000 in
set_option maxHeartbeats 2000000 in
theorem rcost_ok (r : Rw) (k z p : Nat) (xv xa cl' cg' cd' cs' : Int) (w : World) (M : Mean w (· < w.heap.size) r) (S : Lo r)
    (CV : ∀ W : World, Below w.heap.size w W → Hid (Calls Try.prog 16 #[vg r] W (Yes W true))) (CR : ∀ W : World, Hid (Calls Try.prog 23 #[rg ⟨k, xv, xa, z⟩] W (Yes W true))) (CC : ∀ W : World, Hid (Calls Try.prog 24 #[cg ⟨p, cl', cg', cd', cs'⟩] W (Yes W true)))
    (hk : k ≤ 3) (hz : z < r.lz) (hp : p < r.lp) (hv : 0 ≤ xv ∧ xv ≤ 4000000000000000000) (ps : List Int) (hps : ps = parts r.v ⟨k, xv, xa, z⟩ ⟨p, cl', cg', cd', cs'⟩) (hb : ∀ y ∈ ps, 0 ≤ y ∧ y ≤ 100000) (T : Option Int) (hT : tk xv ps = T) :
    Calls Try.prog 12 #[vg r, rg ⟨k, xv, xa, z⟩, cg ⟨p, cl', cg', cd', cs'⟩] w (Tells w (tkN (T.map (max · r.v.mn)), tkE T)) := by
  obtain ⟨W, hW⟩ : ∃ W, (((w.alloc (.cells (vc r) 26)).alloc (.cells (rc ⟨k, xv, xa, z⟩) 28)).alloc (.cells (cc ⟨p, cl', cg', cd', cs'⟩) 30)) = W := ⟨_, rfl⟩
  have HB0 := Lib.hid (show B3 w W r ⟨k, xv, xa, z⟩ ⟨p, cl', cg', cd', cs'⟩ by rw [← hW]; exact B3.start w r ⟨k, xv, xa, z⟩ ⟨p, cl', cg', cd', cs'⟩)
  have HW := Lib.hid hW
  clear hW
  go_enter Try.func12, Try.ntmps12
  go_wp2_with fail
  rw [HW.out]
  refine (CV _ HB0.out.b).out.mono ?_
  rintro e w1 ⟨rfl, hb1⟩
  have HB1 := Lib.hid (HB0.out.next hb1)
  clear hb1 HB0 HW CV
  have x0 := HB1.out.v.c 0
  have x1 := HB1.out.v.c 1
  have x2 := HB1.out.v.c 2
  have x3 := HB1.out.v.c 3
  have x4 := HB1.out.v.c 4
  have x5 := HB1.out.v.c 5
  have x6 := HB1.out.v.c 6
  have x7 := HB1.out.v.c 7
  have x8 := HB1.out.v.c 8
  have y0 := HB1.out.r.c 0
  have y1 := HB1.out.r.c 1
  have y2 := HB1.out.r.c 2
  have y3 := HB1.out.r.c 3
  have z0 := HB1.out.c.c 0
  have z1 := HB1.out.c.c 1
  have z2 := HB1.out.c.c 2
  have z3 := HB1.out.c.c 3
  have z4 := HB1.out.c.c 4
  simp at x0 x1 x2 x3 x4 x5 x6 x7 x8 y0 y1 y2 y3 z0 z1 z2 z3 z4
  go_wp2_with fail
  refine (CR _).out.mono ?_
  rintro e w2 ⟨rfl, hb2⟩
  have HB2 := Lib.hid (HB1.out.next hb2)
  clear hb2 HB1 CR x0 x1 x2 x3 x4 x5 x6 x7 x8 y0 y1 y2 y3 z0 z1 z2 z3 z4
  have x0 := HB2.out.v.c 0
  have x1 := HB2.out.v.c 1
  have x2 := HB2.out.v.c 2
  have x3 := HB2.out.v.c 3
  have x4 := HB2.out.v.c 4
  have x5 := HB2.out.v.c 5
  have x6 := HB2.out.v.c 6
  have x7 := HB2.out.v.c 7
  have x8 := HB2.out.v.c 8
  have y0 := HB2.out.r.c 0
  have y1 := HB2.out.r.c 1
  have y2 := HB2.out.r.c 2
  have y3 := HB2.out.r.c 3
  have z0 := HB2.out.c.c 0
  have z1 := HB2.out.c.c 1
  have z2 := HB2.out.c.c 2
  have z3 := HB2.out.c.c 3
  have z4 := HB2.out.c.c 4
  simp at x0 x1 x2 x3 x4 x5 x6 x7 x8 y0 y1 y2 y3 z0 z1 z2 z3 z4
  go_wp2_with fail
  refine (CC _).out.mono ?_
  rintro e w3 ⟨rfl, hb3⟩
  have HB3 := Lib.hid (HB2.out.next hb3)
  clear hb3 HB2 CC x0 x1 x2 x3 x4 x5 x6 x7 x8 y0 y1 y2 y3 z0 z1 z2 z3 z4
  have x0 := HB3.out.v.c 0
  have x1 := HB3.out.v.c 1
  have x2 := HB3.out.v.c 2
  have x3 := HB3.out.v.c 3
  have x4 := HB3.out.v.c 4
  have x5 := HB3.out.v.c 5
  have x6 := HB3.out.v.c 6
  have x7 := HB3.out.v.c 7
  have x8 := HB3.out.v.c 8
  have y0 := HB3.out.r.c 0
  have y1 := HB3.out.r.c 1
  have y2 := HB3.out.r.c 2
  have y3 := HB3.out.r.c 3
  have z0 := HB3.out.c.c 0
  have z1 := HB3.out.c.c 1
  have z2 := HB3.out.c.c 2
  have z3 := HB3.out.c.c 3
  have z4 := HB3.out.c.c 4
  simp at x0 x1 x2 x3 x4 x5 x6 x7 x8 y0 y1 y2 y3 z0 z1 z2 z3 z4
  have t1 : decide ((r.lz : Int) ≤ (z : Int)) = false := decide_eq_false (by omega)
  have t1' : decide (r.lz ≤ z) = false := decide_eq_false (by omega)
  obtain ⟨az, zv, eZ, _, gz, cz⟩ := (M.z.below HB3.out.b).get hz
  obtain ⟨ap, pv, eP, _, gp, cp⟩ := (M.p.below HB3.out.b).get hp
  have cb := base_cell HB3.out.v hk
  have hla := S.a
  have CB := fun (W : World) (h : Below w.heap.size w W) => Lib.hid (rband r.A r.la r.ca r.v.ag xa W _ (M.a.below h) (by unfold maxLen; omega))
  have e5 : ps = [bs r.v k, bnd xa r.v.ag, zv, pv, cs'] := by
    rw [hps]
    unfold parts
    simp only [Int.toNat_natCast, List.getD_eq_getElem?_getD, gz, gp, Option.getD_some]
  rw [eZ] at x6
  rw [eP] at x7
  generalize bnd xa r.v.ag = bv at CB e5
  generalize bs r.v k = sv at cb e5
  have HE5 := Lib.hid e5
  have kz : (z : Int) < (r.lz : Int) := by omega
  have kp : (p : Int) < (r.lp : Int) := by omega
  have kk : (k : Int) < 4 := by omega
  have HTT := Lib.hid hT
  have HPB := Lib.hid hb
  clear e5 gz gp hb hps hT eZ eP
  go_wp2
  refine wp_region_still_tail 24 (by kernel_rfl) (by kernel_rfl) ?_
  simp only [List.take_succ_cons, List.take_zero, List.drop_succ_cons, List.drop_zero]
  repeat still_step
  still_call (flip (CB w3.drew (HB3.out.b.trans (B := w.heap.size) ⟨rfl, rfl, rfl, Nat.le_refl _, fun _ _ => rfl⟩)).out)
  repeat still_step
  refine wpStill_nil ?_
  have HB4 := Lib.hid (show B3 w w3.drew r ⟨k, xv, xa, z⟩ ⟨p, cl', cg', cd', cs'⟩ from HB3.out.next ⟨rfl, rfl, rfl, Nat.le_refl _, fun _ _ => rfl⟩)
  change wpList _ _ _ _ _ w3.drew
  generalize w3.drew = w4 at HB4 ⊢
  have HL := Lib.hid (Bx.new w4 3 #[.int .i64 sv, .int .i64 bv, .int .i64 zv, .int .i64 pv, .int .i64 cs'])
  have HI := Lib.hid (show Ins (w4.alloc (.cells #[.int .i64 sv, .int .i64 bv, .int .i64 zv, .int .i64 pv, .int .i64 cs'] 3)) (· < (w4.alloc (.cells #[.int .i64 sv, .int .i64 bv, .int .i64 zv, .int .i64 pv, .int .i64 cs'] 3)).heap.size) (some ⟨w4.heap.size, 0, none⟩) 5 ps by rw [HE5.out]; exact ins_box (xs := [sv, bv, zv, pv, cs']) HL.out _ HL.out.lt)
  have HB5 := Lib.hid (HB4.out.next (alloc_ w4 (.cells #[.int .i64 sv, .int .i64 bv, .int .i64 zv, .int .i64 pv, .int .i64 cs'] 3)))
  clear CB HB3 HL x0 x1 x2 x3 x4 x5 x6 x7 x8 y0 y1 y2 y3 z0 z1 z2 z3 z4 cb cz cp M S HB4 HE5
  have x0 := HB5.out.v.c 0
  have x1 := HB5.out.v.c 1
  have x2 := HB5.out.v.c 2
  have x3 := HB5.out.v.c 3
  have x4 := HB5.out.v.c 4
  have x5 := HB5.out.v.c 5
  have x6 := HB5.out.v.c 6
  have x7 := HB5.out.v.c 7
  have x8 := HB5.out.v.c 8
  have y0 := HB5.out.r.c 0
  have y1 := HB5.out.r.c 1
  have y2 := HB5.out.r.c 2
  have y3 := HB5.out.r.c 3
  have z0 := HB5.out.c.c 0
  have z1 := HB5.out.c.c 1
  have z2 := HB5.out.c.c 2
  have z3 := HB5.out.c.c 3
  have z4 := HB5.out.c.c 4
  simp at x0 x1 x2 x3 x4 x5 x6 x7 x8 y0 y1 y2 y3 z0 z1 z2 z3 z4
  go_wp2
  clear x0 x1 x2 x3 x4 x5 x6 x7 x8 y0 y1 y2 y3 z0 z1 z2 z3 z4
  generalize (w4.alloc (.cells #[.int .i64 sv, .int .i64 bv, .int .i64 zv, .int .i64 pv, .int .i64 cs'] 3)) = w5 at HI HB5 ⊢
  generalize ({ block := w4.heap.size, off := 0 } : Addr) = la at HI ⊢
  have x8 := HB5.out.v.c 8
  simp at x8
  go_loop [9, 10] (fun s0 i => ∃ (j : Nat) (a : Int), j ≤ 5 ∧ 0 ≤ a ∧ a ≤ 4000000000000000000 ∧ i = .int .i64 (j : Int) ∧ s0 = .int .i64 a ∧ Hid (tk a (ps.drop j) = T)) (fun _ i => 5 - (intOf i).toNat)
  case atStart => exact ⟨0, xv, Nat.zero_le _, hv.1, hv.2, rfl, rfl, HTT⟩
  case round =>
    obtain ⟨j, a, hj, ha0, ha1, rfl, rfl, HN⟩ := hrel
    by_cases hlt : j < 5
    · obtain ⟨ad, y, ela, _, hy, hc0⟩ := HI.out.get hlt
      injection ela with ela
      subst ela
      have HD := Lib.hid (drop_get hy)
      have hy2 := HPB.out y (List.mem_of_getElem? hy)
      have hlt2 : (j : Int) < 5 := by omega
      have C := fun w => Lib.hid (Num.refBp a y w (by omega) (by omega))
      clear hy
      by_cases ho : 4000000000000000000 < prt a y
      · obtain ⟨e1, e2⟩ := ev_over ha0 hy2.1 ho
        rw [e1, e2] at C
        have HF := Lib.hid (show T = none by rw [← HN.out, HD.out, tk_over ho])
        clear e1 e2 ho hy2
        go_wp2_with (go_at_call 26; refine (C _).out.mono ?_; rintro e w6 ⟨rfl, rfl⟩)
        go_ret2
        exact ⟨by rw [HF.out]; rfl, HB5.out.b⟩
      · obtain ⟨e1, e2⟩ := ev_ok ha0 hy2.1 ho
        rw [e1, e2] at C
        have HN2 := Lib.hid (show tk (prt a y) (ps.drop (j + 1)) = T by rw [← HN.out, HD.out, tk_next ho])
        have hn := prt_nn a y
        clear e1 e2 hy2
        generalize prt a y = b at C HN2 ho hn
        have ho2 : b ≤ 4000000000000000000 := by omega
        clear ho
        go_wp2_with (go_at_call 26; refine (C _).out.mono ?_; rintro e w6 ⟨rfl, rfl⟩)
        go_round
        case rel => exact ⟨j + 1, b, by omega, hn, ho2, by go_num, rfl, HN2⟩
        case measure => simp [intOf]; omega
    · obtain rfl : j = 5 := by omega
      have HF := Lib.hid (show T = some a by rw [← HN.out, List.drop_of_length_le (by rw [HI.out.1]; omega)]; rfl)
      by_cases hm : a < r.v.mn
      · have t2 : decide (a < r.v.mn) = true := decide_eq_true hm
        have HX := Lib.hid (show tkN (T.map (max · r.v.mn)) = r.v.mn ∧ tkE T = 0 by rw [HF.out]; exact ⟨by simp only [Option.map_some, tkN]; omega, rfl⟩)
        clear hm
        go_wp2
        go_ret2
        exact ⟨by rw [HX.out.1, HX.out.2]; rfl, HB5.out.b⟩
      · have t2 : decide (a < r.v.mn) = false := decide_eq_false hm
        have HX := Lib.hid (show tkN (T.map (max · r.v.mn)) = a ∧ tkE T = 0 by rw [HF.out]; exact ⟨by simp only [Option.map_some, tkN]; omega, rfl⟩)
        clear hm
        go_wp2
        go_ret2
        exact ⟨by rw [HX.out.1, HX.out.2]; rfl, HB5.out.b⟩

theorem rcost (r : Rw) (x : Ri) (c : Co) (w : World) (M : Mean w (· < w.heap.size) r) (S : Lo r) : Calls Try.prog 12 #[vg r, rg x, cg c] w (Tells w (qd r.v x c)) := by
  have CV := fun (W : World) (h : Below w.heap.size w W) => Lib.hid (rversion r W (M.below h) S)
  have CR := fun W => Lib.hid (rrisk_right x.k x.v x.a x.z W)
  have CC := fun W => Lib.hid (rcov_right c W)
  cases h1 : ver r.v
  · rw [h1] at CV
    rw [qd_arg (by unfold can; rw [h1]; rfl)]
    exact rcost_arg1 r x c w CV
  rw [h1] at CV
  cases h2 : rk x.k x.v x.a x.z
  · rw [h2] at CR
    rw [qd_arg (by unfold can; rw [h1, h2]; rfl)]
    exact rcost_arg2 r x c w CV CR
  rw [h2] at CR
  cases h3 : ok c
  · rw [h3] at CC
    rw [qd_arg (by unfold can; rw [h1, h2, h3]; rfl)]
    exact rcost_arg3 r x c w CV CR CC
  rw [h3] at CC
  have hc : can r.v x c = true := by unfold can; rw [h1, h2, h3]; rfl
  have hl := M.z.1
  by_cases hz : (r.v.zn.length : Int) ≤ x.z
  · rw [qd_none hc hz]
    exact rcost_none r x c w CV CR CC (decide_eq_true (by omega))
  have hpl := (vok h1).pl
  have hl2 := M.p.1
  have hpb := parts_bd hc
  obtain ⟨k, xv, xa, z⟩ := x
  obtain ⟨p, l, g, d, s⟩ := c
  obtain ⟨q1, q2, q3, q4⟩ := rk_iff.1 h2
  obtain ⟨o1, o2, _⟩ := ok_iff.1 h3
  simp only at q1 q2 q3 q4 o1 o2 hz
  obtain ⟨k, rfl⟩ := Int.eq_ofNat_of_zero_le q1.1
  obtain ⟨z, rfl⟩ := Int.eq_ofNat_of_zero_le q4.1
  obtain ⟨p, rfl⟩ := Int.eq_ofNat_of_zero_le o1
  have h := rcost_ok r k z p xv xa l g d s w M S CV CR CC (by omega) (by omega) (by omega) ⟨by omega, by omega⟩ _ rfl hpb _ rfl
  cases ht : tk xv (parts r.v ⟨k, xv, xa, z⟩ ⟨p, l, g, d, s⟩) with
  | none =>
    rw [qd_over hc hz ht]
    rw [ht] at h
    exact h
  | some t =>
    rw [qd_ok hc hz ht]
    rw [ht] at h
    exact h
end Qo
end Go.Proofs.Ytinhhphnbbdoeaa
