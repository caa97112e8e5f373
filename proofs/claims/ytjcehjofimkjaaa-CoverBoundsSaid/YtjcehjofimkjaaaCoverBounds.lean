/-
  The statement CoverBounds holds: for every input the call returns true, and each argument reads afterwards as it read before. Conditions: none beside those that the row itself bears.
-/
import Derived.Test.YtjcehjofimkjaaaGiven
namespace Go.Proofs.Ytjcehjofimkjaaa.coverBounds
open Go.ChangeShapes Go.WideShapes Go.ChangeAt Go.RowKit Cv Cvr
set_option linter.unusedVariables false


set_option maxRecDepth 100000 in
set_option maxHeartbeats 2000000 in
theorem way_no (c : Co) (x u y : Int) {w : World} (C1 : ∀ w : World, Hid (Calls Try.prog 9 #[cg c] w (Yes w false))) (C3 : ∀ w : World, Hid (Calls Try.prog 11 #[cg c, .int .i64 x, .int .i64 u] w fun e w' => e = .returned (.int .i64 0) ∧ Below w.heap.size w w'))
     : Calls Try.prog 4 #[cg c, .int .i64 x, .int .i64 u] w (Yes w true) := by
  obtain ⟨W, hW⟩ : ∃ W, w.alloc (.cells (cc c) 23) = W := ⟨_, rfl⟩
  have HX := Lib.hid (show Bx W w.heap.size 23 (cc c) by rw [← hW]; exact Bx.new _ _ _)
  have HB := Lib.hid (show Below w.heap.size w W by rw [← hW]; exact alloc_ _ _)
  have HW := Lib.hid hW
  clear hW
  go_enter Try.func4, Try.ntmps4
  go_wp2_with fail
  rw [HW.out]
  refine (awake _).mono ?_
  rintro e w1 ⟨rfl, hb1⟩
  have HB1 := Lib.hid (HB.out.trans (hb1.mono HB.out.size))
  have HX1 := Lib.hid (HX.out.keep hb1)
  clear hb1 HX HB
  have x0 := HX1.out.c 0
  have x1 := HX1.out.c 1
  have x2 := HX1.out.c 2
  have x3 := HX1.out.c 3
  have x4 := HX1.out.c 4
  go_wp2_with fail
  refine (C3 _).out.mono ?_
  rintro e w2 ⟨rfl, hb2⟩
  have HX2 := Lib.hid (HX1.out.keep hb2)
  have HB2 := Lib.hid (HB1.out.trans (hb2.mono HB1.out.size))
  clear hb2 x0 x1 x2 x3 x4 HX1 HB1
  have x0 := HX2.out.c 0
  have x1 := HX2.out.c 1
  have x2 := HX2.out.c 2
  have x3 := HX2.out.c 3
  have x4 := HX2.out.c 4
  go_wp2_with fail
  refine (C1 _).out.mono ?_
  rintro e w3 ⟨rfl, hb3⟩
  have HX3 := Lib.hid (HX2.out.keep hb3)
  have HB3 := Lib.hid (HB2.out.trans (hb3.mono HB2.out.size))
  clear hb3 x0 x1 x2 x3 x4 HX2 HB2
  have x0 := HX3.out.c 0
  have x1 := HX3.out.c 1
  have x2 := HX3.out.c 2
  have x3 := HX3.out.c 3
  have x4 := HX3.out.c 4
  go_wp2
  go_ret
  exact ⟨rfl, HB3.out⟩

set_option maxRecDepth 100000 in
set_option maxHeartbeats 2000000 in
theorem way_x (c : Co) (x u y : Int) {w : World} (C1 : ∀ w : World, Hid (Calls Try.prog 9 #[cg c] w (Yes w true))) (C3 : ∀ w : World, Hid (Calls Try.prog 11 #[cg c, .int .i64 x, .int .i64 u] w fun e w' => e = .returned (.int .i64 0) ∧ Below w.heap.size w w'))
    (t0 : decide (x < 0) = true) : Calls Try.prog 4 #[cg c, .int .i64 x, .int .i64 u] w (Yes w true) := by
  obtain ⟨W, hW⟩ : ∃ W, w.alloc (.cells (cc c) 23) = W := ⟨_, rfl⟩
  have HX := Lib.hid (show Bx W w.heap.size 23 (cc c) by rw [← hW]; exact Bx.new _ _ _)
  have HB := Lib.hid (show Below w.heap.size w W by rw [← hW]; exact alloc_ _ _)
  have HW := Lib.hid hW
  clear hW
  go_enter Try.func4, Try.ntmps4
  go_wp2_with fail
  rw [HW.out]
  refine (awake _).mono ?_
  rintro e w1 ⟨rfl, hb1⟩
  have HB1 := Lib.hid (HB.out.trans (hb1.mono HB.out.size))
  have HX1 := Lib.hid (HX.out.keep hb1)
  clear hb1 HX HB
  have x0 := HX1.out.c 0
  have x1 := HX1.out.c 1
  have x2 := HX1.out.c 2
  have x3 := HX1.out.c 3
  have x4 := HX1.out.c 4
  go_wp2_with fail
  refine (C3 _).out.mono ?_
  rintro e w2 ⟨rfl, hb2⟩
  have HX2 := Lib.hid (HX1.out.keep hb2)
  have HB2 := Lib.hid (HB1.out.trans (hb2.mono HB1.out.size))
  clear hb2 x0 x1 x2 x3 x4 HX1 HB1
  have x0 := HX2.out.c 0
  have x1 := HX2.out.c 1
  have x2 := HX2.out.c 2
  have x3 := HX2.out.c 3
  have x4 := HX2.out.c 4
  go_wp2_with fail
  refine (C1 _).out.mono ?_
  rintro e w3 ⟨rfl, hb3⟩
  have HX3 := Lib.hid (HX2.out.keep hb3)
  have HB3 := Lib.hid (HB2.out.trans (hb3.mono HB2.out.size))
  clear hb3 x0 x1 x2 x3 x4 HX2 HB2
  have x0 := HX3.out.c 0
  have x1 := HX3.out.c 1
  have x2 := HX3.out.c 2
  have x3 := HX3.out.c 3
  have x4 := HX3.out.c 4
  go_wp2
  go_ret
  exact ⟨rfl, HB3.out⟩

set_option maxRecDepth 100000 in
set_option maxHeartbeats 2000000 in
theorem way_u (c : Co) (x u y : Int) {w : World} (C1 : ∀ w : World, Hid (Calls Try.prog 9 #[cg c] w (Yes w true))) (C3 : ∀ w : World, Hid (Calls Try.prog 11 #[cg c, .int .i64 x, .int .i64 u] w fun e w' => e = .returned (.int .i64 0) ∧ Below w.heap.size w w'))
    (t0 : decide (x < 0) = false) (t1 : decide (u < 0) = true) : Calls Try.prog 4 #[cg c, .int .i64 x, .int .i64 u] w (Yes w true) := by
  obtain ⟨W, hW⟩ : ∃ W, w.alloc (.cells (cc c) 23) = W := ⟨_, rfl⟩
  have HX := Lib.hid (show Bx W w.heap.size 23 (cc c) by rw [← hW]; exact Bx.new _ _ _)
  have HB := Lib.hid (show Below w.heap.size w W by rw [← hW]; exact alloc_ _ _)
  have HW := Lib.hid hW
  clear hW
  go_enter Try.func4, Try.ntmps4
  go_wp2_with fail
  rw [HW.out]
  refine (awake _).mono ?_
  rintro e w1 ⟨rfl, hb1⟩
  have HB1 := Lib.hid (HB.out.trans (hb1.mono HB.out.size))
  have HX1 := Lib.hid (HX.out.keep hb1)
  clear hb1 HX HB
  have x0 := HX1.out.c 0
  have x1 := HX1.out.c 1
  have x2 := HX1.out.c 2
  have x3 := HX1.out.c 3
  have x4 := HX1.out.c 4
  go_wp2_with fail
  refine (C3 _).out.mono ?_
  rintro e w2 ⟨rfl, hb2⟩
  have HX2 := Lib.hid (HX1.out.keep hb2)
  have HB2 := Lib.hid (HB1.out.trans (hb2.mono HB1.out.size))
  clear hb2 x0 x1 x2 x3 x4 HX1 HB1
  have x0 := HX2.out.c 0
  have x1 := HX2.out.c 1
  have x2 := HX2.out.c 2
  have x3 := HX2.out.c 3
  have x4 := HX2.out.c 4
  go_wp2_with fail
  refine (C1 _).out.mono ?_
  rintro e w3 ⟨rfl, hb3⟩
  have HX3 := Lib.hid (HX2.out.keep hb3)
  have HB3 := Lib.hid (HB2.out.trans (hb3.mono HB2.out.size))
  clear hb3 x0 x1 x2 x3 x4 HX2 HB2
  have x0 := HX3.out.c 0
  have x1 := HX3.out.c 1
  have x2 := HX3.out.c 2
  have x3 := HX3.out.c 3
  have x4 := HX3.out.c 4
  go_wp2
  go_ret
  exact ⟨rfl, HB3.out⟩

set_option maxRecDepth 100000 in
set_option maxHeartbeats 2000000 in
theorem way_s0 (c : Co) (x u y : Int) {w : World} (C1 : ∀ w : World, Hid (Calls Try.prog 9 #[cg c] w (Yes w true))) (C3 : ∀ w : World, Hid (Calls Try.prog 11 #[cg c, .int .i64 x, .int .i64 u] w fun e w' => e = .returned (.int .i64 y) ∧ Below w.heap.size w w'))
    (t0 : decide (x < 0) = false) (t1 : decide (u < 0) = false) (z : Int) (q2 : wrap64 (c.g - u) = z) (q2' : IntKind.i64.wrap (c.g - u) = z) (t2 : decide (y < 0) = false) (t3 : decide (c.l < y) = false) (t4 : decide (x < y) = false) (t5 : decide (0 < y) = false) (t6 : decide (c.s < 10000) = true) : Calls Try.prog 4 #[cg c, .int .i64 x, .int .i64 u] w (Yes w true) := by
  obtain ⟨W, hW⟩ : ∃ W, w.alloc (.cells (cc c) 23) = W := ⟨_, rfl⟩
  have HX := Lib.hid (show Bx W w.heap.size 23 (cc c) by rw [← hW]; exact Bx.new _ _ _)
  have HB := Lib.hid (show Below w.heap.size w W by rw [← hW]; exact alloc_ _ _)
  have HW := Lib.hid hW
  clear hW
  go_enter Try.func4, Try.ntmps4
  go_wp2_with fail
  rw [HW.out]
  refine (awake _).mono ?_
  rintro e w1 ⟨rfl, hb1⟩
  have HB1 := Lib.hid (HB.out.trans (hb1.mono HB.out.size))
  have HX1 := Lib.hid (HX.out.keep hb1)
  clear hb1 HX HB
  have x0 := HX1.out.c 0
  have x1 := HX1.out.c 1
  have x2 := HX1.out.c 2
  have x3 := HX1.out.c 3
  have x4 := HX1.out.c 4
  go_wp2_with fail
  refine (C3 _).out.mono ?_
  rintro e w2 ⟨rfl, hb2⟩
  have HX2 := Lib.hid (HX1.out.keep hb2)
  have HB2 := Lib.hid (HB1.out.trans (hb2.mono HB1.out.size))
  clear hb2 x0 x1 x2 x3 x4 HX1 HB1
  have x0 := HX2.out.c 0
  have x1 := HX2.out.c 1
  have x2 := HX2.out.c 2
  have x3 := HX2.out.c 3
  have x4 := HX2.out.c 4
  go_wp2_with fail
  refine (C1 _).out.mono ?_
  rintro e w3 ⟨rfl, hb3⟩
  have HX3 := Lib.hid (HX2.out.keep hb3)
  have HB3 := Lib.hid (HB2.out.trans (hb3.mono HB2.out.size))
  clear hb3 x0 x1 x2 x3 x4 HX2 HB2
  have x0 := HX3.out.c 0
  have x1 := HX3.out.c 1
  have x2 := HX3.out.c 2
  have x3 := HX3.out.c 3
  have x4 := HX3.out.c 4
  go_wp2
  go_ret
  exact ⟨rfl, HB3.out⟩

set_option maxRecDepth 100000 in
set_option maxHeartbeats 2000000 in
theorem way_u0 (c : Co) (x u y : Int) {w : World} (C1 : ∀ w : World, Hid (Calls Try.prog 9 #[cg c] w (Yes w true))) (C3 : ∀ w : World, Hid (Calls Try.prog 11 #[cg c, .int .i64 x, .int .i64 u] w fun e w' => e = .returned (.int .i64 y) ∧ Below w.heap.size w w'))
    (t0 : decide (x < 0) = false) (t1 : decide (u < 0) = false) (z : Int) (q2 : wrap64 (c.g - u) = z) (q2' : IntKind.i64.wrap (c.g - u) = z) (t2 : decide (y < 0) = false) (t3 : decide (c.l < y) = false) (t4 : decide (x < y) = false) (t5 : decide (0 < y) = false) (t6 : decide (c.s < 10000) = false) (t7 : decide (0 < u) = true) : Calls Try.prog 4 #[cg c, .int .i64 x, .int .i64 u] w (Yes w true) := by
  obtain ⟨W, hW⟩ : ∃ W, w.alloc (.cells (cc c) 23) = W := ⟨_, rfl⟩
  have HX := Lib.hid (show Bx W w.heap.size 23 (cc c) by rw [← hW]; exact Bx.new _ _ _)
  have HB := Lib.hid (show Below w.heap.size w W by rw [← hW]; exact alloc_ _ _)
  have HW := Lib.hid hW
  clear hW
  go_enter Try.func4, Try.ntmps4
  go_wp2_with fail
  rw [HW.out]
  refine (awake _).mono ?_
  rintro e w1 ⟨rfl, hb1⟩
  have HB1 := Lib.hid (HB.out.trans (hb1.mono HB.out.size))
  have HX1 := Lib.hid (HX.out.keep hb1)
  clear hb1 HX HB
  have x0 := HX1.out.c 0
  have x1 := HX1.out.c 1
  have x2 := HX1.out.c 2
  have x3 := HX1.out.c 3
  have x4 := HX1.out.c 4
  go_wp2_with fail
  refine (C3 _).out.mono ?_
  rintro e w2 ⟨rfl, hb2⟩
  have HX2 := Lib.hid (HX1.out.keep hb2)
  have HB2 := Lib.hid (HB1.out.trans (hb2.mono HB1.out.size))
  clear hb2 x0 x1 x2 x3 x4 HX1 HB1
  have x0 := HX2.out.c 0
  have x1 := HX2.out.c 1
  have x2 := HX2.out.c 2
  have x3 := HX2.out.c 3
  have x4 := HX2.out.c 4
  go_wp2_with fail
  refine (C1 _).out.mono ?_
  rintro e w3 ⟨rfl, hb3⟩
  have HX3 := Lib.hid (HX2.out.keep hb3)
  have HB3 := Lib.hid (HB2.out.trans (hb3.mono HB2.out.size))
  clear hb3 x0 x1 x2 x3 x4 HX2 HB2
  have x0 := HX3.out.c 0
  have x1 := HX3.out.c 1
  have x2 := HX3.out.c 2
  have x3 := HX3.out.c 3
  have x4 := HX3.out.c 4
  go_wp2
  go_ret
  exact ⟨rfl, HB3.out⟩

set_option maxRecDepth 100000 in
set_option maxHeartbeats 2000000 in
theorem way_n0 (c : Co) (x u y : Int) {w : World} (C1 : ∀ w : World, Hid (Calls Try.prog 9 #[cg c] w (Yes w true))) (C3 : ∀ w : World, Hid (Calls Try.prog 11 #[cg c, .int .i64 x, .int .i64 u] w fun e w' => e = .returned (.int .i64 y) ∧ Below w.heap.size w w'))
    (t0 : decide (x < 0) = false) (t1 : decide (u < 0) = false) (z : Int) (q2 : wrap64 (c.g - u) = z) (q2' : IntKind.i64.wrap (c.g - u) = z) (t2 : decide (y < 0) = false) (t3 : decide (c.l < y) = false) (t4 : decide (x < y) = false) (t5 : decide (0 < y) = false) (t6 : decide (c.s < 10000) = false) (t7 : decide (0 < u) = false) (q3 : max 0 (min (x - c.d) c.l) = y) (q1 : wrap64 (x - c.d) = x - c.d) (q1' : IntKind.i64.wrap (x - c.d) = x - c.d) : Calls Try.prog 4 #[cg c, .int .i64 x, .int .i64 u] w (Yes w true) := by
  obtain ⟨W, hW⟩ : ∃ W, w.alloc (.cells (cc c) 23) = W := ⟨_, rfl⟩
  have HX := Lib.hid (show Bx W w.heap.size 23 (cc c) by rw [← hW]; exact Bx.new _ _ _)
  have HB := Lib.hid (show Below w.heap.size w W by rw [← hW]; exact alloc_ _ _)
  have HW := Lib.hid hW
  clear hW
  go_enter Try.func4, Try.ntmps4
  go_wp2_with fail
  rw [HW.out]
  refine (awake _).mono ?_
  rintro e w1 ⟨rfl, hb1⟩
  have HB1 := Lib.hid (HB.out.trans (hb1.mono HB.out.size))
  have HX1 := Lib.hid (HX.out.keep hb1)
  clear hb1 HX HB
  have x0 := HX1.out.c 0
  have x1 := HX1.out.c 1
  have x2 := HX1.out.c 2
  have x3 := HX1.out.c 3
  have x4 := HX1.out.c 4
  go_wp2_with fail
  refine (C3 _).out.mono ?_
  rintro e w2 ⟨rfl, hb2⟩
  have HX2 := Lib.hid (HX1.out.keep hb2)
  have HB2 := Lib.hid (HB1.out.trans (hb2.mono HB1.out.size))
  clear hb2 x0 x1 x2 x3 x4 HX1 HB1
  have x0 := HX2.out.c 0
  have x1 := HX2.out.c 1
  have x2 := HX2.out.c 2
  have x3 := HX2.out.c 3
  have x4 := HX2.out.c 4
  go_wp2_with fail
  refine (C1 _).out.mono ?_
  rintro e w3 ⟨rfl, hb3⟩
  have HX3 := Lib.hid (HX2.out.keep hb3)
  have HB3 := Lib.hid (HB2.out.trans (hb3.mono HB2.out.size))
  clear hb3 x0 x1 x2 x3 x4 HX2 HB2
  have x0 := HX3.out.c 0
  have x1 := HX3.out.c 1
  have x2 := HX3.out.c 2
  have x3 := HX3.out.c 3
  have x4 := HX3.out.c 4
  go_wp2
  go_ret
  exact ⟨rfl, HB3.out⟩

set_option maxRecDepth 100000 in
set_option maxHeartbeats 2000000 in
theorem way_s1 (c : Co) (x u y : Int) {w : World} (C1 : ∀ w : World, Hid (Calls Try.prog 9 #[cg c] w (Yes w true))) (C3 : ∀ w : World, Hid (Calls Try.prog 11 #[cg c, .int .i64 x, .int .i64 u] w fun e w' => e = .returned (.int .i64 y) ∧ Below w.heap.size w w'))
    (t0 : decide (x < 0) = false) (t1 : decide (u < 0) = false) (z : Int) (q2 : wrap64 (c.g - u) = z) (q2' : IntKind.i64.wrap (c.g - u) = z) (t2 : decide (y < 0) = false) (t3 : decide (c.l < y) = false) (t4 : decide (x < y) = false) (t5 : decide (0 < y) = true) (t8 : decide (x ≤ c.d) = false) (t9 : decide (z < y) = false) (t6 : decide (c.s < 10000) = true) : Calls Try.prog 4 #[cg c, .int .i64 x, .int .i64 u] w (Yes w true) := by
  obtain ⟨W, hW⟩ : ∃ W, w.alloc (.cells (cc c) 23) = W := ⟨_, rfl⟩
  have HX := Lib.hid (show Bx W w.heap.size 23 (cc c) by rw [← hW]; exact Bx.new _ _ _)
  have HB := Lib.hid (show Below w.heap.size w W by rw [← hW]; exact alloc_ _ _)
  have HW := Lib.hid hW
  clear hW
  go_enter Try.func4, Try.ntmps4
  go_wp2_with fail
  rw [HW.out]
  refine (awake _).mono ?_
  rintro e w1 ⟨rfl, hb1⟩
  have HB1 := Lib.hid (HB.out.trans (hb1.mono HB.out.size))
  have HX1 := Lib.hid (HX.out.keep hb1)
  clear hb1 HX HB
  have x0 := HX1.out.c 0
  have x1 := HX1.out.c 1
  have x2 := HX1.out.c 2
  have x3 := HX1.out.c 3
  have x4 := HX1.out.c 4
  go_wp2_with fail
  refine (C3 _).out.mono ?_
  rintro e w2 ⟨rfl, hb2⟩
  have HX2 := Lib.hid (HX1.out.keep hb2)
  have HB2 := Lib.hid (HB1.out.trans (hb2.mono HB1.out.size))
  clear hb2 x0 x1 x2 x3 x4 HX1 HB1
  have x0 := HX2.out.c 0
  have x1 := HX2.out.c 1
  have x2 := HX2.out.c 2
  have x3 := HX2.out.c 3
  have x4 := HX2.out.c 4
  go_wp2_with fail
  refine (C1 _).out.mono ?_
  rintro e w3 ⟨rfl, hb3⟩
  have HX3 := Lib.hid (HX2.out.keep hb3)
  have HB3 := Lib.hid (HB2.out.trans (hb3.mono HB2.out.size))
  clear hb3 x0 x1 x2 x3 x4 HX2 HB2
  have x0 := HX3.out.c 0
  have x1 := HX3.out.c 1
  have x2 := HX3.out.c 2
  have x3 := HX3.out.c 3
  have x4 := HX3.out.c 4
  go_wp2
  go_ret
  exact ⟨rfl, HB3.out⟩

set_option maxRecDepth 100000 in
set_option maxHeartbeats 2000000 in
theorem way_u1 (c : Co) (x u y : Int) {w : World} (C1 : ∀ w : World, Hid (Calls Try.prog 9 #[cg c] w (Yes w true))) (C3 : ∀ w : World, Hid (Calls Try.prog 11 #[cg c, .int .i64 x, .int .i64 u] w fun e w' => e = .returned (.int .i64 y) ∧ Below w.heap.size w w'))
    (t0 : decide (x < 0) = false) (t1 : decide (u < 0) = false) (z : Int) (q2 : wrap64 (c.g - u) = z) (q2' : IntKind.i64.wrap (c.g - u) = z) (t2 : decide (y < 0) = false) (t3 : decide (c.l < y) = false) (t4 : decide (x < y) = false) (t5 : decide (0 < y) = true) (t8 : decide (x ≤ c.d) = false) (t9 : decide (z < y) = false) (t6 : decide (c.s < 10000) = false) (t7 : decide (0 < u) = true) : Calls Try.prog 4 #[cg c, .int .i64 x, .int .i64 u] w (Yes w true) := by
  obtain ⟨W, hW⟩ : ∃ W, w.alloc (.cells (cc c) 23) = W := ⟨_, rfl⟩
  have HX := Lib.hid (show Bx W w.heap.size 23 (cc c) by rw [← hW]; exact Bx.new _ _ _)
  have HB := Lib.hid (show Below w.heap.size w W by rw [← hW]; exact alloc_ _ _)
  have HW := Lib.hid hW
  clear hW
  go_enter Try.func4, Try.ntmps4
  go_wp2_with fail
  rw [HW.out]
  refine (awake _).mono ?_
  rintro e w1 ⟨rfl, hb1⟩
  have HB1 := Lib.hid (HB.out.trans (hb1.mono HB.out.size))
  have HX1 := Lib.hid (HX.out.keep hb1)
  clear hb1 HX HB
  have x0 := HX1.out.c 0
  have x1 := HX1.out.c 1
  have x2 := HX1.out.c 2
  have x3 := HX1.out.c 3
  have x4 := HX1.out.c 4
  go_wp2_with fail
  refine (C3 _).out.mono ?_
  rintro e w2 ⟨rfl, hb2⟩
  have HX2 := Lib.hid (HX1.out.keep hb2)
  have HB2 := Lib.hid (HB1.out.trans (hb2.mono HB1.out.size))
  clear hb2 x0 x1 x2 x3 x4 HX1 HB1
  have x0 := HX2.out.c 0
  have x1 := HX2.out.c 1
  have x2 := HX2.out.c 2
  have x3 := HX2.out.c 3
  have x4 := HX2.out.c 4
  go_wp2_with fail
  refine (C1 _).out.mono ?_
  rintro e w3 ⟨rfl, hb3⟩
  have HX3 := Lib.hid (HX2.out.keep hb3)
  have HB3 := Lib.hid (HB2.out.trans (hb3.mono HB2.out.size))
  clear hb3 x0 x1 x2 x3 x4 HX2 HB2
  have x0 := HX3.out.c 0
  have x1 := HX3.out.c 1
  have x2 := HX3.out.c 2
  have x3 := HX3.out.c 3
  have x4 := HX3.out.c 4
  go_wp2
  go_ret
  exact ⟨rfl, HB3.out⟩

set_option maxRecDepth 100000 in
set_option maxHeartbeats 2000000 in
theorem way_n1 (c : Co) (x u y : Int) {w : World} (C1 : ∀ w : World, Hid (Calls Try.prog 9 #[cg c] w (Yes w true))) (C3 : ∀ w : World, Hid (Calls Try.prog 11 #[cg c, .int .i64 x, .int .i64 u] w fun e w' => e = .returned (.int .i64 y) ∧ Below w.heap.size w w'))
    (t0 : decide (x < 0) = false) (t1 : decide (u < 0) = false) (z : Int) (q2 : wrap64 (c.g - u) = z) (q2' : IntKind.i64.wrap (c.g - u) = z) (t2 : decide (y < 0) = false) (t3 : decide (c.l < y) = false) (t4 : decide (x < y) = false) (t5 : decide (0 < y) = true) (t8 : decide (x ≤ c.d) = false) (t9 : decide (z < y) = false) (t6 : decide (c.s < 10000) = false) (t7 : decide (0 < u) = false) (q3 : max 0 (min (x - c.d) c.l) = y) (q1 : wrap64 (x - c.d) = x - c.d) (q1' : IntKind.i64.wrap (x - c.d) = x - c.d) : Calls Try.prog 4 #[cg c, .int .i64 x, .int .i64 u] w (Yes w true) := by
  obtain ⟨W, hW⟩ : ∃ W, w.alloc (.cells (cc c) 23) = W := ⟨_, rfl⟩
  have HX := Lib.hid (show Bx W w.heap.size 23 (cc c) by rw [← hW]; exact Bx.new _ _ _)
  have HB := Lib.hid (show Below w.heap.size w W by rw [← hW]; exact alloc_ _ _)
  have HW := Lib.hid hW
  clear hW
  go_enter Try.func4, Try.ntmps4
  go_wp2_with fail
  rw [HW.out]
  refine (awake _).mono ?_
  rintro e w1 ⟨rfl, hb1⟩
  have HB1 := Lib.hid (HB.out.trans (hb1.mono HB.out.size))
  have HX1 := Lib.hid (HX.out.keep hb1)
  clear hb1 HX HB
  have x0 := HX1.out.c 0
  have x1 := HX1.out.c 1
  have x2 := HX1.out.c 2
  have x3 := HX1.out.c 3
  have x4 := HX1.out.c 4
  go_wp2_with fail
  refine (C3 _).out.mono ?_
  rintro e w2 ⟨rfl, hb2⟩
  have HX2 := Lib.hid (HX1.out.keep hb2)
  have HB2 := Lib.hid (HB1.out.trans (hb2.mono HB1.out.size))
  clear hb2 x0 x1 x2 x3 x4 HX1 HB1
  have x0 := HX2.out.c 0
  have x1 := HX2.out.c 1
  have x2 := HX2.out.c 2
  have x3 := HX2.out.c 3
  have x4 := HX2.out.c 4
  go_wp2_with fail
  refine (C1 _).out.mono ?_
  rintro e w3 ⟨rfl, hb3⟩
  have HX3 := Lib.hid (HX2.out.keep hb3)
  have HB3 := Lib.hid (HB2.out.trans (hb3.mono HB2.out.size))
  clear hb3 x0 x1 x2 x3 x4 HX2 HB2
  have x0 := HX3.out.c 0
  have x1 := HX3.out.c 1
  have x2 := HX3.out.c 2
  have x3 := HX3.out.c 3
  have x4 := HX3.out.c 4
  go_wp2
  go_ret
  exact ⟨rfl, HB3.out⟩

theorem walk (c : Co) (x : Int) (hx : -9223372036854775808 ≤ x ∧ x ≤ 9223372036854775807) (u : Int) (hu : -9223372036854775808 ≤ u ∧ u ≤ 9223372036854775807) {w : World} :
    Calls Try.prog 4 #[cg c, .int .i64 x, .int .i64 u] w (Yes w true) := by
  have C1 := fun w => Lib.hid (right_ c w)
  have C3 := fun w => Lib.hid (pays c x u w hx hu)
  by_cases hc : Ok c
  · rw [ok_yes hc] at C1
    by_cases h1 : x < 0
    · rw [pay_no (.inl h1)] at C3
      exact way_x c x u 0 C1 C3 (decide_eq_true h1)
    by_cases h2 : u < 0
    · rw [pay_no (.inr (.inl h2))] at C3
      exact way_u c x u 0 C1 C3 (decide_eq_false h1) (decide_eq_true h2)
    have hb := pay_le hc (by omega : 0 ≤ x) (by omega : 0 ≤ u)
    have full := pay_full hc (by omega : 0 ≤ x) (u := u)
    have q1 : wrap64 (x - c.d) = x - c.d := by obtain ⟨_, _, _, _, _, _, _, _⟩ := hc; exact IntWalk.wrap64_in _ ⟨by omega, by omega⟩
    have q2 : wrap64 (c.g - u) = c.g - u := by obtain ⟨_, _, _, _, _, _, _, _⟩ := hc; exact IntWalk.wrap64_in _ ⟨by omega, by omega⟩
    have hcs := hc.2.2.2.1
    generalize pay c x u = y at C3 hb full
    clear hc
    obtain ⟨b1, b2, b3, b4, b5⟩ := hb
    by_cases hp : 0 < y
    · have b6 := b4 hp
      have b7 := b5 hp
      by_cases hs : c.s < 10000
      · skip
        exact way_s1 c x u y C1 C3 (decide_eq_false (by omega)) (decide_eq_false (by omega)) _ q2 ((IntWalk.i64_left _).trans q2) (decide_eq_false (by omega)) (decide_eq_false (by omega)) (decide_eq_false (by omega)) (decide_eq_true hp) (decide_eq_false (by omega)) (decide_eq_false (by omega)) (decide_eq_true hs)
      · by_cases hu0 : 0 < u
        · skip
          exact way_u1 c x u y C1 C3 (decide_eq_false (by omega)) (decide_eq_false (by omega)) _ q2 ((IntWalk.i64_left _).trans q2) (decide_eq_false (by omega)) (decide_eq_false (by omega)) (decide_eq_false (by omega)) (decide_eq_true hp) (decide_eq_false (by omega)) (decide_eq_false (by omega)) (decide_eq_false hs) (decide_eq_true hu0)
        · skip
          exact way_n1 c x u y C1 C3 (decide_eq_false (by omega)) (decide_eq_false (by omega)) _ q2 ((IntWalk.i64_left _).trans q2) (decide_eq_false (by omega)) (decide_eq_false (by omega)) (decide_eq_false (by omega)) (decide_eq_true hp) (decide_eq_false (by omega)) (decide_eq_false (by omega)) (decide_eq_false hs) (decide_eq_false hu0) (by rw [Int.max_comm]; exact (full (by omega) (by omega)).symm) q1 ((IntWalk.i64_left _).trans q1)
    · by_cases hs : c.s < 10000
      · skip
        exact way_s0 c x u y C1 C3 (decide_eq_false (by omega)) (decide_eq_false (by omega)) _ q2 ((IntWalk.i64_left _).trans q2) (decide_eq_false (by omega)) (decide_eq_false (by omega)) (decide_eq_false (by omega)) (decide_eq_false hp) (decide_eq_true hs)
      · by_cases hu0 : 0 < u
        · skip
          exact way_u0 c x u y C1 C3 (decide_eq_false (by omega)) (decide_eq_false (by omega)) _ q2 ((IntWalk.i64_left _).trans q2) (decide_eq_false (by omega)) (decide_eq_false (by omega)) (decide_eq_false (by omega)) (decide_eq_false hp) (decide_eq_false hs) (decide_eq_true hu0)
        · skip
          exact way_n0 c x u y C1 C3 (decide_eq_false (by omega)) (decide_eq_false (by omega)) _ q2 ((IntWalk.i64_left _).trans q2) (decide_eq_false (by omega)) (decide_eq_false (by omega)) (decide_eq_false (by omega)) (decide_eq_false hp) (decide_eq_false hs) (decide_eq_false hu0) (by rw [Int.max_comm]; exact (full (by omega) (by omega)).symm) q1 ((IntWalk.i64_left _).trans q1)
  · rw [ok_no hc] at C1
    rw [pay_no (.inr (.inr hc))] at C3
    exact way_no c x u 0 C1 C3

set_option maxRecDepth 100000 in
theorem lifted (os : Os) (started : os.Started) (H : Type) (enc : TypeId × Value → H) :
    ReturnsInHanded {} Try.checked os 4 .any (Rows.coverBoundsSpec.pre6 enc Try.prog Try.f4 Rows.coverBoundsRow.domain false) (Rows.coverBoundsSpec.post enc Try.prog Try.f4 false true false false) := by
  refine returnsInHanded_of_change (C := Try.checked) Cvr.own started (by kernel_rfl) Try.func4
    (ChangeSpec.witness6 (enc := enc) (C := Try.checked) false ⟨#[], #[.agg #[.int .i64 0, .int .i64 0, .int .i64 0, .int .i64 0, .int .i64 0], .int .i64 0, .int .i64 0], []⟩ 8 (by kernel_rfl) (by kernel_rfl) (by kernel_rfl) (by kernel_rfl)) ?_
  intro W base args ds gs before hval0 hW hcnd _
  have hval : ∀ (j : Nat) t v, Try.f4.params[j]? = some t → args[j]? = some v → Value.okWide Try.prog W .any base t v := hval0
  have hW' := hW
  obtain ⟨p, q, hA0, hV, rfl, hfz, hnd⟩ := hW
  have hA : DataW.TrodAll enc Try.prog W 0 (fun _ => true) true Try.f4.params.toList args.toList ds p := hA0
  rw [Try.params4] at hA hval
  obtain ⟨v0, vs0, d0, ds0, p0, q0, hargs, rfl, rfl, h0, r0⟩ := trodAll_cons hA
  obtain ⟨v1, vs1, d1, ds1, p1, q1, rfl, rfl, rfl, h1, r1⟩ := trodAll_cons r0
  obtain ⟨v2, vs2, d2, ds2, p2, q2, rfl, rfl, rfl, h2, r2⟩ := trodAll_cons r1
  obtain ⟨rfl, rfl, rfl⟩ := trodAll_nil r2
  obtain rfl : args = #[v0, v1, v2] := by cases args; simp_all
  obtain ⟨rfl, rfl⟩ := trodVars_none hV
  have k0 := h0
  have lt0 : ∀ x ∈ p0, x.block < W.heap.size := by obtain ⟨m, hm⟩ := k0; exact DataW.trod_lt m _ _ _ hm
  obtain ⟨c0, rfl⟩ := Cvr.open_cover (hval 0 23 v0 rfl rfl) h0
  obtain ⟨a1, rfl, rfl, rfl, w1⟩ := open_int Try.underlying3 (hval 1 3 v1 rfl rfl) h1
  obtain ⟨a2, rfl, rfl, rfl, w2⟩ := open_int Try.underlying3 (hval 2 3 v2 rfl rfl) h2
  clear hA0 hval0
  refine (walk c0 a1 (Cvr.i64_of w1) a2 (Cvr.i64_of w2)).mono fun e W' ⟨he, bel⟩ => ?_
  subst he
  exact ⟨_, rfl, _, _, _, [], _, [], hW', trodAll_mk1 (shut_bool Try.underlying4 _), (trodAll_cons_mk (Below.trod Cvr.laidOut (by kernel_rfl) (of_decide_eq_true (by kernel_rfl)) k0 bel lt0) (trodAll_cons_mk (shut_int Try.underlying3 w1) (trodAll_cons_mk (shut_int Try.underlying3 w2) trodAll_mk0))), rfl, bel.frame _, fun h => by cases h⟩

theorem over : Rows.coverBoundsRow.holds Try.pinned (OpenSpec.ofChange Rows.coverBoundsSpec) :=
  OpenClaim.holds_of_wide 4 Try.f4 rfl rfl rfl rfl rfl rfl rfl ⟨rfl, rfl, rfl, rfl, rfl⟩ rfl rfl rfl rfl rfl (by kernel_rfl) Try.func4 (by kernel_rfl)
    (of_decide_eq_true (by kernel_rfl)) (by unfold Func.isWrapper; first | (rw [if_pos (by decide +kernel)]; kernel_rfl) | (rw [if_neg (by decide +kernel)]; exact ⟨rfl, rfl⟩))
    (fun os started H enc _ => lifted os started H enc)

theorem proved : Rows.CoverBoundsSaid := over
end Go.Proofs.Ytjcehjofimkjaaa.coverBounds
