/-
  The statement CoverRises holds: for every input the call returns true, and each argument reads afterwards as it read before. Conditions: none beside those that the row itself bears.
-/
import Derived.Test.YtjcehjofimkjaaaGiven
namespace Go.Proofs.Ytjcehjofimkjaaa.coverRises
open Go.ChangeShapes Go.WideShapes Go.ChangeAt Go.RowKit Cv Cvr
set_option linter.unusedVariables false


set_option maxRecDepth 100000 in
set_option maxHeartbeats 2000000 in
theorem far_no (c : Co) (x m u v : Int) {w : World} (C1 : ∀ w : World, Hid (Calls Try.prog 9 #[cg c] w (Yes w false)))  : Calls Try.prog 5 #[cg c, .int .i64 x, .int .i64 m, .int .i64 u, .int .i64 v] w (Yes w true) := by
  obtain ⟨W, hW⟩ : ∃ W, w.alloc (.cells (cc c) 23) = W := ⟨_, rfl⟩
  have HX := Lib.hid (show Bx W w.heap.size 23 (cc c) by rw [← hW]; exact Bx.new _ _ _)
  have HB := Lib.hid (show Below w.heap.size w W by rw [← hW]; exact alloc_ _ _)
  have HW := Lib.hid hW
  clear hW
  go_enter Try.func5, Try.ntmps5
  go_wp2_with fail
  rw [HW.out]
  refine (awake _).mono ?_
  rintro e w1 ⟨rfl, hb1⟩
  have HB1 := Lib.hid (HB.out.trans (hb1.mono HB.out.size))
  have HX1 := Lib.hid (HX.out.keep hb1)
  clear hb1 HX HB
  have x0 := HX1.out.c 0
  have x1 := HX1.out.c 1
  have x2 := HX1.out.c 2
  have x3 := HX1.out.c 3
  have x4 := HX1.out.c 4
  go_wp2_with fail
  refine (C1 _).out.mono ?_
  rintro e w2 ⟨rfl, hb2⟩
  have HX2 := Lib.hid (HX1.out.keep hb2)
  have HB2 := Lib.hid (HB1.out.trans (hb2.mono HB1.out.size))
  clear hb2 x0 x1 x2 x3 x4 HX1 HB1
  have x0 := HX2.out.c 0
  have x1 := HX2.out.c 1
  have x2 := HX2.out.c 2
  have x3 := HX2.out.c 3
  have x4 := HX2.out.c 4
  go_wp2
  go_ret
  exact ⟨rfl, HB2.out⟩

set_option maxRecDepth 100000 in
set_option maxHeartbeats 2000000 in
theorem far_0 (c : Co) (x m u v : Int) {w : World} (C1 : ∀ w : World, Hid (Calls Try.prog 9 #[cg c] w (Yes w true))) (t0 : decide (x < 0) = true) : Calls Try.prog 5 #[cg c, .int .i64 x, .int .i64 m, .int .i64 u, .int .i64 v] w (Yes w true) := by
  obtain ⟨W, hW⟩ : ∃ W, w.alloc (.cells (cc c) 23) = W := ⟨_, rfl⟩
  have HX := Lib.hid (show Bx W w.heap.size 23 (cc c) by rw [← hW]; exact Bx.new _ _ _)
  have HB := Lib.hid (show Below w.heap.size w W by rw [← hW]; exact alloc_ _ _)
  have HW := Lib.hid hW
  clear hW
  go_enter Try.func5, Try.ntmps5
  go_wp2_with fail
  rw [HW.out]
  refine (awake _).mono ?_
  rintro e w1 ⟨rfl, hb1⟩
  have HB1 := Lib.hid (HB.out.trans (hb1.mono HB.out.size))
  have HX1 := Lib.hid (HX.out.keep hb1)
  clear hb1 HX HB
  have x0 := HX1.out.c 0
  have x1 := HX1.out.c 1
  have x2 := HX1.out.c 2
  have x3 := HX1.out.c 3
  have x4 := HX1.out.c 4
  go_wp2_with fail
  refine (C1 _).out.mono ?_
  rintro e w2 ⟨rfl, hb2⟩
  have HX2 := Lib.hid (HX1.out.keep hb2)
  have HB2 := Lib.hid (HB1.out.trans (hb2.mono HB1.out.size))
  clear hb2 x0 x1 x2 x3 x4 HX1 HB1
  have x0 := HX2.out.c 0
  have x1 := HX2.out.c 1
  have x2 := HX2.out.c 2
  have x3 := HX2.out.c 3
  have x4 := HX2.out.c 4
  go_wp2
  go_ret
  exact ⟨rfl, HB2.out⟩

set_option maxRecDepth 100000 in
set_option maxHeartbeats 2000000 in
theorem far_1 (c : Co) (x m u v : Int) {w : World} (C1 : ∀ w : World, Hid (Calls Try.prog 9 #[cg c] w (Yes w true))) (t0 : decide (x < 0) = false) (t1 : decide (m < 0) = true) : Calls Try.prog 5 #[cg c, .int .i64 x, .int .i64 m, .int .i64 u, .int .i64 v] w (Yes w true) := by
  obtain ⟨W, hW⟩ : ∃ W, w.alloc (.cells (cc c) 23) = W := ⟨_, rfl⟩
  have HX := Lib.hid (show Bx W w.heap.size 23 (cc c) by rw [← hW]; exact Bx.new _ _ _)
  have HB := Lib.hid (show Below w.heap.size w W by rw [← hW]; exact alloc_ _ _)
  have HW := Lib.hid hW
  clear hW
  go_enter Try.func5, Try.ntmps5
  go_wp2_with fail
  rw [HW.out]
  refine (awake _).mono ?_
  rintro e w1 ⟨rfl, hb1⟩
  have HB1 := Lib.hid (HB.out.trans (hb1.mono HB.out.size))
  have HX1 := Lib.hid (HX.out.keep hb1)
  clear hb1 HX HB
  have x0 := HX1.out.c 0
  have x1 := HX1.out.c 1
  have x2 := HX1.out.c 2
  have x3 := HX1.out.c 3
  have x4 := HX1.out.c 4
  go_wp2_with fail
  refine (C1 _).out.mono ?_
  rintro e w2 ⟨rfl, hb2⟩
  have HX2 := Lib.hid (HX1.out.keep hb2)
  have HB2 := Lib.hid (HB1.out.trans (hb2.mono HB1.out.size))
  clear hb2 x0 x1 x2 x3 x4 HX1 HB1
  have x0 := HX2.out.c 0
  have x1 := HX2.out.c 1
  have x2 := HX2.out.c 2
  have x3 := HX2.out.c 3
  have x4 := HX2.out.c 4
  go_wp2
  go_ret
  exact ⟨rfl, HB2.out⟩

set_option maxRecDepth 100000 in
set_option maxHeartbeats 2000000 in
theorem far_2 (c : Co) (x m u v : Int) {w : World} (C1 : ∀ w : World, Hid (Calls Try.prog 9 #[cg c] w (Yes w true))) (t0 : decide (x < 0) = false) (t1 : decide (m < 0) = false) (t2 : decide (u < 0) = true) : Calls Try.prog 5 #[cg c, .int .i64 x, .int .i64 m, .int .i64 u, .int .i64 v] w (Yes w true) := by
  obtain ⟨W, hW⟩ : ∃ W, w.alloc (.cells (cc c) 23) = W := ⟨_, rfl⟩
  have HX := Lib.hid (show Bx W w.heap.size 23 (cc c) by rw [← hW]; exact Bx.new _ _ _)
  have HB := Lib.hid (show Below w.heap.size w W by rw [← hW]; exact alloc_ _ _)
  have HW := Lib.hid hW
  clear hW
  go_enter Try.func5, Try.ntmps5
  go_wp2_with fail
  rw [HW.out]
  refine (awake _).mono ?_
  rintro e w1 ⟨rfl, hb1⟩
  have HB1 := Lib.hid (HB.out.trans (hb1.mono HB.out.size))
  have HX1 := Lib.hid (HX.out.keep hb1)
  clear hb1 HX HB
  have x0 := HX1.out.c 0
  have x1 := HX1.out.c 1
  have x2 := HX1.out.c 2
  have x3 := HX1.out.c 3
  have x4 := HX1.out.c 4
  go_wp2_with fail
  refine (C1 _).out.mono ?_
  rintro e w2 ⟨rfl, hb2⟩
  have HX2 := Lib.hid (HX1.out.keep hb2)
  have HB2 := Lib.hid (HB1.out.trans (hb2.mono HB1.out.size))
  clear hb2 x0 x1 x2 x3 x4 HX1 HB1
  have x0 := HX2.out.c 0
  have x1 := HX2.out.c 1
  have x2 := HX2.out.c 2
  have x3 := HX2.out.c 3
  have x4 := HX2.out.c 4
  go_wp2
  go_ret
  exact ⟨rfl, HB2.out⟩

set_option maxRecDepth 100000 in
set_option maxHeartbeats 2000000 in
theorem far_3 (c : Co) (x m u v : Int) {w : World} (C1 : ∀ w : World, Hid (Calls Try.prog 9 #[cg c] w (Yes w true))) (t0 : decide (x < 0) = false) (t1 : decide (m < 0) = false) (t2 : decide (u < 0) = false) (t3 : decide (v < 0) = true) : Calls Try.prog 5 #[cg c, .int .i64 x, .int .i64 m, .int .i64 u, .int .i64 v] w (Yes w true) := by
  obtain ⟨W, hW⟩ : ∃ W, w.alloc (.cells (cc c) 23) = W := ⟨_, rfl⟩
  have HX := Lib.hid (show Bx W w.heap.size 23 (cc c) by rw [← hW]; exact Bx.new _ _ _)
  have HB := Lib.hid (show Below w.heap.size w W by rw [← hW]; exact alloc_ _ _)
  have HW := Lib.hid hW
  clear hW
  go_enter Try.func5, Try.ntmps5
  go_wp2_with fail
  rw [HW.out]
  refine (awake _).mono ?_
  rintro e w1 ⟨rfl, hb1⟩
  have HB1 := Lib.hid (HB.out.trans (hb1.mono HB.out.size))
  have HX1 := Lib.hid (HX.out.keep hb1)
  clear hb1 HX HB
  have x0 := HX1.out.c 0
  have x1 := HX1.out.c 1
  have x2 := HX1.out.c 2
  have x3 := HX1.out.c 3
  have x4 := HX1.out.c 4
  go_wp2_with fail
  refine (C1 _).out.mono ?_
  rintro e w2 ⟨rfl, hb2⟩
  have HX2 := Lib.hid (HX1.out.keep hb2)
  have HB2 := Lib.hid (HB1.out.trans (hb2.mono HB1.out.size))
  clear hb2 x0 x1 x2 x3 x4 HX1 HB1
  have x0 := HX2.out.c 0
  have x1 := HX2.out.c 1
  have x2 := HX2.out.c 2
  have x3 := HX2.out.c 3
  have x4 := HX2.out.c 4
  go_wp2
  go_ret
  exact ⟨rfl, HB2.out⟩

set_option maxRecDepth 100000 in
set_option maxHeartbeats 2000000 in
theorem far_4 (c : Co) (x m u v : Int) {w : World} (C1 : ∀ w : World, Hid (Calls Try.prog 9 #[cg c] w (Yes w true))) (t0 : decide (x < 0) = false) (t1 : decide (m < 0) = false) (t2 : decide (u < 0) = false) (t3 : decide (v < 0) = false) (t4 : decide (4000000000000000000 < x) = true) : Calls Try.prog 5 #[cg c, .int .i64 x, .int .i64 m, .int .i64 u, .int .i64 v] w (Yes w true) := by
  obtain ⟨W, hW⟩ : ∃ W, w.alloc (.cells (cc c) 23) = W := ⟨_, rfl⟩
  have HX := Lib.hid (show Bx W w.heap.size 23 (cc c) by rw [← hW]; exact Bx.new _ _ _)
  have HB := Lib.hid (show Below w.heap.size w W by rw [← hW]; exact alloc_ _ _)
  have HW := Lib.hid hW
  clear hW
  go_enter Try.func5, Try.ntmps5
  go_wp2_with fail
  rw [HW.out]
  refine (awake _).mono ?_
  rintro e w1 ⟨rfl, hb1⟩
  have HB1 := Lib.hid (HB.out.trans (hb1.mono HB.out.size))
  have HX1 := Lib.hid (HX.out.keep hb1)
  clear hb1 HX HB
  have x0 := HX1.out.c 0
  have x1 := HX1.out.c 1
  have x2 := HX1.out.c 2
  have x3 := HX1.out.c 3
  have x4 := HX1.out.c 4
  go_wp2_with fail
  refine (C1 _).out.mono ?_
  rintro e w2 ⟨rfl, hb2⟩
  have HX2 := Lib.hid (HX1.out.keep hb2)
  have HB2 := Lib.hid (HB1.out.trans (hb2.mono HB1.out.size))
  clear hb2 x0 x1 x2 x3 x4 HX1 HB1
  have x0 := HX2.out.c 0
  have x1 := HX2.out.c 1
  have x2 := HX2.out.c 2
  have x3 := HX2.out.c 3
  have x4 := HX2.out.c 4
  go_wp2
  go_ret
  exact ⟨rfl, HB2.out⟩

set_option maxRecDepth 100000 in
set_option maxHeartbeats 2000000 in
theorem far_5 (c : Co) (x m u v : Int) {w : World} (C1 : ∀ w : World, Hid (Calls Try.prog 9 #[cg c] w (Yes w true))) (t0 : decide (x < 0) = false) (t1 : decide (m < 0) = false) (t2 : decide (u < 0) = false) (t3 : decide (v < 0) = false) (t4 : decide (4000000000000000000 < x) = false) (t5 : decide (4000000000000000000 < m) = true) : Calls Try.prog 5 #[cg c, .int .i64 x, .int .i64 m, .int .i64 u, .int .i64 v] w (Yes w true) := by
  obtain ⟨W, hW⟩ : ∃ W, w.alloc (.cells (cc c) 23) = W := ⟨_, rfl⟩
  have HX := Lib.hid (show Bx W w.heap.size 23 (cc c) by rw [← hW]; exact Bx.new _ _ _)
  have HB := Lib.hid (show Below w.heap.size w W by rw [← hW]; exact alloc_ _ _)
  have HW := Lib.hid hW
  clear hW
  go_enter Try.func5, Try.ntmps5
  go_wp2_with fail
  rw [HW.out]
  refine (awake _).mono ?_
  rintro e w1 ⟨rfl, hb1⟩
  have HB1 := Lib.hid (HB.out.trans (hb1.mono HB.out.size))
  have HX1 := Lib.hid (HX.out.keep hb1)
  clear hb1 HX HB
  have x0 := HX1.out.c 0
  have x1 := HX1.out.c 1
  have x2 := HX1.out.c 2
  have x3 := HX1.out.c 3
  have x4 := HX1.out.c 4
  go_wp2_with fail
  refine (C1 _).out.mono ?_
  rintro e w2 ⟨rfl, hb2⟩
  have HX2 := Lib.hid (HX1.out.keep hb2)
  have HB2 := Lib.hid (HB1.out.trans (hb2.mono HB1.out.size))
  clear hb2 x0 x1 x2 x3 x4 HX1 HB1
  have x0 := HX2.out.c 0
  have x1 := HX2.out.c 1
  have x2 := HX2.out.c 2
  have x3 := HX2.out.c 3
  have x4 := HX2.out.c 4
  go_wp2
  go_ret
  exact ⟨rfl, HB2.out⟩

set_option maxRecDepth 100000 in
set_option maxHeartbeats 2000000 in
theorem far_6 (c : Co) (x m u v : Int) {w : World} (C1 : ∀ w : World, Hid (Calls Try.prog 9 #[cg c] w (Yes w true))) (t0 : decide (x < 0) = false) (t1 : decide (m < 0) = false) (t2 : decide (u < 0) = false) (t3 : decide (v < 0) = false) (t4 : decide (4000000000000000000 < x) = false) (t5 : decide (4000000000000000000 < m) = false) (t6 : decide (4000000000000000000 < u) = true) : Calls Try.prog 5 #[cg c, .int .i64 x, .int .i64 m, .int .i64 u, .int .i64 v] w (Yes w true) := by
  obtain ⟨W, hW⟩ : ∃ W, w.alloc (.cells (cc c) 23) = W := ⟨_, rfl⟩
  have HX := Lib.hid (show Bx W w.heap.size 23 (cc c) by rw [← hW]; exact Bx.new _ _ _)
  have HB := Lib.hid (show Below w.heap.size w W by rw [← hW]; exact alloc_ _ _)
  have HW := Lib.hid hW
  clear hW
  go_enter Try.func5, Try.ntmps5
  go_wp2_with fail
  rw [HW.out]
  refine (awake _).mono ?_
  rintro e w1 ⟨rfl, hb1⟩
  have HB1 := Lib.hid (HB.out.trans (hb1.mono HB.out.size))
  have HX1 := Lib.hid (HX.out.keep hb1)
  clear hb1 HX HB
  have x0 := HX1.out.c 0
  have x1 := HX1.out.c 1
  have x2 := HX1.out.c 2
  have x3 := HX1.out.c 3
  have x4 := HX1.out.c 4
  go_wp2_with fail
  refine (C1 _).out.mono ?_
  rintro e w2 ⟨rfl, hb2⟩
  have HX2 := Lib.hid (HX1.out.keep hb2)
  have HB2 := Lib.hid (HB1.out.trans (hb2.mono HB1.out.size))
  clear hb2 x0 x1 x2 x3 x4 HX1 HB1
  have x0 := HX2.out.c 0
  have x1 := HX2.out.c 1
  have x2 := HX2.out.c 2
  have x3 := HX2.out.c 3
  have x4 := HX2.out.c 4
  go_wp2
  go_ret
  exact ⟨rfl, HB2.out⟩

set_option maxRecDepth 100000 in
set_option maxHeartbeats 2000000 in
theorem far_7 (c : Co) (x m u v : Int) {w : World} (C1 : ∀ w : World, Hid (Calls Try.prog 9 #[cg c] w (Yes w true))) (t0 : decide (x < 0) = false) (t1 : decide (m < 0) = false) (t2 : decide (u < 0) = false) (t3 : decide (v < 0) = false) (t4 : decide (4000000000000000000 < x) = false) (t5 : decide (4000000000000000000 < m) = false) (t6 : decide (4000000000000000000 < u) = false) (t7 : decide (4000000000000000000 < v) = true) : Calls Try.prog 5 #[cg c, .int .i64 x, .int .i64 m, .int .i64 u, .int .i64 v] w (Yes w true) := by
  obtain ⟨W, hW⟩ : ∃ W, w.alloc (.cells (cc c) 23) = W := ⟨_, rfl⟩
  have HX := Lib.hid (show Bx W w.heap.size 23 (cc c) by rw [← hW]; exact Bx.new _ _ _)
  have HB := Lib.hid (show Below w.heap.size w W by rw [← hW]; exact alloc_ _ _)
  have HW := Lib.hid hW
  clear hW
  go_enter Try.func5, Try.ntmps5
  go_wp2_with fail
  rw [HW.out]
  refine (awake _).mono ?_
  rintro e w1 ⟨rfl, hb1⟩
  have HB1 := Lib.hid (HB.out.trans (hb1.mono HB.out.size))
  have HX1 := Lib.hid (HX.out.keep hb1)
  clear hb1 HX HB
  have x0 := HX1.out.c 0
  have x1 := HX1.out.c 1
  have x2 := HX1.out.c 2
  have x3 := HX1.out.c 3
  have x4 := HX1.out.c 4
  go_wp2_with fail
  refine (C1 _).out.mono ?_
  rintro e w2 ⟨rfl, hb2⟩
  have HX2 := Lib.hid (HX1.out.keep hb2)
  have HB2 := Lib.hid (HB1.out.trans (hb2.mono HB1.out.size))
  clear hb2 x0 x1 x2 x3 x4 HX1 HB1
  have x0 := HX2.out.c 0
  have x1 := HX2.out.c 1
  have x2 := HX2.out.c 2
  have x3 := HX2.out.c 3
  have x4 := HX2.out.c 4
  go_wp2
  go_ret
  exact ⟨rfl, HB2.out⟩

set_option maxRecDepth 100000 in
set_option maxHeartbeats 2000000 in
theorem near (c : Co) (x m u v : Int) {w : World} (C1 : ∀ w : World, Hid (Calls Try.prog 9 #[cg c] w (Yes w true))) (a b d X U : Int)
    (C2 : ∀ w : World, Hid (Calls Try.prog 11 #[cg c, .int .i64 x, .int .i64 u] w fun e w' => e = .returned (.int .i64 a) ∧ Below w.heap.size w w'))
    (C3 : ∀ w : World, Hid (Calls Try.prog 11 #[cg c, .int .i64 X, .int .i64 u] w fun e w' => e = .returned (.int .i64 b) ∧ Below w.heap.size w w'))
    (C4 : ∀ w : World, Hid (Calls Try.prog 11 #[cg c, .int .i64 x, .int .i64 U] w fun e w' => e = .returned (.int .i64 d) ∧ Below w.heap.size w w'))
    (t0 : decide (x < 0) = false) (t1 : decide (m < 0) = false) (t2 : decide (u < 0) = false) (t3 : decide (v < 0) = false) (t4 : decide (4000000000000000000 < x) = false) (t5 : decide (4000000000000000000 < m) = false) (t6 : decide (4000000000000000000 < u) = false) (t7 : decide (4000000000000000000 < v) = false) (eX : wrap64 (x + m) = X) (eU : wrap64 (u + v) = U) (y z : Int) (ey : wrap64 (b - a) = y) (ez : wrap64 (a - d) = z)
    (s0 : decide (a ≤ b) = true) (s1 : decide (y ≤ m) = true) (s2 : decide (d ≤ a) = true) (s3 : decide (z ≤ v) = true) :
    Calls Try.prog 5 #[cg c, .int .i64 x, .int .i64 m, .int .i64 u, .int .i64 v] w (Yes w true) := by
  obtain ⟨W, hW⟩ : ∃ W, w.alloc (.cells (cc c) 23) = W := ⟨_, rfl⟩
  have HX := Lib.hid (show Bx W w.heap.size 23 (cc c) by rw [← hW]; exact Bx.new _ _ _)
  have HB := Lib.hid (show Below w.heap.size w W by rw [← hW]; exact alloc_ _ _)
  have HW := Lib.hid hW
  clear hW
  go_enter Try.func5, Try.ntmps5
  go_wp2_with fail
  rw [HW.out]
  refine (awake _).mono ?_
  rintro e w1 ⟨rfl, hb1⟩
  have HB1 := Lib.hid (HB.out.trans (hb1.mono HB.out.size))
  have HX1 := Lib.hid (HX.out.keep hb1)
  clear hb1 HX HB
  have x0 := HX1.out.c 0
  have x1 := HX1.out.c 1
  have x2 := HX1.out.c 2
  have x3 := HX1.out.c 3
  have x4 := HX1.out.c 4
  go_wp2_with fail
  refine (C1 _).out.mono ?_
  rintro e w2 ⟨rfl, hb2⟩
  have HX2 := Lib.hid (HX1.out.keep hb2)
  have HB2 := Lib.hid (HB1.out.trans (hb2.mono HB1.out.size))
  clear hb2 x0 x1 x2 x3 x4 HX1 HB1
  have x0 := HX2.out.c 0
  have x1 := HX2.out.c 1
  have x2 := HX2.out.c 2
  have x3 := HX2.out.c 3
  have x4 := HX2.out.c 4
  go_wp2_with fail
  refine (C2 _).out.mono ?_
  rintro e w3 ⟨rfl, hb3⟩
  have HX3 := Lib.hid (HX2.out.keep hb3)
  have HB3 := Lib.hid (HB2.out.trans (hb3.mono HB2.out.size))
  clear hb3 x0 x1 x2 x3 x4 HX2 HB2
  have x0 := HX3.out.c 0
  have x1 := HX3.out.c 1
  have x2 := HX3.out.c 2
  have x3 := HX3.out.c 3
  have x4 := HX3.out.c 4
  go_wp2_with fail
  first | refine (C3 _).out.mono ?_ | (rw [eX]; refine (C3 _).out.mono ?_)
  rintro e w4 ⟨rfl, hb4⟩
  have HX4 := Lib.hid (HX3.out.keep hb4)
  have HB4 := Lib.hid (HB3.out.trans (hb4.mono HB3.out.size))
  clear hb4 x0 x1 x2 x3 x4 HX3 HB3
  have x0 := HX4.out.c 0
  have x1 := HX4.out.c 1
  have x2 := HX4.out.c 2
  have x3 := HX4.out.c 3
  have x4 := HX4.out.c 4
  go_wp2_with fail
  first | refine (C4 _).out.mono ?_ | (rw [eU]; refine (C4 _).out.mono ?_)
  rintro e w5 ⟨rfl, hb5⟩
  have HX5 := Lib.hid (HX4.out.keep hb5)
  have HB5 := Lib.hid (HB4.out.trans (hb5.mono HB4.out.size))
  clear hb5 x0 x1 x2 x3 x4 HX4 HB4
  have x0 := HX5.out.c 0
  have x1 := HX5.out.c 1
  have x2 := HX5.out.c 2
  have x3 := HX5.out.c 3
  have x4 := HX5.out.c 4
  go_wp2
  go_ret
  exact ⟨rfl, HB5.out⟩

theorem walk (c : Co) (x : Int) (hx : -9223372036854775808 ≤ x ∧ x ≤ 9223372036854775807) (m : Int) (hm : -9223372036854775808 ≤ m ∧ m ≤ 9223372036854775807) (u : Int) (hu : -9223372036854775808 ≤ u ∧ u ≤ 9223372036854775807) (v : Int) (hv : -9223372036854775808 ≤ v ∧ v ≤ 9223372036854775807) {w : World} :
    Calls Try.prog 5 #[cg c, .int .i64 x, .int .i64 m, .int .i64 u, .int .i64 v] w (Yes w true) := by
  have C1 := fun w => Lib.hid (right_ c w)
  by_cases hc : Ok c
  · rw [ok_yes hc] at C1
    by_cases h0 : x < 0
    · exact far_0 c x m u v C1  (decide_eq_true h0)
    by_cases h1 : m < 0
    · exact far_1 c x m u v C1 (decide_eq_false h0) (decide_eq_true h1)
    by_cases h2 : u < 0
    · exact far_2 c x m u v C1 (decide_eq_false h0) (decide_eq_false h1) (decide_eq_true h2)
    by_cases h3 : v < 0
    · exact far_3 c x m u v C1 (decide_eq_false h0) (decide_eq_false h1) (decide_eq_false h2) (decide_eq_true h3)
    by_cases h4 : 4000000000000000000 < x
    · exact far_4 c x m u v C1 (decide_eq_false h0) (decide_eq_false h1) (decide_eq_false h2) (decide_eq_false h3) (decide_eq_true h4)
    by_cases h5 : 4000000000000000000 < m
    · exact far_5 c x m u v C1 (decide_eq_false h0) (decide_eq_false h1) (decide_eq_false h2) (decide_eq_false h3) (decide_eq_false h4) (decide_eq_true h5)
    by_cases h6 : 4000000000000000000 < u
    · exact far_6 c x m u v C1 (decide_eq_false h0) (decide_eq_false h1) (decide_eq_false h2) (decide_eq_false h3) (decide_eq_false h4) (decide_eq_false h5) (decide_eq_true h6)
    by_cases h7 : 4000000000000000000 < v
    · exact far_7 c x m u v C1 (decide_eq_false h0) (decide_eq_false h1) (decide_eq_false h2) (decide_eq_false h3) (decide_eq_false h4) (decide_eq_false h5) (decide_eq_false h6) (decide_eq_true h7)
    have eX : wrap64 (x + m) = x + m := IntWalk.wrap64_in _ ⟨by omega, by omega⟩
    have eU : wrap64 (u + v) = u + v := IntWalk.wrap64_in _ ⟨by omega, by omega⟩
    have p1 := pay_more hc (x := x) (m := m) (u := u) (by omega) (by omega) (by omega)
    have p2 := pay_used hc (x := x) (u := u) (v := v) (by omega) (by omega) (by omega)
    have b1 := pay_bd c x u
    have b2 := pay_bd c (x + m) u
    have b3 := pay_bd c x (u + v)
    have C2 := fun w => Lib.hid (pays c x u w hx hu)
    have C3 := fun w => Lib.hid (pays c (x + m) u w ⟨by omega, by omega⟩ hu)
    have C4 := fun w => Lib.hid (pays c x (u + v) w hx ⟨by omega, by omega⟩)
    exact near c x m u v C1 _ _ _ _ _ C2 C3 C4 (decide_eq_false h0) (decide_eq_false h1) (decide_eq_false h2) (decide_eq_false h3) (decide_eq_false h4) (decide_eq_false h5) (decide_eq_false h6) (decide_eq_false h7) eX eU _ _ (IntWalk.wrap64_in _ ⟨by omega, by omega⟩) (IntWalk.wrap64_in _ ⟨by omega, by omega⟩) (decide_eq_true p1.1) (decide_eq_true p1.2) (decide_eq_true p2.1) (decide_eq_true p2.2)
  · rw [ok_no hc] at C1
    exact far_no c x m u v C1

set_option maxRecDepth 100000 in
theorem lifted (os : Os) (started : os.Started) (H : Type) (enc : TypeId × Value → H) :
    ReturnsInHanded {} Try.checked os 5 .any (Rows.coverRisesSpec.pre6 enc Try.prog Try.f5 Rows.coverRisesRow.domain false) (Rows.coverRisesSpec.post enc Try.prog Try.f5 false true false false) := by
  refine returnsInHanded_of_change (C := Try.checked) Cvr.own started (by kernel_rfl) Try.func5
    (ChangeSpec.witness6 (enc := enc) (C := Try.checked) false ⟨#[], #[.agg #[.int .i64 0, .int .i64 0, .int .i64 0, .int .i64 0, .int .i64 0], .int .i64 0, .int .i64 0, .int .i64 0, .int .i64 0], []⟩ 8 (by kernel_rfl) (by kernel_rfl) (by kernel_rfl) (by kernel_rfl)) ?_
  intro W base args ds gs before hval0 hW hcnd _
  have hval : ∀ (j : Nat) t v, Try.f5.params[j]? = some t → args[j]? = some v → Value.okWide Try.prog W .any base t v := hval0
  have hW' := hW
  obtain ⟨p, q, hA0, hV, rfl, hfz, hnd⟩ := hW
  have hA : DataW.TrodAll enc Try.prog W 0 (fun _ => true) true Try.f5.params.toList args.toList ds p := hA0
  rw [Try.params5] at hA hval
  obtain ⟨v0, vs0, d0, ds0, p0, q0, hargs, rfl, rfl, h0, r0⟩ := trodAll_cons hA
  obtain ⟨v1, vs1, d1, ds1, p1, q1, rfl, rfl, rfl, h1, r1⟩ := trodAll_cons r0
  obtain ⟨v2, vs2, d2, ds2, p2, q2, rfl, rfl, rfl, h2, r2⟩ := trodAll_cons r1
  obtain ⟨v3, vs3, d3, ds3, p3, q3, rfl, rfl, rfl, h3, r3⟩ := trodAll_cons r2
  obtain ⟨v4, vs4, d4, ds4, p4, q4, rfl, rfl, rfl, h4, r4⟩ := trodAll_cons r3
  obtain ⟨rfl, rfl, rfl⟩ := trodAll_nil r4
  obtain rfl : args = #[v0, v1, v2, v3, v4] := by cases args; simp_all
  obtain ⟨rfl, rfl⟩ := trodVars_none hV
  have k0 := h0
  have lt0 : ∀ x ∈ p0, x.block < W.heap.size := by obtain ⟨m, hm⟩ := k0; exact DataW.trod_lt m _ _ _ hm
  obtain ⟨c0, rfl⟩ := Cvr.open_cover (hval 0 23 v0 rfl rfl) h0
  obtain ⟨a1, rfl, rfl, rfl, w1⟩ := open_int Try.underlying3 (hval 1 3 v1 rfl rfl) h1
  obtain ⟨a2, rfl, rfl, rfl, w2⟩ := open_int Try.underlying3 (hval 2 3 v2 rfl rfl) h2
  obtain ⟨a3, rfl, rfl, rfl, w3⟩ := open_int Try.underlying3 (hval 3 3 v3 rfl rfl) h3
  obtain ⟨a4, rfl, rfl, rfl, w4⟩ := open_int Try.underlying3 (hval 4 3 v4 rfl rfl) h4
  clear hA0 hval0
  refine (walk c0 a1 (Cvr.i64_of w1) a2 (Cvr.i64_of w2) a3 (Cvr.i64_of w3) a4 (Cvr.i64_of w4)).mono fun e W' ⟨he, bel⟩ => ?_
  subst he
  exact ⟨_, rfl, _, _, _, [], _, [], hW', trodAll_mk1 (shut_bool Try.underlying4 _), (trodAll_cons_mk (Below.trod Cvr.laidOut (by kernel_rfl) (of_decide_eq_true (by kernel_rfl)) k0 bel lt0) (trodAll_cons_mk (shut_int Try.underlying3 w1) (trodAll_cons_mk (shut_int Try.underlying3 w2) (trodAll_cons_mk (shut_int Try.underlying3 w3) (trodAll_cons_mk (shut_int Try.underlying3 w4) trodAll_mk0))))), rfl, bel.frame _, fun h => by cases h⟩

theorem over : Rows.coverRisesRow.holds Try.pinned (OpenSpec.ofChange Rows.coverRisesSpec) :=
  OpenClaim.holds_of_wide 5 Try.f5 rfl rfl rfl rfl rfl rfl rfl ⟨rfl, rfl, rfl, rfl, rfl⟩ rfl rfl rfl rfl rfl (by kernel_rfl) Try.func5 (by kernel_rfl)
    (of_decide_eq_true (by kernel_rfl)) (by unfold Func.isWrapper; first | (rw [if_pos (by decide +kernel)]; kernel_rfl) | (rw [if_neg (by decide +kernel)]; exact ⟨rfl, rfl⟩))
    (fun os started H enc _ => lifted os started H enc)

theorem proved : Rows.CoverRisesSaid := over
end Go.Proofs.Ytjcehjofimkjaaa.coverRises
