/-
  The statement RiskEdges holds: for every input the call returns true, and each argument reads afterwards as it read before. Conditions: none beside those that the row itself bears.
-/
import Derived.Test.YtdehfjjdjdgkkaaGiven
namespace Go.Proofs.Ytdehfjjdjdgkkaa.riskEdges
open Go.ChangeShapes Go.WideShapes Go.ChangeAt Go.RowKit Ba Rsk
set_option linter.unusedVariables false


set_option maxRecDepth 100000 in
set_option maxHeartbeats 4000000 in
theorem way_00 (a0 a1 a2 a3 a4 a5 K V A Z N : Int) {w : World} (h0 : 0 ≤ a0 ∧ a0 ≤ 255) (h1 : 0 ≤ a1 ∧ a1 ≤ 18446744073709551615) (h2 : 0 ≤ a2 ∧ a2 ≤ 255) (h3 : 0 ≤ a3 ∧ a3 ≤ 255) (h4 : 0 ≤ a4 ∧ a4 ≤ 255) (h5 : 0 ≤ a5 ∧ a5 ≤ 4294967295)
    (eK : a0 % 4 = K) (eU : 1 + a1 % 1000000000000000 = V) (eA : a2 % 201 = A) (eZ : a3 % 100 = Z) (eW : a4 % 4 = 0) (eN : 4 + a5 = N) :
    Calls Try.prog 8 #[.int .u8 a0, .int .u64 a1, .int .u8 a2, .int .u8 a3, .int .u8 a4, .int .u32 a5, .bool false] w (Yes w true) := by
  have hr : rk K V A Z = true := rk_yes (by omega)
  have hx : rk N V A Z = false := rk_no (by omega)
  have he : rk 3 1000000000000000 200 99 = true := by decide
  have C1 := fun w => Lib.hid (right_ K V A Z w)
  have C2 := fun w => Lib.hid (right_ N V A Z w)
  have C3 := fun w => Lib.hid (right_ 3 1000000000000000 200 99 w)
  rw [hr] at C1
  rw [hx] at C2
  rw [he] at C3
  clear hr hx he
  obtain ⟨k0, k1⟩ := h0
  obtain ⟨k2, k3⟩ := h1
  obtain ⟨k4, k5⟩ := h2
  obtain ⟨k6, k7⟩ := h3
  obtain ⟨k8, k9⟩ := h4
  obtain ⟨k10, k11⟩ := h5
  have b0 : 0 ≤ a0 % 4 := by omega
  have b1 : a0 % 4 ≤ 3 := by omega
  have b2 : 0 ≤ a1 % 1000000000000000 := by omega
  have b3 : a1 % 1000000000000000 ≤ 999999999999999 := by omega
  have b4 : 0 ≤ a2 % 201 := by omega
  have b5 : a2 % 201 ≤ 200 := by omega
  have b6 : 0 ≤ a3 % 100 := by omega
  have b7 : a3 % 100 ≤ 99 := by omega
  go_enter Try.func8, Try.ntmps8
  go_wp2_with fail
  refine (awake _).mono ?_
  rintro e w1 ⟨rfl, hb1⟩
  have HB1 := Lib.hid hb1
  clear hb1
  go_wp2_with fail
  obtain ⟨W, hW⟩ : ∃ W, (((w1.alloc (.cells #[.int .i64 K, .int .i64 V, .int .i64 A, .int .i64 Z] 23)).alloc (.cells #[.int .i64 N, .int .i64 V, .int .i64 A, .int .i64 Z] 23)).alloc (.cells #[.int .i64 (-1), .int .i64 0, .int .i64 (-1), .int .i64 (-1)] 3)).alloc (.cells #[.int .i64 4, .int .i64 1000000000000001, .int .i64 201, .int .i64 100] 3) = W := ⟨_, rfl⟩
  rw [hW]
  have HX := Lib.hid (show Bx W (w1.heap.size + 1) 23 #[.int .i64 N, .int .i64 V, .int .i64 A, .int .i64 Z] by
    rw [← hW]
    have h := ((Bx.new (w1.alloc (.cells #[.int .i64 K, .int .i64 V, .int .i64 A, .int .i64 Z] 23)) 23 #[.int .i64 N, .int .i64 V, .int .i64 A, .int .i64 Z]).alloc (.cells #[.int .i64 (-1), .int .i64 0, .int .i64 (-1), .int .i64 (-1)] 3)).alloc (.cells #[.int .i64 4, .int .i64 1000000000000001, .int .i64 201, .int .i64 100] 3)
    rw [World.size_alloc] at h
    exact h)
  have HB := Lib.hid (show Below w.heap.size w W by
    rw [← hW]
    have g0 := HB1.out
    have g1 := g0.alloc g0.size (.cells #[.int .i64 K, .int .i64 V, .int .i64 A, .int .i64 Z] 23)
    have g2 := g1.alloc g1.size (.cells #[.int .i64 N, .int .i64 V, .int .i64 A, .int .i64 Z] 23)
    have g3 := g2.alloc g2.size (.cells #[.int .i64 (-1), .int .i64 0, .int .i64 (-1), .int .i64 (-1)] 3)
    exact g3.alloc g3.size (.cells #[.int .i64 4, .int .i64 1000000000000001, .int .i64 201, .int .i64 100] 3))
  clear hW HB1
  refine (C1 W).out.mono ?_
  rintro e w2 ⟨rfl, hb2⟩
  have HB2 := Lib.hid (HB.out.trans (hb2.mono HB.out.size))
  have X2 := HX.out.keep hb2
  have x0 := X2.c 0
  have x1 := X2.c 1
  have x2 := X2.c 2
  have x3 := X2.c 3
  simp at x0 x1 x2 x3
  clear hb2 HB HX X2
  go_wp2_with fail
  refine (C2 _).out.mono ?_
  rintro e w3 ⟨rfl, hb3⟩
  have HB3 := Lib.hid (HB2.out.trans (hb3.mono HB2.out.size))
  clear hb3 HB2 x0 x1 x2 x3
  go_wp2_with fail
  refine (C3 _).out.mono ?_
  rintro e w4 ⟨rfl, hb4⟩
  have HB4 := Lib.hid (HB3.out.trans (hb4.mono HB3.out.size))
  clear hb4 HB3
  go_wp2
  go_ret
  exact ⟨rfl, HB4.out⟩

set_option maxRecDepth 100000 in
set_option maxHeartbeats 4000000 in
theorem way_01 (a0 a1 a2 a3 a4 a5 K V A Z N : Int) {w : World} (h0 : 0 ≤ a0 ∧ a0 ≤ 255) (h1 : 0 ≤ a1 ∧ a1 ≤ 18446744073709551615) (h2 : 0 ≤ a2 ∧ a2 ≤ 255) (h3 : 0 ≤ a3 ∧ a3 ≤ 255) (h4 : 0 ≤ a4 ∧ a4 ≤ 255) (h5 : 0 ≤ a5 ∧ a5 ≤ 4294967295)
    (eK : a0 % 4 = K) (eU : 1 + a1 % 1000000000000000 = V) (eA : a2 % 201 = A) (eZ : a3 % 100 = Z) (eW : a4 % 4 = 0) (eN : -1 - a5 = N) :
    Calls Try.prog 8 #[.int .u8 a0, .int .u64 a1, .int .u8 a2, .int .u8 a3, .int .u8 a4, .int .u32 a5, .bool true] w (Yes w true) := by
  have hr : rk K V A Z = true := rk_yes (by omega)
  have hx : rk N V A Z = false := rk_no (by omega)
  have he : rk 3 1000000000000000 200 99 = true := by decide
  have C1 := fun w => Lib.hid (right_ K V A Z w)
  have C2 := fun w => Lib.hid (right_ N V A Z w)
  have C3 := fun w => Lib.hid (right_ 3 1000000000000000 200 99 w)
  rw [hr] at C1
  rw [hx] at C2
  rw [he] at C3
  clear hr hx he
  obtain ⟨k0, k1⟩ := h0
  obtain ⟨k2, k3⟩ := h1
  obtain ⟨k4, k5⟩ := h2
  obtain ⟨k6, k7⟩ := h3
  obtain ⟨k8, k9⟩ := h4
  obtain ⟨k10, k11⟩ := h5
  have b0 : 0 ≤ a0 % 4 := by omega
  have b1 : a0 % 4 ≤ 3 := by omega
  have b2 : 0 ≤ a1 % 1000000000000000 := by omega
  have b3 : a1 % 1000000000000000 ≤ 999999999999999 := by omega
  have b4 : 0 ≤ a2 % 201 := by omega
  have b5 : a2 % 201 ≤ 200 := by omega
  have b6 : 0 ≤ a3 % 100 := by omega
  have b7 : a3 % 100 ≤ 99 := by omega
  go_enter Try.func8, Try.ntmps8
  go_wp2_with fail
  refine (awake _).mono ?_
  rintro e w1 ⟨rfl, hb1⟩
  have HB1 := Lib.hid hb1
  clear hb1
  go_wp2_with fail
  obtain ⟨W, hW⟩ : ∃ W, (((w1.alloc (.cells #[.int .i64 K, .int .i64 V, .int .i64 A, .int .i64 Z] 23)).alloc (.cells #[.int .i64 N, .int .i64 V, .int .i64 A, .int .i64 Z] 23)).alloc (.cells #[.int .i64 (-1), .int .i64 0, .int .i64 (-1), .int .i64 (-1)] 3)).alloc (.cells #[.int .i64 4, .int .i64 1000000000000001, .int .i64 201, .int .i64 100] 3) = W := ⟨_, rfl⟩
  rw [hW]
  have HX := Lib.hid (show Bx W (w1.heap.size + 1) 23 #[.int .i64 N, .int .i64 V, .int .i64 A, .int .i64 Z] by
    rw [← hW]
    have h := ((Bx.new (w1.alloc (.cells #[.int .i64 K, .int .i64 V, .int .i64 A, .int .i64 Z] 23)) 23 #[.int .i64 N, .int .i64 V, .int .i64 A, .int .i64 Z]).alloc (.cells #[.int .i64 (-1), .int .i64 0, .int .i64 (-1), .int .i64 (-1)] 3)).alloc (.cells #[.int .i64 4, .int .i64 1000000000000001, .int .i64 201, .int .i64 100] 3)
    rw [World.size_alloc] at h
    exact h)
  have HB := Lib.hid (show Below w.heap.size w W by
    rw [← hW]
    have g0 := HB1.out
    have g1 := g0.alloc g0.size (.cells #[.int .i64 K, .int .i64 V, .int .i64 A, .int .i64 Z] 23)
    have g2 := g1.alloc g1.size (.cells #[.int .i64 N, .int .i64 V, .int .i64 A, .int .i64 Z] 23)
    have g3 := g2.alloc g2.size (.cells #[.int .i64 (-1), .int .i64 0, .int .i64 (-1), .int .i64 (-1)] 3)
    exact g3.alloc g3.size (.cells #[.int .i64 4, .int .i64 1000000000000001, .int .i64 201, .int .i64 100] 3))
  clear hW HB1
  refine (C1 W).out.mono ?_
  rintro e w2 ⟨rfl, hb2⟩
  have HB2 := Lib.hid (HB.out.trans (hb2.mono HB.out.size))
  have X2 := HX.out.keep hb2
  have x0 := X2.c 0
  have x1 := X2.c 1
  have x2 := X2.c 2
  have x3 := X2.c 3
  simp at x0 x1 x2 x3
  clear hb2 HB HX X2
  go_wp2_with fail
  refine (C2 _).out.mono ?_
  rintro e w3 ⟨rfl, hb3⟩
  have HB3 := Lib.hid (HB2.out.trans (hb3.mono HB2.out.size))
  clear hb3 HB2 x0 x1 x2 x3
  go_wp2_with fail
  refine (C3 _).out.mono ?_
  rintro e w4 ⟨rfl, hb4⟩
  have HB4 := Lib.hid (HB3.out.trans (hb4.mono HB3.out.size))
  clear hb4 HB3
  go_wp2
  go_ret
  exact ⟨rfl, HB4.out⟩

set_option maxRecDepth 100000 in
set_option maxHeartbeats 4000000 in
theorem way_10 (a0 a1 a2 a3 a4 a5 K V A Z N : Int) {w : World} (h0 : 0 ≤ a0 ∧ a0 ≤ 255) (h1 : 0 ≤ a1 ∧ a1 ≤ 18446744073709551615) (h2 : 0 ≤ a2 ∧ a2 ≤ 255) (h3 : 0 ≤ a3 ∧ a3 ≤ 255) (h4 : 0 ≤ a4 ∧ a4 ≤ 255) (h5 : 0 ≤ a5 ∧ a5 ≤ 4294967295)
    (eK : a0 % 4 = K) (eU : 1 + a1 % 1000000000000000 = V) (eA : a2 % 201 = A) (eZ : a3 % 100 = Z) (eW : a4 % 4 = 1) (eN : 1000000000000001 + a5 = N) :
    Calls Try.prog 8 #[.int .u8 a0, .int .u64 a1, .int .u8 a2, .int .u8 a3, .int .u8 a4, .int .u32 a5, .bool false] w (Yes w true) := by
  have hr : rk K V A Z = true := rk_yes (by omega)
  have hx : rk K N A Z = false := rk_no (by omega)
  have he : rk 3 1000000000000000 200 99 = true := by decide
  have C1 := fun w => Lib.hid (right_ K V A Z w)
  have C2 := fun w => Lib.hid (right_ K N A Z w)
  have C3 := fun w => Lib.hid (right_ 3 1000000000000000 200 99 w)
  rw [hr] at C1
  rw [hx] at C2
  rw [he] at C3
  clear hr hx he
  obtain ⟨k0, k1⟩ := h0
  obtain ⟨k2, k3⟩ := h1
  obtain ⟨k4, k5⟩ := h2
  obtain ⟨k6, k7⟩ := h3
  obtain ⟨k8, k9⟩ := h4
  obtain ⟨k10, k11⟩ := h5
  have b0 : 0 ≤ a0 % 4 := by omega
  have b1 : a0 % 4 ≤ 3 := by omega
  have b2 : 0 ≤ a1 % 1000000000000000 := by omega
  have b3 : a1 % 1000000000000000 ≤ 999999999999999 := by omega
  have b4 : 0 ≤ a2 % 201 := by omega
  have b5 : a2 % 201 ≤ 200 := by omega
  have b6 : 0 ≤ a3 % 100 := by omega
  have b7 : a3 % 100 ≤ 99 := by omega
  go_enter Try.func8, Try.ntmps8
  go_wp2_with fail
  refine (awake _).mono ?_
  rintro e w1 ⟨rfl, hb1⟩
  have HB1 := Lib.hid hb1
  clear hb1
  go_wp2_with fail
  obtain ⟨W, hW⟩ : ∃ W, (((w1.alloc (.cells #[.int .i64 K, .int .i64 V, .int .i64 A, .int .i64 Z] 23)).alloc (.cells #[.int .i64 K, .int .i64 N, .int .i64 A, .int .i64 Z] 23)).alloc (.cells #[.int .i64 (-1), .int .i64 0, .int .i64 (-1), .int .i64 (-1)] 3)).alloc (.cells #[.int .i64 4, .int .i64 1000000000000001, .int .i64 201, .int .i64 100] 3) = W := ⟨_, rfl⟩
  rw [hW]
  have HX := Lib.hid (show Bx W (w1.heap.size + 1) 23 #[.int .i64 K, .int .i64 N, .int .i64 A, .int .i64 Z] by
    rw [← hW]
    have h := ((Bx.new (w1.alloc (.cells #[.int .i64 K, .int .i64 V, .int .i64 A, .int .i64 Z] 23)) 23 #[.int .i64 K, .int .i64 N, .int .i64 A, .int .i64 Z]).alloc (.cells #[.int .i64 (-1), .int .i64 0, .int .i64 (-1), .int .i64 (-1)] 3)).alloc (.cells #[.int .i64 4, .int .i64 1000000000000001, .int .i64 201, .int .i64 100] 3)
    rw [World.size_alloc] at h
    exact h)
  have HB := Lib.hid (show Below w.heap.size w W by
    rw [← hW]
    have g0 := HB1.out
    have g1 := g0.alloc g0.size (.cells #[.int .i64 K, .int .i64 V, .int .i64 A, .int .i64 Z] 23)
    have g2 := g1.alloc g1.size (.cells #[.int .i64 K, .int .i64 N, .int .i64 A, .int .i64 Z] 23)
    have g3 := g2.alloc g2.size (.cells #[.int .i64 (-1), .int .i64 0, .int .i64 (-1), .int .i64 (-1)] 3)
    exact g3.alloc g3.size (.cells #[.int .i64 4, .int .i64 1000000000000001, .int .i64 201, .int .i64 100] 3))
  clear hW HB1
  refine (C1 W).out.mono ?_
  rintro e w2 ⟨rfl, hb2⟩
  have HB2 := Lib.hid (HB.out.trans (hb2.mono HB.out.size))
  have X2 := HX.out.keep hb2
  have x0 := X2.c 0
  have x1 := X2.c 1
  have x2 := X2.c 2
  have x3 := X2.c 3
  simp at x0 x1 x2 x3
  clear hb2 HB HX X2
  go_wp2_with fail
  refine (C2 _).out.mono ?_
  rintro e w3 ⟨rfl, hb3⟩
  have HB3 := Lib.hid (HB2.out.trans (hb3.mono HB2.out.size))
  clear hb3 HB2 x0 x1 x2 x3
  go_wp2_with fail
  refine (C3 _).out.mono ?_
  rintro e w4 ⟨rfl, hb4⟩
  have HB4 := Lib.hid (HB3.out.trans (hb4.mono HB3.out.size))
  clear hb4 HB3
  go_wp2
  go_ret
  exact ⟨rfl, HB4.out⟩

set_option maxRecDepth 100000 in
set_option maxHeartbeats 4000000 in
theorem way_11 (a0 a1 a2 a3 a4 a5 K V A Z N : Int) {w : World} (h0 : 0 ≤ a0 ∧ a0 ≤ 255) (h1 : 0 ≤ a1 ∧ a1 ≤ 18446744073709551615) (h2 : 0 ≤ a2 ∧ a2 ≤ 255) (h3 : 0 ≤ a3 ∧ a3 ≤ 255) (h4 : 0 ≤ a4 ∧ a4 ≤ 255) (h5 : 0 ≤ a5 ∧ a5 ≤ 4294967295)
    (eK : a0 % 4 = K) (eU : 1 + a1 % 1000000000000000 = V) (eA : a2 % 201 = A) (eZ : a3 % 100 = Z) (eW : a4 % 4 = 1) (eN : 0 - a5 = N) :
    Calls Try.prog 8 #[.int .u8 a0, .int .u64 a1, .int .u8 a2, .int .u8 a3, .int .u8 a4, .int .u32 a5, .bool true] w (Yes w true) := by
  have hr : rk K V A Z = true := rk_yes (by omega)
  have hx : rk K N A Z = false := rk_no (by omega)
  have he : rk 3 1000000000000000 200 99 = true := by decide
  have C1 := fun w => Lib.hid (right_ K V A Z w)
  have C2 := fun w => Lib.hid (right_ K N A Z w)
  have C3 := fun w => Lib.hid (right_ 3 1000000000000000 200 99 w)
  rw [hr] at C1
  rw [hx] at C2
  rw [he] at C3
  clear hr hx he
  have eN2 : -a5 = N := by omega
  obtain ⟨k0, k1⟩ := h0
  obtain ⟨k2, k3⟩ := h1
  obtain ⟨k4, k5⟩ := h2
  obtain ⟨k6, k7⟩ := h3
  obtain ⟨k8, k9⟩ := h4
  obtain ⟨k10, k11⟩ := h5
  have b0 : 0 ≤ a0 % 4 := by omega
  have b1 : a0 % 4 ≤ 3 := by omega
  have b2 : 0 ≤ a1 % 1000000000000000 := by omega
  have b3 : a1 % 1000000000000000 ≤ 999999999999999 := by omega
  have b4 : 0 ≤ a2 % 201 := by omega
  have b5 : a2 % 201 ≤ 200 := by omega
  have b6 : 0 ≤ a3 % 100 := by omega
  have b7 : a3 % 100 ≤ 99 := by omega
  go_enter Try.func8, Try.ntmps8
  go_wp2_with fail
  refine (awake _).mono ?_
  rintro e w1 ⟨rfl, hb1⟩
  have HB1 := Lib.hid hb1
  clear hb1
  go_wp2_with fail
  obtain ⟨W, hW⟩ : ∃ W, (((w1.alloc (.cells #[.int .i64 K, .int .i64 V, .int .i64 A, .int .i64 Z] 23)).alloc (.cells #[.int .i64 K, .int .i64 N, .int .i64 A, .int .i64 Z] 23)).alloc (.cells #[.int .i64 (-1), .int .i64 0, .int .i64 (-1), .int .i64 (-1)] 3)).alloc (.cells #[.int .i64 4, .int .i64 1000000000000001, .int .i64 201, .int .i64 100] 3) = W := ⟨_, rfl⟩
  rw [hW]
  have HX := Lib.hid (show Bx W (w1.heap.size + 1) 23 #[.int .i64 K, .int .i64 N, .int .i64 A, .int .i64 Z] by
    rw [← hW]
    have h := ((Bx.new (w1.alloc (.cells #[.int .i64 K, .int .i64 V, .int .i64 A, .int .i64 Z] 23)) 23 #[.int .i64 K, .int .i64 N, .int .i64 A, .int .i64 Z]).alloc (.cells #[.int .i64 (-1), .int .i64 0, .int .i64 (-1), .int .i64 (-1)] 3)).alloc (.cells #[.int .i64 4, .int .i64 1000000000000001, .int .i64 201, .int .i64 100] 3)
    rw [World.size_alloc] at h
    exact h)
  have HB := Lib.hid (show Below w.heap.size w W by
    rw [← hW]
    have g0 := HB1.out
    have g1 := g0.alloc g0.size (.cells #[.int .i64 K, .int .i64 V, .int .i64 A, .int .i64 Z] 23)
    have g2 := g1.alloc g1.size (.cells #[.int .i64 K, .int .i64 N, .int .i64 A, .int .i64 Z] 23)
    have g3 := g2.alloc g2.size (.cells #[.int .i64 (-1), .int .i64 0, .int .i64 (-1), .int .i64 (-1)] 3)
    exact g3.alloc g3.size (.cells #[.int .i64 4, .int .i64 1000000000000001, .int .i64 201, .int .i64 100] 3))
  clear hW HB1
  refine (C1 W).out.mono ?_
  rintro e w2 ⟨rfl, hb2⟩
  have HB2 := Lib.hid (HB.out.trans (hb2.mono HB.out.size))
  have X2 := HX.out.keep hb2
  have x0 := X2.c 0
  have x1 := X2.c 1
  have x2 := X2.c 2
  have x3 := X2.c 3
  simp at x0 x1 x2 x3
  clear hb2 HB HX X2
  go_wp2_with fail
  refine (C2 _).out.mono ?_
  rintro e w3 ⟨rfl, hb3⟩
  have HB3 := Lib.hid (HB2.out.trans (hb3.mono HB2.out.size))
  clear hb3 HB2 x0 x1 x2 x3
  go_wp2_with fail
  refine (C3 _).out.mono ?_
  rintro e w4 ⟨rfl, hb4⟩
  have HB4 := Lib.hid (HB3.out.trans (hb4.mono HB3.out.size))
  clear hb4 HB3
  go_wp2
  go_ret
  exact ⟨rfl, HB4.out⟩

set_option maxRecDepth 100000 in
set_option maxHeartbeats 4000000 in
theorem way_20 (a0 a1 a2 a3 a4 a5 K V A Z N : Int) {w : World} (h0 : 0 ≤ a0 ∧ a0 ≤ 255) (h1 : 0 ≤ a1 ∧ a1 ≤ 18446744073709551615) (h2 : 0 ≤ a2 ∧ a2 ≤ 255) (h3 : 0 ≤ a3 ∧ a3 ≤ 255) (h4 : 0 ≤ a4 ∧ a4 ≤ 255) (h5 : 0 ≤ a5 ∧ a5 ≤ 4294967295)
    (eK : a0 % 4 = K) (eU : 1 + a1 % 1000000000000000 = V) (eA : a2 % 201 = A) (eZ : a3 % 100 = Z) (eW : a4 % 4 = 2) (eN : 201 + a5 = N) :
    Calls Try.prog 8 #[.int .u8 a0, .int .u64 a1, .int .u8 a2, .int .u8 a3, .int .u8 a4, .int .u32 a5, .bool false] w (Yes w true) := by
  have hr : rk K V A Z = true := rk_yes (by omega)
  have hx : rk K V N Z = false := rk_no (by omega)
  have he : rk 3 1000000000000000 200 99 = true := by decide
  have C1 := fun w => Lib.hid (right_ K V A Z w)
  have C2 := fun w => Lib.hid (right_ K V N Z w)
  have C3 := fun w => Lib.hid (right_ 3 1000000000000000 200 99 w)
  rw [hr] at C1
  rw [hx] at C2
  rw [he] at C3
  clear hr hx he
  obtain ⟨k0, k1⟩ := h0
  obtain ⟨k2, k3⟩ := h1
  obtain ⟨k4, k5⟩ := h2
  obtain ⟨k6, k7⟩ := h3
  obtain ⟨k8, k9⟩ := h4
  obtain ⟨k10, k11⟩ := h5
  have b0 : 0 ≤ a0 % 4 := by omega
  have b1 : a0 % 4 ≤ 3 := by omega
  have b2 : 0 ≤ a1 % 1000000000000000 := by omega
  have b3 : a1 % 1000000000000000 ≤ 999999999999999 := by omega
  have b4 : 0 ≤ a2 % 201 := by omega
  have b5 : a2 % 201 ≤ 200 := by omega
  have b6 : 0 ≤ a3 % 100 := by omega
  have b7 : a3 % 100 ≤ 99 := by omega
  go_enter Try.func8, Try.ntmps8
  go_wp2_with fail
  refine (awake _).mono ?_
  rintro e w1 ⟨rfl, hb1⟩
  have HB1 := Lib.hid hb1
  clear hb1
  go_wp2_with fail
  obtain ⟨W, hW⟩ : ∃ W, (((w1.alloc (.cells #[.int .i64 K, .int .i64 V, .int .i64 A, .int .i64 Z] 23)).alloc (.cells #[.int .i64 K, .int .i64 V, .int .i64 N, .int .i64 Z] 23)).alloc (.cells #[.int .i64 (-1), .int .i64 0, .int .i64 (-1), .int .i64 (-1)] 3)).alloc (.cells #[.int .i64 4, .int .i64 1000000000000001, .int .i64 201, .int .i64 100] 3) = W := ⟨_, rfl⟩
  rw [hW]
  have HX := Lib.hid (show Bx W (w1.heap.size + 1) 23 #[.int .i64 K, .int .i64 V, .int .i64 N, .int .i64 Z] by
    rw [← hW]
    have h := ((Bx.new (w1.alloc (.cells #[.int .i64 K, .int .i64 V, .int .i64 A, .int .i64 Z] 23)) 23 #[.int .i64 K, .int .i64 V, .int .i64 N, .int .i64 Z]).alloc (.cells #[.int .i64 (-1), .int .i64 0, .int .i64 (-1), .int .i64 (-1)] 3)).alloc (.cells #[.int .i64 4, .int .i64 1000000000000001, .int .i64 201, .int .i64 100] 3)
    rw [World.size_alloc] at h
    exact h)
  have HB := Lib.hid (show Below w.heap.size w W by
    rw [← hW]
    have g0 := HB1.out
    have g1 := g0.alloc g0.size (.cells #[.int .i64 K, .int .i64 V, .int .i64 A, .int .i64 Z] 23)
    have g2 := g1.alloc g1.size (.cells #[.int .i64 K, .int .i64 V, .int .i64 N, .int .i64 Z] 23)
    have g3 := g2.alloc g2.size (.cells #[.int .i64 (-1), .int .i64 0, .int .i64 (-1), .int .i64 (-1)] 3)
    exact g3.alloc g3.size (.cells #[.int .i64 4, .int .i64 1000000000000001, .int .i64 201, .int .i64 100] 3))
  clear hW HB1
  refine (C1 W).out.mono ?_
  rintro e w2 ⟨rfl, hb2⟩
  have HB2 := Lib.hid (HB.out.trans (hb2.mono HB.out.size))
  have X2 := HX.out.keep hb2
  have x0 := X2.c 0
  have x1 := X2.c 1
  have x2 := X2.c 2
  have x3 := X2.c 3
  simp at x0 x1 x2 x3
  clear hb2 HB HX X2
  go_wp2_with fail
  refine (C2 _).out.mono ?_
  rintro e w3 ⟨rfl, hb3⟩
  have HB3 := Lib.hid (HB2.out.trans (hb3.mono HB2.out.size))
  clear hb3 HB2 x0 x1 x2 x3
  go_wp2_with fail
  refine (C3 _).out.mono ?_
  rintro e w4 ⟨rfl, hb4⟩
  have HB4 := Lib.hid (HB3.out.trans (hb4.mono HB3.out.size))
  clear hb4 HB3
  go_wp2
  go_ret
  exact ⟨rfl, HB4.out⟩

set_option maxRecDepth 100000 in
set_option maxHeartbeats 4000000 in
theorem way_21 (a0 a1 a2 a3 a4 a5 K V A Z N : Int) {w : World} (h0 : 0 ≤ a0 ∧ a0 ≤ 255) (h1 : 0 ≤ a1 ∧ a1 ≤ 18446744073709551615) (h2 : 0 ≤ a2 ∧ a2 ≤ 255) (h3 : 0 ≤ a3 ∧ a3 ≤ 255) (h4 : 0 ≤ a4 ∧ a4 ≤ 255) (h5 : 0 ≤ a5 ∧ a5 ≤ 4294967295)
    (eK : a0 % 4 = K) (eU : 1 + a1 % 1000000000000000 = V) (eA : a2 % 201 = A) (eZ : a3 % 100 = Z) (eW : a4 % 4 = 2) (eN : -1 - a5 = N) :
    Calls Try.prog 8 #[.int .u8 a0, .int .u64 a1, .int .u8 a2, .int .u8 a3, .int .u8 a4, .int .u32 a5, .bool true] w (Yes w true) := by
  have hr : rk K V A Z = true := rk_yes (by omega)
  have hx : rk K V N Z = false := rk_no (by omega)
  have he : rk 3 1000000000000000 200 99 = true := by decide
  have C1 := fun w => Lib.hid (right_ K V A Z w)
  have C2 := fun w => Lib.hid (right_ K V N Z w)
  have C3 := fun w => Lib.hid (right_ 3 1000000000000000 200 99 w)
  rw [hr] at C1
  rw [hx] at C2
  rw [he] at C3
  clear hr hx he
  obtain ⟨k0, k1⟩ := h0
  obtain ⟨k2, k3⟩ := h1
  obtain ⟨k4, k5⟩ := h2
  obtain ⟨k6, k7⟩ := h3
  obtain ⟨k8, k9⟩ := h4
  obtain ⟨k10, k11⟩ := h5
  have b0 : 0 ≤ a0 % 4 := by omega
  have b1 : a0 % 4 ≤ 3 := by omega
  have b2 : 0 ≤ a1 % 1000000000000000 := by omega
  have b3 : a1 % 1000000000000000 ≤ 999999999999999 := by omega
  have b4 : 0 ≤ a2 % 201 := by omega
  have b5 : a2 % 201 ≤ 200 := by omega
  have b6 : 0 ≤ a3 % 100 := by omega
  have b7 : a3 % 100 ≤ 99 := by omega
  go_enter Try.func8, Try.ntmps8
  go_wp2_with fail
  refine (awake _).mono ?_
  rintro e w1 ⟨rfl, hb1⟩
  have HB1 := Lib.hid hb1
  clear hb1
  go_wp2_with fail
  obtain ⟨W, hW⟩ : ∃ W, (((w1.alloc (.cells #[.int .i64 K, .int .i64 V, .int .i64 A, .int .i64 Z] 23)).alloc (.cells #[.int .i64 K, .int .i64 V, .int .i64 N, .int .i64 Z] 23)).alloc (.cells #[.int .i64 (-1), .int .i64 0, .int .i64 (-1), .int .i64 (-1)] 3)).alloc (.cells #[.int .i64 4, .int .i64 1000000000000001, .int .i64 201, .int .i64 100] 3) = W := ⟨_, rfl⟩
  rw [hW]
  have HX := Lib.hid (show Bx W (w1.heap.size + 1) 23 #[.int .i64 K, .int .i64 V, .int .i64 N, .int .i64 Z] by
    rw [← hW]
    have h := ((Bx.new (w1.alloc (.cells #[.int .i64 K, .int .i64 V, .int .i64 A, .int .i64 Z] 23)) 23 #[.int .i64 K, .int .i64 V, .int .i64 N, .int .i64 Z]).alloc (.cells #[.int .i64 (-1), .int .i64 0, .int .i64 (-1), .int .i64 (-1)] 3)).alloc (.cells #[.int .i64 4, .int .i64 1000000000000001, .int .i64 201, .int .i64 100] 3)
    rw [World.size_alloc] at h
    exact h)
  have HB := Lib.hid (show Below w.heap.size w W by
    rw [← hW]
    have g0 := HB1.out
    have g1 := g0.alloc g0.size (.cells #[.int .i64 K, .int .i64 V, .int .i64 A, .int .i64 Z] 23)
    have g2 := g1.alloc g1.size (.cells #[.int .i64 K, .int .i64 V, .int .i64 N, .int .i64 Z] 23)
    have g3 := g2.alloc g2.size (.cells #[.int .i64 (-1), .int .i64 0, .int .i64 (-1), .int .i64 (-1)] 3)
    exact g3.alloc g3.size (.cells #[.int .i64 4, .int .i64 1000000000000001, .int .i64 201, .int .i64 100] 3))
  clear hW HB1
  refine (C1 W).out.mono ?_
  rintro e w2 ⟨rfl, hb2⟩
  have HB2 := Lib.hid (HB.out.trans (hb2.mono HB.out.size))
  have X2 := HX.out.keep hb2
  have x0 := X2.c 0
  have x1 := X2.c 1
  have x2 := X2.c 2
  have x3 := X2.c 3
  simp at x0 x1 x2 x3
  clear hb2 HB HX X2
  go_wp2_with fail
  refine (C2 _).out.mono ?_
  rintro e w3 ⟨rfl, hb3⟩
  have HB3 := Lib.hid (HB2.out.trans (hb3.mono HB2.out.size))
  clear hb3 HB2 x0 x1 x2 x3
  go_wp2_with fail
  refine (C3 _).out.mono ?_
  rintro e w4 ⟨rfl, hb4⟩
  have HB4 := Lib.hid (HB3.out.trans (hb4.mono HB3.out.size))
  clear hb4 HB3
  go_wp2
  go_ret
  exact ⟨rfl, HB4.out⟩

set_option maxRecDepth 100000 in
set_option maxHeartbeats 4000000 in
theorem way_30 (a0 a1 a2 a3 a4 a5 K V A Z N : Int) {w : World} (h0 : 0 ≤ a0 ∧ a0 ≤ 255) (h1 : 0 ≤ a1 ∧ a1 ≤ 18446744073709551615) (h2 : 0 ≤ a2 ∧ a2 ≤ 255) (h3 : 0 ≤ a3 ∧ a3 ≤ 255) (h4 : 0 ≤ a4 ∧ a4 ≤ 255) (h5 : 0 ≤ a5 ∧ a5 ≤ 4294967295)
    (eK : a0 % 4 = K) (eU : 1 + a1 % 1000000000000000 = V) (eA : a2 % 201 = A) (eZ : a3 % 100 = Z) (eW : a4 % 4 = 3) (eN : 100 + a5 = N) :
    Calls Try.prog 8 #[.int .u8 a0, .int .u64 a1, .int .u8 a2, .int .u8 a3, .int .u8 a4, .int .u32 a5, .bool false] w (Yes w true) := by
  have hr : rk K V A Z = true := rk_yes (by omega)
  have hx : rk K V A N = false := rk_no (by omega)
  have he : rk 3 1000000000000000 200 99 = true := by decide
  have C1 := fun w => Lib.hid (right_ K V A Z w)
  have C2 := fun w => Lib.hid (right_ K V A N w)
  have C3 := fun w => Lib.hid (right_ 3 1000000000000000 200 99 w)
  rw [hr] at C1
  rw [hx] at C2
  rw [he] at C3
  clear hr hx he
  obtain ⟨k0, k1⟩ := h0
  obtain ⟨k2, k3⟩ := h1
  obtain ⟨k4, k5⟩ := h2
  obtain ⟨k6, k7⟩ := h3
  obtain ⟨k8, k9⟩ := h4
  obtain ⟨k10, k11⟩ := h5
  have b0 : 0 ≤ a0 % 4 := by omega
  have b1 : a0 % 4 ≤ 3 := by omega
  have b2 : 0 ≤ a1 % 1000000000000000 := by omega
  have b3 : a1 % 1000000000000000 ≤ 999999999999999 := by omega
  have b4 : 0 ≤ a2 % 201 := by omega
  have b5 : a2 % 201 ≤ 200 := by omega
  have b6 : 0 ≤ a3 % 100 := by omega
  have b7 : a3 % 100 ≤ 99 := by omega
  go_enter Try.func8, Try.ntmps8
  go_wp2_with fail
  refine (awake _).mono ?_
  rintro e w1 ⟨rfl, hb1⟩
  have HB1 := Lib.hid hb1
  clear hb1
  go_wp2_with fail
  obtain ⟨W, hW⟩ : ∃ W, (((w1.alloc (.cells #[.int .i64 K, .int .i64 V, .int .i64 A, .int .i64 Z] 23)).alloc (.cells #[.int .i64 K, .int .i64 V, .int .i64 A, .int .i64 N] 23)).alloc (.cells #[.int .i64 (-1), .int .i64 0, .int .i64 (-1), .int .i64 (-1)] 3)).alloc (.cells #[.int .i64 4, .int .i64 1000000000000001, .int .i64 201, .int .i64 100] 3) = W := ⟨_, rfl⟩
  rw [hW]
  have HX := Lib.hid (show Bx W (w1.heap.size + 1) 23 #[.int .i64 K, .int .i64 V, .int .i64 A, .int .i64 N] by
    rw [← hW]
    have h := ((Bx.new (w1.alloc (.cells #[.int .i64 K, .int .i64 V, .int .i64 A, .int .i64 Z] 23)) 23 #[.int .i64 K, .int .i64 V, .int .i64 A, .int .i64 N]).alloc (.cells #[.int .i64 (-1), .int .i64 0, .int .i64 (-1), .int .i64 (-1)] 3)).alloc (.cells #[.int .i64 4, .int .i64 1000000000000001, .int .i64 201, .int .i64 100] 3)
    rw [World.size_alloc] at h
    exact h)
  have HB := Lib.hid (show Below w.heap.size w W by
    rw [← hW]
    have g0 := HB1.out
    have g1 := g0.alloc g0.size (.cells #[.int .i64 K, .int .i64 V, .int .i64 A, .int .i64 Z] 23)
    have g2 := g1.alloc g1.size (.cells #[.int .i64 K, .int .i64 V, .int .i64 A, .int .i64 N] 23)
    have g3 := g2.alloc g2.size (.cells #[.int .i64 (-1), .int .i64 0, .int .i64 (-1), .int .i64 (-1)] 3)
    exact g3.alloc g3.size (.cells #[.int .i64 4, .int .i64 1000000000000001, .int .i64 201, .int .i64 100] 3))
  clear hW HB1
  refine (C1 W).out.mono ?_
  rintro e w2 ⟨rfl, hb2⟩
  have HB2 := Lib.hid (HB.out.trans (hb2.mono HB.out.size))
  have X2 := HX.out.keep hb2
  have x0 := X2.c 0
  have x1 := X2.c 1
  have x2 := X2.c 2
  have x3 := X2.c 3
  simp at x0 x1 x2 x3
  clear hb2 HB HX X2
  go_wp2_with fail
  refine (C2 _).out.mono ?_
  rintro e w3 ⟨rfl, hb3⟩
  have HB3 := Lib.hid (HB2.out.trans (hb3.mono HB2.out.size))
  clear hb3 HB2 x0 x1 x2 x3
  go_wp2_with fail
  refine (C3 _).out.mono ?_
  rintro e w4 ⟨rfl, hb4⟩
  have HB4 := Lib.hid (HB3.out.trans (hb4.mono HB3.out.size))
  clear hb4 HB3
  go_wp2
  go_ret
  exact ⟨rfl, HB4.out⟩

set_option maxRecDepth 100000 in
set_option maxHeartbeats 4000000 in
theorem way_31 (a0 a1 a2 a3 a4 a5 K V A Z N : Int) {w : World} (h0 : 0 ≤ a0 ∧ a0 ≤ 255) (h1 : 0 ≤ a1 ∧ a1 ≤ 18446744073709551615) (h2 : 0 ≤ a2 ∧ a2 ≤ 255) (h3 : 0 ≤ a3 ∧ a3 ≤ 255) (h4 : 0 ≤ a4 ∧ a4 ≤ 255) (h5 : 0 ≤ a5 ∧ a5 ≤ 4294967295)
    (eK : a0 % 4 = K) (eU : 1 + a1 % 1000000000000000 = V) (eA : a2 % 201 = A) (eZ : a3 % 100 = Z) (eW : a4 % 4 = 3) (eN : -1 - a5 = N) :
    Calls Try.prog 8 #[.int .u8 a0, .int .u64 a1, .int .u8 a2, .int .u8 a3, .int .u8 a4, .int .u32 a5, .bool true] w (Yes w true) := by
  have hr : rk K V A Z = true := rk_yes (by omega)
  have hx : rk K V A N = false := rk_no (by omega)
  have he : rk 3 1000000000000000 200 99 = true := by decide
  have C1 := fun w => Lib.hid (right_ K V A Z w)
  have C2 := fun w => Lib.hid (right_ K V A N w)
  have C3 := fun w => Lib.hid (right_ 3 1000000000000000 200 99 w)
  rw [hr] at C1
  rw [hx] at C2
  rw [he] at C3
  clear hr hx he
  obtain ⟨k0, k1⟩ := h0
  obtain ⟨k2, k3⟩ := h1
  obtain ⟨k4, k5⟩ := h2
  obtain ⟨k6, k7⟩ := h3
  obtain ⟨k8, k9⟩ := h4
  obtain ⟨k10, k11⟩ := h5
  have b0 : 0 ≤ a0 % 4 := by omega
  have b1 : a0 % 4 ≤ 3 := by omega
  have b2 : 0 ≤ a1 % 1000000000000000 := by omega
  have b3 : a1 % 1000000000000000 ≤ 999999999999999 := by omega
  have b4 : 0 ≤ a2 % 201 := by omega
  have b5 : a2 % 201 ≤ 200 := by omega
  have b6 : 0 ≤ a3 % 100 := by omega
  have b7 : a3 % 100 ≤ 99 := by omega
  go_enter Try.func8, Try.ntmps8
  go_wp2_with fail
  refine (awake _).mono ?_
  rintro e w1 ⟨rfl, hb1⟩
  have HB1 := Lib.hid hb1
  clear hb1
  go_wp2_with fail
  obtain ⟨W, hW⟩ : ∃ W, (((w1.alloc (.cells #[.int .i64 K, .int .i64 V, .int .i64 A, .int .i64 Z] 23)).alloc (.cells #[.int .i64 K, .int .i64 V, .int .i64 A, .int .i64 N] 23)).alloc (.cells #[.int .i64 (-1), .int .i64 0, .int .i64 (-1), .int .i64 (-1)] 3)).alloc (.cells #[.int .i64 4, .int .i64 1000000000000001, .int .i64 201, .int .i64 100] 3) = W := ⟨_, rfl⟩
  rw [hW]
  have HX := Lib.hid (show Bx W (w1.heap.size + 1) 23 #[.int .i64 K, .int .i64 V, .int .i64 A, .int .i64 N] by
    rw [← hW]
    have h := ((Bx.new (w1.alloc (.cells #[.int .i64 K, .int .i64 V, .int .i64 A, .int .i64 Z] 23)) 23 #[.int .i64 K, .int .i64 V, .int .i64 A, .int .i64 N]).alloc (.cells #[.int .i64 (-1), .int .i64 0, .int .i64 (-1), .int .i64 (-1)] 3)).alloc (.cells #[.int .i64 4, .int .i64 1000000000000001, .int .i64 201, .int .i64 100] 3)
    rw [World.size_alloc] at h
    exact h)
  have HB := Lib.hid (show Below w.heap.size w W by
    rw [← hW]
    have g0 := HB1.out
    have g1 := g0.alloc g0.size (.cells #[.int .i64 K, .int .i64 V, .int .i64 A, .int .i64 Z] 23)
    have g2 := g1.alloc g1.size (.cells #[.int .i64 K, .int .i64 V, .int .i64 A, .int .i64 N] 23)
    have g3 := g2.alloc g2.size (.cells #[.int .i64 (-1), .int .i64 0, .int .i64 (-1), .int .i64 (-1)] 3)
    exact g3.alloc g3.size (.cells #[.int .i64 4, .int .i64 1000000000000001, .int .i64 201, .int .i64 100] 3))
  clear hW HB1
  refine (C1 W).out.mono ?_
  rintro e w2 ⟨rfl, hb2⟩
  have HB2 := Lib.hid (HB.out.trans (hb2.mono HB.out.size))
  have X2 := HX.out.keep hb2
  have x0 := X2.c 0
  have x1 := X2.c 1
  have x2 := X2.c 2
  have x3 := X2.c 3
  simp at x0 x1 x2 x3
  clear hb2 HB HX X2
  go_wp2_with fail
  refine (C2 _).out.mono ?_
  rintro e w3 ⟨rfl, hb3⟩
  have HB3 := Lib.hid (HB2.out.trans (hb3.mono HB2.out.size))
  clear hb3 HB2 x0 x1 x2 x3
  go_wp2_with fail
  refine (C3 _).out.mono ?_
  rintro e w4 ⟨rfl, hb4⟩
  have HB4 := Lib.hid (HB3.out.trans (hb4.mono HB3.out.size))
  clear hb4 HB3
  go_wp2
  go_ret
  exact ⟨rfl, HB4.out⟩

theorem walk (a0 : Int) (h0 : 0 ≤ a0 ∧ a0 ≤ 255) (a1 : Int) (h1 : 0 ≤ a1 ∧ a1 ≤ 18446744073709551615) (a2 : Int) (h2 : 0 ≤ a2 ∧ a2 ≤ 255) (a3 : Int) (h3 : 0 ≤ a3 ∧ a3 ≤ 255) (a4 : Int) (h4 : 0 ≤ a4 ∧ a4 ≤ 255) (a5 : Int) (h5 : 0 ≤ a5 ∧ a5 ≤ 4294967295) (bl : Bool) {w : World} :
    Calls Try.prog 8 #[.int .u8 a0, .int .u64 a1, .int .u8 a2, .int .u8 a3, .int .u8 a4, .int .u32 a5, .bool bl] w (Yes w true) := by
  have hw : a4 % 4 = 0 ∨ a4 % 4 = 1 ∨ a4 % 4 = 2 ∨ a4 % 4 = 3 := by omega
  cases bl
  · rcases hw with hw | hw | hw | hw
    · exact way_00 a0 a1 a2 a3 a4 a5 _ _ _ _ _ h0 h1 h2 h3 h4 h5 rfl rfl rfl rfl hw rfl
    · exact way_10 a0 a1 a2 a3 a4 a5 _ _ _ _ _ h0 h1 h2 h3 h4 h5 rfl rfl rfl rfl hw rfl
    · exact way_20 a0 a1 a2 a3 a4 a5 _ _ _ _ _ h0 h1 h2 h3 h4 h5 rfl rfl rfl rfl hw rfl
    · exact way_30 a0 a1 a2 a3 a4 a5 _ _ _ _ _ h0 h1 h2 h3 h4 h5 rfl rfl rfl rfl hw rfl
  · rcases hw with hw | hw | hw | hw
    · exact way_01 a0 a1 a2 a3 a4 a5 _ _ _ _ _ h0 h1 h2 h3 h4 h5 rfl rfl rfl rfl hw rfl
    · exact way_11 a0 a1 a2 a3 a4 a5 _ _ _ _ _ h0 h1 h2 h3 h4 h5 rfl rfl rfl rfl hw rfl
    · exact way_21 a0 a1 a2 a3 a4 a5 _ _ _ _ _ h0 h1 h2 h3 h4 h5 rfl rfl rfl rfl hw rfl
    · exact way_31 a0 a1 a2 a3 a4 a5 _ _ _ _ _ h0 h1 h2 h3 h4 h5 rfl rfl rfl rfl hw rfl

set_option maxRecDepth 100000 in
theorem lifted (os : Os) (started : os.Started) (H : Type) (enc : TypeId × Value → H) :
    ReturnsInHanded {} Try.checked os 8 .any (Rows.riskEdgesSpec.pre6 enc Try.prog Try.f8 Rows.riskEdgesRow.domain false) (Rows.riskEdgesSpec.post enc Try.prog Try.f8 false true false false) := by
  refine returnsInHanded_of_change (C := Try.checked) Rsk.own started (by kernel_rfl) Try.func8
    (ChangeSpec.witness6 (enc := enc) (C := Try.checked) false ⟨#[], #[.int .u8 0, .int .u64 0, .int .u8 0, .int .u8 0, .int .u8 0, .int .u32 0, .bool false], []⟩ 8 (by kernel_rfl) (by kernel_rfl) (by kernel_rfl) (by kernel_rfl)) ?_
  intro W base args ds gs before hval0 hW hcnd _
  have hval : ∀ (j : Nat) t v, Try.f8.params[j]? = some t → args[j]? = some v → Value.okWide Try.prog W .any base t v := hval0
  have hW' := hW
  obtain ⟨p, q, hA0, hV, rfl, hfz, hnd⟩ := hW
  have hA : DataW.TrodAll enc Try.prog W 0 (fun _ => true) true Try.f8.params.toList args.toList ds p := hA0
  rw [Try.params8] at hA hval
  obtain ⟨v0, vs0, d0, ds0, p0, q0, hargs, rfl, rfl, h0, r0⟩ := trodAll_cons hA
  obtain ⟨v1, vs1, d1, ds1, p1, q1, rfl, rfl, rfl, h1, r1⟩ := trodAll_cons r0
  obtain ⟨v2, vs2, d2, ds2, p2, q2, rfl, rfl, rfl, h2, r2⟩ := trodAll_cons r1
  obtain ⟨v3, vs3, d3, ds3, p3, q3, rfl, rfl, rfl, h3, r3⟩ := trodAll_cons r2
  obtain ⟨v4, vs4, d4, ds4, p4, q4, rfl, rfl, rfl, h4, r4⟩ := trodAll_cons r3
  obtain ⟨v5, vs5, d5, ds5, p5, q5, rfl, rfl, rfl, h5, r5⟩ := trodAll_cons r4
  obtain ⟨v6, vs6, d6, ds6, p6, q6, rfl, rfl, rfl, h6, r6⟩ := trodAll_cons r5
  obtain ⟨rfl, rfl, rfl⟩ := trodAll_nil r6
  obtain rfl : args = #[v0, v1, v2, v3, v4, v5, v6] := by cases args; simp_all
  obtain ⟨rfl, rfl⟩ := trodVars_none hV
  obtain ⟨a0, rfl, rfl, rfl, w0⟩ := open_int Try.underlying5 (hval 0 5 v0 rfl rfl) h0
  obtain ⟨a1, rfl, rfl, rfl, w1⟩ := open_int Try.underlying34 (hval 1 34 v1 rfl rfl) h1
  obtain ⟨a2, rfl, rfl, rfl, w2⟩ := open_int Try.underlying5 (hval 2 5 v2 rfl rfl) h2
  obtain ⟨a3, rfl, rfl, rfl, w3⟩ := open_int Try.underlying5 (hval 3 5 v3 rfl rfl) h3
  obtain ⟨a4, rfl, rfl, rfl, w4⟩ := open_int Try.underlying5 (hval 4 5 v4 rfl rfl) h4
  obtain ⟨a5, rfl, rfl, rfl, w5⟩ := open_int Try.underlying35 (hval 5 35 v5 rfl rfl) h5
  obtain ⟨a6, rfl, rfl, rfl⟩ := open_bool Try.underlying4 (hval 6 4 v6 rfl rfl) h6
  clear hA0 hval0
  refine (walk a0 (Rsk.u8_of w0) a1 (Rsk.u64_of w1) a2 (Rsk.u8_of w2) a3 (Rsk.u8_of w3) a4 (Rsk.u8_of w4) a5 (Rsk.u32_of w5) a6).mono fun e W' ⟨he, bel⟩ => ?_
  subst he
  exact ⟨_, rfl, _, _, _, [], _, [], hW', trodAll_mk1 (shut_bool Try.underlying4 _), (trodAll_cons_mk (shut_int Try.underlying5 w0) (trodAll_cons_mk (shut_int Try.underlying34 w1) (trodAll_cons_mk (shut_int Try.underlying5 w2) (trodAll_cons_mk (shut_int Try.underlying5 w3) (trodAll_cons_mk (shut_int Try.underlying5 w4) (trodAll_cons_mk (shut_int Try.underlying35 w5) (trodAll_cons_mk (shut_bool Try.underlying4 _) trodAll_mk0))))))), rfl, bel.frame _, fun h => by cases h⟩

theorem over : Rows.riskEdgesRow.holds Try.pinned (OpenSpec.ofChange Rows.riskEdgesSpec) :=
  OpenClaim.holds_of_wide 8 Try.f8 rfl rfl rfl rfl rfl rfl rfl ⟨rfl, rfl, rfl, rfl, rfl⟩ rfl rfl rfl rfl rfl (by kernel_rfl) Try.func8 (by kernel_rfl)
    (of_decide_eq_true (by kernel_rfl)) (by unfold Func.isWrapper; first | (rw [if_pos (by decide +kernel)]; kernel_rfl) | (rw [if_neg (by decide +kernel)]; exact ⟨rfl, rfl⟩))
    (fun os started H enc _ => lifted os started H enc)

theorem proved : Rows.RiskEdgesSaid := over
end Go.Proofs.Ytdehfjjdjdgkkaa.riskEdges
