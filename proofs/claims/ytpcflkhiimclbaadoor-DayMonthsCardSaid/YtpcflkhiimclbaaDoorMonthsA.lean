/-
  The law DayMonths, walked, way by way (months on: false). Conditions: those of each theorem.
-/
import Derived.Test.YtpcflkhiimclbaaDoorAwake
namespace Go.Proofs.YtpcflkhiimclbaaDoor.monthsA
open Go.ChangeShapes Go.WideShapes Go.ChangeAt Go.RowKit
set_option linter.unusedVariables false

open Cal Day in
theorem mon_end {w w1 : World} (h : Below w.heap.size w w1) (o o' : Obj) : Below w.heap.size w ((w1.alloc o).alloc o') :=
  (h.alloc h.size o).alloc (h.alloc h.size o).size o'

open Cal Day in
set_option maxRecDepth 100000 in
set_option maxHeartbeats 2000000 in
theorem core_no (n o s j k K a b fc x y m d : Int) (w : World) (hT : Tab w) (s1 : 0 ≤ s) (s2 : s ≤ 65535) (hK : s % 9601 = K) (K1 : -9600 ≤ K) (K2 : K ≤ 9600) (j1 : 1 ≤ j) (j2 : j ≤ 292194) (y1 : 1601 ≤ y) (y2 : y ≤ 2400) (m1 : 1 ≤ m) (m2 : m ≤ 12) (d1 : 1 ≤ d) (d2 : d ≤ 31)
    (cI : ∀ w : World, Hid (Calls Tryd.prog 24 #[.int .u32 n] w fun e w' => e = .returned (.int .i64 j) ∧ w = w'))
    (cJ : ∀ w : World, Hid (Calls Tryd.prog 24 #[.int .u32 o] w fun e w' => e = .returned (.int .i64 k) ∧ w = w'))
    (c1 : ∀ w : World, Tab w → Hid (Calls Tryd.prog 22 #[.int .i64 j, .int .i64 K] w fun e w' => e = .returned (.tuple #[.int .i64 a, .int .i64 3]) ∧ Below w.heap.size w w'))
    (c2 : ∀ w : World, Tab w → Hid (Calls Tryd.prog 22 #[.int .i64 k, .int .i64 K] w fun e w' => e = .returned (.tuple #[.int .i64 b, .int .i64 fc]) ∧ Below w.heap.size w w'))
    (c4 : ∀ w : World, Tab w → Hid (Calls Tryd.prog 17 #[.int .i64 j] w fun e w' => e = .returned (.tuple #[.agg #[.int .i64 y, .int .i64 m, .int .i64 d], .int .i64 0]) ∧ Below w.heap.size w w'))
    (c5 : ∀ w : World, Tab w → Hid (Calls Tryd.prog 22 #[.int .i64 j, .int .i64 12] w fun e w' => e = .returned (.tuple #[.int .i64 x, .int .i64 3]) ∧ Below w.heap.size w w'))
    (t5 : decide (y < 2400) = false)
    :
    Calls Tryd.prog 11 #[.int .u32 n, .int .u32 o, .int .u16 s, .bool false] w fun e w' => e = .returned (.bool true) ∧ Below w.heap.size w w' := by
  have HT := Lib.hid hT
  have hT0 := hT.1
  have c0 := fun w hT => Lib.hid (awake w hT)
  clear hT
  go_enter Tryd.func11, Tryd.ntmps11
  go_wp2_with fail
  refine (c0 _ HT.out).out.mono ?_
  rintro e w1 ⟨rfl, hb1⟩
  have B1 := Lib.hid ((Below.refl w.heap.size w).trans (hb1.mono (Below.refl w.heap.size w).size))
  clear hb1
  go_wp2_with fail
  refine (cI _).out.mono ?_
  rintro e w' ⟨rfl, rfl⟩
  go_wp2_with fail
  refine (cJ _).out.mono ?_
  rintro e w' ⟨rfl, rfl⟩
  go_wp2_with fail
  refine (c1 _ (HT.out.below B1.out hT0)).out.mono ?_
  rintro e w2 ⟨rfl, hb2⟩
  have B2 := Lib.hid (B1.out.trans (hb2.mono B1.out.size))
  clear hb2 B1
  go_wp2_with fail
  refine (c2 _ (HT.out.below B2.out hT0)).out.mono ?_
  rintro e w3 ⟨rfl, hb3⟩
  have B3 := Lib.hid (B2.out.trans (hb3.mono B2.out.size))
  clear hb3 B2
  go_wp2_with fail
  refine (c4 _ (HT.out.below B3.out hT0)).out.mono ?_
  rintro e w4 ⟨rfl, hb4⟩
  have B4 := Lib.hid (B3.out.trans (hb4.mono B3.out.size))
  clear hb4 B3
  go_wp2_with fail
  refine (c5 _ ((HT.out.below B4.out hT0).alloc _)).out.mono ?_
  rintro e w5 ⟨rfl, hb5⟩
  have Ba := Lib.hid (B4.out.alloc B4.out.size (Obj.cells #[.int .i64 (y), .int .i64 (m), .int .i64 (d)] 23))
  have B5 := Lib.hid (Ba.out.trans (hb5.mono Ba.out.size))
  have Ta5 := Lib.hid ((Tri.made w4 (y) (m) (d)).below hb5)
  clear hb5 Ba B4
  obtain ⟨r0a, r0b, r0c⟩ := Ta5.out
  have r0z := Ta5.out.lt
  go_wp2
  go_ret
  exact ⟨rfl, B5.out⟩

open Cal Day in
set_option maxRecDepth 100000 in
set_option maxHeartbeats 2000000 in
theorem core_nx (n o s j k K a b fc x y m d : Int) (w : World) (hT : Tab w) (s1 : 0 ≤ s) (s2 : s ≤ 65535) (hK : s % 9601 = K) (K1 : -9600 ≤ K) (K2 : K ≤ 9600) (j1 : 1 ≤ j) (j2 : j ≤ 292194) (y1 : 1601 ≤ y) (y2 : y ≤ 2400) (m1 : 1 ≤ m) (m2 : m ≤ 12) (d1 : 1 ≤ d) (d2 : d ≤ 31)
    (cI : ∀ w : World, Hid (Calls Tryd.prog 24 #[.int .u32 n] w fun e w' => e = .returned (.int .i64 j) ∧ w = w'))
    (cJ : ∀ w : World, Hid (Calls Tryd.prog 24 #[.int .u32 o] w fun e w' => e = .returned (.int .i64 k) ∧ w = w'))
    (c1 : ∀ w : World, Tab w → Hid (Calls Tryd.prog 22 #[.int .i64 j, .int .i64 K] w fun e w' => e = .returned (.tuple #[.int .i64 a, .int .i64 3]) ∧ Below w.heap.size w w'))
    (c2 : ∀ w : World, Tab w → Hid (Calls Tryd.prog 22 #[.int .i64 k, .int .i64 K] w fun e w' => e = .returned (.tuple #[.int .i64 b, .int .i64 fc]) ∧ Below w.heap.size w w'))
    (c4 : ∀ w : World, Tab w → Hid (Calls Tryd.prog 17 #[.int .i64 j] w fun e w' => e = .returned (.tuple #[.agg #[.int .i64 y, .int .i64 m, .int .i64 d], .int .i64 0]) ∧ Below w.heap.size w w'))
    (c5 : ∀ w : World, Tab w → Hid (Calls Tryd.prog 22 #[.int .i64 j, .int .i64 12] w fun e w' => e = .returned (.tuple #[.int .i64 x, .int .i64 0]) ∧ Below w.heap.size w w'))
    (t5 : decide (y < 2400) = true)
    (c6 : ∀ w : World, Tab w → Hid (Calls Tryd.prog 17 #[.int .i64 x] w fun e w' => e = .returned (.tuple #[.agg #[.int .i64 (y + 1), .int .i64 m, .int .i64 28], .int .i64 0]) ∧ Below w.heap.size w w'))
    (t6 : (m == 2) = true) (t7 : (d == 29) = true)
    :
    Calls Tryd.prog 11 #[.int .u32 n, .int .u32 o, .int .u16 s, .bool false] w fun e w' => e = .returned (.bool true) ∧ Below w.heap.size w w' := by
  have HT := Lib.hid hT
  have hT0 := hT.1
  have c0 := fun w hT => Lib.hid (awake w hT)
  clear hT
  go_enter Tryd.func11, Tryd.ntmps11
  go_wp2_with fail
  refine (c0 _ HT.out).out.mono ?_
  rintro e w1 ⟨rfl, hb1⟩
  have B1 := Lib.hid ((Below.refl w.heap.size w).trans (hb1.mono (Below.refl w.heap.size w).size))
  clear hb1
  go_wp2_with fail
  refine (cI _).out.mono ?_
  rintro e w' ⟨rfl, rfl⟩
  go_wp2_with fail
  refine (cJ _).out.mono ?_
  rintro e w' ⟨rfl, rfl⟩
  go_wp2_with fail
  refine (c1 _ (HT.out.below B1.out hT0)).out.mono ?_
  rintro e w2 ⟨rfl, hb2⟩
  have B2 := Lib.hid (B1.out.trans (hb2.mono B1.out.size))
  clear hb2 B1
  go_wp2_with fail
  refine (c2 _ (HT.out.below B2.out hT0)).out.mono ?_
  rintro e w3 ⟨rfl, hb3⟩
  have B3 := Lib.hid (B2.out.trans (hb3.mono B2.out.size))
  clear hb3 B2
  go_wp2_with fail
  refine (c4 _ (HT.out.below B3.out hT0)).out.mono ?_
  rintro e w4 ⟨rfl, hb4⟩
  have B4 := Lib.hid (B3.out.trans (hb4.mono B3.out.size))
  clear hb4 B3
  go_wp2_with fail
  refine (c5 _ ((HT.out.below B4.out hT0).alloc _)).out.mono ?_
  rintro e w5 ⟨rfl, hb5⟩
  have Ba := Lib.hid (B4.out.alloc B4.out.size (Obj.cells #[.int .i64 (y), .int .i64 (m), .int .i64 (d)] 23))
  have B5 := Lib.hid (Ba.out.trans (hb5.mono Ba.out.size))
  have Ta5 := Lib.hid ((Tri.made w4 (y) (m) (d)).below hb5)
  clear hb5 Ba B4
  obtain ⟨r0a, r0b, r0c⟩ := Ta5.out
  have r0z := Ta5.out.lt
  go_wp2_with fail
  refine (c6 _ (HT.out.below B5.out hT0)).out.mono ?_
  rintro e w6 ⟨rfl, hb6⟩
  have B6 := Lib.hid (B5.out.trans (hb6.mono B5.out.size))
  have Ta6 := Lib.hid (Ta5.out.below hb6)
  clear hb6 B5 Ta5
  clear r0a r0b r0c r0z
  obtain ⟨r0a, r0b, r0c⟩ := Ta6.out
  have r0z := Ta6.out.lt
  go_wp2
  go_ret
  exact ⟨rfl, mon_end B6.out _ _⟩

open Cal Day in
set_option maxRecDepth 100000 in
set_option maxHeartbeats 2000000 in
theorem core_ny (n o s j k K a b fc x y m d : Int) (w : World) (hT : Tab w) (s1 : 0 ≤ s) (s2 : s ≤ 65535) (hK : s % 9601 = K) (K1 : -9600 ≤ K) (K2 : K ≤ 9600) (j1 : 1 ≤ j) (j2 : j ≤ 292194) (y1 : 1601 ≤ y) (y2 : y ≤ 2400) (m1 : 1 ≤ m) (m2 : m ≤ 12) (d1 : 1 ≤ d) (d2 : d ≤ 31)
    (cI : ∀ w : World, Hid (Calls Tryd.prog 24 #[.int .u32 n] w fun e w' => e = .returned (.int .i64 j) ∧ w = w'))
    (cJ : ∀ w : World, Hid (Calls Tryd.prog 24 #[.int .u32 o] w fun e w' => e = .returned (.int .i64 k) ∧ w = w'))
    (c1 : ∀ w : World, Tab w → Hid (Calls Tryd.prog 22 #[.int .i64 j, .int .i64 K] w fun e w' => e = .returned (.tuple #[.int .i64 a, .int .i64 3]) ∧ Below w.heap.size w w'))
    (c2 : ∀ w : World, Tab w → Hid (Calls Tryd.prog 22 #[.int .i64 k, .int .i64 K] w fun e w' => e = .returned (.tuple #[.int .i64 b, .int .i64 fc]) ∧ Below w.heap.size w w'))
    (c4 : ∀ w : World, Tab w → Hid (Calls Tryd.prog 17 #[.int .i64 j] w fun e w' => e = .returned (.tuple #[.agg #[.int .i64 y, .int .i64 m, .int .i64 d], .int .i64 0]) ∧ Below w.heap.size w w'))
    (c5 : ∀ w : World, Tab w → Hid (Calls Tryd.prog 22 #[.int .i64 j, .int .i64 12] w fun e w' => e = .returned (.tuple #[.int .i64 x, .int .i64 0]) ∧ Below w.heap.size w w'))
    (t5 : decide (y < 2400) = true)
    (c6 : ∀ w : World, Tab w → Hid (Calls Tryd.prog 17 #[.int .i64 x] w fun e w' => e = .returned (.tuple #[.agg #[.int .i64 (y + 1), .int .i64 m, .int .i64 d], .int .i64 0]) ∧ Below w.heap.size w w'))
    (t6 : (m == 2) = true) (t7 : (d == 29) = false)
    :
    Calls Tryd.prog 11 #[.int .u32 n, .int .u32 o, .int .u16 s, .bool false] w fun e w' => e = .returned (.bool true) ∧ Below w.heap.size w w' := by
  have HT := Lib.hid hT
  have hT0 := hT.1
  have c0 := fun w hT => Lib.hid (awake w hT)
  clear hT
  go_enter Tryd.func11, Tryd.ntmps11
  go_wp2_with fail
  refine (c0 _ HT.out).out.mono ?_
  rintro e w1 ⟨rfl, hb1⟩
  have B1 := Lib.hid ((Below.refl w.heap.size w).trans (hb1.mono (Below.refl w.heap.size w).size))
  clear hb1
  go_wp2_with fail
  refine (cI _).out.mono ?_
  rintro e w' ⟨rfl, rfl⟩
  go_wp2_with fail
  refine (cJ _).out.mono ?_
  rintro e w' ⟨rfl, rfl⟩
  go_wp2_with fail
  refine (c1 _ (HT.out.below B1.out hT0)).out.mono ?_
  rintro e w2 ⟨rfl, hb2⟩
  have B2 := Lib.hid (B1.out.trans (hb2.mono B1.out.size))
  clear hb2 B1
  go_wp2_with fail
  refine (c2 _ (HT.out.below B2.out hT0)).out.mono ?_
  rintro e w3 ⟨rfl, hb3⟩
  have B3 := Lib.hid (B2.out.trans (hb3.mono B2.out.size))
  clear hb3 B2
  go_wp2_with fail
  refine (c4 _ (HT.out.below B3.out hT0)).out.mono ?_
  rintro e w4 ⟨rfl, hb4⟩
  have B4 := Lib.hid (B3.out.trans (hb4.mono B3.out.size))
  clear hb4 B3
  go_wp2_with fail
  refine (c5 _ ((HT.out.below B4.out hT0).alloc _)).out.mono ?_
  rintro e w5 ⟨rfl, hb5⟩
  have Ba := Lib.hid (B4.out.alloc B4.out.size (Obj.cells #[.int .i64 (y), .int .i64 (m), .int .i64 (d)] 23))
  have B5 := Lib.hid (Ba.out.trans (hb5.mono Ba.out.size))
  have Ta5 := Lib.hid ((Tri.made w4 (y) (m) (d)).below hb5)
  clear hb5 Ba B4
  obtain ⟨r0a, r0b, r0c⟩ := Ta5.out
  have r0z := Ta5.out.lt
  go_wp2_with fail
  refine (c6 _ (HT.out.below B5.out hT0)).out.mono ?_
  rintro e w6 ⟨rfl, hb6⟩
  have B6 := Lib.hid (B5.out.trans (hb6.mono B5.out.size))
  have Ta6 := Lib.hid (Ta5.out.below hb6)
  clear hb6 B5 Ta5
  clear r0a r0b r0c r0z
  obtain ⟨r0a, r0b, r0c⟩ := Ta6.out
  have r0z := Ta6.out.lt
  go_wp2
  go_ret
  exact ⟨rfl, mon_end B6.out _ _⟩

open Cal Day in
set_option maxRecDepth 100000 in
set_option maxHeartbeats 2000000 in
theorem core_nz (n o s j k K a b fc x y m d : Int) (w : World) (hT : Tab w) (s1 : 0 ≤ s) (s2 : s ≤ 65535) (hK : s % 9601 = K) (K1 : -9600 ≤ K) (K2 : K ≤ 9600) (j1 : 1 ≤ j) (j2 : j ≤ 292194) (y1 : 1601 ≤ y) (y2 : y ≤ 2400) (m1 : 1 ≤ m) (m2 : m ≤ 12) (d1 : 1 ≤ d) (d2 : d ≤ 31)
    (cI : ∀ w : World, Hid (Calls Tryd.prog 24 #[.int .u32 n] w fun e w' => e = .returned (.int .i64 j) ∧ w = w'))
    (cJ : ∀ w : World, Hid (Calls Tryd.prog 24 #[.int .u32 o] w fun e w' => e = .returned (.int .i64 k) ∧ w = w'))
    (c1 : ∀ w : World, Tab w → Hid (Calls Tryd.prog 22 #[.int .i64 j, .int .i64 K] w fun e w' => e = .returned (.tuple #[.int .i64 a, .int .i64 3]) ∧ Below w.heap.size w w'))
    (c2 : ∀ w : World, Tab w → Hid (Calls Tryd.prog 22 #[.int .i64 k, .int .i64 K] w fun e w' => e = .returned (.tuple #[.int .i64 b, .int .i64 fc]) ∧ Below w.heap.size w w'))
    (c4 : ∀ w : World, Tab w → Hid (Calls Tryd.prog 17 #[.int .i64 j] w fun e w' => e = .returned (.tuple #[.agg #[.int .i64 y, .int .i64 m, .int .i64 d], .int .i64 0]) ∧ Below w.heap.size w w'))
    (c5 : ∀ w : World, Tab w → Hid (Calls Tryd.prog 22 #[.int .i64 j, .int .i64 12] w fun e w' => e = .returned (.tuple #[.int .i64 x, .int .i64 0]) ∧ Below w.heap.size w w'))
    (t5 : decide (y < 2400) = true)
    (c6 : ∀ w : World, Tab w → Hid (Calls Tryd.prog 17 #[.int .i64 x] w fun e w' => e = .returned (.tuple #[.agg #[.int .i64 (y + 1), .int .i64 m, .int .i64 d], .int .i64 0]) ∧ Below w.heap.size w w'))
    (t6 : (m == 2) = false)
    :
    Calls Tryd.prog 11 #[.int .u32 n, .int .u32 o, .int .u16 s, .bool false] w fun e w' => e = .returned (.bool true) ∧ Below w.heap.size w w' := by
  have HT := Lib.hid hT
  have hT0 := hT.1
  have c0 := fun w hT => Lib.hid (awake w hT)
  clear hT
  go_enter Tryd.func11, Tryd.ntmps11
  go_wp2_with fail
  refine (c0 _ HT.out).out.mono ?_
  rintro e w1 ⟨rfl, hb1⟩
  have B1 := Lib.hid ((Below.refl w.heap.size w).trans (hb1.mono (Below.refl w.heap.size w).size))
  clear hb1
  go_wp2_with fail
  refine (cI _).out.mono ?_
  rintro e w' ⟨rfl, rfl⟩
  go_wp2_with fail
  refine (cJ _).out.mono ?_
  rintro e w' ⟨rfl, rfl⟩
  go_wp2_with fail
  refine (c1 _ (HT.out.below B1.out hT0)).out.mono ?_
  rintro e w2 ⟨rfl, hb2⟩
  have B2 := Lib.hid (B1.out.trans (hb2.mono B1.out.size))
  clear hb2 B1
  go_wp2_with fail
  refine (c2 _ (HT.out.below B2.out hT0)).out.mono ?_
  rintro e w3 ⟨rfl, hb3⟩
  have B3 := Lib.hid (B2.out.trans (hb3.mono B2.out.size))
  clear hb3 B2
  go_wp2_with fail
  refine (c4 _ (HT.out.below B3.out hT0)).out.mono ?_
  rintro e w4 ⟨rfl, hb4⟩
  have B4 := Lib.hid (B3.out.trans (hb4.mono B3.out.size))
  clear hb4 B3
  go_wp2_with fail
  refine (c5 _ ((HT.out.below B4.out hT0).alloc _)).out.mono ?_
  rintro e w5 ⟨rfl, hb5⟩
  have Ba := Lib.hid (B4.out.alloc B4.out.size (Obj.cells #[.int .i64 (y), .int .i64 (m), .int .i64 (d)] 23))
  have B5 := Lib.hid (Ba.out.trans (hb5.mono Ba.out.size))
  have Ta5 := Lib.hid ((Tri.made w4 (y) (m) (d)).below hb5)
  clear hb5 Ba B4
  obtain ⟨r0a, r0b, r0c⟩ := Ta5.out
  have r0z := Ta5.out.lt
  go_wp2_with fail
  refine (c6 _ (HT.out.below B5.out hT0)).out.mono ?_
  rintro e w6 ⟨rfl, hb6⟩
  have B6 := Lib.hid (B5.out.trans (hb6.mono B5.out.size))
  have Ta6 := Lib.hid (Ta5.out.below hb6)
  clear hb6 B5 Ta5
  clear r0a r0b r0c r0z
  obtain ⟨r0a, r0b, r0c⟩ := Ta6.out
  have r0z := Ta6.out.lt
  go_wp2
  go_ret
  exact ⟨rfl, mon_end B6.out _ _⟩

open Cal Day in
set_option maxRecDepth 100000 in
set_option maxHeartbeats 2000000 in
theorem core_fo (n o s j k K a b g x y m d : Int) (w : World) (hT : Tab w) (s1 : 0 ≤ s) (s2 : s ≤ 65535) (hK : s % 9601 = K) (K1 : -9600 ≤ K) (K2 : K ≤ 9600) (j1 : 1 ≤ j) (j2 : j ≤ 292194) (y1 : 1601 ≤ y) (y2 : y ≤ 2400) (m1 : 1 ≤ m) (m2 : m ≤ 12) (d1 : 1 ≤ d) (d2 : d ≤ 31)
    (cI : ∀ w : World, Hid (Calls Tryd.prog 24 #[.int .u32 n] w fun e w' => e = .returned (.int .i64 j) ∧ w = w'))
    (cJ : ∀ w : World, Hid (Calls Tryd.prog 24 #[.int .u32 o] w fun e w' => e = .returned (.int .i64 k) ∧ w = w'))
    (c1 : ∀ w : World, Tab w → Hid (Calls Tryd.prog 22 #[.int .i64 j, .int .i64 K] w fun e w' => e = .returned (.tuple #[.int .i64 a, .int .i64 0]) ∧ Below w.heap.size w w'))
    (c2 : ∀ w : World, Tab w → Hid (Calls Tryd.prog 22 #[.int .i64 k, .int .i64 K] w fun e w' => e = .returned (.tuple #[.int .i64 b, .int .i64 3]) ∧ Below w.heap.size w w'))
    (c3 : ∀ w : World, Tab w → Hid (Calls Tryd.prog 22 #[.int .i64 a, .int .i64 (-K)] w fun e w' => e = .returned (.tuple #[.int .i64 g, .int .i64 0]) ∧ Below w.heap.size w w'))
    (t1 : decide (j < g) = false) (t2 : decide (g < j - 3) = false)
    (c4 : ∀ w : World, Tab w → Hid (Calls Tryd.prog 17 #[.int .i64 j] w fun e w' => e = .returned (.tuple #[.agg #[.int .i64 y, .int .i64 m, .int .i64 d], .int .i64 0]) ∧ Below w.heap.size w w'))
    (c5 : ∀ w : World, Tab w → Hid (Calls Tryd.prog 22 #[.int .i64 j, .int .i64 12] w fun e w' => e = .returned (.tuple #[.int .i64 x, .int .i64 3]) ∧ Below w.heap.size w w'))
    (t5 : decide (y < 2400) = false)
    :
    Calls Tryd.prog 11 #[.int .u32 n, .int .u32 o, .int .u16 s, .bool false] w fun e w' => e = .returned (.bool true) ∧ Below w.heap.size w w' := by
  have HT := Lib.hid hT
  have hT0 := hT.1
  have c0 := fun w hT => Lib.hid (awake w hT)
  clear hT
  go_enter Tryd.func11, Tryd.ntmps11
  go_wp2_with fail
  refine (c0 _ HT.out).out.mono ?_
  rintro e w1 ⟨rfl, hb1⟩
  have B1 := Lib.hid ((Below.refl w.heap.size w).trans (hb1.mono (Below.refl w.heap.size w).size))
  clear hb1
  go_wp2_with fail
  refine (cI _).out.mono ?_
  rintro e w' ⟨rfl, rfl⟩
  go_wp2_with fail
  refine (cJ _).out.mono ?_
  rintro e w' ⟨rfl, rfl⟩
  go_wp2_with fail
  refine (c1 _ (HT.out.below B1.out hT0)).out.mono ?_
  rintro e w2 ⟨rfl, hb2⟩
  have B2 := Lib.hid (B1.out.trans (hb2.mono B1.out.size))
  clear hb2 B1
  go_wp2_with fail
  refine (c2 _ (HT.out.below B2.out hT0)).out.mono ?_
  rintro e w3 ⟨rfl, hb3⟩
  have B3 := Lib.hid (B2.out.trans (hb3.mono B2.out.size))
  clear hb3 B2
  go_wp2_with fail
  refine (c3 _ (HT.out.below B3.out hT0)).out.mono ?_
  rintro e w4 ⟨rfl, hb4⟩
  have B4 := Lib.hid (B3.out.trans (hb4.mono B3.out.size))
  clear hb4 B3
  go_wp2_with fail
  refine (c4 _ (HT.out.below B4.out hT0)).out.mono ?_
  rintro e w5 ⟨rfl, hb5⟩
  have B5 := Lib.hid (B4.out.trans (hb5.mono B4.out.size))
  clear hb5 B4
  go_wp2_with fail
  refine (c5 _ ((HT.out.below B5.out hT0).alloc _)).out.mono ?_
  rintro e w6 ⟨rfl, hb6⟩
  have Ba := Lib.hid (B5.out.alloc B5.out.size (Obj.cells #[.int .i64 (y), .int .i64 (m), .int .i64 (d)] 23))
  have B6 := Lib.hid (Ba.out.trans (hb6.mono Ba.out.size))
  have Ta6 := Lib.hid ((Tri.made w5 (y) (m) (d)).below hb6)
  clear hb6 Ba B5
  obtain ⟨r0a, r0b, r0c⟩ := Ta6.out
  have r0z := Ta6.out.lt
  go_wp2
  go_ret
  exact ⟨rfl, B6.out⟩

open Cal Day in
set_option maxRecDepth 100000 in
set_option maxHeartbeats 2000000 in
theorem core_fx (n o s j k K a b g x y m d : Int) (w : World) (hT : Tab w) (s1 : 0 ≤ s) (s2 : s ≤ 65535) (hK : s % 9601 = K) (K1 : -9600 ≤ K) (K2 : K ≤ 9600) (j1 : 1 ≤ j) (j2 : j ≤ 292194) (y1 : 1601 ≤ y) (y2 : y ≤ 2400) (m1 : 1 ≤ m) (m2 : m ≤ 12) (d1 : 1 ≤ d) (d2 : d ≤ 31)
    (cI : ∀ w : World, Hid (Calls Tryd.prog 24 #[.int .u32 n] w fun e w' => e = .returned (.int .i64 j) ∧ w = w'))
    (cJ : ∀ w : World, Hid (Calls Tryd.prog 24 #[.int .u32 o] w fun e w' => e = .returned (.int .i64 k) ∧ w = w'))
    (c1 : ∀ w : World, Tab w → Hid (Calls Tryd.prog 22 #[.int .i64 j, .int .i64 K] w fun e w' => e = .returned (.tuple #[.int .i64 a, .int .i64 0]) ∧ Below w.heap.size w w'))
    (c2 : ∀ w : World, Tab w → Hid (Calls Tryd.prog 22 #[.int .i64 k, .int .i64 K] w fun e w' => e = .returned (.tuple #[.int .i64 b, .int .i64 3]) ∧ Below w.heap.size w w'))
    (c3 : ∀ w : World, Tab w → Hid (Calls Tryd.prog 22 #[.int .i64 a, .int .i64 (-K)] w fun e w' => e = .returned (.tuple #[.int .i64 g, .int .i64 0]) ∧ Below w.heap.size w w'))
    (t1 : decide (j < g) = false) (t2 : decide (g < j - 3) = false)
    (c4 : ∀ w : World, Tab w → Hid (Calls Tryd.prog 17 #[.int .i64 j] w fun e w' => e = .returned (.tuple #[.agg #[.int .i64 y, .int .i64 m, .int .i64 d], .int .i64 0]) ∧ Below w.heap.size w w'))
    (c5 : ∀ w : World, Tab w → Hid (Calls Tryd.prog 22 #[.int .i64 j, .int .i64 12] w fun e w' => e = .returned (.tuple #[.int .i64 x, .int .i64 0]) ∧ Below w.heap.size w w'))
    (t5 : decide (y < 2400) = true)
    (c6 : ∀ w : World, Tab w → Hid (Calls Tryd.prog 17 #[.int .i64 x] w fun e w' => e = .returned (.tuple #[.agg #[.int .i64 (y + 1), .int .i64 m, .int .i64 28], .int .i64 0]) ∧ Below w.heap.size w w'))
    (t6 : (m == 2) = true) (t7 : (d == 29) = true)
    :
    Calls Tryd.prog 11 #[.int .u32 n, .int .u32 o, .int .u16 s, .bool false] w fun e w' => e = .returned (.bool true) ∧ Below w.heap.size w w' := by
  have HT := Lib.hid hT
  have hT0 := hT.1
  have c0 := fun w hT => Lib.hid (awake w hT)
  clear hT
  go_enter Tryd.func11, Tryd.ntmps11
  go_wp2_with fail
  refine (c0 _ HT.out).out.mono ?_
  rintro e w1 ⟨rfl, hb1⟩
  have B1 := Lib.hid ((Below.refl w.heap.size w).trans (hb1.mono (Below.refl w.heap.size w).size))
  clear hb1
  go_wp2_with fail
  refine (cI _).out.mono ?_
  rintro e w' ⟨rfl, rfl⟩
  go_wp2_with fail
  refine (cJ _).out.mono ?_
  rintro e w' ⟨rfl, rfl⟩
  go_wp2_with fail
  refine (c1 _ (HT.out.below B1.out hT0)).out.mono ?_
  rintro e w2 ⟨rfl, hb2⟩
  have B2 := Lib.hid (B1.out.trans (hb2.mono B1.out.size))
  clear hb2 B1
  go_wp2_with fail
  refine (c2 _ (HT.out.below B2.out hT0)).out.mono ?_
  rintro e w3 ⟨rfl, hb3⟩
  have B3 := Lib.hid (B2.out.trans (hb3.mono B2.out.size))
  clear hb3 B2
  go_wp2_with fail
  refine (c3 _ (HT.out.below B3.out hT0)).out.mono ?_
  rintro e w4 ⟨rfl, hb4⟩
  have B4 := Lib.hid (B3.out.trans (hb4.mono B3.out.size))
  clear hb4 B3
  go_wp2_with fail
  refine (c4 _ (HT.out.below B4.out hT0)).out.mono ?_
  rintro e w5 ⟨rfl, hb5⟩
  have B5 := Lib.hid (B4.out.trans (hb5.mono B4.out.size))
  clear hb5 B4
  go_wp2_with fail
  refine (c5 _ ((HT.out.below B5.out hT0).alloc _)).out.mono ?_
  rintro e w6 ⟨rfl, hb6⟩
  have Ba := Lib.hid (B5.out.alloc B5.out.size (Obj.cells #[.int .i64 (y), .int .i64 (m), .int .i64 (d)] 23))
  have B6 := Lib.hid (Ba.out.trans (hb6.mono Ba.out.size))
  have Ta6 := Lib.hid ((Tri.made w5 (y) (m) (d)).below hb6)
  clear hb6 Ba B5
  obtain ⟨r0a, r0b, r0c⟩ := Ta6.out
  have r0z := Ta6.out.lt
  go_wp2_with fail
  refine (c6 _ (HT.out.below B6.out hT0)).out.mono ?_
  rintro e w7 ⟨rfl, hb7⟩
  have B7 := Lib.hid (B6.out.trans (hb7.mono B6.out.size))
  have Ta7 := Lib.hid (Ta6.out.below hb7)
  clear hb7 B6 Ta6
  clear r0a r0b r0c r0z
  obtain ⟨r0a, r0b, r0c⟩ := Ta7.out
  have r0z := Ta7.out.lt
  go_wp2
  go_ret
  exact ⟨rfl, mon_end B7.out _ _⟩

open Cal Day in
set_option maxRecDepth 100000 in
set_option maxHeartbeats 2000000 in
theorem core_fy (n o s j k K a b g x y m d : Int) (w : World) (hT : Tab w) (s1 : 0 ≤ s) (s2 : s ≤ 65535) (hK : s % 9601 = K) (K1 : -9600 ≤ K) (K2 : K ≤ 9600) (j1 : 1 ≤ j) (j2 : j ≤ 292194) (y1 : 1601 ≤ y) (y2 : y ≤ 2400) (m1 : 1 ≤ m) (m2 : m ≤ 12) (d1 : 1 ≤ d) (d2 : d ≤ 31)
    (cI : ∀ w : World, Hid (Calls Tryd.prog 24 #[.int .u32 n] w fun e w' => e = .returned (.int .i64 j) ∧ w = w'))
    (cJ : ∀ w : World, Hid (Calls Tryd.prog 24 #[.int .u32 o] w fun e w' => e = .returned (.int .i64 k) ∧ w = w'))
    (c1 : ∀ w : World, Tab w → Hid (Calls Tryd.prog 22 #[.int .i64 j, .int .i64 K] w fun e w' => e = .returned (.tuple #[.int .i64 a, .int .i64 0]) ∧ Below w.heap.size w w'))
    (c2 : ∀ w : World, Tab w → Hid (Calls Tryd.prog 22 #[.int .i64 k, .int .i64 K] w fun e w' => e = .returned (.tuple #[.int .i64 b, .int .i64 3]) ∧ Below w.heap.size w w'))
    (c3 : ∀ w : World, Tab w → Hid (Calls Tryd.prog 22 #[.int .i64 a, .int .i64 (-K)] w fun e w' => e = .returned (.tuple #[.int .i64 g, .int .i64 0]) ∧ Below w.heap.size w w'))
    (t1 : decide (j < g) = false) (t2 : decide (g < j - 3) = false)
    (c4 : ∀ w : World, Tab w → Hid (Calls Tryd.prog 17 #[.int .i64 j] w fun e w' => e = .returned (.tuple #[.agg #[.int .i64 y, .int .i64 m, .int .i64 d], .int .i64 0]) ∧ Below w.heap.size w w'))
    (c5 : ∀ w : World, Tab w → Hid (Calls Tryd.prog 22 #[.int .i64 j, .int .i64 12] w fun e w' => e = .returned (.tuple #[.int .i64 x, .int .i64 0]) ∧ Below w.heap.size w w'))
    (t5 : decide (y < 2400) = true)
    (c6 : ∀ w : World, Tab w → Hid (Calls Tryd.prog 17 #[.int .i64 x] w fun e w' => e = .returned (.tuple #[.agg #[.int .i64 (y + 1), .int .i64 m, .int .i64 d], .int .i64 0]) ∧ Below w.heap.size w w'))
    (t6 : (m == 2) = true) (t7 : (d == 29) = false)
    :
    Calls Tryd.prog 11 #[.int .u32 n, .int .u32 o, .int .u16 s, .bool false] w fun e w' => e = .returned (.bool true) ∧ Below w.heap.size w w' := by
  have HT := Lib.hid hT
  have hT0 := hT.1
  have c0 := fun w hT => Lib.hid (awake w hT)
  clear hT
  go_enter Tryd.func11, Tryd.ntmps11
  go_wp2_with fail
  refine (c0 _ HT.out).out.mono ?_
  rintro e w1 ⟨rfl, hb1⟩
  have B1 := Lib.hid ((Below.refl w.heap.size w).trans (hb1.mono (Below.refl w.heap.size w).size))
  clear hb1
  go_wp2_with fail
  refine (cI _).out.mono ?_
  rintro e w' ⟨rfl, rfl⟩
  go_wp2_with fail
  refine (cJ _).out.mono ?_
  rintro e w' ⟨rfl, rfl⟩
  go_wp2_with fail
  refine (c1 _ (HT.out.below B1.out hT0)).out.mono ?_
  rintro e w2 ⟨rfl, hb2⟩
  have B2 := Lib.hid (B1.out.trans (hb2.mono B1.out.size))
  clear hb2 B1
  go_wp2_with fail
  refine (c2 _ (HT.out.below B2.out hT0)).out.mono ?_
  rintro e w3 ⟨rfl, hb3⟩
  have B3 := Lib.hid (B2.out.trans (hb3.mono B2.out.size))
  clear hb3 B2
  go_wp2_with fail
  refine (c3 _ (HT.out.below B3.out hT0)).out.mono ?_
  rintro e w4 ⟨rfl, hb4⟩
  have B4 := Lib.hid (B3.out.trans (hb4.mono B3.out.size))
  clear hb4 B3
  go_wp2_with fail
  refine (c4 _ (HT.out.below B4.out hT0)).out.mono ?_
  rintro e w5 ⟨rfl, hb5⟩
  have B5 := Lib.hid (B4.out.trans (hb5.mono B4.out.size))
  clear hb5 B4
  go_wp2_with fail
  refine (c5 _ ((HT.out.below B5.out hT0).alloc _)).out.mono ?_
  rintro e w6 ⟨rfl, hb6⟩
  have Ba := Lib.hid (B5.out.alloc B5.out.size (Obj.cells #[.int .i64 (y), .int .i64 (m), .int .i64 (d)] 23))
  have B6 := Lib.hid (Ba.out.trans (hb6.mono Ba.out.size))
  have Ta6 := Lib.hid ((Tri.made w5 (y) (m) (d)).below hb6)
  clear hb6 Ba B5
  obtain ⟨r0a, r0b, r0c⟩ := Ta6.out
  have r0z := Ta6.out.lt
  go_wp2_with fail
  refine (c6 _ (HT.out.below B6.out hT0)).out.mono ?_
  rintro e w7 ⟨rfl, hb7⟩
  have B7 := Lib.hid (B6.out.trans (hb7.mono B6.out.size))
  have Ta7 := Lib.hid (Ta6.out.below hb7)
  clear hb7 B6 Ta6
  clear r0a r0b r0c r0z
  obtain ⟨r0a, r0b, r0c⟩ := Ta7.out
  have r0z := Ta7.out.lt
  go_wp2
  go_ret
  exact ⟨rfl, mon_end B7.out _ _⟩

open Cal Day in
set_option maxRecDepth 100000 in
set_option maxHeartbeats 2000000 in
theorem core_fz (n o s j k K a b g x y m d : Int) (w : World) (hT : Tab w) (s1 : 0 ≤ s) (s2 : s ≤ 65535) (hK : s % 9601 = K) (K1 : -9600 ≤ K) (K2 : K ≤ 9600) (j1 : 1 ≤ j) (j2 : j ≤ 292194) (y1 : 1601 ≤ y) (y2 : y ≤ 2400) (m1 : 1 ≤ m) (m2 : m ≤ 12) (d1 : 1 ≤ d) (d2 : d ≤ 31)
    (cI : ∀ w : World, Hid (Calls Tryd.prog 24 #[.int .u32 n] w fun e w' => e = .returned (.int .i64 j) ∧ w = w'))
    (cJ : ∀ w : World, Hid (Calls Tryd.prog 24 #[.int .u32 o] w fun e w' => e = .returned (.int .i64 k) ∧ w = w'))
    (c1 : ∀ w : World, Tab w → Hid (Calls Tryd.prog 22 #[.int .i64 j, .int .i64 K] w fun e w' => e = .returned (.tuple #[.int .i64 a, .int .i64 0]) ∧ Below w.heap.size w w'))
    (c2 : ∀ w : World, Tab w → Hid (Calls Tryd.prog 22 #[.int .i64 k, .int .i64 K] w fun e w' => e = .returned (.tuple #[.int .i64 b, .int .i64 3]) ∧ Below w.heap.size w w'))
    (c3 : ∀ w : World, Tab w → Hid (Calls Tryd.prog 22 #[.int .i64 a, .int .i64 (-K)] w fun e w' => e = .returned (.tuple #[.int .i64 g, .int .i64 0]) ∧ Below w.heap.size w w'))
    (t1 : decide (j < g) = false) (t2 : decide (g < j - 3) = false)
    (c4 : ∀ w : World, Tab w → Hid (Calls Tryd.prog 17 #[.int .i64 j] w fun e w' => e = .returned (.tuple #[.agg #[.int .i64 y, .int .i64 m, .int .i64 d], .int .i64 0]) ∧ Below w.heap.size w w'))
    (c5 : ∀ w : World, Tab w → Hid (Calls Tryd.prog 22 #[.int .i64 j, .int .i64 12] w fun e w' => e = .returned (.tuple #[.int .i64 x, .int .i64 0]) ∧ Below w.heap.size w w'))
    (t5 : decide (y < 2400) = true)
    (c6 : ∀ w : World, Tab w → Hid (Calls Tryd.prog 17 #[.int .i64 x] w fun e w' => e = .returned (.tuple #[.agg #[.int .i64 (y + 1), .int .i64 m, .int .i64 d], .int .i64 0]) ∧ Below w.heap.size w w'))
    (t6 : (m == 2) = false)
    :
    Calls Tryd.prog 11 #[.int .u32 n, .int .u32 o, .int .u16 s, .bool false] w fun e w' => e = .returned (.bool true) ∧ Below w.heap.size w w' := by
  have HT := Lib.hid hT
  have hT0 := hT.1
  have c0 := fun w hT => Lib.hid (awake w hT)
  clear hT
  go_enter Tryd.func11, Tryd.ntmps11
  go_wp2_with fail
  refine (c0 _ HT.out).out.mono ?_
  rintro e w1 ⟨rfl, hb1⟩
  have B1 := Lib.hid ((Below.refl w.heap.size w).trans (hb1.mono (Below.refl w.heap.size w).size))
  clear hb1
  go_wp2_with fail
  refine (cI _).out.mono ?_
  rintro e w' ⟨rfl, rfl⟩
  go_wp2_with fail
  refine (cJ _).out.mono ?_
  rintro e w' ⟨rfl, rfl⟩
  go_wp2_with fail
  refine (c1 _ (HT.out.below B1.out hT0)).out.mono ?_
  rintro e w2 ⟨rfl, hb2⟩
  have B2 := Lib.hid (B1.out.trans (hb2.mono B1.out.size))
  clear hb2 B1
  go_wp2_with fail
  refine (c2 _ (HT.out.below B2.out hT0)).out.mono ?_
  rintro e w3 ⟨rfl, hb3⟩
  have B3 := Lib.hid (B2.out.trans (hb3.mono B2.out.size))
  clear hb3 B2
  go_wp2_with fail
  refine (c3 _ (HT.out.below B3.out hT0)).out.mono ?_
  rintro e w4 ⟨rfl, hb4⟩
  have B4 := Lib.hid (B3.out.trans (hb4.mono B3.out.size))
  clear hb4 B3
  go_wp2_with fail
  refine (c4 _ (HT.out.below B4.out hT0)).out.mono ?_
  rintro e w5 ⟨rfl, hb5⟩
  have B5 := Lib.hid (B4.out.trans (hb5.mono B4.out.size))
  clear hb5 B4
  go_wp2_with fail
  refine (c5 _ ((HT.out.below B5.out hT0).alloc _)).out.mono ?_
  rintro e w6 ⟨rfl, hb6⟩
  have Ba := Lib.hid (B5.out.alloc B5.out.size (Obj.cells #[.int .i64 (y), .int .i64 (m), .int .i64 (d)] 23))
  have B6 := Lib.hid (Ba.out.trans (hb6.mono Ba.out.size))
  have Ta6 := Lib.hid ((Tri.made w5 (y) (m) (d)).below hb6)
  clear hb6 Ba B5
  obtain ⟨r0a, r0b, r0c⟩ := Ta6.out
  have r0z := Ta6.out.lt
  go_wp2_with fail
  refine (c6 _ (HT.out.below B6.out hT0)).out.mono ?_
  rintro e w7 ⟨rfl, hb7⟩
  have B7 := Lib.hid (B6.out.trans (hb7.mono B6.out.size))
  have Ta7 := Lib.hid (Ta6.out.below hb7)
  clear hb7 B6 Ta6
  clear r0a r0b r0c r0z
  obtain ⟨r0a, r0b, r0c⟩ := Ta7.out
  have r0z := Ta7.out.lt
  go_wp2
  go_ret
  exact ⟨rfl, mon_end B7.out _ _⟩

open Cal Day in
set_option maxRecDepth 100000 in
set_option maxHeartbeats 2000000 in
theorem core_ko (n o s j k K a b g x y m d : Int) (w : World) (hT : Tab w) (s1 : 0 ≤ s) (s2 : s ≤ 65535) (hK : s % 9601 = K) (K1 : -9600 ≤ K) (K2 : K ≤ 9600) (j1 : 1 ≤ j) (j2 : j ≤ 292194) (y1 : 1601 ≤ y) (y2 : y ≤ 2400) (m1 : 1 ≤ m) (m2 : m ≤ 12) (d1 : 1 ≤ d) (d2 : d ≤ 31)
    (cI : ∀ w : World, Hid (Calls Tryd.prog 24 #[.int .u32 n] w fun e w' => e = .returned (.int .i64 j) ∧ w = w'))
    (cJ : ∀ w : World, Hid (Calls Tryd.prog 24 #[.int .u32 o] w fun e w' => e = .returned (.int .i64 k) ∧ w = w'))
    (c1 : ∀ w : World, Tab w → Hid (Calls Tryd.prog 22 #[.int .i64 j, .int .i64 K] w fun e w' => e = .returned (.tuple #[.int .i64 a, .int .i64 0]) ∧ Below w.heap.size w w'))
    (c2 : ∀ w : World, Tab w → Hid (Calls Tryd.prog 22 #[.int .i64 k, .int .i64 K] w fun e w' => e = .returned (.tuple #[.int .i64 b, .int .i64 0]) ∧ Below w.heap.size w w'))
    (c3 : ∀ w : World, Tab w → Hid (Calls Tryd.prog 22 #[.int .i64 a, .int .i64 (-K)] w fun e w' => e = .returned (.tuple #[.int .i64 g, .int .i64 0]) ∧ Below w.heap.size w w'))
    (t1 : decide (j < g) = false) (t2 : decide (g < j - 3) = false)
    (t3 : decide (j < k) = false)
    (c4 : ∀ w : World, Tab w → Hid (Calls Tryd.prog 17 #[.int .i64 j] w fun e w' => e = .returned (.tuple #[.agg #[.int .i64 y, .int .i64 m, .int .i64 d], .int .i64 0]) ∧ Below w.heap.size w w'))
    (c5 : ∀ w : World, Tab w → Hid (Calls Tryd.prog 22 #[.int .i64 j, .int .i64 12] w fun e w' => e = .returned (.tuple #[.int .i64 x, .int .i64 3]) ∧ Below w.heap.size w w'))
    (t5 : decide (y < 2400) = false)
    :
    Calls Tryd.prog 11 #[.int .u32 n, .int .u32 o, .int .u16 s, .bool false] w fun e w' => e = .returned (.bool true) ∧ Below w.heap.size w w' := by
  have HT := Lib.hid hT
  have hT0 := hT.1
  have c0 := fun w hT => Lib.hid (awake w hT)
  clear hT
  go_enter Tryd.func11, Tryd.ntmps11
  go_wp2_with fail
  refine (c0 _ HT.out).out.mono ?_
  rintro e w1 ⟨rfl, hb1⟩
  have B1 := Lib.hid ((Below.refl w.heap.size w).trans (hb1.mono (Below.refl w.heap.size w).size))
  clear hb1
  go_wp2_with fail
  refine (cI _).out.mono ?_
  rintro e w' ⟨rfl, rfl⟩
  go_wp2_with fail
  refine (cJ _).out.mono ?_
  rintro e w' ⟨rfl, rfl⟩
  go_wp2_with fail
  refine (c1 _ (HT.out.below B1.out hT0)).out.mono ?_
  rintro e w2 ⟨rfl, hb2⟩
  have B2 := Lib.hid (B1.out.trans (hb2.mono B1.out.size))
  clear hb2 B1
  go_wp2_with fail
  refine (c2 _ (HT.out.below B2.out hT0)).out.mono ?_
  rintro e w3 ⟨rfl, hb3⟩
  have B3 := Lib.hid (B2.out.trans (hb3.mono B2.out.size))
  clear hb3 B2
  go_wp2_with fail
  refine (c3 _ (HT.out.below B3.out hT0)).out.mono ?_
  rintro e w4 ⟨rfl, hb4⟩
  have B4 := Lib.hid (B3.out.trans (hb4.mono B3.out.size))
  clear hb4 B3
  go_wp2_with fail
  refine (c4 _ (HT.out.below B4.out hT0)).out.mono ?_
  rintro e w5 ⟨rfl, hb5⟩
  have B5 := Lib.hid (B4.out.trans (hb5.mono B4.out.size))
  clear hb5 B4
  go_wp2_with fail
  refine (c5 _ ((HT.out.below B5.out hT0).alloc _)).out.mono ?_
  rintro e w6 ⟨rfl, hb6⟩
  have Ba := Lib.hid (B5.out.alloc B5.out.size (Obj.cells #[.int .i64 (y), .int .i64 (m), .int .i64 (d)] 23))
  have B6 := Lib.hid (Ba.out.trans (hb6.mono Ba.out.size))
  have Ta6 := Lib.hid ((Tri.made w5 (y) (m) (d)).below hb6)
  clear hb6 Ba B5
  obtain ⟨r0a, r0b, r0c⟩ := Ta6.out
  have r0z := Ta6.out.lt
  go_wp2
  go_ret
  exact ⟨rfl, B6.out⟩

open Cal Day in
set_option maxRecDepth 100000 in
set_option maxHeartbeats 2000000 in
theorem core_kx (n o s j k K a b g x y m d : Int) (w : World) (hT : Tab w) (s1 : 0 ≤ s) (s2 : s ≤ 65535) (hK : s % 9601 = K) (K1 : -9600 ≤ K) (K2 : K ≤ 9600) (j1 : 1 ≤ j) (j2 : j ≤ 292194) (y1 : 1601 ≤ y) (y2 : y ≤ 2400) (m1 : 1 ≤ m) (m2 : m ≤ 12) (d1 : 1 ≤ d) (d2 : d ≤ 31)
    (cI : ∀ w : World, Hid (Calls Tryd.prog 24 #[.int .u32 n] w fun e w' => e = .returned (.int .i64 j) ∧ w = w'))
    (cJ : ∀ w : World, Hid (Calls Tryd.prog 24 #[.int .u32 o] w fun e w' => e = .returned (.int .i64 k) ∧ w = w'))
    (c1 : ∀ w : World, Tab w → Hid (Calls Tryd.prog 22 #[.int .i64 j, .int .i64 K] w fun e w' => e = .returned (.tuple #[.int .i64 a, .int .i64 0]) ∧ Below w.heap.size w w'))
    (c2 : ∀ w : World, Tab w → Hid (Calls Tryd.prog 22 #[.int .i64 k, .int .i64 K] w fun e w' => e = .returned (.tuple #[.int .i64 b, .int .i64 0]) ∧ Below w.heap.size w w'))
    (c3 : ∀ w : World, Tab w → Hid (Calls Tryd.prog 22 #[.int .i64 a, .int .i64 (-K)] w fun e w' => e = .returned (.tuple #[.int .i64 g, .int .i64 0]) ∧ Below w.heap.size w w'))
    (t1 : decide (j < g) = false) (t2 : decide (g < j - 3) = false)
    (t3 : decide (j < k) = false)
    (c4 : ∀ w : World, Tab w → Hid (Calls Tryd.prog 17 #[.int .i64 j] w fun e w' => e = .returned (.tuple #[.agg #[.int .i64 y, .int .i64 m, .int .i64 d], .int .i64 0]) ∧ Below w.heap.size w w'))
    (c5 : ∀ w : World, Tab w → Hid (Calls Tryd.prog 22 #[.int .i64 j, .int .i64 12] w fun e w' => e = .returned (.tuple #[.int .i64 x, .int .i64 0]) ∧ Below w.heap.size w w'))
    (t5 : decide (y < 2400) = true)
    (c6 : ∀ w : World, Tab w → Hid (Calls Tryd.prog 17 #[.int .i64 x] w fun e w' => e = .returned (.tuple #[.agg #[.int .i64 (y + 1), .int .i64 m, .int .i64 28], .int .i64 0]) ∧ Below w.heap.size w w'))
    (t6 : (m == 2) = true) (t7 : (d == 29) = true)
    :
    Calls Tryd.prog 11 #[.int .u32 n, .int .u32 o, .int .u16 s, .bool false] w fun e w' => e = .returned (.bool true) ∧ Below w.heap.size w w' := by
  have HT := Lib.hid hT
  have hT0 := hT.1
  have c0 := fun w hT => Lib.hid (awake w hT)
  clear hT
  go_enter Tryd.func11, Tryd.ntmps11
  go_wp2_with fail
  refine (c0 _ HT.out).out.mono ?_
  rintro e w1 ⟨rfl, hb1⟩
  have B1 := Lib.hid ((Below.refl w.heap.size w).trans (hb1.mono (Below.refl w.heap.size w).size))
  clear hb1
  go_wp2_with fail
  refine (cI _).out.mono ?_
  rintro e w' ⟨rfl, rfl⟩
  go_wp2_with fail
  refine (cJ _).out.mono ?_
  rintro e w' ⟨rfl, rfl⟩
  go_wp2_with fail
  refine (c1 _ (HT.out.below B1.out hT0)).out.mono ?_
  rintro e w2 ⟨rfl, hb2⟩
  have B2 := Lib.hid (B1.out.trans (hb2.mono B1.out.size))
  clear hb2 B1
  go_wp2_with fail
  refine (c2 _ (HT.out.below B2.out hT0)).out.mono ?_
  rintro e w3 ⟨rfl, hb3⟩
  have B3 := Lib.hid (B2.out.trans (hb3.mono B2.out.size))
  clear hb3 B2
  go_wp2_with fail
  refine (c3 _ (HT.out.below B3.out hT0)).out.mono ?_
  rintro e w4 ⟨rfl, hb4⟩
  have B4 := Lib.hid (B3.out.trans (hb4.mono B3.out.size))
  clear hb4 B3
  go_wp2_with fail
  refine (c4 _ (HT.out.below B4.out hT0)).out.mono ?_
  rintro e w5 ⟨rfl, hb5⟩
  have B5 := Lib.hid (B4.out.trans (hb5.mono B4.out.size))
  clear hb5 B4
  go_wp2_with fail
  refine (c5 _ ((HT.out.below B5.out hT0).alloc _)).out.mono ?_
  rintro e w6 ⟨rfl, hb6⟩
  have Ba := Lib.hid (B5.out.alloc B5.out.size (Obj.cells #[.int .i64 (y), .int .i64 (m), .int .i64 (d)] 23))
  have B6 := Lib.hid (Ba.out.trans (hb6.mono Ba.out.size))
  have Ta6 := Lib.hid ((Tri.made w5 (y) (m) (d)).below hb6)
  clear hb6 Ba B5
  obtain ⟨r0a, r0b, r0c⟩ := Ta6.out
  have r0z := Ta6.out.lt
  go_wp2_with fail
  refine (c6 _ (HT.out.below B6.out hT0)).out.mono ?_
  rintro e w7 ⟨rfl, hb7⟩
  have B7 := Lib.hid (B6.out.trans (hb7.mono B6.out.size))
  have Ta7 := Lib.hid (Ta6.out.below hb7)
  clear hb7 B6 Ta6
  clear r0a r0b r0c r0z
  obtain ⟨r0a, r0b, r0c⟩ := Ta7.out
  have r0z := Ta7.out.lt
  go_wp2
  go_ret
  exact ⟨rfl, mon_end B7.out _ _⟩

open Cal Day in
set_option maxRecDepth 100000 in
set_option maxHeartbeats 2000000 in
theorem core_ky (n o s j k K a b g x y m d : Int) (w : World) (hT : Tab w) (s1 : 0 ≤ s) (s2 : s ≤ 65535) (hK : s % 9601 = K) (K1 : -9600 ≤ K) (K2 : K ≤ 9600) (j1 : 1 ≤ j) (j2 : j ≤ 292194) (y1 : 1601 ≤ y) (y2 : y ≤ 2400) (m1 : 1 ≤ m) (m2 : m ≤ 12) (d1 : 1 ≤ d) (d2 : d ≤ 31)
    (cI : ∀ w : World, Hid (Calls Tryd.prog 24 #[.int .u32 n] w fun e w' => e = .returned (.int .i64 j) ∧ w = w'))
    (cJ : ∀ w : World, Hid (Calls Tryd.prog 24 #[.int .u32 o] w fun e w' => e = .returned (.int .i64 k) ∧ w = w'))
    (c1 : ∀ w : World, Tab w → Hid (Calls Tryd.prog 22 #[.int .i64 j, .int .i64 K] w fun e w' => e = .returned (.tuple #[.int .i64 a, .int .i64 0]) ∧ Below w.heap.size w w'))
    (c2 : ∀ w : World, Tab w → Hid (Calls Tryd.prog 22 #[.int .i64 k, .int .i64 K] w fun e w' => e = .returned (.tuple #[.int .i64 b, .int .i64 0]) ∧ Below w.heap.size w w'))
    (c3 : ∀ w : World, Tab w → Hid (Calls Tryd.prog 22 #[.int .i64 a, .int .i64 (-K)] w fun e w' => e = .returned (.tuple #[.int .i64 g, .int .i64 0]) ∧ Below w.heap.size w w'))
    (t1 : decide (j < g) = false) (t2 : decide (g < j - 3) = false)
    (t3 : decide (j < k) = false)
    (c4 : ∀ w : World, Tab w → Hid (Calls Tryd.prog 17 #[.int .i64 j] w fun e w' => e = .returned (.tuple #[.agg #[.int .i64 y, .int .i64 m, .int .i64 d], .int .i64 0]) ∧ Below w.heap.size w w'))
    (c5 : ∀ w : World, Tab w → Hid (Calls Tryd.prog 22 #[.int .i64 j, .int .i64 12] w fun e w' => e = .returned (.tuple #[.int .i64 x, .int .i64 0]) ∧ Below w.heap.size w w'))
    (t5 : decide (y < 2400) = true)
    (c6 : ∀ w : World, Tab w → Hid (Calls Tryd.prog 17 #[.int .i64 x] w fun e w' => e = .returned (.tuple #[.agg #[.int .i64 (y + 1), .int .i64 m, .int .i64 d], .int .i64 0]) ∧ Below w.heap.size w w'))
    (t6 : (m == 2) = true) (t7 : (d == 29) = false)
    :
    Calls Tryd.prog 11 #[.int .u32 n, .int .u32 o, .int .u16 s, .bool false] w fun e w' => e = .returned (.bool true) ∧ Below w.heap.size w w' := by
  have HT := Lib.hid hT
  have hT0 := hT.1
  have c0 := fun w hT => Lib.hid (awake w hT)
  clear hT
  go_enter Tryd.func11, Tryd.ntmps11
  go_wp2_with fail
  refine (c0 _ HT.out).out.mono ?_
  rintro e w1 ⟨rfl, hb1⟩
  have B1 := Lib.hid ((Below.refl w.heap.size w).trans (hb1.mono (Below.refl w.heap.size w).size))
  clear hb1
  go_wp2_with fail
  refine (cI _).out.mono ?_
  rintro e w' ⟨rfl, rfl⟩
  go_wp2_with fail
  refine (cJ _).out.mono ?_
  rintro e w' ⟨rfl, rfl⟩
  go_wp2_with fail
  refine (c1 _ (HT.out.below B1.out hT0)).out.mono ?_
  rintro e w2 ⟨rfl, hb2⟩
  have B2 := Lib.hid (B1.out.trans (hb2.mono B1.out.size))
  clear hb2 B1
  go_wp2_with fail
  refine (c2 _ (HT.out.below B2.out hT0)).out.mono ?_
  rintro e w3 ⟨rfl, hb3⟩
  have B3 := Lib.hid (B2.out.trans (hb3.mono B2.out.size))
  clear hb3 B2
  go_wp2_with fail
  refine (c3 _ (HT.out.below B3.out hT0)).out.mono ?_
  rintro e w4 ⟨rfl, hb4⟩
  have B4 := Lib.hid (B3.out.trans (hb4.mono B3.out.size))
  clear hb4 B3
  go_wp2_with fail
  refine (c4 _ (HT.out.below B4.out hT0)).out.mono ?_
  rintro e w5 ⟨rfl, hb5⟩
  have B5 := Lib.hid (B4.out.trans (hb5.mono B4.out.size))
  clear hb5 B4
  go_wp2_with fail
  refine (c5 _ ((HT.out.below B5.out hT0).alloc _)).out.mono ?_
  rintro e w6 ⟨rfl, hb6⟩
  have Ba := Lib.hid (B5.out.alloc B5.out.size (Obj.cells #[.int .i64 (y), .int .i64 (m), .int .i64 (d)] 23))
  have B6 := Lib.hid (Ba.out.trans (hb6.mono Ba.out.size))
  have Ta6 := Lib.hid ((Tri.made w5 (y) (m) (d)).below hb6)
  clear hb6 Ba B5
  obtain ⟨r0a, r0b, r0c⟩ := Ta6.out
  have r0z := Ta6.out.lt
  go_wp2_with fail
  refine (c6 _ (HT.out.below B6.out hT0)).out.mono ?_
  rintro e w7 ⟨rfl, hb7⟩
  have B7 := Lib.hid (B6.out.trans (hb7.mono B6.out.size))
  have Ta7 := Lib.hid (Ta6.out.below hb7)
  clear hb7 B6 Ta6
  clear r0a r0b r0c r0z
  obtain ⟨r0a, r0b, r0c⟩ := Ta7.out
  have r0z := Ta7.out.lt
  go_wp2
  go_ret
  exact ⟨rfl, mon_end B7.out _ _⟩

open Cal Day in
set_option maxRecDepth 100000 in
set_option maxHeartbeats 2000000 in
theorem core_kz (n o s j k K a b g x y m d : Int) (w : World) (hT : Tab w) (s1 : 0 ≤ s) (s2 : s ≤ 65535) (hK : s % 9601 = K) (K1 : -9600 ≤ K) (K2 : K ≤ 9600) (j1 : 1 ≤ j) (j2 : j ≤ 292194) (y1 : 1601 ≤ y) (y2 : y ≤ 2400) (m1 : 1 ≤ m) (m2 : m ≤ 12) (d1 : 1 ≤ d) (d2 : d ≤ 31)
    (cI : ∀ w : World, Hid (Calls Tryd.prog 24 #[.int .u32 n] w fun e w' => e = .returned (.int .i64 j) ∧ w = w'))
    (cJ : ∀ w : World, Hid (Calls Tryd.prog 24 #[.int .u32 o] w fun e w' => e = .returned (.int .i64 k) ∧ w = w'))
    (c1 : ∀ w : World, Tab w → Hid (Calls Tryd.prog 22 #[.int .i64 j, .int .i64 K] w fun e w' => e = .returned (.tuple #[.int .i64 a, .int .i64 0]) ∧ Below w.heap.size w w'))
    (c2 : ∀ w : World, Tab w → Hid (Calls Tryd.prog 22 #[.int .i64 k, .int .i64 K] w fun e w' => e = .returned (.tuple #[.int .i64 b, .int .i64 0]) ∧ Below w.heap.size w w'))
    (c3 : ∀ w : World, Tab w → Hid (Calls Tryd.prog 22 #[.int .i64 a, .int .i64 (-K)] w fun e w' => e = .returned (.tuple #[.int .i64 g, .int .i64 0]) ∧ Below w.heap.size w w'))
    (t1 : decide (j < g) = false) (t2 : decide (g < j - 3) = false)
    (t3 : decide (j < k) = false)
    (c4 : ∀ w : World, Tab w → Hid (Calls Tryd.prog 17 #[.int .i64 j] w fun e w' => e = .returned (.tuple #[.agg #[.int .i64 y, .int .i64 m, .int .i64 d], .int .i64 0]) ∧ Below w.heap.size w w'))
    (c5 : ∀ w : World, Tab w → Hid (Calls Tryd.prog 22 #[.int .i64 j, .int .i64 12] w fun e w' => e = .returned (.tuple #[.int .i64 x, .int .i64 0]) ∧ Below w.heap.size w w'))
    (t5 : decide (y < 2400) = true)
    (c6 : ∀ w : World, Tab w → Hid (Calls Tryd.prog 17 #[.int .i64 x] w fun e w' => e = .returned (.tuple #[.agg #[.int .i64 (y + 1), .int .i64 m, .int .i64 d], .int .i64 0]) ∧ Below w.heap.size w w'))
    (t6 : (m == 2) = false)
    :
    Calls Tryd.prog 11 #[.int .u32 n, .int .u32 o, .int .u16 s, .bool false] w fun e w' => e = .returned (.bool true) ∧ Below w.heap.size w w' := by
  have HT := Lib.hid hT
  have hT0 := hT.1
  have c0 := fun w hT => Lib.hid (awake w hT)
  clear hT
  go_enter Tryd.func11, Tryd.ntmps11
  go_wp2_with fail
  refine (c0 _ HT.out).out.mono ?_
  rintro e w1 ⟨rfl, hb1⟩
  have B1 := Lib.hid ((Below.refl w.heap.size w).trans (hb1.mono (Below.refl w.heap.size w).size))
  clear hb1
  go_wp2_with fail
  refine (cI _).out.mono ?_
  rintro e w' ⟨rfl, rfl⟩
  go_wp2_with fail
  refine (cJ _).out.mono ?_
  rintro e w' ⟨rfl, rfl⟩
  go_wp2_with fail
  refine (c1 _ (HT.out.below B1.out hT0)).out.mono ?_
  rintro e w2 ⟨rfl, hb2⟩
  have B2 := Lib.hid (B1.out.trans (hb2.mono B1.out.size))
  clear hb2 B1
  go_wp2_with fail
  refine (c2 _ (HT.out.below B2.out hT0)).out.mono ?_
  rintro e w3 ⟨rfl, hb3⟩
  have B3 := Lib.hid (B2.out.trans (hb3.mono B2.out.size))
  clear hb3 B2
  go_wp2_with fail
  refine (c3 _ (HT.out.below B3.out hT0)).out.mono ?_
  rintro e w4 ⟨rfl, hb4⟩
  have B4 := Lib.hid (B3.out.trans (hb4.mono B3.out.size))
  clear hb4 B3
  go_wp2_with fail
  refine (c4 _ (HT.out.below B4.out hT0)).out.mono ?_
  rintro e w5 ⟨rfl, hb5⟩
  have B5 := Lib.hid (B4.out.trans (hb5.mono B4.out.size))
  clear hb5 B4
  go_wp2_with fail
  refine (c5 _ ((HT.out.below B5.out hT0).alloc _)).out.mono ?_
  rintro e w6 ⟨rfl, hb6⟩
  have Ba := Lib.hid (B5.out.alloc B5.out.size (Obj.cells #[.int .i64 (y), .int .i64 (m), .int .i64 (d)] 23))
  have B6 := Lib.hid (Ba.out.trans (hb6.mono Ba.out.size))
  have Ta6 := Lib.hid ((Tri.made w5 (y) (m) (d)).below hb6)
  clear hb6 Ba B5
  obtain ⟨r0a, r0b, r0c⟩ := Ta6.out
  have r0z := Ta6.out.lt
  go_wp2_with fail
  refine (c6 _ (HT.out.below B6.out hT0)).out.mono ?_
  rintro e w7 ⟨rfl, hb7⟩
  have B7 := Lib.hid (B6.out.trans (hb7.mono B6.out.size))
  have Ta7 := Lib.hid (Ta6.out.below hb7)
  clear hb7 B6 Ta6
  clear r0a r0b r0c r0z
  obtain ⟨r0a, r0b, r0c⟩ := Ta7.out
  have r0z := Ta7.out.lt
  go_wp2
  go_ret
  exact ⟨rfl, mon_end B7.out _ _⟩

open Cal Day in
set_option maxRecDepth 100000 in
set_option maxHeartbeats 2000000 in
theorem core_bo (n o s j k K a b g x y m d : Int) (w : World) (hT : Tab w) (s1 : 0 ≤ s) (s2 : s ≤ 65535) (hK : s % 9601 = K) (K1 : -9600 ≤ K) (K2 : K ≤ 9600) (j1 : 1 ≤ j) (j2 : j ≤ 292194) (y1 : 1601 ≤ y) (y2 : y ≤ 2400) (m1 : 1 ≤ m) (m2 : m ≤ 12) (d1 : 1 ≤ d) (d2 : d ≤ 31)
    (cI : ∀ w : World, Hid (Calls Tryd.prog 24 #[.int .u32 n] w fun e w' => e = .returned (.int .i64 j) ∧ w = w'))
    (cJ : ∀ w : World, Hid (Calls Tryd.prog 24 #[.int .u32 o] w fun e w' => e = .returned (.int .i64 k) ∧ w = w'))
    (c1 : ∀ w : World, Tab w → Hid (Calls Tryd.prog 22 #[.int .i64 j, .int .i64 K] w fun e w' => e = .returned (.tuple #[.int .i64 a, .int .i64 0]) ∧ Below w.heap.size w w'))
    (c2 : ∀ w : World, Tab w → Hid (Calls Tryd.prog 22 #[.int .i64 k, .int .i64 K] w fun e w' => e = .returned (.tuple #[.int .i64 b, .int .i64 0]) ∧ Below w.heap.size w w'))
    (c3 : ∀ w : World, Tab w → Hid (Calls Tryd.prog 22 #[.int .i64 a, .int .i64 (-K)] w fun e w' => e = .returned (.tuple #[.int .i64 g, .int .i64 0]) ∧ Below w.heap.size w w'))
    (t1 : decide (j < g) = false) (t2 : decide (g < j - 3) = false)
    (t3 : decide (j < k) = true) (t4 : decide (b < a) = false)
    (c4 : ∀ w : World, Tab w → Hid (Calls Tryd.prog 17 #[.int .i64 j] w fun e w' => e = .returned (.tuple #[.agg #[.int .i64 y, .int .i64 m, .int .i64 d], .int .i64 0]) ∧ Below w.heap.size w w'))
    (c5 : ∀ w : World, Tab w → Hid (Calls Tryd.prog 22 #[.int .i64 j, .int .i64 12] w fun e w' => e = .returned (.tuple #[.int .i64 x, .int .i64 3]) ∧ Below w.heap.size w w'))
    (t5 : decide (y < 2400) = false)
    :
    Calls Tryd.prog 11 #[.int .u32 n, .int .u32 o, .int .u16 s, .bool false] w fun e w' => e = .returned (.bool true) ∧ Below w.heap.size w w' := by
  have HT := Lib.hid hT
  have hT0 := hT.1
  have c0 := fun w hT => Lib.hid (awake w hT)
  clear hT
  go_enter Tryd.func11, Tryd.ntmps11
  go_wp2_with fail
  refine (c0 _ HT.out).out.mono ?_
  rintro e w1 ⟨rfl, hb1⟩
  have B1 := Lib.hid ((Below.refl w.heap.size w).trans (hb1.mono (Below.refl w.heap.size w).size))
  clear hb1
  go_wp2_with fail
  refine (cI _).out.mono ?_
  rintro e w' ⟨rfl, rfl⟩
  go_wp2_with fail
  refine (cJ _).out.mono ?_
  rintro e w' ⟨rfl, rfl⟩
  go_wp2_with fail
  refine (c1 _ (HT.out.below B1.out hT0)).out.mono ?_
  rintro e w2 ⟨rfl, hb2⟩
  have B2 := Lib.hid (B1.out.trans (hb2.mono B1.out.size))
  clear hb2 B1
  go_wp2_with fail
  refine (c2 _ (HT.out.below B2.out hT0)).out.mono ?_
  rintro e w3 ⟨rfl, hb3⟩
  have B3 := Lib.hid (B2.out.trans (hb3.mono B2.out.size))
  clear hb3 B2
  go_wp2_with fail
  refine (c3 _ (HT.out.below B3.out hT0)).out.mono ?_
  rintro e w4 ⟨rfl, hb4⟩
  have B4 := Lib.hid (B3.out.trans (hb4.mono B3.out.size))
  clear hb4 B3
  go_wp2_with fail
  refine (c4 _ (HT.out.below B4.out hT0)).out.mono ?_
  rintro e w5 ⟨rfl, hb5⟩
  have B5 := Lib.hid (B4.out.trans (hb5.mono B4.out.size))
  clear hb5 B4
  go_wp2_with fail
  refine (c5 _ ((HT.out.below B5.out hT0).alloc _)).out.mono ?_
  rintro e w6 ⟨rfl, hb6⟩
  have Ba := Lib.hid (B5.out.alloc B5.out.size (Obj.cells #[.int .i64 (y), .int .i64 (m), .int .i64 (d)] 23))
  have B6 := Lib.hid (Ba.out.trans (hb6.mono Ba.out.size))
  have Ta6 := Lib.hid ((Tri.made w5 (y) (m) (d)).below hb6)
  clear hb6 Ba B5
  obtain ⟨r0a, r0b, r0c⟩ := Ta6.out
  have r0z := Ta6.out.lt
  go_wp2
  go_ret
  exact ⟨rfl, B6.out⟩

open Cal Day in
set_option maxRecDepth 100000 in
set_option maxHeartbeats 2000000 in
theorem core_bx (n o s j k K a b g x y m d : Int) (w : World) (hT : Tab w) (s1 : 0 ≤ s) (s2 : s ≤ 65535) (hK : s % 9601 = K) (K1 : -9600 ≤ K) (K2 : K ≤ 9600) (j1 : 1 ≤ j) (j2 : j ≤ 292194) (y1 : 1601 ≤ y) (y2 : y ≤ 2400) (m1 : 1 ≤ m) (m2 : m ≤ 12) (d1 : 1 ≤ d) (d2 : d ≤ 31)
    (cI : ∀ w : World, Hid (Calls Tryd.prog 24 #[.int .u32 n] w fun e w' => e = .returned (.int .i64 j) ∧ w = w'))
    (cJ : ∀ w : World, Hid (Calls Tryd.prog 24 #[.int .u32 o] w fun e w' => e = .returned (.int .i64 k) ∧ w = w'))
    (c1 : ∀ w : World, Tab w → Hid (Calls Tryd.prog 22 #[.int .i64 j, .int .i64 K] w fun e w' => e = .returned (.tuple #[.int .i64 a, .int .i64 0]) ∧ Below w.heap.size w w'))
    (c2 : ∀ w : World, Tab w → Hid (Calls Tryd.prog 22 #[.int .i64 k, .int .i64 K] w fun e w' => e = .returned (.tuple #[.int .i64 b, .int .i64 0]) ∧ Below w.heap.size w w'))
    (c3 : ∀ w : World, Tab w → Hid (Calls Tryd.prog 22 #[.int .i64 a, .int .i64 (-K)] w fun e w' => e = .returned (.tuple #[.int .i64 g, .int .i64 0]) ∧ Below w.heap.size w w'))
    (t1 : decide (j < g) = false) (t2 : decide (g < j - 3) = false)
    (t3 : decide (j < k) = true) (t4 : decide (b < a) = false)
    (c4 : ∀ w : World, Tab w → Hid (Calls Tryd.prog 17 #[.int .i64 j] w fun e w' => e = .returned (.tuple #[.agg #[.int .i64 y, .int .i64 m, .int .i64 d], .int .i64 0]) ∧ Below w.heap.size w w'))
    (c5 : ∀ w : World, Tab w → Hid (Calls Tryd.prog 22 #[.int .i64 j, .int .i64 12] w fun e w' => e = .returned (.tuple #[.int .i64 x, .int .i64 0]) ∧ Below w.heap.size w w'))
    (t5 : decide (y < 2400) = true)
    (c6 : ∀ w : World, Tab w → Hid (Calls Tryd.prog 17 #[.int .i64 x] w fun e w' => e = .returned (.tuple #[.agg #[.int .i64 (y + 1), .int .i64 m, .int .i64 28], .int .i64 0]) ∧ Below w.heap.size w w'))
    (t6 : (m == 2) = true) (t7 : (d == 29) = true)
    :
    Calls Tryd.prog 11 #[.int .u32 n, .int .u32 o, .int .u16 s, .bool false] w fun e w' => e = .returned (.bool true) ∧ Below w.heap.size w w' := by
  have HT := Lib.hid hT
  have hT0 := hT.1
  have c0 := fun w hT => Lib.hid (awake w hT)
  clear hT
  go_enter Tryd.func11, Tryd.ntmps11
  go_wp2_with fail
  refine (c0 _ HT.out).out.mono ?_
  rintro e w1 ⟨rfl, hb1⟩
  have B1 := Lib.hid ((Below.refl w.heap.size w).trans (hb1.mono (Below.refl w.heap.size w).size))
  clear hb1
  go_wp2_with fail
  refine (cI _).out.mono ?_
  rintro e w' ⟨rfl, rfl⟩
  go_wp2_with fail
  refine (cJ _).out.mono ?_
  rintro e w' ⟨rfl, rfl⟩
  go_wp2_with fail
  refine (c1 _ (HT.out.below B1.out hT0)).out.mono ?_
  rintro e w2 ⟨rfl, hb2⟩
  have B2 := Lib.hid (B1.out.trans (hb2.mono B1.out.size))
  clear hb2 B1
  go_wp2_with fail
  refine (c2 _ (HT.out.below B2.out hT0)).out.mono ?_
  rintro e w3 ⟨rfl, hb3⟩
  have B3 := Lib.hid (B2.out.trans (hb3.mono B2.out.size))
  clear hb3 B2
  go_wp2_with fail
  refine (c3 _ (HT.out.below B3.out hT0)).out.mono ?_
  rintro e w4 ⟨rfl, hb4⟩
  have B4 := Lib.hid (B3.out.trans (hb4.mono B3.out.size))
  clear hb4 B3
  go_wp2_with fail
  refine (c4 _ (HT.out.below B4.out hT0)).out.mono ?_
  rintro e w5 ⟨rfl, hb5⟩
  have B5 := Lib.hid (B4.out.trans (hb5.mono B4.out.size))
  clear hb5 B4
  go_wp2_with fail
  refine (c5 _ ((HT.out.below B5.out hT0).alloc _)).out.mono ?_
  rintro e w6 ⟨rfl, hb6⟩
  have Ba := Lib.hid (B5.out.alloc B5.out.size (Obj.cells #[.int .i64 (y), .int .i64 (m), .int .i64 (d)] 23))
  have B6 := Lib.hid (Ba.out.trans (hb6.mono Ba.out.size))
  have Ta6 := Lib.hid ((Tri.made w5 (y) (m) (d)).below hb6)
  clear hb6 Ba B5
  obtain ⟨r0a, r0b, r0c⟩ := Ta6.out
  have r0z := Ta6.out.lt
  go_wp2_with fail
  refine (c6 _ (HT.out.below B6.out hT0)).out.mono ?_
  rintro e w7 ⟨rfl, hb7⟩
  have B7 := Lib.hid (B6.out.trans (hb7.mono B6.out.size))
  have Ta7 := Lib.hid (Ta6.out.below hb7)
  clear hb7 B6 Ta6
  clear r0a r0b r0c r0z
  obtain ⟨r0a, r0b, r0c⟩ := Ta7.out
  have r0z := Ta7.out.lt
  go_wp2
  go_ret
  exact ⟨rfl, mon_end B7.out _ _⟩

open Cal Day in
set_option maxRecDepth 100000 in
set_option maxHeartbeats 2000000 in
theorem core_by (n o s j k K a b g x y m d : Int) (w : World) (hT : Tab w) (s1 : 0 ≤ s) (s2 : s ≤ 65535) (hK : s % 9601 = K) (K1 : -9600 ≤ K) (K2 : K ≤ 9600) (j1 : 1 ≤ j) (j2 : j ≤ 292194) (y1 : 1601 ≤ y) (y2 : y ≤ 2400) (m1 : 1 ≤ m) (m2 : m ≤ 12) (d1 : 1 ≤ d) (d2 : d ≤ 31)
    (cI : ∀ w : World, Hid (Calls Tryd.prog 24 #[.int .u32 n] w fun e w' => e = .returned (.int .i64 j) ∧ w = w'))
    (cJ : ∀ w : World, Hid (Calls Tryd.prog 24 #[.int .u32 o] w fun e w' => e = .returned (.int .i64 k) ∧ w = w'))
    (c1 : ∀ w : World, Tab w → Hid (Calls Tryd.prog 22 #[.int .i64 j, .int .i64 K] w fun e w' => e = .returned (.tuple #[.int .i64 a, .int .i64 0]) ∧ Below w.heap.size w w'))
    (c2 : ∀ w : World, Tab w → Hid (Calls Tryd.prog 22 #[.int .i64 k, .int .i64 K] w fun e w' => e = .returned (.tuple #[.int .i64 b, .int .i64 0]) ∧ Below w.heap.size w w'))
    (c3 : ∀ w : World, Tab w → Hid (Calls Tryd.prog 22 #[.int .i64 a, .int .i64 (-K)] w fun e w' => e = .returned (.tuple #[.int .i64 g, .int .i64 0]) ∧ Below w.heap.size w w'))
    (t1 : decide (j < g) = false) (t2 : decide (g < j - 3) = false)
    (t3 : decide (j < k) = true) (t4 : decide (b < a) = false)
    (c4 : ∀ w : World, Tab w → Hid (Calls Tryd.prog 17 #[.int .i64 j] w fun e w' => e = .returned (.tuple #[.agg #[.int .i64 y, .int .i64 m, .int .i64 d], .int .i64 0]) ∧ Below w.heap.size w w'))
    (c5 : ∀ w : World, Tab w → Hid (Calls Tryd.prog 22 #[.int .i64 j, .int .i64 12] w fun e w' => e = .returned (.tuple #[.int .i64 x, .int .i64 0]) ∧ Below w.heap.size w w'))
    (t5 : decide (y < 2400) = true)
    (c6 : ∀ w : World, Tab w → Hid (Calls Tryd.prog 17 #[.int .i64 x] w fun e w' => e = .returned (.tuple #[.agg #[.int .i64 (y + 1), .int .i64 m, .int .i64 d], .int .i64 0]) ∧ Below w.heap.size w w'))
    (t6 : (m == 2) = true) (t7 : (d == 29) = false)
    :
    Calls Tryd.prog 11 #[.int .u32 n, .int .u32 o, .int .u16 s, .bool false] w fun e w' => e = .returned (.bool true) ∧ Below w.heap.size w w' := by
  have HT := Lib.hid hT
  have hT0 := hT.1
  have c0 := fun w hT => Lib.hid (awake w hT)
  clear hT
  go_enter Tryd.func11, Tryd.ntmps11
  go_wp2_with fail
  refine (c0 _ HT.out).out.mono ?_
  rintro e w1 ⟨rfl, hb1⟩
  have B1 := Lib.hid ((Below.refl w.heap.size w).trans (hb1.mono (Below.refl w.heap.size w).size))
  clear hb1
  go_wp2_with fail
  refine (cI _).out.mono ?_
  rintro e w' ⟨rfl, rfl⟩
  go_wp2_with fail
  refine (cJ _).out.mono ?_
  rintro e w' ⟨rfl, rfl⟩
  go_wp2_with fail
  refine (c1 _ (HT.out.below B1.out hT0)).out.mono ?_
  rintro e w2 ⟨rfl, hb2⟩
  have B2 := Lib.hid (B1.out.trans (hb2.mono B1.out.size))
  clear hb2 B1
  go_wp2_with fail
  refine (c2 _ (HT.out.below B2.out hT0)).out.mono ?_
  rintro e w3 ⟨rfl, hb3⟩
  have B3 := Lib.hid (B2.out.trans (hb3.mono B2.out.size))
  clear hb3 B2
  go_wp2_with fail
  refine (c3 _ (HT.out.below B3.out hT0)).out.mono ?_
  rintro e w4 ⟨rfl, hb4⟩
  have B4 := Lib.hid (B3.out.trans (hb4.mono B3.out.size))
  clear hb4 B3
  go_wp2_with fail
  refine (c4 _ (HT.out.below B4.out hT0)).out.mono ?_
  rintro e w5 ⟨rfl, hb5⟩
  have B5 := Lib.hid (B4.out.trans (hb5.mono B4.out.size))
  clear hb5 B4
  go_wp2_with fail
  refine (c5 _ ((HT.out.below B5.out hT0).alloc _)).out.mono ?_
  rintro e w6 ⟨rfl, hb6⟩
  have Ba := Lib.hid (B5.out.alloc B5.out.size (Obj.cells #[.int .i64 (y), .int .i64 (m), .int .i64 (d)] 23))
  have B6 := Lib.hid (Ba.out.trans (hb6.mono Ba.out.size))
  have Ta6 := Lib.hid ((Tri.made w5 (y) (m) (d)).below hb6)
  clear hb6 Ba B5
  obtain ⟨r0a, r0b, r0c⟩ := Ta6.out
  have r0z := Ta6.out.lt
  go_wp2_with fail
  refine (c6 _ (HT.out.below B6.out hT0)).out.mono ?_
  rintro e w7 ⟨rfl, hb7⟩
  have B7 := Lib.hid (B6.out.trans (hb7.mono B6.out.size))
  have Ta7 := Lib.hid (Ta6.out.below hb7)
  clear hb7 B6 Ta6
  clear r0a r0b r0c r0z
  obtain ⟨r0a, r0b, r0c⟩ := Ta7.out
  have r0z := Ta7.out.lt
  go_wp2
  go_ret
  exact ⟨rfl, mon_end B7.out _ _⟩

open Cal Day in
set_option maxRecDepth 100000 in
set_option maxHeartbeats 2000000 in
theorem core_bz (n o s j k K a b g x y m d : Int) (w : World) (hT : Tab w) (s1 : 0 ≤ s) (s2 : s ≤ 65535) (hK : s % 9601 = K) (K1 : -9600 ≤ K) (K2 : K ≤ 9600) (j1 : 1 ≤ j) (j2 : j ≤ 292194) (y1 : 1601 ≤ y) (y2 : y ≤ 2400) (m1 : 1 ≤ m) (m2 : m ≤ 12) (d1 : 1 ≤ d) (d2 : d ≤ 31)
    (cI : ∀ w : World, Hid (Calls Tryd.prog 24 #[.int .u32 n] w fun e w' => e = .returned (.int .i64 j) ∧ w = w'))
    (cJ : ∀ w : World, Hid (Calls Tryd.prog 24 #[.int .u32 o] w fun e w' => e = .returned (.int .i64 k) ∧ w = w'))
    (c1 : ∀ w : World, Tab w → Hid (Calls Tryd.prog 22 #[.int .i64 j, .int .i64 K] w fun e w' => e = .returned (.tuple #[.int .i64 a, .int .i64 0]) ∧ Below w.heap.size w w'))
    (c2 : ∀ w : World, Tab w → Hid (Calls Tryd.prog 22 #[.int .i64 k, .int .i64 K] w fun e w' => e = .returned (.tuple #[.int .i64 b, .int .i64 0]) ∧ Below w.heap.size w w'))
    (c3 : ∀ w : World, Tab w → Hid (Calls Tryd.prog 22 #[.int .i64 a, .int .i64 (-K)] w fun e w' => e = .returned (.tuple #[.int .i64 g, .int .i64 0]) ∧ Below w.heap.size w w'))
    (t1 : decide (j < g) = false) (t2 : decide (g < j - 3) = false)
    (t3 : decide (j < k) = true) (t4 : decide (b < a) = false)
    (c4 : ∀ w : World, Tab w → Hid (Calls Tryd.prog 17 #[.int .i64 j] w fun e w' => e = .returned (.tuple #[.agg #[.int .i64 y, .int .i64 m, .int .i64 d], .int .i64 0]) ∧ Below w.heap.size w w'))
    (c5 : ∀ w : World, Tab w → Hid (Calls Tryd.prog 22 #[.int .i64 j, .int .i64 12] w fun e w' => e = .returned (.tuple #[.int .i64 x, .int .i64 0]) ∧ Below w.heap.size w w'))
    (t5 : decide (y < 2400) = true)
    (c6 : ∀ w : World, Tab w → Hid (Calls Tryd.prog 17 #[.int .i64 x] w fun e w' => e = .returned (.tuple #[.agg #[.int .i64 (y + 1), .int .i64 m, .int .i64 d], .int .i64 0]) ∧ Below w.heap.size w w'))
    (t6 : (m == 2) = false)
    :
    Calls Tryd.prog 11 #[.int .u32 n, .int .u32 o, .int .u16 s, .bool false] w fun e w' => e = .returned (.bool true) ∧ Below w.heap.size w w' := by
  have HT := Lib.hid hT
  have hT0 := hT.1
  have c0 := fun w hT => Lib.hid (awake w hT)
  clear hT
  go_enter Tryd.func11, Tryd.ntmps11
  go_wp2_with fail
  refine (c0 _ HT.out).out.mono ?_
  rintro e w1 ⟨rfl, hb1⟩
  have B1 := Lib.hid ((Below.refl w.heap.size w).trans (hb1.mono (Below.refl w.heap.size w).size))
  clear hb1
  go_wp2_with fail
  refine (cI _).out.mono ?_
  rintro e w' ⟨rfl, rfl⟩
  go_wp2_with fail
  refine (cJ _).out.mono ?_
  rintro e w' ⟨rfl, rfl⟩
  go_wp2_with fail
  refine (c1 _ (HT.out.below B1.out hT0)).out.mono ?_
  rintro e w2 ⟨rfl, hb2⟩
  have B2 := Lib.hid (B1.out.trans (hb2.mono B1.out.size))
  clear hb2 B1
  go_wp2_with fail
  refine (c2 _ (HT.out.below B2.out hT0)).out.mono ?_
  rintro e w3 ⟨rfl, hb3⟩
  have B3 := Lib.hid (B2.out.trans (hb3.mono B2.out.size))
  clear hb3 B2
  go_wp2_with fail
  refine (c3 _ (HT.out.below B3.out hT0)).out.mono ?_
  rintro e w4 ⟨rfl, hb4⟩
  have B4 := Lib.hid (B3.out.trans (hb4.mono B3.out.size))
  clear hb4 B3
  go_wp2_with fail
  refine (c4 _ (HT.out.below B4.out hT0)).out.mono ?_
  rintro e w5 ⟨rfl, hb5⟩
  have B5 := Lib.hid (B4.out.trans (hb5.mono B4.out.size))
  clear hb5 B4
  go_wp2_with fail
  refine (c5 _ ((HT.out.below B5.out hT0).alloc _)).out.mono ?_
  rintro e w6 ⟨rfl, hb6⟩
  have Ba := Lib.hid (B5.out.alloc B5.out.size (Obj.cells #[.int .i64 (y), .int .i64 (m), .int .i64 (d)] 23))
  have B6 := Lib.hid (Ba.out.trans (hb6.mono Ba.out.size))
  have Ta6 := Lib.hid ((Tri.made w5 (y) (m) (d)).below hb6)
  clear hb6 Ba B5
  obtain ⟨r0a, r0b, r0c⟩ := Ta6.out
  have r0z := Ta6.out.lt
  go_wp2_with fail
  refine (c6 _ (HT.out.below B6.out hT0)).out.mono ?_
  rintro e w7 ⟨rfl, hb7⟩
  have B7 := Lib.hid (B6.out.trans (hb7.mono B6.out.size))
  have Ta7 := Lib.hid (Ta6.out.below hb7)
  clear hb7 B6 Ta6
  clear r0a r0b r0c r0z
  obtain ⟨r0a, r0b, r0c⟩ := Ta7.out
  have r0z := Ta7.out.lt
  go_wp2
  go_ret
  exact ⟨rfl, mon_end B7.out _ _⟩

end Go.Proofs.YtpcflkhiimclbaaDoor.monthsA
