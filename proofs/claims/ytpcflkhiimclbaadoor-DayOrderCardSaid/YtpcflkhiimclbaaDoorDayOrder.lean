/-
  The statement DayOrder holds: for every input the call returns true, and each argument reads afterwards as it read before; its card: the listed variable tied to the program's text. Conditions: none beside those that the row itself bears.
-/
import Derived.Test.YtpcflkhiimclbaaDoorAwake
import Derived.Test.YtpcflkhiimclbaaDoorTie
import Derived.Test.YtpcflkhiimclbaaDoorCards
import Derived.SevenTiedAt
namespace Go.Proofs.YtpcflkhiimclbaaDoor.dayOrder
open Go.ChangeShapes Go.WideShapes Go.ChangeAt Go.RowKit
set_option linter.unusedVariables false

open Cal Day in
set_option maxRecDepth 100000 in
set_option maxHeartbeats 2000000 in
theorem core_y (n o j k y m d by_ bm bd : Int) (w : World) (hT : Tab w) (t1 : decide (y < by_) = true) (t2 : (y == by_) = false) (tj : decide (j < k) = true) (te : (j == k) = false)
    (cI : ∀ w : World, Hid (Calls Tryd.prog 24 #[.int .u32 n] w fun e w' => e = .returned (.int .i64 j) ∧ w = w'))
    (cJ : ∀ w : World, Hid (Calls Tryd.prog 24 #[.int .u32 o] w fun e w' => e = .returned (.int .i64 k) ∧ w = w'))
    (c1 : ∀ w : World, Tab w → Hid (Calls Tryd.prog 17 #[.int .i64 j] w fun e w' => e = .returned (.tuple #[.agg #[.int .i64 y, .int .i64 m, .int .i64 d], .int .i64 0]) ∧ Below w.heap.size w w'))
    (c2 : ∀ w : World, Tab w → Hid (Calls Tryd.prog 17 #[.int .i64 k] w fun e w' => e = .returned (.tuple #[.agg #[.int .i64 by_, .int .i64 bm, .int .i64 bd], .int .i64 0]) ∧ Below w.heap.size w w'))
    :
    Calls Tryd.prog 8 #[.int .u32 n, .int .u32 o] w fun e w' => e = .returned (.bool true) ∧ Below w.heap.size w w' := by
  have HT := Lib.hid hT
  have hT0 := hT.1
  have c0 := fun w hT => Lib.hid (awake w hT)
  clear hT
  go_enter Tryd.func8, Tryd.ntmps8
  go_wp2_with fail
  refine (c0 _ HT.out).out.mono ?_
  rintro e w1 ⟨rfl, hb1⟩
  have B1 := Lib.hid ((Below.refl w.heap.size w).trans (hb1.mono (Below.refl w.heap.size w).size))
  clear hb1
  go_wp2_with fail
  refine (cI _).out.mono ?_
  rintro e w' ⟨rfl, rfl⟩
  go_wp2_with fail
  refine (cJ _).out.mono ?_
  rintro e w' ⟨rfl, rfl⟩
  go_wp2_with fail
  refine (c1 _ (HT.out.below B1.out hT0)).out.mono ?_
  rintro e w2 ⟨rfl, hb2⟩
  have B2 := Lib.hid (B1.out.trans (hb2.mono B1.out.size))
  clear hb2 B1
  go_wp2_with fail
  refine (c2 _ ((HT.out.below B2.out hT0).alloc _)).out.mono ?_
  rintro e w3 ⟨rfl, hb3⟩
  have Ba := Lib.hid (B2.out.alloc B2.out.size (Obj.cells #[.int .i64 (y), .int .i64 (m), .int .i64 (d)] 23))
  have B3 := Lib.hid (Ba.out.trans (hb3.mono Ba.out.size))
  have Ta3 := Lib.hid ((Tri.made w2 (y) (m) (d)).below hb3)
  clear hb3 Ba B2
  obtain ⟨r0a, r0b, r0c⟩ := Ta3.out
  have r0z := Ta3.out.lt
  go_wp2
  go_ret
  exact ⟨rfl, B3.out.alloc B3.out.size _⟩
open Cal Day in
set_option maxRecDepth 100000 in
set_option maxHeartbeats 2000000 in
theorem core_m (n o j k y m d bm bd : Int) (w : World) (hT : Tab w) (t1 : decide (m < bm) = true) (t2 : (m == bm) = false) (tj : decide (j < k) = true) (te : (j == k) = false)
    (cI : ∀ w : World, Hid (Calls Tryd.prog 24 #[.int .u32 n] w fun e w' => e = .returned (.int .i64 j) ∧ w = w'))
    (cJ : ∀ w : World, Hid (Calls Tryd.prog 24 #[.int .u32 o] w fun e w' => e = .returned (.int .i64 k) ∧ w = w'))
    (c1 : ∀ w : World, Tab w → Hid (Calls Tryd.prog 17 #[.int .i64 j] w fun e w' => e = .returned (.tuple #[.agg #[.int .i64 y, .int .i64 m, .int .i64 d], .int .i64 0]) ∧ Below w.heap.size w w'))
    (c2 : ∀ w : World, Tab w → Hid (Calls Tryd.prog 17 #[.int .i64 k] w fun e w' => e = .returned (.tuple #[.agg #[.int .i64 y, .int .i64 bm, .int .i64 bd], .int .i64 0]) ∧ Below w.heap.size w w'))
    :
    Calls Tryd.prog 8 #[.int .u32 n, .int .u32 o] w fun e w' => e = .returned (.bool true) ∧ Below w.heap.size w w' := by
  have HT := Lib.hid hT
  have hT0 := hT.1
  have c0 := fun w hT => Lib.hid (awake w hT)
  clear hT
  go_enter Tryd.func8, Tryd.ntmps8
  go_wp2_with fail
  refine (c0 _ HT.out).out.mono ?_
  rintro e w1 ⟨rfl, hb1⟩
  have B1 := Lib.hid ((Below.refl w.heap.size w).trans (hb1.mono (Below.refl w.heap.size w).size))
  clear hb1
  go_wp2_with fail
  refine (cI _).out.mono ?_
  rintro e w' ⟨rfl, rfl⟩
  go_wp2_with fail
  refine (cJ _).out.mono ?_
  rintro e w' ⟨rfl, rfl⟩
  go_wp2_with fail
  refine (c1 _ (HT.out.below B1.out hT0)).out.mono ?_
  rintro e w2 ⟨rfl, hb2⟩
  have B2 := Lib.hid (B1.out.trans (hb2.mono B1.out.size))
  clear hb2 B1
  go_wp2_with fail
  refine (c2 _ ((HT.out.below B2.out hT0).alloc _)).out.mono ?_
  rintro e w3 ⟨rfl, hb3⟩
  have Ba := Lib.hid (B2.out.alloc B2.out.size (Obj.cells #[.int .i64 (y), .int .i64 (m), .int .i64 (d)] 23))
  have B3 := Lib.hid (Ba.out.trans (hb3.mono Ba.out.size))
  have Ta3 := Lib.hid ((Tri.made w2 (y) (m) (d)).below hb3)
  clear hb3 Ba B2
  obtain ⟨r0a, r0b, r0c⟩ := Ta3.out
  have r0z := Ta3.out.lt
  go_wp2
  go_ret
  exact ⟨rfl, B3.out.alloc B3.out.size _⟩
open Cal Day in
set_option maxRecDepth 100000 in
set_option maxHeartbeats 2000000 in
theorem core_d (n o j k y m d bd : Int) (w : World) (hT : Tab w) (t1 : decide (d < bd) = true) (t2 : (d == bd) = false) (tj : decide (j < k) = true) (te : (j == k) = false)
    (cI : ∀ w : World, Hid (Calls Tryd.prog 24 #[.int .u32 n] w fun e w' => e = .returned (.int .i64 j) ∧ w = w'))
    (cJ : ∀ w : World, Hid (Calls Tryd.prog 24 #[.int .u32 o] w fun e w' => e = .returned (.int .i64 k) ∧ w = w'))
    (c1 : ∀ w : World, Tab w → Hid (Calls Tryd.prog 17 #[.int .i64 j] w fun e w' => e = .returned (.tuple #[.agg #[.int .i64 y, .int .i64 m, .int .i64 d], .int .i64 0]) ∧ Below w.heap.size w w'))
    (c2 : ∀ w : World, Tab w → Hid (Calls Tryd.prog 17 #[.int .i64 k] w fun e w' => e = .returned (.tuple #[.agg #[.int .i64 y, .int .i64 m, .int .i64 bd], .int .i64 0]) ∧ Below w.heap.size w w'))
    :
    Calls Tryd.prog 8 #[.int .u32 n, .int .u32 o] w fun e w' => e = .returned (.bool true) ∧ Below w.heap.size w w' := by
  have HT := Lib.hid hT
  have hT0 := hT.1
  have c0 := fun w hT => Lib.hid (awake w hT)
  clear hT
  go_enter Tryd.func8, Tryd.ntmps8
  go_wp2_with fail
  refine (c0 _ HT.out).out.mono ?_
  rintro e w1 ⟨rfl, hb1⟩
  have B1 := Lib.hid ((Below.refl w.heap.size w).trans (hb1.mono (Below.refl w.heap.size w).size))
  clear hb1
  go_wp2_with fail
  refine (cI _).out.mono ?_
  rintro e w' ⟨rfl, rfl⟩
  go_wp2_with fail
  refine (cJ _).out.mono ?_
  rintro e w' ⟨rfl, rfl⟩
  go_wp2_with fail
  refine (c1 _ (HT.out.below B1.out hT0)).out.mono ?_
  rintro e w2 ⟨rfl, hb2⟩
  have B2 := Lib.hid (B1.out.trans (hb2.mono B1.out.size))
  clear hb2 B1
  go_wp2_with fail
  refine (c2 _ ((HT.out.below B2.out hT0).alloc _)).out.mono ?_
  rintro e w3 ⟨rfl, hb3⟩
  have Ba := Lib.hid (B2.out.alloc B2.out.size (Obj.cells #[.int .i64 (y), .int .i64 (m), .int .i64 (d)] 23))
  have B3 := Lib.hid (Ba.out.trans (hb3.mono Ba.out.size))
  have Ta3 := Lib.hid ((Tri.made w2 (y) (m) (d)).below hb3)
  clear hb3 Ba B2
  obtain ⟨r0a, r0b, r0c⟩ := Ta3.out
  have r0z := Ta3.out.lt
  go_wp2
  go_ret
  exact ⟨rfl, B3.out.alloc B3.out.size _⟩
open Cal Day in
set_option maxRecDepth 100000 in
set_option maxHeartbeats 2000000 in
theorem core_s (n o j y m d : Int) (w : World) (hT : Tab w) 
    (cI : ∀ w : World, Hid (Calls Tryd.prog 24 #[.int .u32 n] w fun e w' => e = .returned (.int .i64 j) ∧ w = w'))
    (cJ : ∀ w : World, Hid (Calls Tryd.prog 24 #[.int .u32 o] w fun e w' => e = .returned (.int .i64 j) ∧ w = w'))
    (c1 : ∀ w : World, Tab w → Hid (Calls Tryd.prog 17 #[.int .i64 j] w fun e w' => e = .returned (.tuple #[.agg #[.int .i64 y, .int .i64 m, .int .i64 d], .int .i64 0]) ∧ Below w.heap.size w w'))
    (c2 : ∀ w : World, Tab w → Hid (Calls Tryd.prog 17 #[.int .i64 j] w fun e w' => e = .returned (.tuple #[.agg #[.int .i64 y, .int .i64 m, .int .i64 d], .int .i64 0]) ∧ Below w.heap.size w w'))
    :
    Calls Tryd.prog 8 #[.int .u32 n, .int .u32 o] w fun e w' => e = .returned (.bool true) ∧ Below w.heap.size w w' := by
  have HT := Lib.hid hT
  have hT0 := hT.1
  have c0 := fun w hT => Lib.hid (awake w hT)
  clear hT
  go_enter Tryd.func8, Tryd.ntmps8
  go_wp2_with fail
  refine (c0 _ HT.out).out.mono ?_
  rintro e w1 ⟨rfl, hb1⟩
  have B1 := Lib.hid ((Below.refl w.heap.size w).trans (hb1.mono (Below.refl w.heap.size w).size))
  clear hb1
  go_wp2_with fail
  refine (cI _).out.mono ?_
  rintro e w' ⟨rfl, rfl⟩
  go_wp2_with fail
  refine (cJ _).out.mono ?_
  rintro e w' ⟨rfl, rfl⟩
  go_wp2_with fail
  refine (c1 _ (HT.out.below B1.out hT0)).out.mono ?_
  rintro e w2 ⟨rfl, hb2⟩
  have B2 := Lib.hid (B1.out.trans (hb2.mono B1.out.size))
  clear hb2 B1
  go_wp2_with fail
  refine (c2 _ ((HT.out.below B2.out hT0).alloc _)).out.mono ?_
  rintro e w3 ⟨rfl, hb3⟩
  have Ba := Lib.hid (B2.out.alloc B2.out.size (Obj.cells #[.int .i64 (y), .int .i64 (m), .int .i64 (d)] 23))
  have B3 := Lib.hid (Ba.out.trans (hb3.mono Ba.out.size))
  have Ta3 := Lib.hid ((Tri.made w2 (y) (m) (d)).below hb3)
  clear hb3 Ba B2
  obtain ⟨r0a, r0b, r0c⟩ := Ta3.out
  have r0z := Ta3.out.lt
  go_wp2
  go_ret
  exact ⟨rfl, B3.out.alloc B3.out.size _⟩
open Cal Day in
set_option maxRecDepth 100000 in
set_option maxHeartbeats 2000000 in
theorem core_y2 (n o j k y m d by_ bm bd : Int) (w : World) (hT : Tab w) (t1 : decide (y < by_) = false) (t2 : (y == by_) = false) (tj : decide (j < k) = false) (te : (j == k) = false)
    (cI : ∀ w : World, Hid (Calls Tryd.prog 24 #[.int .u32 n] w fun e w' => e = .returned (.int .i64 j) ∧ w = w'))
    (cJ : ∀ w : World, Hid (Calls Tryd.prog 24 #[.int .u32 o] w fun e w' => e = .returned (.int .i64 k) ∧ w = w'))
    (c1 : ∀ w : World, Tab w → Hid (Calls Tryd.prog 17 #[.int .i64 j] w fun e w' => e = .returned (.tuple #[.agg #[.int .i64 y, .int .i64 m, .int .i64 d], .int .i64 0]) ∧ Below w.heap.size w w'))
    (c2 : ∀ w : World, Tab w → Hid (Calls Tryd.prog 17 #[.int .i64 k] w fun e w' => e = .returned (.tuple #[.agg #[.int .i64 by_, .int .i64 bm, .int .i64 bd], .int .i64 0]) ∧ Below w.heap.size w w'))
    :
    Calls Tryd.prog 8 #[.int .u32 n, .int .u32 o] w fun e w' => e = .returned (.bool true) ∧ Below w.heap.size w w' := by
  have HT := Lib.hid hT
  have hT0 := hT.1
  have c0 := fun w hT => Lib.hid (awake w hT)
  clear hT
  go_enter Tryd.func8, Tryd.ntmps8
  go_wp2_with fail
  refine (c0 _ HT.out).out.mono ?_
  rintro e w1 ⟨rfl, hb1⟩
  have B1 := Lib.hid ((Below.refl w.heap.size w).trans (hb1.mono (Below.refl w.heap.size w).size))
  clear hb1
  go_wp2_with fail
  refine (cI _).out.mono ?_
  rintro e w' ⟨rfl, rfl⟩
  go_wp2_with fail
  refine (cJ _).out.mono ?_
  rintro e w' ⟨rfl, rfl⟩
  go_wp2_with fail
  refine (c1 _ (HT.out.below B1.out hT0)).out.mono ?_
  rintro e w2 ⟨rfl, hb2⟩
  have B2 := Lib.hid (B1.out.trans (hb2.mono B1.out.size))
  clear hb2 B1
  go_wp2_with fail
  refine (c2 _ ((HT.out.below B2.out hT0).alloc _)).out.mono ?_
  rintro e w3 ⟨rfl, hb3⟩
  have Ba := Lib.hid (B2.out.alloc B2.out.size (Obj.cells #[.int .i64 (y), .int .i64 (m), .int .i64 (d)] 23))
  have B3 := Lib.hid (Ba.out.trans (hb3.mono Ba.out.size))
  have Ta3 := Lib.hid ((Tri.made w2 (y) (m) (d)).below hb3)
  clear hb3 Ba B2
  obtain ⟨r0a, r0b, r0c⟩ := Ta3.out
  have r0z := Ta3.out.lt
  go_wp2
  go_ret
  exact ⟨rfl, B3.out.alloc B3.out.size _⟩
open Cal Day in
set_option maxRecDepth 100000 in
set_option maxHeartbeats 2000000 in
theorem core_m2 (n o j k y m d bm bd : Int) (w : World) (hT : Tab w) (t1 : decide (m < bm) = false) (t2 : (m == bm) = false) (tj : decide (j < k) = false) (te : (j == k) = false)
    (cI : ∀ w : World, Hid (Calls Tryd.prog 24 #[.int .u32 n] w fun e w' => e = .returned (.int .i64 j) ∧ w = w'))
    (cJ : ∀ w : World, Hid (Calls Tryd.prog 24 #[.int .u32 o] w fun e w' => e = .returned (.int .i64 k) ∧ w = w'))
    (c1 : ∀ w : World, Tab w → Hid (Calls Tryd.prog 17 #[.int .i64 j] w fun e w' => e = .returned (.tuple #[.agg #[.int .i64 y, .int .i64 m, .int .i64 d], .int .i64 0]) ∧ Below w.heap.size w w'))
    (c2 : ∀ w : World, Tab w → Hid (Calls Tryd.prog 17 #[.int .i64 k] w fun e w' => e = .returned (.tuple #[.agg #[.int .i64 y, .int .i64 bm, .int .i64 bd], .int .i64 0]) ∧ Below w.heap.size w w'))
    :
    Calls Tryd.prog 8 #[.int .u32 n, .int .u32 o] w fun e w' => e = .returned (.bool true) ∧ Below w.heap.size w w' := by
  have HT := Lib.hid hT
  have hT0 := hT.1
  have c0 := fun w hT => Lib.hid (awake w hT)
  clear hT
  go_enter Tryd.func8, Tryd.ntmps8
  go_wp2_with fail
  refine (c0 _ HT.out).out.mono ?_
  rintro e w1 ⟨rfl, hb1⟩
  have B1 := Lib.hid ((Below.refl w.heap.size w).trans (hb1.mono (Below.refl w.heap.size w).size))
  clear hb1
  go_wp2_with fail
  refine (cI _).out.mono ?_
  rintro e w' ⟨rfl, rfl⟩
  go_wp2_with fail
  refine (cJ _).out.mono ?_
  rintro e w' ⟨rfl, rfl⟩
  go_wp2_with fail
  refine (c1 _ (HT.out.below B1.out hT0)).out.mono ?_
  rintro e w2 ⟨rfl, hb2⟩
  have B2 := Lib.hid (B1.out.trans (hb2.mono B1.out.size))
  clear hb2 B1
  go_wp2_with fail
  refine (c2 _ ((HT.out.below B2.out hT0).alloc _)).out.mono ?_
  rintro e w3 ⟨rfl, hb3⟩
  have Ba := Lib.hid (B2.out.alloc B2.out.size (Obj.cells #[.int .i64 (y), .int .i64 (m), .int .i64 (d)] 23))
  have B3 := Lib.hid (Ba.out.trans (hb3.mono Ba.out.size))
  have Ta3 := Lib.hid ((Tri.made w2 (y) (m) (d)).below hb3)
  clear hb3 Ba B2
  obtain ⟨r0a, r0b, r0c⟩ := Ta3.out
  have r0z := Ta3.out.lt
  go_wp2
  go_ret
  exact ⟨rfl, B3.out.alloc B3.out.size _⟩
open Cal Day in
set_option maxRecDepth 100000 in
set_option maxHeartbeats 2000000 in
theorem core_d2 (n o j k y m d bd : Int) (w : World) (hT : Tab w) (t1 : decide (d < bd) = false) (t2 : (d == bd) = false) (tj : decide (j < k) = false) (te : (j == k) = false)
    (cI : ∀ w : World, Hid (Calls Tryd.prog 24 #[.int .u32 n] w fun e w' => e = .returned (.int .i64 j) ∧ w = w'))
    (cJ : ∀ w : World, Hid (Calls Tryd.prog 24 #[.int .u32 o] w fun e w' => e = .returned (.int .i64 k) ∧ w = w'))
    (c1 : ∀ w : World, Tab w → Hid (Calls Tryd.prog 17 #[.int .i64 j] w fun e w' => e = .returned (.tuple #[.agg #[.int .i64 y, .int .i64 m, .int .i64 d], .int .i64 0]) ∧ Below w.heap.size w w'))
    (c2 : ∀ w : World, Tab w → Hid (Calls Tryd.prog 17 #[.int .i64 k] w fun e w' => e = .returned (.tuple #[.agg #[.int .i64 y, .int .i64 m, .int .i64 bd], .int .i64 0]) ∧ Below w.heap.size w w'))
    :
    Calls Tryd.prog 8 #[.int .u32 n, .int .u32 o] w fun e w' => e = .returned (.bool true) ∧ Below w.heap.size w w' := by
  have HT := Lib.hid hT
  have hT0 := hT.1
  have c0 := fun w hT => Lib.hid (awake w hT)
  clear hT
  go_enter Tryd.func8, Tryd.ntmps8
  go_wp2_with fail
  refine (c0 _ HT.out).out.mono ?_
  rintro e w1 ⟨rfl, hb1⟩
  have B1 := Lib.hid ((Below.refl w.heap.size w).trans (hb1.mono (Below.refl w.heap.size w).size))
  clear hb1
  go_wp2_with fail
  refine (cI _).out.mono ?_
  rintro e w' ⟨rfl, rfl⟩
  go_wp2_with fail
  refine (cJ _).out.mono ?_
  rintro e w' ⟨rfl, rfl⟩
  go_wp2_with fail
  refine (c1 _ (HT.out.below B1.out hT0)).out.mono ?_
  rintro e w2 ⟨rfl, hb2⟩
  have B2 := Lib.hid (B1.out.trans (hb2.mono B1.out.size))
  clear hb2 B1
  go_wp2_with fail
  refine (c2 _ ((HT.out.below B2.out hT0).alloc _)).out.mono ?_
  rintro e w3 ⟨rfl, hb3⟩
  have Ba := Lib.hid (B2.out.alloc B2.out.size (Obj.cells #[.int .i64 (y), .int .i64 (m), .int .i64 (d)] 23))
  have B3 := Lib.hid (Ba.out.trans (hb3.mono Ba.out.size))
  have Ta3 := Lib.hid ((Tri.made w2 (y) (m) (d)).below hb3)
  clear hb3 Ba B2
  obtain ⟨r0a, r0b, r0c⟩ := Ta3.out
  have r0z := Ta3.out.lt
  go_wp2
  go_ret
  exact ⟨rfl, B3.out.alloc B3.out.size _⟩
open Cal Day in
theorem walk (n : Int) (hn : 0 ≤ n ∧ n ≤ 4294967295) (o : Int) (ho : 0 ≤ o ∧ o ≤ 4294967295) (w : World) (hT : Tab w) :
    Calls Tryd.prog 8 #[.int .u32 n, .int .u32 o] w fun e w' => e = .returned (.bool true) ∧ Below w.heap.size w w' := by
  have cI := fun w => Lib.hid (rin n w hn.1 hn.2)
  have cJ := fun w => Lib.hid (rin o w ho.1 ho.2)
  have h1 : 1 ≤ 1 + n % 292194 := by omega
  have h2 : 1 + n % 292194 ≤ 292194 := by omega
  have h3 : 1 ≤ 1 + o % 292194 := by omega
  have h4 : 1 + o % 292194 ≤ 292194 := by omega
  generalize 1 + n % 292194 = j at *
  generalize 1 + o % 292194 = k at *
  obtain ⟨y, m, d, hy⟩ := Ymd.of j h1 h2
  obtain ⟨y', m', d', hy'⟩ := Ymd.of k h3 h4
  have c1 := fun w hT => Lib.hid (of_yes _ y m d w hT hy)
  have c2 := fun w hT => Lib.hid (of_yes _ y' m' d' w hT hy')
  have L := fun h => hy.lt_of hy' h
  have G := fun h => hy'.lt_of hy h
  by_cases e1 : y = y'
  · subst e1
    by_cases e2 : m = m'
    · subst e2
      by_cases e3 : d = d'
      · subst e3
        obtain rfl : j = k := hy.eq.symm.trans hy'.eq
        exact core_s n o j y m d w hT cI cJ c1 c2
      · by_cases l : d < d'
        · exact core_d n o j k y m d d' w hT (by simp; omega) (by simp; omega) (by simp; omega) (by simp; omega) cI cJ c1 c2
        · exact core_d2 n o j k y m d d' w hT (by simp; omega) (by simp; omega) (by simp; omega) (by simp; omega) cI cJ c1 c2
    · by_cases l : m < m'
      · exact core_m n o j k y m d m' d' w hT (by simp; omega) (by simp; omega) (by simp; omega) (by simp; omega) cI cJ c1 c2
      · exact core_m2 n o j k y m d m' d' w hT (by simp; omega) (by simp; omega) (by simp; omega) (by simp; omega) cI cJ c1 c2
  · by_cases l : y < y'
    · exact core_y n o j k y m d y' m' d' w hT (by simp; omega) (by simp; omega) (by simp; omega) (by simp; omega) cI cJ c1 c2
    · exact core_y2 n o j k y m d y' m' d' w hT (by simp; omega) (by simp; omega) (by simp; omega) (by simp; omega) cI cJ c1 c2

set_option maxRecDepth 100000 in
theorem lifted (os : Os) (started : os.Started) (H : Type) (enc : TypeId × Value → H) :
    ReturnsInHanded {} Tryd.checked os 8 .any (fun w args => (Rows.dayOrderSpec.pre enc Tryd.prog Tryd.f8 [] false w args ∧ laidMetH Tryd.prog [("bordereau/day.monthDays", Rows.laid_bordereau_day_monthDays)] w) ∧ sizedMet enc Tryd.prog Tryd.f8 (OpenSpec.ofChange Rows.dayOrderSpec) false w args)
      (Rows.dayOrderSpec.post enc Tryd.prog Tryd.f8 false true false false) := by
  refine returnsInHanded_of_change_and (C := Tryd.checked) (X := fun w _ => laidMetH Tryd.prog [("bordereau/day.monthDays", Rows.laid_bordereau_day_monthDays)] w) (fun _ _ _ hh h => h.of_heap hh) Day.own started (by kernel_rfl) Tryd.func8
    (ChangeSpec.witness_shaped (enc := enc) (C := Tryd.checked) (os := os) (X := fun w _ => laidMetH Tryd.prog [("bordereau/day.monthDays", Rows.laid_bordereau_day_monthDays)] w) false (World.doorLaid Tryd.prog 14 os) #[.int .u32 0, .int .u32 0] 8 rfl (World.shaped_of_RefB (by kernel_rfl) (by kernel_rfl)) (by kernel_rfl) (by kernel_rfl) (by kernel_rfl) (Day.door_met os _)) ?_
  intro W base args ds gs before hval0 hW _ _ hL _
  have hval : ∀ (j : Nat) t v, Tryd.f8.params[j]? = some t → args[j]? = some v → Value.okWide Tryd.prog W .any base t v := hval0
  have hW' := hW
  obtain ⟨p, q, hA0, hV, rfl, hfz, hnd⟩ := hW
  have hA : DataW.TrodAll enc Tryd.prog W 0 (fun _ => true) true Tryd.f8.params.toList args.toList ds p := hA0
  rw [Tryd.params8] at hA hval
  obtain ⟨v0, vs0, d0, ds0, p0, q0, hargs, rfl, rfl, h0, r0⟩ := trodAll_cons hA
  obtain ⟨v1, vs1, d1, ds1, p1, q1, rfl, rfl, rfl, h1, r1⟩ := trodAll_cons r0
  obtain ⟨rfl, rfl, rfl⟩ := trodAll_nil r1
  obtain rfl : args = #[v0, v1] := by cases args; simp_all
  obtain ⟨rfl, rfl⟩ := trodVars_none hV
  obtain ⟨a0, rfl, rfl, rfl, w0⟩ := open_int Tryd.underlying35 (hval 0 35 v0 rfl rfl) h0
  obtain ⟨a1, rfl, rfl, rfl, w1⟩ := open_int Tryd.underlying35 (hval 1 35 v1 rfl rfl) h1
  clear hA0 hval0
  refine (walk a0 (Day.u32_of w0) a1 (Day.u32_of w1) W (Day.of_laid hL)).mono fun e W' ⟨he, bel⟩ => ?_
  subst he
  exact ⟨_, rfl, _, _, _, [], _, [], hW', trodAll_mk1 (shut_bool Tryd.underlying4 _), (trodAll_cons_mk (shut_int Tryd.underlying35 w0) (trodAll_cons_mk (shut_int Tryd.underlying35 w1) trodAll_mk0)), rfl, bel.frame _, fun h => by cases h⟩

theorem proved : Rows.DayOrderSaid :=
  OpenClaim.holds_of_wide 8 Tryd.f8 rfl rfl rfl rfl rfl rfl rfl ⟨rfl, rfl, rfl, rfl, rfl⟩ rfl rfl rfl rfl rfl (by kernel_rfl) Tryd.func8 (by kernel_rfl)
    (of_decide_eq_true (by kernel_rfl)) (by unfold Func.isWrapper; first | (rw [if_pos (by decide +kernel)]; kernel_rfl) | (rw [if_neg (by decide +kernel)]; exact ⟨rfl, rfl⟩))
    (fun os started H enc _ => lifted os started H enc)

theorem carded : Rows.DayOrderCardSaid :=
  Claim7.holds_tied_plain_at .later [] [.data] true (true, "0d0c1c32c8900cf58ef4dbff73ea3e777abc26be34945349d325ec12e76e930c") false
    proved (fun _ h => by cases h) (by kernel_rfl) (fun _ h => by cases h) dayOrder_row_tie rfl ⟨rfl, rfl⟩ (by kernel_rfl) rfl
    (fun f fn hf hfn => by
      obtain rfl : f = 8 := Option.some.inj ((show Tryd.prog.funcNamed "bordereau/bordereaulaw02.DayOrder" = some 8 by kernel_rfl).symm.trans hf) |>.symm
      obtain rfl : fn = Tryd.f8 := (Option.some.inj (Tryd.func8.symm.trans hfn)).symm
      exact ⟨by kernel_rfl, fun j t ht => by
        rw [Tryd.params8] at ht
        have hm : t ∈ [35, 35] := by simpa using Array.mem_of_getElem? ht
        have hall : ([35, 35].all fun u => !Tryd.prog.wantsStandIn u) = true := by kernel_rfl
        exact (show Tryd.prog.wantsStandIn t = false by simpa using List.all_eq_true.1 hall t hm)⟩)
    (by kernel_rfl)

end Go.Proofs.YtpcflkhiimclbaaDoor.dayOrder
