/-
  The statement StepTogether holds: for every input the call returns true, and each argument reads afterwards as it read before. Conditions: none beside those that the row itself bears.
-/
import Derived.Test.YtngpcabengmoiaaGiven
import Derived.Test.YtngpcabengmoiaaTgR
namespace Go.Proofs.Ytngpcabengmoiaa.stepTogether
open Go.ChangeShapes Go.WideShapes Go.ChangeAt Go.RowKit St Stp
set_option linter.unusedVariables false


set_option maxRecDepth 100000 in
set_option maxHeartbeats 4000000 in
theorem few1 (A : Option Addr) (n c : Nat) (V : Option Addr) (m d : Nat) (A2 : Option Addr) (n2 c2 : Nat) (V2 : Option Addr) (m2 d2 : Nat) (a b day : Int) (b2 : Bool) (w : World) (hn : n ≤ 9223372036854775807) (hm : m ≤ 9223372036854775807) (hn2 : n2 ≤ 9223372036854775807) (hm2 : m2 ≤ 9223372036854775807) (e1 : (decide (n ≤ 100) && decide (m ≤ 100)) = false) (e2 : (decide (n2 ≤ 100) && decide (m2 ≤ 100)) = b2) :
    Calls Try.prog 4 #[sg A n c V m d, sg A2 n2 c2 V2 m2 d2, .int .u32 a, .int .u32 b, .int .u32 day] w fun e w' => e = .returned (.bool true) ∧ Below w.heap.size w w' := by
  have HXF := Lib.hid ((Bx.new w 24 (.slice A n c) (.slice V m d)).alloc (.cells #[.slice A2 n2 c2, .slice V2 m2 d2] 24))
  have HXG := Lib.hid (show Bx ((w.alloc (.cells #[.slice A n c, .slice V m d] 24)).alloc (.cells #[.slice A2 n2 c2, .slice V2 m2 d2] 24)) (w.heap.size + 1) 24 (.slice A2 n2 c2) (.slice V2 m2 d2) by
    have h_ := Bx.new (w.alloc (.cells #[.slice A n c, .slice V m d] 24)) 24 (.slice A2 n2 c2) (.slice V2 m2 d2)
    rw [World.size_alloc] at h_
    exact h_)
  have HB := Lib.hid (show Below w.heap.size w ((w.alloc (.cells #[.slice A n c, .slice V m d] 24)).alloc (.cells #[.slice A2 n2 c2, .slice V2 m2 d2] 24)) from (al1 _ _).alloc (by simp) _)
  obtain ⟨W, hW⟩ : ∃ W, (w.alloc (.cells #[.slice A n c, .slice V m d] 24)).alloc (.cells #[.slice A2 n2 c2, .slice V2 m2 d2] 24) = W := ⟨_, rfl⟩
  rw [hW] at HXF HXG HB
  have HW := Lib.hid hW
  clear hW
  have C1 := fun w => Lib.hid (few A n c V m d w (by omega) (by omega))
  have C2 := fun w => Lib.hid (few A2 n2 c2 V2 m2 d2 w (by omega) (by omega))
  rw [e1] at C1
  rw [e2] at C2
  clear e1 e2
  go_enter Try.func4, Try.ntmps4
  go_wp2_with fail
  rw [HW.out]
  refine (awake _).mono ?_
  rintro e w1 ⟨rfl, hb⟩
  have HB1 := Lib.hid (HB.out.trans (hb.mono HB.out.size))
  have HXF1 := Lib.hid (HXF.out.keep hb)
  have HXG1 := Lib.hid (HXG.out.keep hb)
  have Fc0 := HXF1.out.c0
  have Fc1 := HXF1.out.c1
  have Fl := HXF1.out.lt
  have Gc0 := HXG1.out.c0
  have Gc1 := HXG1.out.c1
  have Gl := HXG1.out.lt
  clear hb HB HXF HXG
  go_wp2_with fail
  refine ((C1 _).out).mono ?_
  rintro e w2 ⟨rfl, hb⟩
  have HB2 := Lib.hid (HB1.out.trans (hb.mono HB1.out.size))
  have HXF2 := Lib.hid (HXF1.out.keep hb)
  have HXG2 := Lib.hid (HXG1.out.keep hb)
  clear Fc0 Fc1 Fl Gc0 Gc1 Gl
  have Fc0 := HXF2.out.c0
  have Fc1 := HXF2.out.c1
  have Fl := HXF2.out.lt
  have Gc0 := HXG2.out.c0
  have Gc1 := HXG2.out.c1
  have Gl := HXG2.out.lt
  clear hb HB1 HXF1 HXG1
  go_wp2_with fail
  refine ((C2 _).out).mono ?_
  rintro e w3 ⟨rfl, hb⟩
  have HB3 := Lib.hid (HB2.out.trans (hb.mono HB2.out.size))
  have HXF3 := Lib.hid (HXF2.out.keep hb)
  have HXG3 := Lib.hid (HXG2.out.keep hb)
  clear Fc0 Fc1 Fl Gc0 Gc1 Gl
  have Fc0 := HXF3.out.c0
  have Fc1 := HXF3.out.c1
  have Fl := HXF3.out.lt
  have Gc0 := HXG3.out.c0
  have Gc1 := HXG3.out.c1
  have Gl := HXG3.out.lt
  clear hb HB2 HXF2 HXG2
  go_wp2
  go_ret
  exact ⟨rfl, HB3.out⟩

set_option maxRecDepth 100000 in
set_option maxHeartbeats 4000000 in
theorem few2 (A : Option Addr) (n c : Nat) (V : Option Addr) (m d : Nat) (A2 : Option Addr) (n2 c2 : Nat) (V2 : Option Addr) (m2 d2 : Nat) (a b day : Int) (w : World) (hn : n ≤ 9223372036854775807) (hm : m ≤ 9223372036854775807) (hn2 : n2 ≤ 9223372036854775807) (hm2 : m2 ≤ 9223372036854775807) (e1 : (decide (n ≤ 100) && decide (m ≤ 100)) = true) (e2 : (decide (n2 ≤ 100) && decide (m2 ≤ 100)) = false) :
    Calls Try.prog 4 #[sg A n c V m d, sg A2 n2 c2 V2 m2 d2, .int .u32 a, .int .u32 b, .int .u32 day] w fun e w' => e = .returned (.bool true) ∧ Below w.heap.size w w' := by
  have HXF := Lib.hid ((Bx.new w 24 (.slice A n c) (.slice V m d)).alloc (.cells #[.slice A2 n2 c2, .slice V2 m2 d2] 24))
  have HXG := Lib.hid (show Bx ((w.alloc (.cells #[.slice A n c, .slice V m d] 24)).alloc (.cells #[.slice A2 n2 c2, .slice V2 m2 d2] 24)) (w.heap.size + 1) 24 (.slice A2 n2 c2) (.slice V2 m2 d2) by
    have h_ := Bx.new (w.alloc (.cells #[.slice A n c, .slice V m d] 24)) 24 (.slice A2 n2 c2) (.slice V2 m2 d2)
    rw [World.size_alloc] at h_
    exact h_)
  have HB := Lib.hid (show Below w.heap.size w ((w.alloc (.cells #[.slice A n c, .slice V m d] 24)).alloc (.cells #[.slice A2 n2 c2, .slice V2 m2 d2] 24)) from (al1 _ _).alloc (by simp) _)
  obtain ⟨W, hW⟩ : ∃ W, (w.alloc (.cells #[.slice A n c, .slice V m d] 24)).alloc (.cells #[.slice A2 n2 c2, .slice V2 m2 d2] 24) = W := ⟨_, rfl⟩
  rw [hW] at HXF HXG HB
  have HW := Lib.hid hW
  clear hW
  have C1 := fun w => Lib.hid (few A n c V m d w (by omega) (by omega))
  have C2 := fun w => Lib.hid (few A2 n2 c2 V2 m2 d2 w (by omega) (by omega))
  rw [e1] at C1
  rw [e2] at C2
  clear e1 e2
  go_enter Try.func4, Try.ntmps4
  go_wp2_with fail
  rw [HW.out]
  refine (awake _).mono ?_
  rintro e w1 ⟨rfl, hb⟩
  have HB1 := Lib.hid (HB.out.trans (hb.mono HB.out.size))
  have HXF1 := Lib.hid (HXF.out.keep hb)
  have HXG1 := Lib.hid (HXG.out.keep hb)
  have Fc0 := HXF1.out.c0
  have Fc1 := HXF1.out.c1
  have Fl := HXF1.out.lt
  have Gc0 := HXG1.out.c0
  have Gc1 := HXG1.out.c1
  have Gl := HXG1.out.lt
  clear hb HB HXF HXG
  go_wp2_with fail
  refine ((C1 _).out).mono ?_
  rintro e w2 ⟨rfl, hb⟩
  have HB2 := Lib.hid (HB1.out.trans (hb.mono HB1.out.size))
  have HXF2 := Lib.hid (HXF1.out.keep hb)
  have HXG2 := Lib.hid (HXG1.out.keep hb)
  clear Fc0 Fc1 Fl Gc0 Gc1 Gl
  have Fc0 := HXF2.out.c0
  have Fc1 := HXF2.out.c1
  have Fl := HXF2.out.lt
  have Gc0 := HXG2.out.c0
  have Gc1 := HXG2.out.c1
  have Gl := HXG2.out.lt
  clear hb HB1 HXF1 HXG1
  go_wp2_with fail
  refine ((C2 _).out).mono ?_
  rintro e w3 ⟨rfl, hb⟩
  have HB3 := Lib.hid (HB2.out.trans (hb.mono HB2.out.size))
  have HXF3 := Lib.hid (HXF2.out.keep hb)
  have HXG3 := Lib.hid (HXG2.out.keep hb)
  clear Fc0 Fc1 Fl Gc0 Gc1 Gl
  have Fc0 := HXF3.out.c0
  have Fc1 := HXF3.out.c1
  have Fl := HXF3.out.lt
  have Gc0 := HXG3.out.c0
  have Gc1 := HXG3.out.c1
  have Gl := HXG3.out.lt
  clear hb HB2 HXF2 HXG2
  go_wp2
  go_ret
  exact ⟨rfl, HB3.out⟩

set_option maxRecDepth 100000 in
set_option maxHeartbeats 4000000 in
theorem no1 (A : Option Addr) (n c : Nat) (V : Option Addr) (m d : Nat) (A2 : Option Addr) (n2 c2 : Nat) (V2 : Option Addr) (m2 d2 : Nat) (a b day : Int) (w : World) (hn : n ≤ 9223372036854775807) (hm : m ≤ 9223372036854775807) (hn2 : n2 ≤ 9223372036854775807) (hm2 : m2 ≤ 9223372036854775807) (e1 : (decide (n ≤ 100) && decide (m ≤ 100)) = true) (e2 : (decide (n2 ≤ 100) && decide (m2 ≤ 100)) = true)
    (hr1 : ∀ W, Below w.heap.size w W → Calls Try.prog 10 #[sg A n c V m d] W fun e w' => e = .returned (.bool false) ∧ Below W.heap.size W w') :
    Calls Try.prog 4 #[sg A n c V m d, sg A2 n2 c2 V2 m2 d2, .int .u32 a, .int .u32 b, .int .u32 day] w fun e w' => e = .returned (.bool true) ∧ Below w.heap.size w w' := by
  have HXF := Lib.hid ((Bx.new w 24 (.slice A n c) (.slice V m d)).alloc (.cells #[.slice A2 n2 c2, .slice V2 m2 d2] 24))
  have HXG := Lib.hid (show Bx ((w.alloc (.cells #[.slice A n c, .slice V m d] 24)).alloc (.cells #[.slice A2 n2 c2, .slice V2 m2 d2] 24)) (w.heap.size + 1) 24 (.slice A2 n2 c2) (.slice V2 m2 d2) by
    have h_ := Bx.new (w.alloc (.cells #[.slice A n c, .slice V m d] 24)) 24 (.slice A2 n2 c2) (.slice V2 m2 d2)
    rw [World.size_alloc] at h_
    exact h_)
  have HB := Lib.hid (show Below w.heap.size w ((w.alloc (.cells #[.slice A n c, .slice V m d] 24)).alloc (.cells #[.slice A2 n2 c2, .slice V2 m2 d2] 24)) from (al1 _ _).alloc (by simp) _)
  obtain ⟨W, hW⟩ : ∃ W, (w.alloc (.cells #[.slice A n c, .slice V m d] 24)).alloc (.cells #[.slice A2 n2 c2, .slice V2 m2 d2] 24) = W := ⟨_, rfl⟩
  rw [hW] at HXF HXG HB
  have HW := Lib.hid hW
  clear hW
  have C1 := fun w => Lib.hid (few A n c V m d w (by omega) (by omega))
  have C2 := fun w => Lib.hid (few A2 n2 c2 V2 m2 d2 w (by omega) (by omega))
  rw [e1] at C1
  rw [e2] at C2
  have CR1 := fun W h => Lib.hid (hr1 W h)
  clear hr1
  clear e1 e2
  go_enter Try.func4, Try.ntmps4
  go_wp2_with fail
  rw [HW.out]
  refine (awake _).mono ?_
  rintro e w1 ⟨rfl, hb⟩
  have HB1 := Lib.hid (HB.out.trans (hb.mono HB.out.size))
  have HXF1 := Lib.hid (HXF.out.keep hb)
  have HXG1 := Lib.hid (HXG.out.keep hb)
  have Fc0 := HXF1.out.c0
  have Fc1 := HXF1.out.c1
  have Fl := HXF1.out.lt
  have Gc0 := HXG1.out.c0
  have Gc1 := HXG1.out.c1
  have Gl := HXG1.out.lt
  clear hb HB HXF HXG
  go_wp2_with fail
  refine ((C1 _).out).mono ?_
  rintro e w2 ⟨rfl, hb⟩
  have HB2 := Lib.hid (HB1.out.trans (hb.mono HB1.out.size))
  have HXF2 := Lib.hid (HXF1.out.keep hb)
  have HXG2 := Lib.hid (HXG1.out.keep hb)
  clear Fc0 Fc1 Fl Gc0 Gc1 Gl
  have Fc0 := HXF2.out.c0
  have Fc1 := HXF2.out.c1
  have Fl := HXF2.out.lt
  have Gc0 := HXG2.out.c0
  have Gc1 := HXG2.out.c1
  have Gl := HXG2.out.lt
  clear hb HB1 HXF1 HXG1
  go_wp2_with fail
  refine ((C2 _).out).mono ?_
  rintro e w3 ⟨rfl, hb⟩
  have HB3 := Lib.hid (HB2.out.trans (hb.mono HB2.out.size))
  have HXF3 := Lib.hid (HXF2.out.keep hb)
  have HXG3 := Lib.hid (HXG2.out.keep hb)
  clear Fc0 Fc1 Fl Gc0 Gc1 Gl
  have Fc0 := HXF3.out.c0
  have Fc1 := HXF3.out.c1
  have Fl := HXF3.out.lt
  have Gc0 := HXG3.out.c0
  have Gc1 := HXG3.out.c1
  have Gl := HXG3.out.lt
  clear hb HB2 HXF2 HXG2
  go_wp2_with fail
  refine ((CR1 _ HB3.out).out).mono ?_
  rintro e w4 ⟨rfl, hb⟩
  have HB4 := Lib.hid (HB3.out.trans (hb.mono HB3.out.size))
  have HXF4 := Lib.hid (HXF3.out.keep hb)
  have HXG4 := Lib.hid (HXG3.out.keep hb)
  clear Fc0 Fc1 Fl Gc0 Gc1 Gl
  have Fc0 := HXF4.out.c0
  have Fc1 := HXF4.out.c1
  have Fl := HXF4.out.lt
  have Gc0 := HXG4.out.c0
  have Gc1 := HXG4.out.c1
  have Gl := HXG4.out.lt
  clear hb HB3 HXF3 HXG3
  go_wp2
  go_ret
  exact ⟨rfl, HB4.out⟩

set_option maxRecDepth 100000 in
set_option maxHeartbeats 4000000 in
theorem no2 (A : Option Addr) (n c : Nat) (V : Option Addr) (m d : Nat) (A2 : Option Addr) (n2 c2 : Nat) (V2 : Option Addr) (m2 d2 : Nat) (a b day : Int) (w : World) (hn : n ≤ 9223372036854775807) (hm : m ≤ 9223372036854775807) (hn2 : n2 ≤ 9223372036854775807) (hm2 : m2 ≤ 9223372036854775807) (e1 : (decide (n ≤ 100) && decide (m ≤ 100)) = true) (e2 : (decide (n2 ≤ 100) && decide (m2 ≤ 100)) = true)
    (hr1 : ∀ W, Below w.heap.size w W → Calls Try.prog 10 #[sg A n c V m d] W fun e w' => e = .returned (.bool true) ∧ Below W.heap.size W w')
    (hr2 : ∀ W, Below w.heap.size w W → Calls Try.prog 10 #[sg A2 n2 c2 V2 m2 d2] W fun e w' => e = .returned (.bool false) ∧ Below W.heap.size W w') :
    Calls Try.prog 4 #[sg A n c V m d, sg A2 n2 c2 V2 m2 d2, .int .u32 a, .int .u32 b, .int .u32 day] w fun e w' => e = .returned (.bool true) ∧ Below w.heap.size w w' := by
  have HXF := Lib.hid ((Bx.new w 24 (.slice A n c) (.slice V m d)).alloc (.cells #[.slice A2 n2 c2, .slice V2 m2 d2] 24))
  have HXG := Lib.hid (show Bx ((w.alloc (.cells #[.slice A n c, .slice V m d] 24)).alloc (.cells #[.slice A2 n2 c2, .slice V2 m2 d2] 24)) (w.heap.size + 1) 24 (.slice A2 n2 c2) (.slice V2 m2 d2) by
    have h_ := Bx.new (w.alloc (.cells #[.slice A n c, .slice V m d] 24)) 24 (.slice A2 n2 c2) (.slice V2 m2 d2)
    rw [World.size_alloc] at h_
    exact h_)
  have HB := Lib.hid (show Below w.heap.size w ((w.alloc (.cells #[.slice A n c, .slice V m d] 24)).alloc (.cells #[.slice A2 n2 c2, .slice V2 m2 d2] 24)) from (al1 _ _).alloc (by simp) _)
  obtain ⟨W, hW⟩ : ∃ W, (w.alloc (.cells #[.slice A n c, .slice V m d] 24)).alloc (.cells #[.slice A2 n2 c2, .slice V2 m2 d2] 24) = W := ⟨_, rfl⟩
  rw [hW] at HXF HXG HB
  have HW := Lib.hid hW
  clear hW
  have C1 := fun w => Lib.hid (few A n c V m d w (by omega) (by omega))
  have C2 := fun w => Lib.hid (few A2 n2 c2 V2 m2 d2 w (by omega) (by omega))
  rw [e1] at C1
  rw [e2] at C2
  have CR1 := fun W h => Lib.hid (hr1 W h)
  have CR2 := fun W h => Lib.hid (hr2 W h)
  clear hr1 hr2
  clear e1 e2
  go_enter Try.func4, Try.ntmps4
  go_wp2_with fail
  rw [HW.out]
  refine (awake _).mono ?_
  rintro e w1 ⟨rfl, hb⟩
  have HB1 := Lib.hid (HB.out.trans (hb.mono HB.out.size))
  have HXF1 := Lib.hid (HXF.out.keep hb)
  have HXG1 := Lib.hid (HXG.out.keep hb)
  have Fc0 := HXF1.out.c0
  have Fc1 := HXF1.out.c1
  have Fl := HXF1.out.lt
  have Gc0 := HXG1.out.c0
  have Gc1 := HXG1.out.c1
  have Gl := HXG1.out.lt
  clear hb HB HXF HXG
  go_wp2_with fail
  refine ((C1 _).out).mono ?_
  rintro e w2 ⟨rfl, hb⟩
  have HB2 := Lib.hid (HB1.out.trans (hb.mono HB1.out.size))
  have HXF2 := Lib.hid (HXF1.out.keep hb)
  have HXG2 := Lib.hid (HXG1.out.keep hb)
  clear Fc0 Fc1 Fl Gc0 Gc1 Gl
  have Fc0 := HXF2.out.c0
  have Fc1 := HXF2.out.c1
  have Fl := HXF2.out.lt
  have Gc0 := HXG2.out.c0
  have Gc1 := HXG2.out.c1
  have Gl := HXG2.out.lt
  clear hb HB1 HXF1 HXG1
  go_wp2_with fail
  refine ((C2 _).out).mono ?_
  rintro e w3 ⟨rfl, hb⟩
  have HB3 := Lib.hid (HB2.out.trans (hb.mono HB2.out.size))
  have HXF3 := Lib.hid (HXF2.out.keep hb)
  have HXG3 := Lib.hid (HXG2.out.keep hb)
  clear Fc0 Fc1 Fl Gc0 Gc1 Gl
  have Fc0 := HXF3.out.c0
  have Fc1 := HXF3.out.c1
  have Fl := HXF3.out.lt
  have Gc0 := HXG3.out.c0
  have Gc1 := HXG3.out.c1
  have Gl := HXG3.out.lt
  clear hb HB2 HXF2 HXG2
  go_wp2_with fail
  refine ((CR1 _ HB3.out).out).mono ?_
  rintro e w4 ⟨rfl, hb⟩
  have HB4 := Lib.hid (HB3.out.trans (hb.mono HB3.out.size))
  have HXF4 := Lib.hid (HXF3.out.keep hb)
  have HXG4 := Lib.hid (HXG3.out.keep hb)
  clear Fc0 Fc1 Fl Gc0 Gc1 Gl
  have Fc0 := HXF4.out.c0
  have Fc1 := HXF4.out.c1
  have Fl := HXF4.out.lt
  have Gc0 := HXG4.out.c0
  have Gc1 := HXG4.out.c1
  have Gl := HXG4.out.lt
  clear hb HB3 HXF3 HXG3
  go_wp2_with fail
  refine ((CR2 _ HB4.out).out).mono ?_
  rintro e w5 ⟨rfl, hb⟩
  have HB5 := Lib.hid (HB4.out.trans (hb.mono HB4.out.size))
  have HXF5 := Lib.hid (HXF4.out.keep hb)
  have HXG5 := Lib.hid (HXG4.out.keep hb)
  clear Fc0 Fc1 Fl Gc0 Gc1 Gl
  have Fc0 := HXF5.out.c0
  have Fc1 := HXF5.out.c1
  have Fl := HXF5.out.lt
  have Gc0 := HXG5.out.c0
  have Gc1 := HXG5.out.c1
  have Gl := HXG5.out.lt
  clear hb HB4 HXF4 HXG4
  go_wp2
  go_ret
  exact ⟨rfl, HB5.out⟩

set_option maxRecDepth 100000 in
set_option maxHeartbeats 8000000 in
theorem over_ (A : Option Addr) (n c : Nat) (V : Option Addr) (d : Nat) (A2 : Option Addr) (n2 c2 : Nat) (V2 : Option Addr) (d2 : Nat) (ps qs : List Pr) (a b day : Int) (ha : 0 ≤ a ∧ a ≤ 4294967295) (hb : 0 ≤ b ∧ b ≤ 4294967295) (hd : 0 ≤ day ∧ day ≤ 4294967295) (w : World) (hS : Sr w w.heap.size A V n ps) (hS2 : Sr w w.heap.size A2 V2 n2 qs) (hn : n ≤ 100) (hn2 : n2 ≤ 100) (hp : Right ps) (hq : Right qs) (rs : List Pr) (L : Nat) (hL : rs.length = L) (hL2 : L ≤ 200)
    (hA : ∀ W, Sr W W.heap.size A V n ps → Sr W W.heap.size A2 V2 n2 qs → Calls Try.prog 7 #[sg A n c V n d, sg A2 n2 c2 V2 n2 d2] W (GivesAL W L rs 5))
    (hB : ∀ W, Sr W W.heap.size A2 V2 n2 qs → Sr W W.heap.size A V n ps → Calls Try.prog 7 #[sg A2 n2 c2 V2 n2 d2, sg A n c V n d] W (GivesAL W L rs 5)) :
    Calls Try.prog 4 #[sg A n c V n d, sg A2 n2 c2 V2 n2 d2, .int .u32 a, .int .u32 b, .int .u32 day] w fun e w' => e = .returned (.bool true) ∧ Below w.heap.size w w' := by
  have CA3 := fun W h1 h2 => Lib.hid (hA W h1 h2)
  have CA4 := fun W h1 h2 => Lib.hid (hB W h1 h2)
  have HL := Lib.hid hL
  clear hA hB hL
  have HXF := Lib.hid ((Bx.new w 24 (.slice A n c) (.slice V n d)).alloc (.cells #[.slice A2 n2 c2, .slice V2 n2 d2] 24))
  have HXG := Lib.hid (show Bx ((w.alloc (.cells #[.slice A n c, .slice V n d] 24)).alloc (.cells #[.slice A2 n2 c2, .slice V2 n2 d2] 24)) (w.heap.size + 1) 24 (.slice A2 n2 c2) (.slice V2 n2 d2) by
    have h_ := Bx.new (w.alloc (.cells #[.slice A n c, .slice V n d] 24)) 24 (.slice A2 n2 c2) (.slice V2 n2 d2)
    rw [World.size_alloc] at h_
    exact h_)
  have HB := Lib.hid (show Below w.heap.size w ((w.alloc (.cells #[.slice A n c, .slice V n d] 24)).alloc (.cells #[.slice A2 n2 c2, .slice V2 n2 d2] 24)) from (al1 _ _).alloc (by simp) _)
  obtain ⟨W, hW⟩ : ∃ W, (w.alloc (.cells #[.slice A n c, .slice V n d] 24)).alloc (.cells #[.slice A2 n2 c2, .slice V2 n2 d2] 24) = W := ⟨_, rfl⟩
  rw [hW] at HXF HXG HB
  have HW := Lib.hid hW
  clear hW
  have C1 := fun w => Lib.hid (few A n c V n d w (by omega) (by omega))
  have C2 := fun w => Lib.hid (few A2 n2 c2 V2 n2 d2 w (by omega) (by omega))
  rw [show (decide (n ≤ 100) && decide (n ≤ 100)) = true by simp; omega] at C1
  rw [show (decide (n2 ≤ 100) && decide (n2 ≤ 100)) = true by simp; omega] at C2
  have HTf := Lib.hid ((hS.below HB.out (Nat.le_refl _)).wide HB.out.size)
  have HTg := Lib.hid ((hS2.below HB.out (Nat.le_refl _)).wide HB.out.size)
  have HP := Lib.hid hp
  have HQ := Lib.hid hq
  have HLp := Lib.hid hS.len
  have HLq := Lib.hid hS2.len
  have CR1 := fun (W : World) (h : Sr W W.heap.size A V n ps) => Lib.hid (show Calls Try.prog 10 #[sg A n c V n d] W (fun e w' => e = .returned (.bool true) ∧ Below W.heap.size W w') by have h_ := right A n c V n d _ _ W h (by omega); rwa [rg_of hp] at h_)
  have CR2 := fun (W : World) (h : Sr W W.heap.size A2 V2 n2 qs) => Lib.hid (show Calls Try.prog 10 #[sg A2 n2 c2 V2 n2 d2] W (fun e w' => e = .returned (.bool true) ∧ Below W.heap.size W w') by have h_ := right A2 n2 c2 V2 n2 d2 _ _ W h (by omega); rwa [rg_of hq] at h_)
  clear hS hS2 hp hq
  go_enter Try.func4, Try.ntmps4
  go_wp2_with fail
  rw [HW.out]
  refine (awake _).mono ?_
  rintro e w1 ⟨rfl, hb⟩
  have HB1 := Lib.hid (HB.out.trans (hb.mono HB.out.size))
  have HXF1 := Lib.hid (HXF.out.keep hb)
  have HXG1 := Lib.hid (HXG.out.keep hb)
  have HTf1 := Lib.hid (HTf.out.keep_ hb)
  have HTg1 := Lib.hid (HTg.out.keep_ hb)
  have Fc0 := HXF1.out.c0
  have Fc1 := HXF1.out.c1
  have Fl := HXF1.out.lt
  have Gc0 := HXG1.out.c0
  have Gc1 := HXG1.out.c1
  have Gl := HXG1.out.lt
  clear hb HB HXF HXG HTf HTg
  go_wp2_with fail
  refine ((C1 _).out).mono ?_
  rintro e w2 ⟨rfl, hb⟩
  have HB2 := Lib.hid (HB1.out.trans (hb.mono HB1.out.size))
  have HXF2 := Lib.hid (HXF1.out.keep hb)
  have HXG2 := Lib.hid (HXG1.out.keep hb)
  have HTf2 := Lib.hid (HTf1.out.keep_ hb)
  have HTg2 := Lib.hid (HTg1.out.keep_ hb)
  clear Fc0 Fc1 Fl Gc0 Gc1 Gl
  have Fc0 := HXF2.out.c0
  have Fc1 := HXF2.out.c1
  have Fl := HXF2.out.lt
  have Gc0 := HXG2.out.c0
  have Gc1 := HXG2.out.c1
  have Gl := HXG2.out.lt
  clear hb HB1 HXF1 HXG1 HTf1 HTg1
  go_wp2_with fail
  refine ((C2 _).out).mono ?_
  rintro e w3 ⟨rfl, hb⟩
  have HB3 := Lib.hid (HB2.out.trans (hb.mono HB2.out.size))
  have HXF3 := Lib.hid (HXF2.out.keep hb)
  have HXG3 := Lib.hid (HXG2.out.keep hb)
  have HTf3 := Lib.hid (HTf2.out.keep_ hb)
  have HTg3 := Lib.hid (HTg2.out.keep_ hb)
  clear Fc0 Fc1 Fl Gc0 Gc1 Gl
  have Fc0 := HXF3.out.c0
  have Fc1 := HXF3.out.c1
  have Fl := HXF3.out.lt
  have Gc0 := HXG3.out.c0
  have Gc1 := HXG3.out.c1
  have Gl := HXG3.out.lt
  clear hb HB2 HXF2 HXG2 HTf2 HTg2
  go_wp2_with fail
  refine ((CR1 _ HTf3.out).out).mono ?_
  rintro e w4 ⟨rfl, hb⟩
  have HB4 := Lib.hid (HB3.out.trans (hb.mono HB3.out.size))
  have HXF4 := Lib.hid (HXF3.out.keep hb)
  have HXG4 := Lib.hid (HXG3.out.keep hb)
  have HTf4 := Lib.hid (HTf3.out.keep_ hb)
  have HTg4 := Lib.hid (HTg3.out.keep_ hb)
  clear Fc0 Fc1 Fl Gc0 Gc1 Gl
  have Fc0 := HXF4.out.c0
  have Fc1 := HXF4.out.c1
  have Fl := HXF4.out.lt
  have Gc0 := HXG4.out.c0
  have Gc1 := HXG4.out.c1
  have Gl := HXG4.out.lt
  clear hb HB3 HXF3 HXG3 HTf3 HTg3
  go_wp2_with fail
  refine ((CR2 _ HTg4.out).out).mono ?_
  rintro e w5 ⟨rfl, hb⟩
  have HB5 := Lib.hid (HB4.out.trans (hb.mono HB4.out.size))
  have HXF5 := Lib.hid (HXF4.out.keep hb)
  have HXG5 := Lib.hid (HXG4.out.keep hb)
  have HTf5 := Lib.hid (HTf4.out.keep_ hb)
  have HTg5 := Lib.hid (HTg4.out.keep_ hb)
  clear Fc0 Fc1 Fl Gc0 Gc1 Gl
  have Fc0 := HXF5.out.c0
  have Fc1 := HXF5.out.c1
  have Fl := HXF5.out.lt
  have Gc0 := HXG5.out.c0
  have Gc1 := HXG5.out.c1
  have Gl := HXG5.out.lt
  clear hb HB4 HXF4 HXG4 HTf4 HTg4
  clear C1 C2 CR1 CR2
  have HTJ0 := Lib.hid (show TJ w5 (w5.alloc (.cells #[.slice A n c, .slice none 0 0] 24)) A n c none 0 0 ((ng ps).map (·.2) |>.take 0) from ⟨al1 _ _, Bx.new _ _ _ _, by rw [List.take_zero]; exact OwnI.nil⟩)
  have hw5 : w.heap.size + 1 < w5.heap.size := Gl
  obtain ⟨bT, hbT⟩ : ∃ b, w5.heap.size = b := ⟨_, rfl⟩
  have HbT := Lib.hid hbT
  go_wp2
  go_loopw [15] (fun i w' => ∃ (j : Nat) (T : Option Addr) (ct : Nat) (wz : World), j ≤ n ∧ i = .int .i64 (j : Int) ∧ wz = w' ∧ Hid (TJ w5 wz A n c T j ct ((ng ps).map (·.2) |>.take j))) (fun i _ => n - (intOf i).toNat)
  case atStart => exact ⟨0, none, 0, _, Nat.zero_le _, rfl, rfl, HTJ0⟩
  case round =>
    obtain ⟨j, T, ct, wz, hj, rfl, rfl, HJ⟩ := hrel
    have HXFz := Lib.hid (HXF5.out.keep HJ.out.b)
    have fz0 := HXFz.out.c0
    have fz1 := HXFz.out.c1
    have fzl := HXFz.out.lt
    have tz0 := HJ.out.x.c0
    have tz1 := HJ.out.x.c1
    have tzl := HJ.out.x.lt
    rw [hbT] at tz0 tz1 tzl
    clear Fc0 Fc1 Fl Gc0 Gc1 Gl
    by_cases hlt : j < n
    · obtain ⟨ad, x, rfl, hbk, hx, hc⟩ := ((HTf5.out.v.below HJ.out.b (Nat.le_refl _))).get hlt
      have hlt2 : (j : Int) < (n : Int) := by omega
      have hfx : -4000000000000000000 ≤ x ∧ x ≤ 4000000000000000000 := by
        rw [List.getElem?_map] at hx
        cases e : ps[j]? with
        | none => rw [e] at hx; cases hx
        | some z =>
          rw [e] at hx
          simp at hx
          have := (fits_iff _).1 (HP.out.2 z (List.mem_iff_getElem?.2 ⟨j, e⟩))
          omega
      obtain ⟨y, hy⟩ : ∃ y, -x = y := ⟨_, rfl⟩
      have HTK := Lib.hid (show ((ng ps).map (·.2)).take (j + 1) = ((ng ps).map (·.2)).take j ++ [y] by
        have e : ((ng ps).map (·.2))[j]? = some y := by
          rw [ng_val, List.getElem?_map]
          rw [List.getElem?_map] at hx
          cases e : ps[j]? with
          | none => rw [e] at hx; cases hx
          | some z => rw [e] at hx; simp at hx; simp; omega
        obtain ⟨hk, e2⟩ := List.getElem?_eq_some_iff.1 e
        rw [List.take_succ_eq_append_getElem hk, e2])
      have hyb : -4000000000000000000 ≤ y ∧ y ≤ 4000000000000000000 := by omega
      obtain ⟨x1, x2⟩ := hfx
      obtain ⟨y1, y2⟩ := hyb
      have ey : IntKind.i64.wrap y = y := IntWalk.i64_in _ (by omega)
      have HSX := Lib.hid (fun (W' : World) (h : Below w5.heap.size w5 W') => show W'.cell? ⟨w.heap.size, 0, none⟩ = some (.slice A n c) ∧ W'.cell? ⟨w.heap.size, 1, none⟩ = some (.slice (some ad) n d) ∧ W'.cell? (ad.add j) = some (.int .i64 x) by
        have h1 := (HXF5.out.keep h).c0
        have h2 := (HXF5.out.keep h).c1
        have h3 := Ints.cell (HTf5.out.v.below h (Nat.le_refl _)) hx
        exact ⟨h1, h2, h3⟩)
      have HJd := Lib.hid (show TJ w5 ({ wz with drawn := wz.drawn + 1 } : World) A n c T j ct ((ng ps).map (·.2) |>.take j) from ⟨⟨HJ.out.b.os, HJ.out.b.tape, HJ.out.b.output, HJ.out.b.size, HJ.out.b.block⟩, HJ.out.x, HJ.out.o⟩)
      have HJx := Lib.hid (show Bx ({ wz with drawn := wz.drawn + 1 } : World) bT 24 (.slice A n c) (.slice T j ct) by rw [← HbT.out]; exact HJd.out.x)
      have HJo := Lib.hid (show OwnI ({ wz with drawn := wz.drawn + 1 } : World) (bT + 1) T j ct ((ng ps).map (·.2) |>.take j) by rw [← HbT.out]; exact HJd.out.o)
      clear hx hbk
      go_wp2
      clear fz0 fz1 tz0 tz1 tzl fzl hc hbT
      refine wp_region_steps (fun L_ a_ w_ => ∃ (v64 v65 v66 v67 v68 v69 v70 v71 v72 v73 v74 : Value) (g : Nat) (T' : Option Addr) (c' : Nat), a_ = { tmps := #[sg A n c (some ad) n d, sg A2 n2 c2 V2 n2 d2, Value.int IntKind.u32 a, Value.int IntKind.u32 b, Value.int IntKind.u32 day, Value.pointer (some { block := w.heap.size, off := 0 }), Value.pointer (some { block := w.heap.size + 1, off := 0 }), undef, undef, undef, Value.bool false, Value.bool true, Value.bool true, Value.bool true, Value.pointer (some { block := bT, off := 0 }), Value.int IntKind.i64 ↑j, undef, undef, undef, undef, undef, undef, undef, undef, undef, undef, undef, undef, undef, undef, undef, undef, Value.bool true, Value.agg #[Value.slice A n c, Value.slice (some ad) n d], Value.bool true, Value.agg #[Value.slice A2 n2 c2, Value.slice V2 n2 d2], Value.bool true, Value.bool true, Value.bool false, Value.bool false, Value.bool true, Value.bool false, Value.bool false, Value.bool false, Value.agg #[Value.slice A n c, Value.slice (some ad) n d], Value.bool true, Value.bool false, Value.bool false, Value.bool false, Value.agg #[Value.slice A2 n2 c2, Value.slice V2 n2 d2], Value.bool true, Value.bool false, Value.bool false, undef, Value.pointer (some { block := w.heap.size, off := 0 }), Value.slice A n c, Value.agg #[Value.slice A n c, Value.slice none 0 0], Value.int IntKind.i64 ↑j, Value.pointer (some { block := w.heap.size, off := 1 }), Value.slice (some ad) n d, Value.int IntKind.i64 ↑n, Value.bool true, u62, u63, v64, v65, v66, v67, v68, v69, v70, v71, v72, v73, v74, undef, undef, undef, undef, undef, undef, undef, undef, undef, undef, undef, undef, undef, undef, undef, undef, undef, undef, undef, undef, undef, undef, undef, undef, undef, undef, undef, undef, undef, undef, undef, undef, undef, undef, undef, undef, undef, undef, undef, undef, undef, undef, undef, undef, undef, undef, undef, undef, undef, undef, undef, undef, undef, undef, undef, undef, undef, undef, undef, undef, undef, undef, undef, undef, undef, undef, undef, undef, undef, undef, undef, undef, undef, undef, undef, undef, undef, undef, undef, undef, undef, undef, undef, undef, undef, undef, undef, undef, undef, undef, undef, undef, undef, undef, undef, undef, undef, undef, undef, undef, undef, undef, undef, undef, undef, undef, undef, undef, undef, undef, undef, undef, undef, undef, undef, undef, undef, undef], defers := [] } ∧ Hid (R10 w5 w_ w.heap.size bT A n c d T j ct ad j x y ((ng ps).map (·.2) |>.take j) L_ v64 v65 v66 v67 v68 v69 v70 v71 v72 v73 v74 g T' c')) (by kernel_rfl) (by kernel_rfl) ?_ (AllSteps.cons ?_ (AllSteps.cons ?_ (AllSteps.cons ?_ (AllSteps.cons ?_ (AllSteps.cons ?_ (AllSteps.cons ?_ (AllSteps.cons ?_ (AllSteps.cons ?_ (AllSteps.cons ?_ (AllSteps.cons ?_ (AllSteps.cons ?_ (AllSteps.cons ?_ AllSteps.nil)))))))))))) ?_
      · exact ⟨_, _, _, _, _, _, _, _, _, _, _, 0, none, 0, rfl, Lib.hid ⟨HJd.out.b, HJx.out, fun _ => HJo.out, (fun h => by cases h), (fun h => by cases h), (fun h => by cases h), (fun h => by cases h), (fun h => by cases h), (fun h => by cases h), (fun h => by cases h), (fun h => by cases h), (fun h => by cases h), (fun h => by cases h), (fun h => by cases h), (fun h => by cases h), (fun h => by cases h)⟩⟩
      · rintro L_ a_ w_ hL hd ⟨v64, v65, v66, v67, v68, v69, v70, v71, v72, v73, v74, g, T', c', rfl, HR⟩ K hK
        clear hd
        go_simp
        exact hK.out _ _ ⟨_, _, _, _, _, _, _, _, _, _, _, g, T', c', rfl, Lib.hid (HR.out.s0)⟩

      · rintro L_ a_ w_ hL hd ⟨v64, v65, v66, v67, v68, v69, v70, v71, v72, v73, v74, g, T', c', rfl, HR⟩ K hK
        have e0 := HR.out.f0 (hd ⟨0, .data⟩ (by simp) rfl)
        subst e0
        have e11 := no_of HR.out.d11 (no_of HR.out.d9 hL)
        have hx_ := HR.out.bx
        rw [e11] at hx_
        have z1 := hx_.c1
        simp at z1
        clear hx_
        clear hd
        go_simp
        exact hK.out _ _ ⟨_, _, _, _, _, _, _, _, _, _, _, g, T', c', rfl, Lib.hid (HR.out.s1)⟩

      · rintro L_ a_ w_ hL hd ⟨v64, v65, v66, v67, v68, v69, v70, v71, v72, v73, v74, g, T', c', rfl, HR⟩ K hK
        clear hd
        go_simp
        exact hK.out _ _ ⟨_, _, _, _, _, _, _, _, _, _, _, g, T', c', rfl, Lib.hid (HR.out.s2)⟩

      · rintro L_ a_ w_ hL hd ⟨v64, v65, v66, v67, v68, v69, v70, v71, v72, v73, v74, g, T', c', rfl, HR⟩ K hK
        have e2 := HR.out.f2 (hd ⟨2, .data⟩ (by simp) rfl)
        subst e2
        obtain ⟨q0, q1, q2⟩ := HSX.out w_ HR.out.b
        clear q0 q2
        clear hd
        go_simp
        exact hK.out _ _ ⟨_, _, _, _, _, _, _, _, _, _, _, g, T', c', rfl, Lib.hid (HR.out.s3)⟩

      · rintro L_ a_ w_ hL hd ⟨v64, v65, v66, v67, v68, v69, v70, v71, v72, v73, v74, g, T', c', rfl, HR⟩ K hK
        clear hd
        go_simp
        exact hK.out _ _ ⟨_, _, _, _, _, _, _, _, _, _, _, g, T', c', rfl, Lib.hid (HR.out.s4)⟩

      · rintro L_ a_ w_ hL hd ⟨v64, v65, v66, v67, v68, v69, v70, v71, v72, v73, v74, g, T', c', rfl, HR⟩ K hK
        have e3 := HR.out.f3 (hd ⟨3, .data⟩ (by simp) rfl)
        subst e3
        have e4 := HR.out.f4 (hd ⟨4, .data⟩ (by simp) rfl)
        subst e4
        clear hd
        go_simp
        exact hK.out _ _ ⟨_, _, _, _, _, _, _, _, _, _, _, g, T', c', rfl, Lib.hid (HR.out.s5)⟩

      · rintro L_ a_ w_ hL hd ⟨v64, v65, v66, v67, v68, v69, v70, v71, v72, v73, v74, g, T', c', rfl, HR⟩ K hK
        have e5 := HR.out.f5 (hd ⟨5, .data⟩ (by simp) rfl)
        subst e5
        obtain ⟨q0, q1, q2⟩ := HSX.out w_ HR.out.b
        clear q0 q1
        clear hd
        go_simp
        exact hK.out _ _ ⟨_, _, _, _, _, _, _, _, _, _, _, g, T', c', rfl, Lib.hid (HR.out.s6)⟩

      · rintro L_ a_ w_ hL hd ⟨v64, v65, v66, v67, v68, v69, v70, v71, v72, v73, v74, g, T', c', rfl, HR⟩ K hK
        have e6 := HR.out.f6 (hd ⟨6, .data⟩ (by simp) rfl)
        subst e6
        clear hd
        go_simp
        exact hK.out _ _ ⟨_, _, _, _, _, _, _, _, _, _, _, g, T', c', rfl, Lib.hid (HR.out.s7)⟩

      · rintro L_ a_ w_ hL hd ⟨v64, v65, v66, v67, v68, v69, v70, v71, v72, v73, v74, g, T', c', rfl, HR⟩ K hK
        have e7 := HR.out.f7 (hd ⟨7, .data⟩ (by simp) rfl)
        subst e7
        clear hd
        go_simp
        exact hK.out _ _ ⟨_, _, _, _, _, _, _, _, _, _, _, _, T', c', rfl, Lib.hid (HR.out.s8 hL)⟩

      · rintro L_ a_ w_ hL hd ⟨v64, v65, v66, v67, v68, v69, v70, v71, v72, v73, v74, g, T', c', rfl, HR⟩ K hK
        have q1 : L_ 1 = true := hd ⟨1, .data⟩ (by simp) rfl
        have e1 := HR.out.f1 q1
        obtain ⟨e8, hI8⟩ := HR.out.f8 (hd ⟨8, .data⟩ (by simp) rfl)
        subst e1 e8
        have hI9 := hI8 hL
        refine step_appW w_ (by rfl) (.tmp 65) (.tmp 72) (by rfl) (bT + 1) T j ct _ (by rfl) (HR.out.o hL) w_.heap.size ⟨g, 0, none⟩ 1 1 [y] (by rfl) hI9 (by omega) (by omega) (by have h_ := HR.out.bx.lt; omega) ?_
        intro T2 c2' w2 hO2 hg2 _
        have HR2 := Lib.hid (HR.out.s9 hL q1 (by rw [HbT.out]; exact Nat.le_refl _) hO2 hg2)
        clear hO2 hg2 hd hI8 hI9
        exact hK.out _ _ ⟨_, _, _, _, _, _, _, _, _, _, _, g, T2, c2', rfl, Lib.hid (HR2.out)⟩

      · rintro L_ a_ w_ hL hd ⟨v64, v65, v66, v67, v68, v69, v70, v71, v72, v73, v74, g, T', c', rfl, HR⟩ K hK
        clear hd
        go_simp
        exact hK.out _ _ ⟨_, _, _, _, _, _, _, _, _, _, _, g, T', c', rfl, Lib.hid (HR.out.s10)⟩

      · rintro L_ a_ w_ hL hd ⟨v64, v65, v66, v67, v68, v69, v70, v71, v72, v73, v74, g, T', c', rfl, HR⟩ K hK
        have q9 : L_ 9 = true := hd ⟨9, .data⟩ (by simp) rfl
        have e9 := (HR.out.f9 q9).1
        have e10 := HR.out.f10 (hd ⟨10, .data⟩ (by simp) rfl)
        subst e9 e10
        have hx_ := HR.out.bx
        rw [hL] at hx_
        have z1 := hx_.c1
        have zf := hx_.f 1
        have zl := hx_.lt
        simp at z1
        clear hx_ hd
        go_simp
        exact hK.out _ _ ⟨_, _, _, _, _, _, _, _, _, _, _, g, T', c', rfl, Lib.hid (HR.out.s11 hL q9 (by rw [HbT.out]; exact Nat.le_refl _))⟩


      · rintro L_ a_ w_ hall ⟨v64, v65, v66, v67, v68, v69, v70, v71, v72, v73, v74, g, T', c', rfl, HR⟩
        have e9 := (HR.out.f9 (hall 9 (by simp))).2
        have ex := HR.out.bx
        rw [hall 11 (by simp)] at ex
        have HT := Lib.hid (show TJ w5 w_ A n c T' (j + 1) c' ((ng ps).map (·.2) |>.take (j + 1)) from ⟨HR.out.b, by rw [HbT.out]; exact ex, by rw [HTK.out, HbT.out]; exact e9⟩)
        clear e9 ex hall hy ey
        dsimp only [Exit.inBlock, Exit.then]
        go_step
        go_wp2
        go_roundw
        case rel => exact ⟨j + 1, T', c', _, by omega, by go_num, rfl, HT⟩
        case measure => simp [intOf]; omega
    · obtain rfl : n = j := by omega
      have HJn := Lib.hid (show TJ w5 wz A n c T n ct ((ng ps).map (·.2)) by have h_ := HJ.out; rwa [List.take_of_length_le (by rw [List.length_map, ng_len, HLp.out]; exact Nat.le_refl _)] at h_)
      clear HJ
      have HBz := Lib.hid (HB5.out.trans (HJn.out.b.mono HB5.out.size))
      have HXGz := Lib.hid (HXG5.out.keep HJn.out.b)
      have HXTz := Lib.hid (show Bx wz bT 24 (.slice A n c) (.slice T n ct) by rw [← HbT.out]; exact HJn.out.x)
      have HTfz := Lib.hid (HTf5.out.keep_ HJn.out.b)
      have HTgz := Lib.hid (HTg5.out.keep_ HJn.out.b)
      have HTnz := Lib.hid (show Sr wz wz.heap.size A T n (ng ps) from ⟨by rw [ng_at]; exact HTfz.out.a, HJn.out.o.ints.1⟩)
      have HMfz := Lib.hid (show Mk wz A V ps from ⟨by rw [HLp.out]; exact HTfz.out⟩)
      have CA1 := Lib.hid (show Calls Try.prog 7 #[sg A n c V n d, sg A n c T n ct] wz (GivesAL wz 0 [] 0) from (add_fit A n c V d A n c T ct ps (ng ps) wz HTfz.out HTnz.out (by omega) (by omega) HP.out (ng_right HP.out) ng_fit).mono fun e w' h => al_of rfl (by rw [ng_add HP.out] at h; exact h))
      have CA2 := fun (W : World) (hf : Sr W W.heap.size A V n ps) => Lib.hid (show Calls Try.prog 7 #[sg A n c V n d, sg none 0 0 none 0 0] W (GivesAL W n ps 0) from (add_fit A n c V d none 0 0 none 0 ps [] W hf ⟨Ints.nil, Ints.nil⟩ (by omega) (by omega) HP.out nil_right (nil_fit HP.out)).mono fun e w' h => al_of HLp.out (by rw [nil_add HP.out] at h; exact h))
      have gz0 := HXGz.out.c0
      have gz1 := HXGz.out.c1
      have gzl := HXGz.out.lt
      clear HXF5 HXG5 HB5 HTf5 HTg5 HJn hw5 hbT
      go_wp2_with fail
      refine (CA1.out).mono ?_
      rintro e w7 ⟨A7, c7, V7, d7, rfl, hM, hb⟩
      have HB7 := Lib.hid (HBz.out.trans (hb.mono HBz.out.size))
      have HXF7 := Lib.hid (HXFz.out.keep hb)
      have HXG7 := Lib.hid (HXGz.out.keep hb)
      have HXT7 := Lib.hid (HXTz.out.keep hb)
      have HTf7 := Lib.hid (HTfz.out.keep_ hb)
      have HTg7 := Lib.hid (HTgz.out.keep_ hb)
      have HMf7 := Lib.hid (HMfz.out.keep hb)
      clear fz0 fz1 fzl tz0 tz1 tzl gz0 gz1 gzl
      have Fc0 := HXF7.out.c0
      have Fc1 := HXF7.out.c1
      have Fl := HXF7.out.lt
      have Gc0 := HXG7.out.c0
      have Gc1 := HXG7.out.c1
      have Gl := HXG7.out.lt
      have Tc0 := HXT7.out.c0
      have Tc1 := HXT7.out.c1
      have Tl := HXT7.out.lt
      clear hb HBz HXFz HXGz HXTz HTfz HTgz HMfz hM
      have HB7a := Lib.hid (HB7.out.alloc HB7.out.size (.cells #[.slice A7 0 c7, .slice V7 0 d7] 24))
      have HXF7a := Lib.hid (HXF7.out.alloc (.cells #[.slice A7 0 c7, .slice V7 0 d7] 24))
      have HXG7a := Lib.hid (HXG7.out.alloc (.cells #[.slice A7 0 c7, .slice V7 0 d7] 24))
      have HXT7a := Lib.hid (HXT7.out.alloc (.cells #[.slice A7 0 c7, .slice V7 0 d7] 24))
      have HTf7a := Lib.hid (HTf7.out.keep_ (al1 w7 (.cells #[.slice A7 0 c7, .slice V7 0 d7] 24)))
      have HTg7a := Lib.hid (HTg7.out.keep_ (al1 w7 (.cells #[.slice A7 0 c7, .slice V7 0 d7] 24)))
      have HMf7a := Lib.hid (HMf7.out.keep (al1 w7 (.cells #[.slice A7 0 c7, .slice V7 0 d7] 24)))
      have HXN7a := Lib.hid (Bx.new w7 24 (.slice A7 0 c7) (.slice V7 0 d7))
      go_wp2_with fail
      refine ((CA2 _ HTf7a.out).out).mono ?_
      rintro e w8 ⟨A8, c8, V8, d8, rfl, hM, hb⟩
      have HB8 := Lib.hid (HB7a.out.trans (hb.mono HB7a.out.size))
      have HXF8 := Lib.hid (HXF7a.out.keep hb)
      have HXG8 := Lib.hid (HXG7a.out.keep hb)
      have HXT8 := Lib.hid (HXT7a.out.keep hb)
      have HXN8 := Lib.hid (HXN7a.out.keep hb)
      have HTf8 := Lib.hid (HTf7a.out.keep_ hb)
      have HTg8 := Lib.hid (HTg7a.out.keep_ hb)
      have HMf8 := Lib.hid (HMf7a.out.keep hb)
      clear Fc0 Fc1 Fl Gc0 Gc1 Gl Tc0 Tc1 Tl
      have Fc0 := HXF8.out.c0
      have Fc1 := HXF8.out.c1
      have Fl := HXF8.out.lt
      have Gc0 := HXG8.out.c0
      have Gc1 := HXG8.out.c1
      have Gl := HXG8.out.lt
      have Tc0 := HXT8.out.c0
      have Tc1 := HXT8.out.c1
      have Tl := HXT8.out.lt
      have Nc0 := HXN8.out.c0
      have Nc1 := HXN8.out.c1
      have Nl := HXN8.out.lt
      have HMs8 := Lib.hid (hM)
      clear hb HB7a HXF7a HXG7a HXT7a HXN7a HTf7a HTg7a HMf7a hM
      have HB8a := Lib.hid (HB8.out.alloc HB8.out.size (.cells #[.slice A8 n c8, .slice V8 n d8] 24))
      have HXF8a := Lib.hid (HXF8.out.alloc (.cells #[.slice A8 n c8, .slice V8 n d8] 24))
      have HXG8a := Lib.hid (HXG8.out.alloc (.cells #[.slice A8 n c8, .slice V8 n d8] 24))
      have HXT8a := Lib.hid (HXT8.out.alloc (.cells #[.slice A8 n c8, .slice V8 n d8] 24))
      have HXN8a := Lib.hid (HXN8.out.alloc (.cells #[.slice A8 n c8, .slice V8 n d8] 24))
      have HTf8a := Lib.hid (HTf8.out.keep_ (al1 w8 (.cells #[.slice A8 n c8, .slice V8 n d8] 24)))
      have HTg8a := Lib.hid (HTg8.out.keep_ (al1 w8 (.cells #[.slice A8 n c8, .slice V8 n d8] 24)))
      have HMf8a := Lib.hid (HMf8.out.keep (al1 w8 (.cells #[.slice A8 n c8, .slice V8 n d8] 24)))
      have HMs8a := Lib.hid (HMs8.out.keep (al1 w8 (.cells #[.slice A8 n c8, .slice V8 n d8] 24)))
      have HXS8a := Lib.hid (Bx.new w8 24 (.slice A8 n c8) (.slice V8 n d8))
      go_wp2_with fail
      refine (same_r A8 n c8 V8 d8 A n c V d ps _ HMs8a.out HMf8a.out HLp.out HLp.out (by omega) rfl).mono ?_
      rintro e w9 ⟨rfl, hb⟩
      have HB9 := Lib.hid (HB8a.out.trans (hb.mono HB8a.out.size))
      have HXF9 := Lib.hid (HXF8a.out.keep hb)
      have HXG9 := Lib.hid (HXG8a.out.keep hb)
      have HXT9 := Lib.hid (HXT8a.out.keep hb)
      have HXN9 := Lib.hid (HXN8a.out.keep hb)
      have HXS9 := Lib.hid (HXS8a.out.keep hb)
      have HTf9 := Lib.hid (HTf8a.out.keep_ hb)
      have HTg9 := Lib.hid (HTg8a.out.keep_ hb)
      have HMf9 := Lib.hid (HMf8a.out.keep hb)
      have HMs9 := Lib.hid (HMs8a.out.keep hb)
      clear Fc0 Fc1 Fl Gc0 Gc1 Gl Tc0 Tc1 Tl Nc0 Nc1 Nl
      have Fc0 := HXF9.out.c0
      have Fc1 := HXF9.out.c1
      have Fl := HXF9.out.lt
      have Gc0 := HXG9.out.c0
      have Gc1 := HXG9.out.c1
      have Gl := HXG9.out.lt
      have Tc0 := HXT9.out.c0
      have Tc1 := HXT9.out.c1
      have Tl := HXT9.out.lt
      have Nc0 := HXN9.out.c0
      have Nc1 := HXN9.out.c1
      have Nl := HXN9.out.lt
      have Sc0 := HXS9.out.c0
      have Sc1 := HXS9.out.c1
      have Sl := HXS9.out.lt
      clear hb HB8a HXF8a HXG8a HXT8a HXN8a HXS8a HTf8a HTg8a HMf8a HMs8a
      clear CA1 CA2
      go_wp2_with fail
      refine ((CA3 _ HTf9.out HTg9.out).out).mono ?_
      rintro e w10 ⟨A10, c10, V10, d10, rfl, hM, hb⟩
      have HB10 := Lib.hid (HB9.out.trans (hb.mono HB9.out.size))
      have HXF10 := Lib.hid (HXF9.out.keep hb)
      have HXG10 := Lib.hid (HXG9.out.keep hb)
      have HXT10 := Lib.hid (HXT9.out.keep hb)
      have HXN10 := Lib.hid (HXN9.out.keep hb)
      have HXS10 := Lib.hid (HXS9.out.keep hb)
      have HTf10 := Lib.hid (HTf9.out.keep_ hb)
      have HTg10 := Lib.hid (HTg9.out.keep_ hb)
      have HMf10 := Lib.hid (HMf9.out.keep hb)
      have HMs10 := Lib.hid (HMs9.out.keep hb)
      clear Fc0 Fc1 Fl Gc0 Gc1 Gl Tc0 Tc1 Tl Nc0 Nc1 Nl Sc0 Sc1 Sl
      have Fc0 := HXF10.out.c0
      have Fc1 := HXF10.out.c1
      have Fl := HXF10.out.lt
      have Gc0 := HXG10.out.c0
      have Gc1 := HXG10.out.c1
      have Gl := HXG10.out.lt
      have Tc0 := HXT10.out.c0
      have Tc1 := HXT10.out.c1
      have Tl := HXT10.out.lt
      have Nc0 := HXN10.out.c0
      have Nc1 := HXN10.out.c1
      have Nl := HXN10.out.lt
      have Sc0 := HXS10.out.c0
      have Sc1 := HXS10.out.c1
      have Sl := HXS10.out.lt
      have HMh10 := Lib.hid (hM)
      clear hb HB9 HXF9 HXG9 HXT9 HXN9 HXS9 HTf9 HTg9 HMf9 HMs9 hM
      have HB10a := Lib.hid (HB10.out.alloc HB10.out.size (.cells #[.slice A10 L c10, .slice V10 L d10] 24))
      have HXF10a := Lib.hid (HXF10.out.alloc (.cells #[.slice A10 L c10, .slice V10 L d10] 24))
      have HXG10a := Lib.hid (HXG10.out.alloc (.cells #[.slice A10 L c10, .slice V10 L d10] 24))
      have HXT10a := Lib.hid (HXT10.out.alloc (.cells #[.slice A10 L c10, .slice V10 L d10] 24))
      have HXN10a := Lib.hid (HXN10.out.alloc (.cells #[.slice A10 L c10, .slice V10 L d10] 24))
      have HXS10a := Lib.hid (HXS10.out.alloc (.cells #[.slice A10 L c10, .slice V10 L d10] 24))
      have HTf10a := Lib.hid (HTf10.out.keep_ (al1 w10 (.cells #[.slice A10 L c10, .slice V10 L d10] 24)))
      have HTg10a := Lib.hid (HTg10.out.keep_ (al1 w10 (.cells #[.slice A10 L c10, .slice V10 L d10] 24)))
      have HMf10a := Lib.hid (HMf10.out.keep (al1 w10 (.cells #[.slice A10 L c10, .slice V10 L d10] 24)))
      have HMs10a := Lib.hid (HMs10.out.keep (al1 w10 (.cells #[.slice A10 L c10, .slice V10 L d10] 24)))
      have HMh10a := Lib.hid (HMh10.out.keep (al1 w10 (.cells #[.slice A10 L c10, .slice V10 L d10] 24)))
      have HXH10a := Lib.hid (Bx.new w10 24 (.slice A10 L c10) (.slice V10 L d10))
      go_wp2_with fail
      refine ((CA4 _ HTg10a.out HTf10a.out).out).mono ?_
      rintro e w11 ⟨A11, c11, V11, d11, rfl, hM, hb⟩
      have HB11 := Lib.hid (HB10a.out.trans (hb.mono HB10a.out.size))
      have HXF11 := Lib.hid (HXF10a.out.keep hb)
      have HXG11 := Lib.hid (HXG10a.out.keep hb)
      have HXT11 := Lib.hid (HXT10a.out.keep hb)
      have HXN11 := Lib.hid (HXN10a.out.keep hb)
      have HXS11 := Lib.hid (HXS10a.out.keep hb)
      have HXH11 := Lib.hid (HXH10a.out.keep hb)
      have HTf11 := Lib.hid (HTf10a.out.keep_ hb)
      have HTg11 := Lib.hid (HTg10a.out.keep_ hb)
      have HMf11 := Lib.hid (HMf10a.out.keep hb)
      have HMs11 := Lib.hid (HMs10a.out.keep hb)
      have HMh11 := Lib.hid (HMh10a.out.keep hb)
      clear Fc0 Fc1 Fl Gc0 Gc1 Gl Tc0 Tc1 Tl Nc0 Nc1 Nl Sc0 Sc1 Sl
      have Fc0 := HXF11.out.c0
      have Fc1 := HXF11.out.c1
      have Fl := HXF11.out.lt
      have Gc0 := HXG11.out.c0
      have Gc1 := HXG11.out.c1
      have Gl := HXG11.out.lt
      have Tc0 := HXT11.out.c0
      have Tc1 := HXT11.out.c1
      have Tl := HXT11.out.lt
      have Nc0 := HXN11.out.c0
      have Nc1 := HXN11.out.c1
      have Nl := HXN11.out.lt
      have Sc0 := HXS11.out.c0
      have Sc1 := HXS11.out.c1
      have Sl := HXS11.out.lt
      have Hc0 := HXH11.out.c0
      have Hc1 := HXH11.out.c1
      have Hl := HXH11.out.lt
      have HMq11 := Lib.hid (hM)
      clear hb HB10a HXF10a HXG10a HXT10a HXN10a HXS10a HXH10a HTf10a HTg10a HMf10a HMs10a HMh10a hM
      have HB11a := Lib.hid (HB11.out.alloc HB11.out.size (.cells #[.slice A11 L c11, .slice V11 L d11] 24))
      have HXF11a := Lib.hid (HXF11.out.alloc (.cells #[.slice A11 L c11, .slice V11 L d11] 24))
      have HXG11a := Lib.hid (HXG11.out.alloc (.cells #[.slice A11 L c11, .slice V11 L d11] 24))
      have HXT11a := Lib.hid (HXT11.out.alloc (.cells #[.slice A11 L c11, .slice V11 L d11] 24))
      have HXN11a := Lib.hid (HXN11.out.alloc (.cells #[.slice A11 L c11, .slice V11 L d11] 24))
      have HXS11a := Lib.hid (HXS11.out.alloc (.cells #[.slice A11 L c11, .slice V11 L d11] 24))
      have HXH11a := Lib.hid (HXH11.out.alloc (.cells #[.slice A11 L c11, .slice V11 L d11] 24))
      have HTf11a := Lib.hid (HTf11.out.keep_ (al1 w11 (.cells #[.slice A11 L c11, .slice V11 L d11] 24)))
      have HTg11a := Lib.hid (HTg11.out.keep_ (al1 w11 (.cells #[.slice A11 L c11, .slice V11 L d11] 24)))
      have HMf11a := Lib.hid (HMf11.out.keep (al1 w11 (.cells #[.slice A11 L c11, .slice V11 L d11] 24)))
      have HMs11a := Lib.hid (HMs11.out.keep (al1 w11 (.cells #[.slice A11 L c11, .slice V11 L d11] 24)))
      have HMh11a := Lib.hid (HMh11.out.keep (al1 w11 (.cells #[.slice A11 L c11, .slice V11 L d11] 24)))
      have HMq11a := Lib.hid (HMq11.out.keep (al1 w11 (.cells #[.slice A11 L c11, .slice V11 L d11] 24)))
      have HXK11a := Lib.hid (Bx.new w11 24 (.slice A11 L c11) (.slice V11 L d11))
      go_wp2_with fail
      refine (same_r A10 L c10 V10 d10 A11 L c11 V11 d11 rs _ HMh11a.out HMq11a.out HL.out HL.out hL2 rfl).mono ?_
      rintro e w12 ⟨rfl, hb⟩
      have HB12 := Lib.hid (HB11a.out.trans (hb.mono HB11a.out.size))
      have HXF12 := Lib.hid (HXF11a.out.keep hb)
      have HXG12 := Lib.hid (HXG11a.out.keep hb)
      have HXT12 := Lib.hid (HXT11a.out.keep hb)
      have HXN12 := Lib.hid (HXN11a.out.keep hb)
      have HXS12 := Lib.hid (HXS11a.out.keep hb)
      have HXH12 := Lib.hid (HXH11a.out.keep hb)
      have HXK12 := Lib.hid (HXK11a.out.keep hb)
      have HTf12 := Lib.hid (HTf11a.out.keep_ hb)
      have HTg12 := Lib.hid (HTg11a.out.keep_ hb)
      have HMf12 := Lib.hid (HMf11a.out.keep hb)
      have HMs12 := Lib.hid (HMs11a.out.keep hb)
      have HMh12 := Lib.hid (HMh11a.out.keep hb)
      have HMq12 := Lib.hid (HMq11a.out.keep hb)
      clear Fc0 Fc1 Fl Gc0 Gc1 Gl Tc0 Tc1 Tl Nc0 Nc1 Nl Sc0 Sc1 Sl Hc0 Hc1 Hl
      have Fc0 := HXF12.out.c0
      have Fc1 := HXF12.out.c1
      have Fl := HXF12.out.lt
      have Gc0 := HXG12.out.c0
      have Gc1 := HXG12.out.c1
      have Gl := HXG12.out.lt
      have Tc0 := HXT12.out.c0
      have Tc1 := HXT12.out.c1
      have Tl := HXT12.out.lt
      have Nc0 := HXN12.out.c0
      have Nc1 := HXN12.out.c1
      have Nl := HXN12.out.lt
      have Sc0 := HXS12.out.c0
      have Sc1 := HXS12.out.c1
      have Sl := HXS12.out.lt
      have Hc0 := HXH12.out.c0
      have Hc1 := HXH12.out.c1
      have Hl := HXH12.out.lt
      have Kc0 := HXK12.out.c0
      have Kc1 := HXK12.out.c1
      have Kl := HXK12.out.lt
      clear hb HB11a HXF11a HXG11a HXT11a HXN11a HXS11a HXH11a HXK11a HTf11a HTg11a HMf11a HMs11a HMh11a HMq11a
      go_wp2
      go_ret
      exact ⟨rfl, HB12.out⟩


set_option maxRecDepth 100000 in
set_option maxHeartbeats 8000000 in
theorem fits__ (A : Option Addr) (n c : Nat) (V : Option Addr) (d : Nat) (A2 : Option Addr) (n2 c2 : Nat) (V2 : Option Addr) (d2 : Nat) (ps qs : List Pr) (a b day : Int) (ha : 0 ≤ a ∧ a ≤ 4294967295) (hb : 0 ≤ b ∧ b ≤ 4294967295) (hd : 0 ≤ day ∧ day ≤ 4294967295) (w : World) (hS : Sr w w.heap.size A V n ps) (hS2 : Sr w w.heap.size A2 V2 n2 qs) (hn : n ≤ 100) (hn2 : n2 ≤ 100) (hp : Right ps) (hq : Right qs) (rs : List Pr) (L : Nat) (hL : rs.length = L) (hL2 : L ≤ 200)
    (hA : ∀ W, Sr W W.heap.size A V n ps → Sr W W.heap.size A2 V2 n2 qs → Calls Try.prog 7 #[sg A n c V n d, sg A2 n2 c2 V2 n2 d2] W (GivesAL W L rs 0))
    (hB : ∀ W, Sr W W.heap.size A2 V2 n2 qs → Sr W W.heap.size A V n ps → Calls Try.prog 7 #[sg A2 n2 c2 V2 n2 d2, sg A n c V n d] W (GivesAL W L rs 0)) (p q : Int) (hpq : spn a b = (p, q)) (hrr : Right rs) (nn : Int) (hnn : 1 + day % 292194 = nn) (hat : val 0 rs nn = val 0 ps nn + val 0 qs nn) (x1 x2 x3 e1 e2 e3 : Int) (hi1 : -4000000000000000000 ≤ x1 ∧ x1 ≤ 4000000000000000000) (hi2 : -4000000000000000000 ≤ x2 ∧ x2 ≤ 4000000000000000000) (hxs : e1 = 0 → e2 = 0 → e3 = 0 → x1 + x2 = x3)
    (hs1 : ∀ W, Sr W W.heap.size A V n ps → Calls Try.prog 12 #[sg A n c V n d, ag (p, q)] W (GivesN W x1 e1))
    (hs2 : ∀ W, Sr W W.heap.size A2 V2 n2 qs → Calls Try.prog 12 #[sg A2 n2 c2 V2 n2 d2, ag (p, q)] W (GivesN W x2 e2))
    (hs3 : ∀ W A3 c3 V3 d3, Mk W A3 V3 rs → Calls Try.prog 12 #[sg A3 L c3 V3 L d3, ag (p, q)] W (GivesN W x3 e3)) :
    Calls Try.prog 4 #[sg A n c V n d, sg A2 n2 c2 V2 n2 d2, .int .u32 a, .int .u32 b, .int .u32 day] w fun e w' => e = .returned (.bool true) ∧ Below w.heap.size w w' := by
  have CA3 := fun W h1 h2 => Lib.hid (hA W h1 h2)
  have CA4 := fun W h1 h2 => Lib.hid (hB W h1 h2)
  have HL := Lib.hid hL
  have D1 := fun w => Lib.hid (in_r a b w ha hb)
  rw [hpq] at D1
  have HRR := Lib.hid hrr
  have HAT := Lib.hid hat
  have HXS := Lib.hid hxs
  have S1 := fun W h1 => Lib.hid (hs1 W h1)
  have S2 := fun W h1 => Lib.hid (hs2 W h1)
  have S3 := fun W A3 c3 V3 d3 h1 => Lib.hid (hs3 W A3 c3 V3 d3 h1)
  obtain ⟨dd1, dd2⟩ := hd
  have dd3 : 0 ≤ day % 292194 := by omega
  have dd4 : day % 292194 ≤ 292193 := by omega
  clear hs1 hs2 hs3 hrr hat hxs hpq ha hb
  clear hA hB hL
  have HXF := Lib.hid ((Bx.new w 24 (.slice A n c) (.slice V n d)).alloc (.cells #[.slice A2 n2 c2, .slice V2 n2 d2] 24))
  have HXG := Lib.hid (show Bx ((w.alloc (.cells #[.slice A n c, .slice V n d] 24)).alloc (.cells #[.slice A2 n2 c2, .slice V2 n2 d2] 24)) (w.heap.size + 1) 24 (.slice A2 n2 c2) (.slice V2 n2 d2) by
    have h_ := Bx.new (w.alloc (.cells #[.slice A n c, .slice V n d] 24)) 24 (.slice A2 n2 c2) (.slice V2 n2 d2)
    rw [World.size_alloc] at h_
    exact h_)
  have HB := Lib.hid (show Below w.heap.size w ((w.alloc (.cells #[.slice A n c, .slice V n d] 24)).alloc (.cells #[.slice A2 n2 c2, .slice V2 n2 d2] 24)) from (al1 _ _).alloc (by simp) _)
  obtain ⟨W, hW⟩ : ∃ W, (w.alloc (.cells #[.slice A n c, .slice V n d] 24)).alloc (.cells #[.slice A2 n2 c2, .slice V2 n2 d2] 24) = W := ⟨_, rfl⟩
  rw [hW] at HXF HXG HB
  have HW := Lib.hid hW
  clear hW
  have C1 := fun w => Lib.hid (few A n c V n d w (by omega) (by omega))
  have C2 := fun w => Lib.hid (few A2 n2 c2 V2 n2 d2 w (by omega) (by omega))
  rw [show (decide (n ≤ 100) && decide (n ≤ 100)) = true by simp; omega] at C1
  rw [show (decide (n2 ≤ 100) && decide (n2 ≤ 100)) = true by simp; omega] at C2
  have HTf := Lib.hid ((hS.below HB.out (Nat.le_refl _)).wide HB.out.size)
  have HTg := Lib.hid ((hS2.below HB.out (Nat.le_refl _)).wide HB.out.size)
  have HP := Lib.hid hp
  have HQ := Lib.hid hq
  have HLp := Lib.hid hS.len
  have HLq := Lib.hid hS2.len
  have CR1 := fun (W : World) (h : Sr W W.heap.size A V n ps) => Lib.hid (show Calls Try.prog 10 #[sg A n c V n d] W (fun e w' => e = .returned (.bool true) ∧ Below W.heap.size W w') by have h_ := right A n c V n d _ _ W h (by omega); rwa [rg_of hp] at h_)
  have CR2 := fun (W : World) (h : Sr W W.heap.size A2 V2 n2 qs) => Lib.hid (show Calls Try.prog 10 #[sg A2 n2 c2 V2 n2 d2] W (fun e w' => e = .returned (.bool true) ∧ Below W.heap.size W w') by have h_ := right A2 n2 c2 V2 n2 d2 _ _ W h (by omega); rwa [rg_of hq] at h_)
  clear hS hS2 hp hq
  go_enter Try.func4, Try.ntmps4
  go_wp2_with fail
  rw [HW.out]
  refine (awake _).mono ?_
  rintro e w1 ⟨rfl, hb⟩
  have HB1 := Lib.hid (HB.out.trans (hb.mono HB.out.size))
  have HXF1 := Lib.hid (HXF.out.keep hb)
  have HXG1 := Lib.hid (HXG.out.keep hb)
  have HTf1 := Lib.hid (HTf.out.keep_ hb)
  have HTg1 := Lib.hid (HTg.out.keep_ hb)
  have Fc0 := HXF1.out.c0
  have Fc1 := HXF1.out.c1
  have Fl := HXF1.out.lt
  have Gc0 := HXG1.out.c0
  have Gc1 := HXG1.out.c1
  have Gl := HXG1.out.lt
  clear hb HB HXF HXG HTf HTg
  go_wp2_with fail
  refine ((C1 _).out).mono ?_
  rintro e w2 ⟨rfl, hb⟩
  have HB2 := Lib.hid (HB1.out.trans (hb.mono HB1.out.size))
  have HXF2 := Lib.hid (HXF1.out.keep hb)
  have HXG2 := Lib.hid (HXG1.out.keep hb)
  have HTf2 := Lib.hid (HTf1.out.keep_ hb)
  have HTg2 := Lib.hid (HTg1.out.keep_ hb)
  clear Fc0 Fc1 Fl Gc0 Gc1 Gl
  have Fc0 := HXF2.out.c0
  have Fc1 := HXF2.out.c1
  have Fl := HXF2.out.lt
  have Gc0 := HXG2.out.c0
  have Gc1 := HXG2.out.c1
  have Gl := HXG2.out.lt
  clear hb HB1 HXF1 HXG1 HTf1 HTg1
  go_wp2_with fail
  refine ((C2 _).out).mono ?_
  rintro e w3 ⟨rfl, hb⟩
  have HB3 := Lib.hid (HB2.out.trans (hb.mono HB2.out.size))
  have HXF3 := Lib.hid (HXF2.out.keep hb)
  have HXG3 := Lib.hid (HXG2.out.keep hb)
  have HTf3 := Lib.hid (HTf2.out.keep_ hb)
  have HTg3 := Lib.hid (HTg2.out.keep_ hb)
  clear Fc0 Fc1 Fl Gc0 Gc1 Gl
  have Fc0 := HXF3.out.c0
  have Fc1 := HXF3.out.c1
  have Fl := HXF3.out.lt
  have Gc0 := HXG3.out.c0
  have Gc1 := HXG3.out.c1
  have Gl := HXG3.out.lt
  clear hb HB2 HXF2 HXG2 HTf2 HTg2
  go_wp2_with fail
  refine ((CR1 _ HTf3.out).out).mono ?_
  rintro e w4 ⟨rfl, hb⟩
  have HB4 := Lib.hid (HB3.out.trans (hb.mono HB3.out.size))
  have HXF4 := Lib.hid (HXF3.out.keep hb)
  have HXG4 := Lib.hid (HXG3.out.keep hb)
  have HTf4 := Lib.hid (HTf3.out.keep_ hb)
  have HTg4 := Lib.hid (HTg3.out.keep_ hb)
  clear Fc0 Fc1 Fl Gc0 Gc1 Gl
  have Fc0 := HXF4.out.c0
  have Fc1 := HXF4.out.c1
  have Fl := HXF4.out.lt
  have Gc0 := HXG4.out.c0
  have Gc1 := HXG4.out.c1
  have Gl := HXG4.out.lt
  clear hb HB3 HXF3 HXG3 HTf3 HTg3
  go_wp2_with fail
  refine ((CR2 _ HTg4.out).out).mono ?_
  rintro e w5 ⟨rfl, hb⟩
  have HB5 := Lib.hid (HB4.out.trans (hb.mono HB4.out.size))
  have HXF5 := Lib.hid (HXF4.out.keep hb)
  have HXG5 := Lib.hid (HXG4.out.keep hb)
  have HTf5 := Lib.hid (HTf4.out.keep_ hb)
  have HTg5 := Lib.hid (HTg4.out.keep_ hb)
  clear Fc0 Fc1 Fl Gc0 Gc1 Gl
  have Fc0 := HXF5.out.c0
  have Fc1 := HXF5.out.c1
  have Fl := HXF5.out.lt
  have Gc0 := HXG5.out.c0
  have Gc1 := HXG5.out.c1
  have Gl := HXG5.out.lt
  clear hb HB4 HXF4 HXG4 HTf4 HTg4
  clear C1 C2 CR1 CR2
  have HTJ0 := Lib.hid (show TJ w5 (w5.alloc (.cells #[.slice A n c, .slice none 0 0] 24)) A n c none 0 0 ((ng ps).map (·.2) |>.take 0) from ⟨al1 _ _, Bx.new _ _ _ _, by rw [List.take_zero]; exact OwnI.nil⟩)
  have hw5 : w.heap.size + 1 < w5.heap.size := Gl
  obtain ⟨bT, hbT⟩ : ∃ b, w5.heap.size = b := ⟨_, rfl⟩
  have HbT := Lib.hid hbT
  go_wp2
  go_loopw [15] (fun i w' => ∃ (j : Nat) (T : Option Addr) (ct : Nat) (wz : World), j ≤ n ∧ i = .int .i64 (j : Int) ∧ wz = w' ∧ Hid (TJ w5 wz A n c T j ct ((ng ps).map (·.2) |>.take j))) (fun i _ => n - (intOf i).toNat)
  case atStart => exact ⟨0, none, 0, _, Nat.zero_le _, rfl, rfl, HTJ0⟩
  case round =>
    obtain ⟨j, T, ct, wz, hj, rfl, rfl, HJ⟩ := hrel
    have HXFz := Lib.hid (HXF5.out.keep HJ.out.b)
    have fz0 := HXFz.out.c0
    have fz1 := HXFz.out.c1
    have fzl := HXFz.out.lt
    have tz0 := HJ.out.x.c0
    have tz1 := HJ.out.x.c1
    have tzl := HJ.out.x.lt
    rw [hbT] at tz0 tz1 tzl
    clear Fc0 Fc1 Fl Gc0 Gc1 Gl
    by_cases hlt : j < n
    · obtain ⟨ad, x, rfl, hbk, hx, hc⟩ := ((HTf5.out.v.below HJ.out.b (Nat.le_refl _))).get hlt
      have hlt2 : (j : Int) < (n : Int) := by omega
      have hfx : -4000000000000000000 ≤ x ∧ x ≤ 4000000000000000000 := by
        rw [List.getElem?_map] at hx
        cases e : ps[j]? with
        | none => rw [e] at hx; cases hx
        | some z =>
          rw [e] at hx
          simp at hx
          have := (fits_iff _).1 (HP.out.2 z (List.mem_iff_getElem?.2 ⟨j, e⟩))
          omega
      obtain ⟨y, hy⟩ : ∃ y, -x = y := ⟨_, rfl⟩
      have HTK := Lib.hid (show ((ng ps).map (·.2)).take (j + 1) = ((ng ps).map (·.2)).take j ++ [y] by
        have e : ((ng ps).map (·.2))[j]? = some y := by
          rw [ng_val, List.getElem?_map]
          rw [List.getElem?_map] at hx
          cases e : ps[j]? with
          | none => rw [e] at hx; cases hx
          | some z => rw [e] at hx; simp at hx; simp; omega
        obtain ⟨hk, e2⟩ := List.getElem?_eq_some_iff.1 e
        rw [List.take_succ_eq_append_getElem hk, e2])
      have hyb : -4000000000000000000 ≤ y ∧ y ≤ 4000000000000000000 := by omega
      obtain ⟨x1, x2⟩ := hfx
      obtain ⟨y1, y2⟩ := hyb
      have ey : IntKind.i64.wrap y = y := IntWalk.i64_in _ (by omega)
      have HSX := Lib.hid (fun (W' : World) (h : Below w5.heap.size w5 W') => show W'.cell? ⟨w.heap.size, 0, none⟩ = some (.slice A n c) ∧ W'.cell? ⟨w.heap.size, 1, none⟩ = some (.slice (some ad) n d) ∧ W'.cell? (ad.add j) = some (.int .i64 x) by
        have h1 := (HXF5.out.keep h).c0
        have h2 := (HXF5.out.keep h).c1
        have h3 := Ints.cell (HTf5.out.v.below h (Nat.le_refl _)) hx
        exact ⟨h1, h2, h3⟩)
      have HJd := Lib.hid (show TJ w5 ({ wz with drawn := wz.drawn + 1 } : World) A n c T j ct ((ng ps).map (·.2) |>.take j) from ⟨⟨HJ.out.b.os, HJ.out.b.tape, HJ.out.b.output, HJ.out.b.size, HJ.out.b.block⟩, HJ.out.x, HJ.out.o⟩)
      have HJx := Lib.hid (show Bx ({ wz with drawn := wz.drawn + 1 } : World) bT 24 (.slice A n c) (.slice T j ct) by rw [← HbT.out]; exact HJd.out.x)
      have HJo := Lib.hid (show OwnI ({ wz with drawn := wz.drawn + 1 } : World) (bT + 1) T j ct ((ng ps).map (·.2) |>.take j) by rw [← HbT.out]; exact HJd.out.o)
      clear hx hbk
      go_wp2
      clear fz0 fz1 tz0 tz1 tzl fzl hc hbT
      refine wp_region_steps (fun L_ a_ w_ => ∃ (v64 v65 v66 v67 v68 v69 v70 v71 v72 v73 v74 : Value) (g : Nat) (T' : Option Addr) (c' : Nat), a_ = { tmps := #[sg A n c (some ad) n d, sg A2 n2 c2 V2 n2 d2, Value.int IntKind.u32 a, Value.int IntKind.u32 b, Value.int IntKind.u32 day, Value.pointer (some { block := w.heap.size, off := 0 }), Value.pointer (some { block := w.heap.size + 1, off := 0 }), undef, undef, undef, Value.bool false, Value.bool true, Value.bool true, Value.bool true, Value.pointer (some { block := bT, off := 0 }), Value.int IntKind.i64 ↑j, undef, undef, undef, undef, undef, undef, undef, undef, undef, undef, undef, undef, undef, undef, undef, undef, Value.bool true, Value.agg #[Value.slice A n c, Value.slice (some ad) n d], Value.bool true, Value.agg #[Value.slice A2 n2 c2, Value.slice V2 n2 d2], Value.bool true, Value.bool true, Value.bool false, Value.bool false, Value.bool true, Value.bool false, Value.bool false, Value.bool false, Value.agg #[Value.slice A n c, Value.slice (some ad) n d], Value.bool true, Value.bool false, Value.bool false, Value.bool false, Value.agg #[Value.slice A2 n2 c2, Value.slice V2 n2 d2], Value.bool true, Value.bool false, Value.bool false, undef, Value.pointer (some { block := w.heap.size, off := 0 }), Value.slice A n c, Value.agg #[Value.slice A n c, Value.slice none 0 0], Value.int IntKind.i64 ↑j, Value.pointer (some { block := w.heap.size, off := 1 }), Value.slice (some ad) n d, Value.int IntKind.i64 ↑n, Value.bool true, u62, u63, v64, v65, v66, v67, v68, v69, v70, v71, v72, v73, v74, undef, undef, undef, undef, undef, undef, undef, undef, undef, undef, undef, undef, undef, undef, undef, undef, undef, undef, undef, undef, undef, undef, undef, undef, undef, undef, undef, undef, undef, undef, undef, undef, undef, undef, undef, undef, undef, undef, undef, undef, undef, undef, undef, undef, undef, undef, undef, undef, undef, undef, undef, undef, undef, undef, undef, undef, undef, undef, undef, undef, undef, undef, undef, undef, undef, undef, undef, undef, undef, undef, undef, undef, undef, undef, undef, undef, undef, undef, undef, undef, undef, undef, undef, undef, undef, undef, undef, undef, undef, undef, undef, undef, undef, undef, undef, undef, undef, undef, undef, undef, undef, undef, undef, undef, undef, undef, undef, undef, undef, undef, undef, undef, undef, undef, undef, undef, undef, undef], defers := [] } ∧ Hid (R10 w5 w_ w.heap.size bT A n c d T j ct ad j x y ((ng ps).map (·.2) |>.take j) L_ v64 v65 v66 v67 v68 v69 v70 v71 v72 v73 v74 g T' c')) (by kernel_rfl) (by kernel_rfl) ?_ (AllSteps.cons ?_ (AllSteps.cons ?_ (AllSteps.cons ?_ (AllSteps.cons ?_ (AllSteps.cons ?_ (AllSteps.cons ?_ (AllSteps.cons ?_ (AllSteps.cons ?_ (AllSteps.cons ?_ (AllSteps.cons ?_ (AllSteps.cons ?_ (AllSteps.cons ?_ AllSteps.nil)))))))))))) ?_
      · exact ⟨_, _, _, _, _, _, _, _, _, _, _, 0, none, 0, rfl, Lib.hid ⟨HJd.out.b, HJx.out, fun _ => HJo.out, (fun h => by cases h), (fun h => by cases h), (fun h => by cases h), (fun h => by cases h), (fun h => by cases h), (fun h => by cases h), (fun h => by cases h), (fun h => by cases h), (fun h => by cases h), (fun h => by cases h), (fun h => by cases h), (fun h => by cases h), (fun h => by cases h)⟩⟩
      · rintro L_ a_ w_ hL hd ⟨v64, v65, v66, v67, v68, v69, v70, v71, v72, v73, v74, g, T', c', rfl, HR⟩ K hK
        clear hd
        go_simp
        exact hK.out _ _ ⟨_, _, _, _, _, _, _, _, _, _, _, g, T', c', rfl, Lib.hid (HR.out.s0)⟩

      · rintro L_ a_ w_ hL hd ⟨v64, v65, v66, v67, v68, v69, v70, v71, v72, v73, v74, g, T', c', rfl, HR⟩ K hK
        have e0 := HR.out.f0 (hd ⟨0, .data⟩ (by simp) rfl)
        subst e0
        have e11 := no_of HR.out.d11 (no_of HR.out.d9 hL)
        have hx_ := HR.out.bx
        rw [e11] at hx_
        have z1 := hx_.c1
        simp at z1
        clear hx_
        clear hd
        go_simp
        exact hK.out _ _ ⟨_, _, _, _, _, _, _, _, _, _, _, g, T', c', rfl, Lib.hid (HR.out.s1)⟩

      · rintro L_ a_ w_ hL hd ⟨v64, v65, v66, v67, v68, v69, v70, v71, v72, v73, v74, g, T', c', rfl, HR⟩ K hK
        clear hd
        go_simp
        exact hK.out _ _ ⟨_, _, _, _, _, _, _, _, _, _, _, g, T', c', rfl, Lib.hid (HR.out.s2)⟩

      · rintro L_ a_ w_ hL hd ⟨v64, v65, v66, v67, v68, v69, v70, v71, v72, v73, v74, g, T', c', rfl, HR⟩ K hK
        have e2 := HR.out.f2 (hd ⟨2, .data⟩ (by simp) rfl)
        subst e2
        obtain ⟨q0, q1, q2⟩ := HSX.out w_ HR.out.b
        clear q0 q2
        clear hd
        go_simp
        exact hK.out _ _ ⟨_, _, _, _, _, _, _, _, _, _, _, g, T', c', rfl, Lib.hid (HR.out.s3)⟩

      · rintro L_ a_ w_ hL hd ⟨v64, v65, v66, v67, v68, v69, v70, v71, v72, v73, v74, g, T', c', rfl, HR⟩ K hK
        clear hd
        go_simp
        exact hK.out _ _ ⟨_, _, _, _, _, _, _, _, _, _, _, g, T', c', rfl, Lib.hid (HR.out.s4)⟩

      · rintro L_ a_ w_ hL hd ⟨v64, v65, v66, v67, v68, v69, v70, v71, v72, v73, v74, g, T', c', rfl, HR⟩ K hK
        have e3 := HR.out.f3 (hd ⟨3, .data⟩ (by simp) rfl)
        subst e3
        have e4 := HR.out.f4 (hd ⟨4, .data⟩ (by simp) rfl)
        subst e4
        clear hd
        go_simp
        exact hK.out _ _ ⟨_, _, _, _, _, _, _, _, _, _, _, g, T', c', rfl, Lib.hid (HR.out.s5)⟩

      · rintro L_ a_ w_ hL hd ⟨v64, v65, v66, v67, v68, v69, v70, v71, v72, v73, v74, g, T', c', rfl, HR⟩ K hK
        have e5 := HR.out.f5 (hd ⟨5, .data⟩ (by simp) rfl)
        subst e5
        obtain ⟨q0, q1, q2⟩ := HSX.out w_ HR.out.b
        clear q0 q1
        clear hd
        go_simp
        exact hK.out _ _ ⟨_, _, _, _, _, _, _, _, _, _, _, g, T', c', rfl, Lib.hid (HR.out.s6)⟩

      · rintro L_ a_ w_ hL hd ⟨v64, v65, v66, v67, v68, v69, v70, v71, v72, v73, v74, g, T', c', rfl, HR⟩ K hK
        have e6 := HR.out.f6 (hd ⟨6, .data⟩ (by simp) rfl)
        subst e6
        clear hd
        go_simp
        exact hK.out _ _ ⟨_, _, _, _, _, _, _, _, _, _, _, g, T', c', rfl, Lib.hid (HR.out.s7)⟩

      · rintro L_ a_ w_ hL hd ⟨v64, v65, v66, v67, v68, v69, v70, v71, v72, v73, v74, g, T', c', rfl, HR⟩ K hK
        have e7 := HR.out.f7 (hd ⟨7, .data⟩ (by simp) rfl)
        subst e7
        clear hd
        go_simp
        exact hK.out _ _ ⟨_, _, _, _, _, _, _, _, _, _, _, _, T', c', rfl, Lib.hid (HR.out.s8 hL)⟩

      · rintro L_ a_ w_ hL hd ⟨v64, v65, v66, v67, v68, v69, v70, v71, v72, v73, v74, g, T', c', rfl, HR⟩ K hK
        have q1 : L_ 1 = true := hd ⟨1, .data⟩ (by simp) rfl
        have e1 := HR.out.f1 q1
        obtain ⟨e8, hI8⟩ := HR.out.f8 (hd ⟨8, .data⟩ (by simp) rfl)
        subst e1 e8
        have hI9 := hI8 hL
        refine step_appW w_ (by rfl) (.tmp 65) (.tmp 72) (by rfl) (bT + 1) T j ct _ (by rfl) (HR.out.o hL) w_.heap.size ⟨g, 0, none⟩ 1 1 [y] (by rfl) hI9 (by omega) (by omega) (by have h_ := HR.out.bx.lt; omega) ?_
        intro T2 c2' w2 hO2 hg2 _
        have HR2 := Lib.hid (HR.out.s9 hL q1 (by rw [HbT.out]; exact Nat.le_refl _) hO2 hg2)
        clear hO2 hg2 hd hI8 hI9
        exact hK.out _ _ ⟨_, _, _, _, _, _, _, _, _, _, _, g, T2, c2', rfl, Lib.hid (HR2.out)⟩

      · rintro L_ a_ w_ hL hd ⟨v64, v65, v66, v67, v68, v69, v70, v71, v72, v73, v74, g, T', c', rfl, HR⟩ K hK
        clear hd
        go_simp
        exact hK.out _ _ ⟨_, _, _, _, _, _, _, _, _, _, _, g, T', c', rfl, Lib.hid (HR.out.s10)⟩

      · rintro L_ a_ w_ hL hd ⟨v64, v65, v66, v67, v68, v69, v70, v71, v72, v73, v74, g, T', c', rfl, HR⟩ K hK
        have q9 : L_ 9 = true := hd ⟨9, .data⟩ (by simp) rfl
        have e9 := (HR.out.f9 q9).1
        have e10 := HR.out.f10 (hd ⟨10, .data⟩ (by simp) rfl)
        subst e9 e10
        have hx_ := HR.out.bx
        rw [hL] at hx_
        have z1 := hx_.c1
        have zf := hx_.f 1
        have zl := hx_.lt
        simp at z1
        clear hx_ hd
        go_simp
        exact hK.out _ _ ⟨_, _, _, _, _, _, _, _, _, _, _, g, T', c', rfl, Lib.hid (HR.out.s11 hL q9 (by rw [HbT.out]; exact Nat.le_refl _))⟩


      · rintro L_ a_ w_ hall ⟨v64, v65, v66, v67, v68, v69, v70, v71, v72, v73, v74, g, T', c', rfl, HR⟩
        have e9 := (HR.out.f9 (hall 9 (by simp))).2
        have ex := HR.out.bx
        rw [hall 11 (by simp)] at ex
        have HT := Lib.hid (show TJ w5 w_ A n c T' (j + 1) c' ((ng ps).map (·.2) |>.take (j + 1)) from ⟨HR.out.b, by rw [HbT.out]; exact ex, by rw [HTK.out, HbT.out]; exact e9⟩)
        clear e9 ex hall hy ey
        dsimp only [Exit.inBlock, Exit.then]
        go_step
        go_wp2
        go_roundw
        case rel => exact ⟨j + 1, T', c', _, by omega, by go_num, rfl, HT⟩
        case measure => simp [intOf]; omega
    · obtain rfl : n = j := by omega
      have HJn := Lib.hid (show TJ w5 wz A n c T n ct ((ng ps).map (·.2)) by have h_ := HJ.out; rwa [List.take_of_length_le (by rw [List.length_map, ng_len, HLp.out]; exact Nat.le_refl _)] at h_)
      clear HJ
      have HBz := Lib.hid (HB5.out.trans (HJn.out.b.mono HB5.out.size))
      have HXGz := Lib.hid (HXG5.out.keep HJn.out.b)
      have HXTz := Lib.hid (show Bx wz bT 24 (.slice A n c) (.slice T n ct) by rw [← HbT.out]; exact HJn.out.x)
      have HTfz := Lib.hid (HTf5.out.keep_ HJn.out.b)
      have HTgz := Lib.hid (HTg5.out.keep_ HJn.out.b)
      have HTnz := Lib.hid (show Sr wz wz.heap.size A T n (ng ps) from ⟨by rw [ng_at]; exact HTfz.out.a, HJn.out.o.ints.1⟩)
      have HMfz := Lib.hid (show Mk wz A V ps from ⟨by rw [HLp.out]; exact HTfz.out⟩)
      have CA1 := Lib.hid (show Calls Try.prog 7 #[sg A n c V n d, sg A n c T n ct] wz (GivesAL wz 0 [] 0) from (add_fit A n c V d A n c T ct ps (ng ps) wz HTfz.out HTnz.out (by omega) (by omega) HP.out (ng_right HP.out) ng_fit).mono fun e w' h => al_of rfl (by rw [ng_add HP.out] at h; exact h))
      have CA2 := fun (W : World) (hf : Sr W W.heap.size A V n ps) => Lib.hid (show Calls Try.prog 7 #[sg A n c V n d, sg none 0 0 none 0 0] W (GivesAL W n ps 0) from (add_fit A n c V d none 0 0 none 0 ps [] W hf ⟨Ints.nil, Ints.nil⟩ (by omega) (by omega) HP.out nil_right (nil_fit HP.out)).mono fun e w' h => al_of HLp.out (by rw [nil_add HP.out] at h; exact h))
      have gz0 := HXGz.out.c0
      have gz1 := HXGz.out.c1
      have gzl := HXGz.out.lt
      clear HXF5 HXG5 HB5 HTf5 HTg5 HJn hw5 hbT
      go_wp2_with fail
      refine (CA1.out).mono ?_
      rintro e w7 ⟨A7, c7, V7, d7, rfl, hM, hb⟩
      have HB7 := Lib.hid (HBz.out.trans (hb.mono HBz.out.size))
      have HXF7 := Lib.hid (HXFz.out.keep hb)
      have HXG7 := Lib.hid (HXGz.out.keep hb)
      have HXT7 := Lib.hid (HXTz.out.keep hb)
      have HTf7 := Lib.hid (HTfz.out.keep_ hb)
      have HTg7 := Lib.hid (HTgz.out.keep_ hb)
      have HMf7 := Lib.hid (HMfz.out.keep hb)
      clear fz0 fz1 fzl tz0 tz1 tzl gz0 gz1 gzl
      have Fc0 := HXF7.out.c0
      have Fc1 := HXF7.out.c1
      have Fl := HXF7.out.lt
      have Gc0 := HXG7.out.c0
      have Gc1 := HXG7.out.c1
      have Gl := HXG7.out.lt
      have Tc0 := HXT7.out.c0
      have Tc1 := HXT7.out.c1
      have Tl := HXT7.out.lt
      clear hb HBz HXFz HXGz HXTz HTfz HTgz HMfz hM
      have HB7a := Lib.hid (HB7.out.alloc HB7.out.size (.cells #[.slice A7 0 c7, .slice V7 0 d7] 24))
      have HXF7a := Lib.hid (HXF7.out.alloc (.cells #[.slice A7 0 c7, .slice V7 0 d7] 24))
      have HXG7a := Lib.hid (HXG7.out.alloc (.cells #[.slice A7 0 c7, .slice V7 0 d7] 24))
      have HXT7a := Lib.hid (HXT7.out.alloc (.cells #[.slice A7 0 c7, .slice V7 0 d7] 24))
      have HTf7a := Lib.hid (HTf7.out.keep_ (al1 w7 (.cells #[.slice A7 0 c7, .slice V7 0 d7] 24)))
      have HTg7a := Lib.hid (HTg7.out.keep_ (al1 w7 (.cells #[.slice A7 0 c7, .slice V7 0 d7] 24)))
      have HMf7a := Lib.hid (HMf7.out.keep (al1 w7 (.cells #[.slice A7 0 c7, .slice V7 0 d7] 24)))
      have HXN7a := Lib.hid (Bx.new w7 24 (.slice A7 0 c7) (.slice V7 0 d7))
      go_wp2_with fail
      refine ((CA2 _ HTf7a.out).out).mono ?_
      rintro e w8 ⟨A8, c8, V8, d8, rfl, hM, hb⟩
      have HB8 := Lib.hid (HB7a.out.trans (hb.mono HB7a.out.size))
      have HXF8 := Lib.hid (HXF7a.out.keep hb)
      have HXG8 := Lib.hid (HXG7a.out.keep hb)
      have HXT8 := Lib.hid (HXT7a.out.keep hb)
      have HXN8 := Lib.hid (HXN7a.out.keep hb)
      have HTf8 := Lib.hid (HTf7a.out.keep_ hb)
      have HTg8 := Lib.hid (HTg7a.out.keep_ hb)
      have HMf8 := Lib.hid (HMf7a.out.keep hb)
      clear Fc0 Fc1 Fl Gc0 Gc1 Gl Tc0 Tc1 Tl
      have Fc0 := HXF8.out.c0
      have Fc1 := HXF8.out.c1
      have Fl := HXF8.out.lt
      have Gc0 := HXG8.out.c0
      have Gc1 := HXG8.out.c1
      have Gl := HXG8.out.lt
      have Tc0 := HXT8.out.c0
      have Tc1 := HXT8.out.c1
      have Tl := HXT8.out.lt
      have Nc0 := HXN8.out.c0
      have Nc1 := HXN8.out.c1
      have Nl := HXN8.out.lt
      have HMs8 := Lib.hid (hM)
      clear hb HB7a HXF7a HXG7a HXT7a HXN7a HTf7a HTg7a HMf7a hM
      have HB8a := Lib.hid (HB8.out.alloc HB8.out.size (.cells #[.slice A8 n c8, .slice V8 n d8] 24))
      have HXF8a := Lib.hid (HXF8.out.alloc (.cells #[.slice A8 n c8, .slice V8 n d8] 24))
      have HXG8a := Lib.hid (HXG8.out.alloc (.cells #[.slice A8 n c8, .slice V8 n d8] 24))
      have HXT8a := Lib.hid (HXT8.out.alloc (.cells #[.slice A8 n c8, .slice V8 n d8] 24))
      have HXN8a := Lib.hid (HXN8.out.alloc (.cells #[.slice A8 n c8, .slice V8 n d8] 24))
      have HTf8a := Lib.hid (HTf8.out.keep_ (al1 w8 (.cells #[.slice A8 n c8, .slice V8 n d8] 24)))
      have HTg8a := Lib.hid (HTg8.out.keep_ (al1 w8 (.cells #[.slice A8 n c8, .slice V8 n d8] 24)))
      have HMf8a := Lib.hid (HMf8.out.keep (al1 w8 (.cells #[.slice A8 n c8, .slice V8 n d8] 24)))
      have HMs8a := Lib.hid (HMs8.out.keep (al1 w8 (.cells #[.slice A8 n c8, .slice V8 n d8] 24)))
      have HXS8a := Lib.hid (Bx.new w8 24 (.slice A8 n c8) (.slice V8 n d8))
      go_wp2_with fail
      refine (same_r A8 n c8 V8 d8 A n c V d ps _ HMs8a.out HMf8a.out HLp.out HLp.out (by omega) rfl).mono ?_
      rintro e w9 ⟨rfl, hb⟩
      have HB9 := Lib.hid (HB8a.out.trans (hb.mono HB8a.out.size))
      have HXF9 := Lib.hid (HXF8a.out.keep hb)
      have HXG9 := Lib.hid (HXG8a.out.keep hb)
      have HXT9 := Lib.hid (HXT8a.out.keep hb)
      have HXN9 := Lib.hid (HXN8a.out.keep hb)
      have HXS9 := Lib.hid (HXS8a.out.keep hb)
      have HTf9 := Lib.hid (HTf8a.out.keep_ hb)
      have HTg9 := Lib.hid (HTg8a.out.keep_ hb)
      have HMf9 := Lib.hid (HMf8a.out.keep hb)
      have HMs9 := Lib.hid (HMs8a.out.keep hb)
      clear Fc0 Fc1 Fl Gc0 Gc1 Gl Tc0 Tc1 Tl Nc0 Nc1 Nl
      have Fc0 := HXF9.out.c0
      have Fc1 := HXF9.out.c1
      have Fl := HXF9.out.lt
      have Gc0 := HXG9.out.c0
      have Gc1 := HXG9.out.c1
      have Gl := HXG9.out.lt
      have Tc0 := HXT9.out.c0
      have Tc1 := HXT9.out.c1
      have Tl := HXT9.out.lt
      have Nc0 := HXN9.out.c0
      have Nc1 := HXN9.out.c1
      have Nl := HXN9.out.lt
      have Sc0 := HXS9.out.c0
      have Sc1 := HXS9.out.c1
      have Sl := HXS9.out.lt
      clear hb HB8a HXF8a HXG8a HXT8a HXN8a HXS8a HTf8a HTg8a HMf8a HMs8a
      clear CA1 CA2
      go_wp2_with fail
      refine ((CA3 _ HTf9.out HTg9.out).out).mono ?_
      rintro e w10 ⟨A10, c10, V10, d10, rfl, hM, hb⟩
      have HB10 := Lib.hid (HB9.out.trans (hb.mono HB9.out.size))
      have HXF10 := Lib.hid (HXF9.out.keep hb)
      have HXG10 := Lib.hid (HXG9.out.keep hb)
      have HXT10 := Lib.hid (HXT9.out.keep hb)
      have HXN10 := Lib.hid (HXN9.out.keep hb)
      have HXS10 := Lib.hid (HXS9.out.keep hb)
      have HTf10 := Lib.hid (HTf9.out.keep_ hb)
      have HTg10 := Lib.hid (HTg9.out.keep_ hb)
      have HMf10 := Lib.hid (HMf9.out.keep hb)
      have HMs10 := Lib.hid (HMs9.out.keep hb)
      clear Fc0 Fc1 Fl Gc0 Gc1 Gl Tc0 Tc1 Tl Nc0 Nc1 Nl Sc0 Sc1 Sl
      have Fc0 := HXF10.out.c0
      have Fc1 := HXF10.out.c1
      have Fl := HXF10.out.lt
      have Gc0 := HXG10.out.c0
      have Gc1 := HXG10.out.c1
      have Gl := HXG10.out.lt
      have Tc0 := HXT10.out.c0
      have Tc1 := HXT10.out.c1
      have Tl := HXT10.out.lt
      have Nc0 := HXN10.out.c0
      have Nc1 := HXN10.out.c1
      have Nl := HXN10.out.lt
      have Sc0 := HXS10.out.c0
      have Sc1 := HXS10.out.c1
      have Sl := HXS10.out.lt
      have HMh10 := Lib.hid (hM)
      clear hb HB9 HXF9 HXG9 HXT9 HXN9 HXS9 HTf9 HTg9 HMf9 HMs9 hM
      have HB10a := Lib.hid (HB10.out.alloc HB10.out.size (.cells #[.slice A10 L c10, .slice V10 L d10] 24))
      have HXF10a := Lib.hid (HXF10.out.alloc (.cells #[.slice A10 L c10, .slice V10 L d10] 24))
      have HXG10a := Lib.hid (HXG10.out.alloc (.cells #[.slice A10 L c10, .slice V10 L d10] 24))
      have HXT10a := Lib.hid (HXT10.out.alloc (.cells #[.slice A10 L c10, .slice V10 L d10] 24))
      have HXN10a := Lib.hid (HXN10.out.alloc (.cells #[.slice A10 L c10, .slice V10 L d10] 24))
      have HXS10a := Lib.hid (HXS10.out.alloc (.cells #[.slice A10 L c10, .slice V10 L d10] 24))
      have HTf10a := Lib.hid (HTf10.out.keep_ (al1 w10 (.cells #[.slice A10 L c10, .slice V10 L d10] 24)))
      have HTg10a := Lib.hid (HTg10.out.keep_ (al1 w10 (.cells #[.slice A10 L c10, .slice V10 L d10] 24)))
      have HMf10a := Lib.hid (HMf10.out.keep (al1 w10 (.cells #[.slice A10 L c10, .slice V10 L d10] 24)))
      have HMs10a := Lib.hid (HMs10.out.keep (al1 w10 (.cells #[.slice A10 L c10, .slice V10 L d10] 24)))
      have HMh10a := Lib.hid (HMh10.out.keep (al1 w10 (.cells #[.slice A10 L c10, .slice V10 L d10] 24)))
      have HXH10a := Lib.hid (Bx.new w10 24 (.slice A10 L c10) (.slice V10 L d10))
      go_wp2_with fail
      refine ((CA4 _ HTg10a.out HTf10a.out).out).mono ?_
      rintro e w11 ⟨A11, c11, V11, d11, rfl, hM, hb⟩
      have HB11 := Lib.hid (HB10a.out.trans (hb.mono HB10a.out.size))
      have HXF11 := Lib.hid (HXF10a.out.keep hb)
      have HXG11 := Lib.hid (HXG10a.out.keep hb)
      have HXT11 := Lib.hid (HXT10a.out.keep hb)
      have HXN11 := Lib.hid (HXN10a.out.keep hb)
      have HXS11 := Lib.hid (HXS10a.out.keep hb)
      have HXH11 := Lib.hid (HXH10a.out.keep hb)
      have HTf11 := Lib.hid (HTf10a.out.keep_ hb)
      have HTg11 := Lib.hid (HTg10a.out.keep_ hb)
      have HMf11 := Lib.hid (HMf10a.out.keep hb)
      have HMs11 := Lib.hid (HMs10a.out.keep hb)
      have HMh11 := Lib.hid (HMh10a.out.keep hb)
      clear Fc0 Fc1 Fl Gc0 Gc1 Gl Tc0 Tc1 Tl Nc0 Nc1 Nl Sc0 Sc1 Sl
      have Fc0 := HXF11.out.c0
      have Fc1 := HXF11.out.c1
      have Fl := HXF11.out.lt
      have Gc0 := HXG11.out.c0
      have Gc1 := HXG11.out.c1
      have Gl := HXG11.out.lt
      have Tc0 := HXT11.out.c0
      have Tc1 := HXT11.out.c1
      have Tl := HXT11.out.lt
      have Nc0 := HXN11.out.c0
      have Nc1 := HXN11.out.c1
      have Nl := HXN11.out.lt
      have Sc0 := HXS11.out.c0
      have Sc1 := HXS11.out.c1
      have Sl := HXS11.out.lt
      have Hc0 := HXH11.out.c0
      have Hc1 := HXH11.out.c1
      have Hl := HXH11.out.lt
      have HMq11 := Lib.hid (hM)
      clear hb HB10a HXF10a HXG10a HXT10a HXN10a HXS10a HXH10a HTf10a HTg10a HMf10a HMs10a HMh10a hM
      have HB11a := Lib.hid (HB11.out.alloc HB11.out.size (.cells #[.slice A11 L c11, .slice V11 L d11] 24))
      have HXF11a := Lib.hid (HXF11.out.alloc (.cells #[.slice A11 L c11, .slice V11 L d11] 24))
      have HXG11a := Lib.hid (HXG11.out.alloc (.cells #[.slice A11 L c11, .slice V11 L d11] 24))
      have HXT11a := Lib.hid (HXT11.out.alloc (.cells #[.slice A11 L c11, .slice V11 L d11] 24))
      have HXN11a := Lib.hid (HXN11.out.alloc (.cells #[.slice A11 L c11, .slice V11 L d11] 24))
      have HXS11a := Lib.hid (HXS11.out.alloc (.cells #[.slice A11 L c11, .slice V11 L d11] 24))
      have HXH11a := Lib.hid (HXH11.out.alloc (.cells #[.slice A11 L c11, .slice V11 L d11] 24))
      have HTf11a := Lib.hid (HTf11.out.keep_ (al1 w11 (.cells #[.slice A11 L c11, .slice V11 L d11] 24)))
      have HTg11a := Lib.hid (HTg11.out.keep_ (al1 w11 (.cells #[.slice A11 L c11, .slice V11 L d11] 24)))
      have HMf11a := Lib.hid (HMf11.out.keep (al1 w11 (.cells #[.slice A11 L c11, .slice V11 L d11] 24)))
      have HMs11a := Lib.hid (HMs11.out.keep (al1 w11 (.cells #[.slice A11 L c11, .slice V11 L d11] 24)))
      have HMh11a := Lib.hid (HMh11.out.keep (al1 w11 (.cells #[.slice A11 L c11, .slice V11 L d11] 24)))
      have HMq11a := Lib.hid (HMq11.out.keep (al1 w11 (.cells #[.slice A11 L c11, .slice V11 L d11] 24)))
      have HXK11a := Lib.hid (Bx.new w11 24 (.slice A11 L c11) (.slice V11 L d11))
      go_wp2_with fail
      refine (same_r A10 L c10 V10 d10 A11 L c11 V11 d11 rs _ HMh11a.out HMq11a.out HL.out HL.out hL2 rfl).mono ?_
      rintro e w12 ⟨rfl, hb⟩
      have HB12 := Lib.hid (HB11a.out.trans (hb.mono HB11a.out.size))
      have HXF12 := Lib.hid (HXF11a.out.keep hb)
      have HXG12 := Lib.hid (HXG11a.out.keep hb)
      have HXT12 := Lib.hid (HXT11a.out.keep hb)
      have HXN12 := Lib.hid (HXN11a.out.keep hb)
      have HXS12 := Lib.hid (HXS11a.out.keep hb)
      have HXH12 := Lib.hid (HXH11a.out.keep hb)
      have HXK12 := Lib.hid (HXK11a.out.keep hb)
      have HTf12 := Lib.hid (HTf11a.out.keep_ hb)
      have HTg12 := Lib.hid (HTg11a.out.keep_ hb)
      have HMf12 := Lib.hid (HMf11a.out.keep hb)
      have HMs12 := Lib.hid (HMs11a.out.keep hb)
      have HMh12 := Lib.hid (HMh11a.out.keep hb)
      have HMq12 := Lib.hid (HMq11a.out.keep hb)
      clear Fc0 Fc1 Fl Gc0 Gc1 Gl Tc0 Tc1 Tl Nc0 Nc1 Nl Sc0 Sc1 Sl Hc0 Hc1 Hl
      have Fc0 := HXF12.out.c0
      have Fc1 := HXF12.out.c1
      have Fl := HXF12.out.lt
      have Gc0 := HXG12.out.c0
      have Gc1 := HXG12.out.c1
      have Gl := HXG12.out.lt
      have Tc0 := HXT12.out.c0
      have Tc1 := HXT12.out.c1
      have Tl := HXT12.out.lt
      have Nc0 := HXN12.out.c0
      have Nc1 := HXN12.out.c1
      have Nl := HXN12.out.lt
      have Sc0 := HXS12.out.c0
      have Sc1 := HXS12.out.c1
      have Sl := HXS12.out.lt
      have Hc0 := HXH12.out.c0
      have Hc1 := HXH12.out.c1
      have Hl := HXH12.out.lt
      have Kc0 := HXK12.out.c0
      have Kc1 := HXK12.out.c1
      have Kl := HXK12.out.lt
      clear hb HB11a HXF11a HXG11a HXT11a HXN11a HXS11a HXH11a HXK11a HTf11a HTg11a HMf11a HMs11a HMh11a HMq11a
      go_wp2_with fail
      refine ((D1 _).out).mono ?_
      rintro e w13 ⟨rfl, hb⟩
      have HB13 := Lib.hid (HB12.out.trans (hb.mono HB12.out.size))
      have HXF13 := Lib.hid (HXF12.out.keep hb)
      have HXG13 := Lib.hid (HXG12.out.keep hb)
      have HXT13 := Lib.hid (HXT12.out.keep hb)
      have HXN13 := Lib.hid (HXN12.out.keep hb)
      have HXS13 := Lib.hid (HXS12.out.keep hb)
      have HXH13 := Lib.hid (HXH12.out.keep hb)
      have HXK13 := Lib.hid (HXK12.out.keep hb)
      have HTf13 := Lib.hid (HTf12.out.keep_ hb)
      have HTg13 := Lib.hid (HTg12.out.keep_ hb)
      have HMf13 := Lib.hid (HMf12.out.keep hb)
      have HMs13 := Lib.hid (HMs12.out.keep hb)
      have HMh13 := Lib.hid (HMh12.out.keep hb)
      have HMq13 := Lib.hid (HMq12.out.keep hb)
      clear Fc0 Fc1 Fl Gc0 Gc1 Gl Tc0 Tc1 Tl Nc0 Nc1 Nl Sc0 Sc1 Sl Hc0 Hc1 Hl Kc0 Kc1 Kl
      have Fc0 := HXF13.out.c0
      have Fc1 := HXF13.out.c1
      have Fl := HXF13.out.lt
      have Gc0 := HXG13.out.c0
      have Gc1 := HXG13.out.c1
      have Gl := HXG13.out.lt
      have Tc0 := HXT13.out.c0
      have Tc1 := HXT13.out.c1
      have Tl := HXT13.out.lt
      have Nc0 := HXN13.out.c0
      have Nc1 := HXN13.out.c1
      have Nl := HXN13.out.lt
      have Sc0 := HXS13.out.c0
      have Sc1 := HXS13.out.c1
      have Sl := HXS13.out.lt
      have Hc0 := HXH13.out.c0
      have Hc1 := HXH13.out.c1
      have Hl := HXH13.out.lt
      have Kc0 := HXK13.out.c0
      have Kc1 := HXK13.out.c1
      have Kl := HXK13.out.lt
      clear hb HB12 HXF12 HXG12 HXT12 HXN12 HXS12 HXH12 HXK12 HTf12 HTg12 HMf12 HMs12 HMh12 HMq12
      have HB13a := Lib.hid (HB13.out.alloc HB13.out.size (.cells #[.int .i64 p, .int .i64 q] 33))
      have HXF13a := Lib.hid (HXF13.out.alloc (.cells #[.int .i64 p, .int .i64 q] 33))
      have HXG13a := Lib.hid (HXG13.out.alloc (.cells #[.int .i64 p, .int .i64 q] 33))
      have HXT13a := Lib.hid (HXT13.out.alloc (.cells #[.int .i64 p, .int .i64 q] 33))
      have HXN13a := Lib.hid (HXN13.out.alloc (.cells #[.int .i64 p, .int .i64 q] 33))
      have HXS13a := Lib.hid (HXS13.out.alloc (.cells #[.int .i64 p, .int .i64 q] 33))
      have HXH13a := Lib.hid (HXH13.out.alloc (.cells #[.int .i64 p, .int .i64 q] 33))
      have HXK13a := Lib.hid (HXK13.out.alloc (.cells #[.int .i64 p, .int .i64 q] 33))
      have HTf13a := Lib.hid (HTf13.out.keep_ (al1 w13 (.cells #[.int .i64 p, .int .i64 q] 33)))
      have HTg13a := Lib.hid (HTg13.out.keep_ (al1 w13 (.cells #[.int .i64 p, .int .i64 q] 33)))
      have HMf13a := Lib.hid (HMf13.out.keep (al1 w13 (.cells #[.int .i64 p, .int .i64 q] 33)))
      have HMs13a := Lib.hid (HMs13.out.keep (al1 w13 (.cells #[.int .i64 p, .int .i64 q] 33)))
      have HMh13a := Lib.hid (HMh13.out.keep (al1 w13 (.cells #[.int .i64 p, .int .i64 q] 33)))
      have HMq13a := Lib.hid (HMq13.out.keep (al1 w13 (.cells #[.int .i64 p, .int .i64 q] 33)))
      have HXP13a := Lib.hid (Bx.new w13 33 (.int .i64 p) (.int .i64 q))
      go_wp2_with fail
      refine ((S1 _ HTf13a.out).out).mono ?_
      rintro e w14 ⟨rfl, hb⟩
      have HB14 := Lib.hid (HB13a.out.trans (hb.mono HB13a.out.size))
      have HXF14 := Lib.hid (HXF13a.out.keep hb)
      have HXG14 := Lib.hid (HXG13a.out.keep hb)
      have HXT14 := Lib.hid (HXT13a.out.keep hb)
      have HXN14 := Lib.hid (HXN13a.out.keep hb)
      have HXS14 := Lib.hid (HXS13a.out.keep hb)
      have HXH14 := Lib.hid (HXH13a.out.keep hb)
      have HXK14 := Lib.hid (HXK13a.out.keep hb)
      have HXP14 := Lib.hid (HXP13a.out.keep hb)
      have HTf14 := Lib.hid (HTf13a.out.keep_ hb)
      have HTg14 := Lib.hid (HTg13a.out.keep_ hb)
      have HMf14 := Lib.hid (HMf13a.out.keep hb)
      have HMs14 := Lib.hid (HMs13a.out.keep hb)
      have HMh14 := Lib.hid (HMh13a.out.keep hb)
      have HMq14 := Lib.hid (HMq13a.out.keep hb)
      clear Fc0 Fc1 Fl Gc0 Gc1 Gl Tc0 Tc1 Tl Nc0 Nc1 Nl Sc0 Sc1 Sl Hc0 Hc1 Hl Kc0 Kc1 Kl
      have Fc0 := HXF14.out.c0
      have Fc1 := HXF14.out.c1
      have Fl := HXF14.out.lt
      have Gc0 := HXG14.out.c0
      have Gc1 := HXG14.out.c1
      have Gl := HXG14.out.lt
      have Tc0 := HXT14.out.c0
      have Tc1 := HXT14.out.c1
      have Tl := HXT14.out.lt
      have Nc0 := HXN14.out.c0
      have Nc1 := HXN14.out.c1
      have Nl := HXN14.out.lt
      have Sc0 := HXS14.out.c0
      have Sc1 := HXS14.out.c1
      have Sl := HXS14.out.lt
      have Hc0 := HXH14.out.c0
      have Hc1 := HXH14.out.c1
      have Hl := HXH14.out.lt
      have Kc0 := HXK14.out.c0
      have Kc1 := HXK14.out.c1
      have Kl := HXK14.out.lt
      have Pc0 := HXP14.out.c0
      have Pc1 := HXP14.out.c1
      have Pl := HXP14.out.lt
      clear hb HB13a HXF13a HXG13a HXT13a HXN13a HXS13a HXH13a HXK13a HXP13a HTf13a HTg13a HMf13a HMs13a HMh13a HMq13a
      go_wp2_with fail
      refine ((S2 _ HTg14.out).out).mono ?_
      rintro e w15 ⟨rfl, hb⟩
      have HB15 := Lib.hid (HB14.out.trans (hb.mono HB14.out.size))
      have HXF15 := Lib.hid (HXF14.out.keep hb)
      have HXG15 := Lib.hid (HXG14.out.keep hb)
      have HXT15 := Lib.hid (HXT14.out.keep hb)
      have HXN15 := Lib.hid (HXN14.out.keep hb)
      have HXS15 := Lib.hid (HXS14.out.keep hb)
      have HXH15 := Lib.hid (HXH14.out.keep hb)
      have HXK15 := Lib.hid (HXK14.out.keep hb)
      have HXP15 := Lib.hid (HXP14.out.keep hb)
      have HTf15 := Lib.hid (HTf14.out.keep_ hb)
      have HTg15 := Lib.hid (HTg14.out.keep_ hb)
      have HMf15 := Lib.hid (HMf14.out.keep hb)
      have HMs15 := Lib.hid (HMs14.out.keep hb)
      have HMh15 := Lib.hid (HMh14.out.keep hb)
      have HMq15 := Lib.hid (HMq14.out.keep hb)
      clear Fc0 Fc1 Fl Gc0 Gc1 Gl Tc0 Tc1 Tl Nc0 Nc1 Nl Sc0 Sc1 Sl Hc0 Hc1 Hl Kc0 Kc1 Kl Pc0 Pc1 Pl
      have Fc0 := HXF15.out.c0
      have Fc1 := HXF15.out.c1
      have Fl := HXF15.out.lt
      have Gc0 := HXG15.out.c0
      have Gc1 := HXG15.out.c1
      have Gl := HXG15.out.lt
      have Tc0 := HXT15.out.c0
      have Tc1 := HXT15.out.c1
      have Tl := HXT15.out.lt
      have Nc0 := HXN15.out.c0
      have Nc1 := HXN15.out.c1
      have Nl := HXN15.out.lt
      have Sc0 := HXS15.out.c0
      have Sc1 := HXS15.out.c1
      have Sl := HXS15.out.lt
      have Hc0 := HXH15.out.c0
      have Hc1 := HXH15.out.c1
      have Hl := HXH15.out.lt
      have Kc0 := HXK15.out.c0
      have Kc1 := HXK15.out.c1
      have Kl := HXK15.out.lt
      have Pc0 := HXP15.out.c0
      have Pc1 := HXP15.out.c1
      have Pl := HXP15.out.lt
      clear hb HB14 HXF14 HXG14 HXT14 HXN14 HXS14 HXH14 HXK14 HXP14 HTf14 HTg14 HMf14 HMs14 HMh14 HMq14
      go_wp2_with fail
      refine ((S3 _ _ _ _ _ HMh15.out).out).mono ?_
      rintro e w16 ⟨rfl, hb⟩
      have HB16 := Lib.hid (HB15.out.trans (hb.mono HB15.out.size))
      have HXF16 := Lib.hid (HXF15.out.keep hb)
      have HXG16 := Lib.hid (HXG15.out.keep hb)
      have HXT16 := Lib.hid (HXT15.out.keep hb)
      have HXN16 := Lib.hid (HXN15.out.keep hb)
      have HXS16 := Lib.hid (HXS15.out.keep hb)
      have HXH16 := Lib.hid (HXH15.out.keep hb)
      have HXK16 := Lib.hid (HXK15.out.keep hb)
      have HXP16 := Lib.hid (HXP15.out.keep hb)
      have HTf16 := Lib.hid (HTf15.out.keep_ hb)
      have HTg16 := Lib.hid (HTg15.out.keep_ hb)
      have HMf16 := Lib.hid (HMf15.out.keep hb)
      have HMs16 := Lib.hid (HMs15.out.keep hb)
      have HMh16 := Lib.hid (HMh15.out.keep hb)
      have HMq16 := Lib.hid (HMq15.out.keep hb)
      clear Fc0 Fc1 Fl Gc0 Gc1 Gl Tc0 Tc1 Tl Nc0 Nc1 Nl Sc0 Sc1 Sl Hc0 Hc1 Hl Kc0 Kc1 Kl Pc0 Pc1 Pl
      have Fc0 := HXF16.out.c0
      have Fc1 := HXF16.out.c1
      have Fl := HXF16.out.lt
      have Gc0 := HXG16.out.c0
      have Gc1 := HXG16.out.c1
      have Gl := HXG16.out.lt
      have Tc0 := HXT16.out.c0
      have Tc1 := HXT16.out.c1
      have Tl := HXT16.out.lt
      have Nc0 := HXN16.out.c0
      have Nc1 := HXN16.out.c1
      have Nl := HXN16.out.lt
      have Sc0 := HXS16.out.c0
      have Sc1 := HXS16.out.c1
      have Sl := HXS16.out.lt
      have Hc0 := HXH16.out.c0
      have Hc1 := HXH16.out.c1
      have Hl := HXH16.out.lt
      have Kc0 := HXK16.out.c0
      have Kc1 := HXK16.out.c1
      have Kl := HXK16.out.lt
      have Pc0 := HXP16.out.c0
      have Pc1 := HXP16.out.c1
      have Pl := HXP16.out.lt
      clear hb HB15 HXF15 HXG15 HXT15 HXN15 HXS15 HXH15 HXK15 HXP15 HTf15 HTg15 HMf15 HMs15 HMh15 HMq15
      obtain ⟨vf, hvf⟩ : ∃ v, val 0 ps nn = v := ⟨_, rfl⟩
      obtain ⟨vg, hvg⟩ : ∃ v, val 0 qs nn = v := ⟨_, rfl⟩
      have hvs : val 0 rs nn = vf + vg := by rw [HAT.out, hvf, hvg]
      have bf := (fits_iff _).1 (val_fits HP.out.2 nn)
      have bg_ := (fits_iff _).1 (val_fits HQ.out.2 nn)
      rw [hvf] at bf
      rw [hvg] at bg_
      have hee : IntKind.i64.wrap (vf + vg) = vf + vg := IntWalk.i64_in _ (by omega)
      have Q1 := fun (p_ : Ext w16) => Lib.hid (right_q A10 L c10 V10 d10 rs p_.W (HMh16.out.keep p_.b) HL.out HRR.out hL2)
      have Q2 := fun (p_ : Ext w16) => Lib.hid (at_q A10 L c10 V10 d10 rs nn (vf + vg) p_.W (HMh16.out.keep p_.b) HL.out HRR.out hL2 hvs)
      have Q3 := fun (p_ : Ext w16) => Lib.hid (at_v A n c V d ps nn vf p_.W (HTf16.out.keep_ p_.b) hn HP.out hvf)
      have Q4 := fun (p_ : Ext w16) => Lib.hid (at_v A2 n2 c2 V2 d2 qs nn vg p_.W (HTg16.out.keep_ p_.b) hn2 HQ.out hvg)
      have XH := fun (p_ : Ext w16) => HXH16.out.ext p_
      have XF := fun (p_ : Ext w16) => HXF16.out.ext p_
      have XG := fun (p_ : Ext w16) => HXG16.out.ext p_
      have YH0 := fun p_ => (XH p_).1
      have YH1 := fun p_ => (XH p_).2
      have YF0 := fun p_ => (XF p_).1
      have YF1 := fun p_ => (XF p_).2
      have YG0 := fun p_ => (XG p_).1
      have YG1 := fun p_ => (XG p_).2
      have ne : Nonempty (Ext w16) := ⟨⟨w16, Below.refl _ _⟩⟩
      obtain ⟨u, hu⟩ : ∃ u, vf + vg = u := ⟨_, rfl⟩
      rw [hu] at Q2
      have hu2 : IntKind.i64.wrap u = u := by rw [← hu]; exact hee
      clear hvf hvg hvs bf bg_ hee XH XF XG
      by_cases z1 : e1 = 0
      case neg =>
        have t1 : (e1 == 0) = false := by rw [beq_eq_false_iff_ne]; exact z1
        clear z1
        go_wp2
        refine quietE (by kernel_rfl) (by kernel_rfl) ?_
        repeat (quiet_step (first
          | (go_at_call 10; exact ext_of (Q1 _).out)
          | (go_at_call 13; (with_reducible exact ext_of (Q2 _).out))
          | (go_at_call 13; (with_reducible exact ext_of (Q3 _).out))
          | (go_at_call 13; (with_reducible exact ext_of (Q4 _).out))))
        refine wpQuiet_nil ?_
        rintro _ ⟨p_, rfl⟩
        go_wp2
        go_ret
        exact ⟨rfl, HB16.out.trans (p_.b.mono HB16.out.size)⟩
      by_cases z2 : e2 = 0
      case neg =>
        have t2 : (e2 == 0) = false := by rw [beq_eq_false_iff_ne]; exact z2
        have t1 : (e1 == 0) = true := by rw [beq_iff_eq]; exact z1
        clear z1 z2
        go_wp2
        refine quietE (by kernel_rfl) (by kernel_rfl) ?_
        repeat (quiet_step (first
          | (go_at_call 10; exact ext_of (Q1 _).out)
          | (go_at_call 13; (with_reducible exact ext_of (Q2 _).out))
          | (go_at_call 13; (with_reducible exact ext_of (Q3 _).out))
          | (go_at_call 13; (with_reducible exact ext_of (Q4 _).out))))
        refine wpQuiet_nil ?_
        rintro _ ⟨p_, rfl⟩
        go_wp2
        go_ret
        exact ⟨rfl, HB16.out.trans (p_.b.mono HB16.out.size)⟩
      by_cases z3 : e3 = 0
      case neg =>
        have t3 : (e3 == 0) = false := by rw [beq_eq_false_iff_ne]; exact z3
        have t2 : (e2 == 0) = true := by rw [beq_iff_eq]; exact z2
        have t1 : (e1 == 0) = true := by rw [beq_iff_eq]; exact z1
        clear z1 z2 z3
        go_wp2
        refine quietE (by kernel_rfl) (by kernel_rfl) ?_
        repeat (quiet_step (first
          | (go_at_call 10; exact ext_of (Q1 _).out)
          | (go_at_call 13; (with_reducible exact ext_of (Q2 _).out))
          | (go_at_call 13; (with_reducible exact ext_of (Q3 _).out))
          | (go_at_call 13; (with_reducible exact ext_of (Q4 _).out))))
        refine wpQuiet_nil ?_
        rintro _ ⟨p_, rfl⟩
        go_wp2
        go_ret
        exact ⟨rfl, HB16.out.trans (p_.b.mono HB16.out.size)⟩
      have hx3 := HXS.out z1 z2 z3
      have t3 : (e3 == 0) = true := by rw [beq_iff_eq]; exact z3
      have t2 : (e2 == 0) = true := by rw [beq_iff_eq]; exact z2
      have t1 : (e1 == 0) = true := by rw [beq_iff_eq]; exact z1
      clear z1 z2 z3
      obtain ⟨i1, i2⟩ := hi1
      obtain ⟨i3, i4⟩ := hi2
      go_wp2
      refine quietE (by kernel_rfl) (by kernel_rfl) ?_
      repeat (quiet_step (first
        | (go_at_call 10; exact ext_of (Q1 _).out)
        | (go_at_call 13; (with_reducible exact ext_of (Q2 _).out))
        | (go_at_call 13; (with_reducible exact ext_of (Q3 _).out))
        | (go_at_call 13; (with_reducible exact ext_of (Q4 _).out))))
      refine wpQuiet_nil ?_
      rintro _ ⟨p_, rfl⟩
      go_wp2
      go_ret
      exact ⟨rfl, HB16.out.trans (p_.b.mono HB16.out.size)⟩


theorem walk (A : Option Addr) (n c : Nat) (V : Option Addr) (m d : Nat) (xs vs : List Int) {w : World} (G : GivenT w A n c V m d xs vs) (A2 : Option Addr) (n2 c2 : Nat) (V2 : Option Addr) (m2 d2 : Nat) (ys us : List Int) (G2 : GivenT w A2 n2 c2 V2 m2 d2 ys us) (a : Int) (ha : 0 ≤ a ∧ a ≤ 4294967295) (b : Int) (hb : 0 ≤ b ∧ b ≤ 4294967295) (day : Int) (hd : 0 ≤ day ∧ day ≤ 4294967295) (w0 : World) (hw : w = w0) (_ : w = w0) :
    Calls Try.prog 4 #[sg A n c V m d, sg A2 n2 c2 V2 m2 d2, .int .u32 a, .int .u32 b, .int .u32 day] w0 fun e w' => e = .returned (.bool true) ∧ Below w0.heap.size w0 w' := by
  subst hw
  have hn := G.n
  have hm := G.m
  have hn2 := G2.n
  have hm2 := G2.m
  unfold maxLen at hn hm hn2 hm2
  cases hf1 : (decide (n ≤ 100) && decide (m ≤ 100))
  · exact few1 A n c V m d A2 n2 c2 V2 m2 d2 a b day _ w hn hm hn2 hm2 hf1 rfl
  cases hf2 : (decide (n2 ≤ 100) && decide (m2 ≤ 100))
  · exact few2 A n c V m d A2 n2 c2 V2 m2 d2 a b day w hn hm hn2 hm2 hf1 hf2
  have g1 := hf1
  have g2 := hf2
  simp only [Bool.and_eq_true, decide_eq_true_eq] at g1 g2
  have CR1 : ∀ W, Below w.heap.size w W → Calls Try.prog 10 #[sg A n c V m d] W fun e w' => e = .returned (.bool (rg xs vs)) ∧ Below W.heap.size W w' := fun W h => right A n c V m d xs vs W ((G.s.below h (Nat.le_refl _)).wide h.size) (by omega)
  have CR2 : ∀ W, Below w.heap.size w W → Calls Try.prog 10 #[sg A2 n2 c2 V2 m2 d2] W fun e w' => e = .returned (.bool (rg ys us)) ∧ Below W.heap.size W w' := fun W h => right A2 n2 c2 V2 m2 d2 ys us W ((G2.s.below h (Nat.le_refl _)).wide h.size) (by omega)
  cases hr : rg xs vs
  · rw [hr] at CR1
    exact no1 A n c V m d A2 n2 c2 V2 m2 d2 a b day w hn hm hn2 hm2 hf1 hf2 CR1
  cases hr2 : rg ys us
  · rw [hr] at CR1
    rw [hr2] at CR2
    exact no2 A n c V m d A2 n2 c2 V2 m2 d2 a b day w hn hm hn2 hm2 hf1 hf2 CR1 CR2
  obtain ⟨ps, hp, rfl, rfl⟩ := rg_pairs hr
  obtain ⟨qs, hq, rfl, rfl⟩ := rg_pairs hr2
  obtain rfl : n = m := by rw [← G.s.a.1, ← G.s.v.1]; simp
  obtain rfl : n2 = m2 := by rw [← G2.s.a.1, ← G2.s.v.1]; simp
  have hS : Sr w w.heap.size A V n ps := G.s
  have hS2 : Sr w w.heap.size A2 V2 n2 qs := G2.s
  have l1 := hS.len
  have l2 := hS2.len
  by_cases hfit : AllFit ps qs
  · have hrr := addL_right hp hq hfit
    have hL2 : (addL ps qs).length ≤ 200 := by have := addL_len (ps := ps) (qs := qs); omega
    obtain ⟨⟨p, q⟩, hpq⟩ : ∃ s, spn a b = s := ⟨_, rfl⟩
    have b1 := spn_bd (a := a) (b := b)
    rw [hpq] at b1
    simp only at b1
    have hA : ∀ W, Sr W W.heap.size A V n ps → Sr W W.heap.size A2 V2 n2 qs → Calls Try.prog 7 #[sg A n c V n d, sg A2 n2 c2 V2 n2 d2] W (GivesAL W (addL ps qs).length (addL ps qs) 0) := fun W h1 h2 => (add_fit A n c V d A2 n2 c2 V2 d2 ps qs W h1 h2 (by omega) (by omega) hp hq hfit).mono fun e w' h => al_of rfl h
    have hB : ∀ W, Sr W W.heap.size A2 V2 n2 qs → Sr W W.heap.size A V n ps → Calls Try.prog 7 #[sg A2 n2 c2 V2 n2 d2, sg A n c V n d] W (GivesAL W (addL ps qs).length (addL ps qs) 0) := fun W h1 h2 => (add_fit A2 n2 c2 V2 d2 A n c V d qs ps W h1 h2 (by omega) (by omega) hq hp (fit_comm.1 hfit)).mono fun e w' h => al_of rfl (by rw [add_comm_ hp hq] at h; exact h)
    by_cases hpq2 : p = q
    · have hnf : St.full (p, q) = false := by
        cases e : St.full (p, q)
        · rfl
        · rw [full_iff] at e; simp only at e; omega
      exact fits__ A n c V d A2 n2 c2 V2 d2 ps qs a b day ha hb hd w hS hS2 g1.1 g2.1 hp hq (addL ps qs) _ rfl hL2 hA hB p q hpq hrr _ rfl (add_at hp hq (by omega) (by omega)) 0 0 0 1 1 1 (by omega) (by omega) (fun h => by omega)
        (fun W h => sum_no2 A n c V n d _ _ (p, q) W h (by omega) (rg_of hp) hnf)
        (fun W h => sum_no2 A2 n2 c2 V2 n2 d2 _ _ (p, q) W h (by omega) (rg_of hq) hnf)
        (fun W A3 c3 V3 d3 h => sum_no2 A3 _ c3 V3 _ d3 _ _ (p, q) W h.s (by omega) (rg_of hrr) hnf)
    · have hfl : St.full (p, q) = true := (full_iff _).2 (by simp only; omega)
      have k1 : p < q := by omega
      exact fits__ A n c V d A2 n2 c2 V2 d2 ps qs a b day ha hb hd w hS hS2 g1.1 g2.1 hp hq (addL ps qs) _ rfl hL2 hA hB p q hpq hrr _ rfl (add_at hp hq (by omega) (by omega)) _ _ _ _ _ _ (sv_bd (PL_pos hp.1 (s := (p, q)) k1)) (sv_bd (PL_pos hq.1 (s := (p, q)) k1)) (fun e1 e2 e3 => sums_say hp hq hfit (by omega) k1 (by omega) e1 e2 e3)
        (fun W h => sum_yes A n c V d ps (p, q) W h (by omega) hp hfl)
        (fun W h => sum_yes A2 n2 c2 V2 d2 qs (p, q) W h (by omega) hq hfl)
        (fun W A3 c3 V3 d3 h => sum_yes A3 _ c3 V3 d3 (addL ps qs) (p, q) W h.s (by omega) hrr hfl)
  · exact over_ A n c V d A2 n2 c2 V2 d2 ps qs a b day ha hb hd w hS hS2 g1.1 g2.1 hp hq [] 0 rfl (by omega)
      (fun W h1 h2 => (add_over A n c V d A2 n2 c2 V2 d2 ps qs W h1 h2 (by omega) (by omega) hp hq hfit).mono fun e w' h => al_of rfl h)
      (fun W h1 h2 => (add_over A2 n2 c2 V2 d2 A n c V d qs ps W h1 h2 (by omega) (by omega) hq hp (fun h => hfit (fit_comm.2 h))).mono fun e w' h => al_of rfl h)

set_option maxRecDepth 100000 in
theorem lifted (os : Os) (started : os.Started) (H : Type) (enc : TypeId × Value → H) :
    ReturnsInHanded {} Try.checked os 4 .any (Rows.stepTogetherSpec.pre6 enc Try.prog Try.f4 Rows.stepTogetherRow.domain false) (Rows.stepTogetherSpec.post enc Try.prog Try.f4 false true false false) := by
  refine returnsInHanded_of_change (C := Try.checked) Stp.own started (by kernel_rfl) Try.func4
    (ChangeSpec.witness6 (enc := enc) (C := Try.checked) false ⟨#[], #[.agg #[.slice none 0 0, .slice none 0 0], .agg #[.slice none 0 0, .slice none 0 0], .int .u32 0, .int .u32 0, .int .u32 0], []⟩ 8 (by kernel_rfl) (by kernel_rfl) (by kernel_rfl) (by kernel_rfl)) ?_
  intro W base args ds gs before hval0 hW hcnd _
  have hval : ∀ (j : Nat) t v, Try.f4.params[j]? = some t → args[j]? = some v → Value.okWide Try.prog W .any base t v := hval0
  have hW' := hW
  obtain ⟨p, q, hA0, hV, rfl, hfz, hnd⟩ := hW
  have hA : DataW.TrodAll enc Try.prog W 0 (fun _ => true) true Try.f4.params.toList args.toList ds p := hA0
  rw [Try.params4] at hA hval
  obtain ⟨v0, vs0, d0, ds0, p0, q0, hargs, rfl, rfl, h0, r0⟩ := trodAll_cons hA
  obtain ⟨v1, vs1, d1, ds1, p1, q1, rfl, rfl, rfl, h1, r1⟩ := trodAll_cons r0
  obtain ⟨v2, vs2, d2, ds2, p2, q2, rfl, rfl, rfl, h2, r2⟩ := trodAll_cons r1
  obtain ⟨v3, vs3, d3, ds3, p3, q3, rfl, rfl, rfl, h3, r3⟩ := trodAll_cons r2
  obtain ⟨v4, vs4, d4, ds4, p4, q4, rfl, rfl, rfl, h4, r4⟩ := trodAll_cons r3
  obtain ⟨rfl, rfl, rfl⟩ := trodAll_nil r4
  obtain rfl : args = #[v0, v1, v2, v3, v4] := by cases args; simp_all
  obtain ⟨rfl, rfl⟩ := trodVars_none hV
  have k0 := h0
  have lt0 : ∀ x ∈ p0, x.block < W.heap.size := by obtain ⟨m, hm⟩ := k0; exact DataW.trod_lt m _ _ _ hm
  obtain ⟨A0, n0, c0, V0, m0, e0, xs0, ys0, rfl, g0⟩ := Stp.open_step (hval 0 24 v0 rfl rfl) h0
  have k1 := h1
  have lt1 : ∀ x ∈ p1, x.block < W.heap.size := by obtain ⟨m, hm⟩ := k1; exact DataW.trod_lt m _ _ _ hm
  obtain ⟨A1, n1, c1, V1, m1, e1, xs1, ys1, rfl, g1⟩ := Stp.open_step (hval 1 24 v1 rfl rfl) h1
  obtain ⟨a2, rfl, rfl, rfl, w2⟩ := open_int Try.underlying31 (hval 2 31 v2 rfl rfl) h2
  obtain ⟨a3, rfl, rfl, rfl, w3⟩ := open_int Try.underlying31 (hval 3 31 v3 rfl rfl) h3
  obtain ⟨a4, rfl, rfl, rfl, w4⟩ := open_int Try.underlying31 (hval 4 31 v4 rfl rfl) h4
  clear hA0 hval0
  refine (walk A0 n0 c0 V0 m0 e0 xs0 ys0 g0 A1 n1 c1 V1 m1 e1 xs1 ys1 g1 a2 (Stp.u32_of w2) a3 (Stp.u32_of w3) a4 (Stp.u32_of w4) W rfl rfl).mono fun e W' ⟨he, bel⟩ => ?_
  subst he
  exact ⟨_, rfl, _, _, _, [], _, [], hW', trodAll_mk1 (shut_bool Try.underlying4 _), (trodAll_cons_mk (Below.trod Stp.laidOut (by kernel_rfl) (of_decide_eq_true (by kernel_rfl)) k0 bel lt0) (trodAll_cons_mk (Below.trod Stp.laidOut (by kernel_rfl) (of_decide_eq_true (by kernel_rfl)) k1 bel lt1) (trodAll_cons_mk (shut_int Try.underlying31 w2) (trodAll_cons_mk (shut_int Try.underlying31 w3) (trodAll_cons_mk (shut_int Try.underlying31 w4) trodAll_mk0))))), rfl, bel.frame _, fun h => by cases h⟩

theorem over : Rows.stepTogetherRow.holds Try.pinned (OpenSpec.ofChange Rows.stepTogetherSpec) :=
  OpenClaim.holds_of_wide 4 Try.f4 rfl rfl rfl rfl rfl rfl rfl ⟨rfl, rfl, rfl, rfl, rfl⟩ rfl rfl rfl rfl rfl (by kernel_rfl) Try.func4 (by kernel_rfl)
    (of_decide_eq_true (by kernel_rfl)) (by unfold Func.isWrapper; first | (rw [if_pos (by decide +kernel)]; kernel_rfl) | (rw [if_neg (by decide +kernel)]; exact ⟨rfl, rfl⟩))
    (fun os started H enc _ => lifted os started H enc)

theorem proved : Rows.StepTogetherSaid := over
end Go.Proofs.Ytngpcabengmoiaa.stepTogether
