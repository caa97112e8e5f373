/-
  The statement TermsDays holds: for every input the call returns true, and each argument reads afterwards as it read before. Conditions: none beside those that the row itself bears.
-/
import Derived.Test.YtaadhageloiiaaaGiven
import Derived.Test.YtaadhageloiiaaaRCov
namespace Go.Proofs.Ytaadhageloiiaaa.termsDays
open Go.ChangeShapes Go.WideShapes Go.ChangeAt Go.RowKit Ba Cv Sp Te Tm
set_option linter.unusedVariables false

/-- The terms' box. -/
structure TB (w W : World) (s : Sp) (r : Ri) (A : Option Addr) (n c : Nat) : Prop where
  b : Below w.heap.size w W
  x : Bx W w.heap.size 28 (tc s r A n c)
section
variable {w W W' : World} {s : Sp} {r : Ri} {A : Option Addr} {n c : Nat}
theorem TB.next (h : TB w W s r A n c) (hb : Below W.heap.size W W') : TB w W' s r A n c := ⟨h.b.trans (hb.mono h.b.size), h.x.keep hb⟩
theorem TB.start (w : World) (s : Sp) (r : Ri) (A : Option Addr) (n c : Nat) : TB w (w.alloc (.cells (tc s r A n c) 28)) s r A n c := ⟨alloc_ _ _, Bx.new _ _ _⟩
end
/-- The terms' box and the span's. -/
structure TD (w W : World) (s : Sp) (r : Ri) (A : Option Addr) (n c : Nat) (u : Sp) : Prop extends TB w W s r A n c where
  y : Bx W (w.heap.size + 1) 23 (sc u)
section
variable {w W W' : World} {s u : Sp} {r : Ri} {A : Option Addr} {n c : Nat}
theorem TD.next (h : TD w W s r A n c u) (hb : Below W.heap.size W W') : TD w W' s r A n c u := ⟨h.toTB.next hb, h.y.keep hb⟩
theorem TD.start (w : World) (s : Sp) (r : Ri) (A : Option Addr) (n c : Nat) (u : Sp) : TD w ((w.alloc (.cells (tc s r A n c) 28)).alloc (.cells (sc u) 23)) s r A n c u := by
  refine ⟨(TB.start w s r A n c).next (alloc_ _ _), ?_⟩
  have := Bx.new (w.alloc (.cells (tc s r A n c) 28)) 23 (sc u)
  rw [World.size_alloc] at this
  exact this
end
set_option maxRecDepth 100000 in
set_option maxHeartbeats 4000000 in
theorem way_far (w : World) (s : Sp) (r : Ri) (A : Option Addr) (n c : Nat) (ls : List Co) (g : GivenC w A n c ls) (u : Sp) (h1 : 50 < n) : Calls Try.prog 6 #[tg s r A n c, sg u] w (Yes w true) := by
  have t1 : decide (50 < n) = true := decide_eq_true h1
  have t1' : decide (50 < (n : Int)) = true := decide_eq_true (by omega)
  obtain ⟨W, hW⟩ : ∃ W, ((w.alloc (.cells (tc s r A n c) 28)).alloc (.cells (sc u) 23)) = W := ⟨_, rfl⟩
  have H0 := Lib.hid (show TD w W s r A n c u by rw [← hW]; exact TD.start w s r A n c u)
  have HW := Lib.hid hW
  clear hW
  go_enter Try.func6, Try.ntmps6
  go_wp2_with fail
  rw [HW.out]
  clear HW
  refine (awake_ _).mono ?_
  rintro e w1 ⟨rfl, hb1⟩
  have H1 := Lib.hid (H0.out.next hb1)
  clear hb1 H0
  have x0 := H1.out.x.c 0
  have x1 := H1.out.x.c 1
  have x2 := H1.out.x.c 2
  have x3 := H1.out.x.c 3
  have x4 := H1.out.x.c 4
  have x5 := H1.out.x.c 5
  have x6 := H1.out.x.c 6
  simp at x0 x1 x2 x3 x4 x5 x6
  go_wp2
  go_ret
  exact ⟨rfl, H1.out.b⟩

set_option maxRecDepth 100000 in
set_option maxHeartbeats 4000000 in
theorem way_no (w : World) (s : Sp) (r : Ri) (A : Option Addr) (n c : Nat) (ls : List Co) (g : GivenC w A n c ls) (u : Sp) (h1 : ¬ 50 < n) (C : ∀ W : World, Below w.heap.size w W → Hid (Calls Try.prog 13 #[tg s r A n c] W (Yes W false))) : Calls Try.prog 6 #[tg s r A n c, sg u] w (Yes w true) := by
  have t1 : decide (50 < n) = false := decide_eq_false h1
  have t1' : decide (50 < (n : Int)) = false := decide_eq_false (by omega)
  obtain ⟨W, hW⟩ : ∃ W, ((w.alloc (.cells (tc s r A n c) 28)).alloc (.cells (sc u) 23)) = W := ⟨_, rfl⟩
  have H0 := Lib.hid (show TD w W s r A n c u by rw [← hW]; exact TD.start w s r A n c u)
  have HW := Lib.hid hW
  clear hW
  go_enter Try.func6, Try.ntmps6
  go_wp2_with fail
  rw [HW.out]
  clear HW
  refine (awake_ _).mono ?_
  rintro e w1 ⟨rfl, hb1⟩
  have H1 := Lib.hid (H0.out.next hb1)
  clear hb1 H0
  have x0 := H1.out.x.c 0
  have x1 := H1.out.x.c 1
  have x2 := H1.out.x.c 2
  have x3 := H1.out.x.c 3
  have x4 := H1.out.x.c 4
  have x5 := H1.out.x.c 5
  have x6 := H1.out.x.c 6
  simp at x0 x1 x2 x3 x4 x5 x6
  go_wp2_with fail
  refine ((C _ H1.out.b).out).mono ?_
  rintro e w2 ⟨rfl, hb2⟩
  have H2 := Lib.hid (H1.out.next hb2)
  clear hb2 H1 x0 x1 x2 x3 x4 x5 x6
  go_wp2
  go_ret
  exact ⟨rfl, H2.out.b⟩

set_option maxRecDepth 100000 in
set_option maxHeartbeats 4000000 in
theorem way_yes (w : World) (s : Sp) (r : Ri) (A : Option Addr) (n c : Nat) (ls : List Co) (g : GivenC w A n c ls) (u : Sp) (h1 : ¬ 50 < n) (C : ∀ W : World, Below w.heap.size w W → Hid (Calls Try.prog 13 #[tg s r A n c] W (Yes W true))) (t3 : decide (1 ≤ u.1) = true) (t4 : decide (u.2 ≤ 292195) = true) (t5 : decide (u.1 < u.2) = true) (q : Int) (e3 : wrap64 (u.2 - u.1) = q) (e4 : IntKind.i64.wrap (u.2 - u.1) = q) (q6 : Bool) (t6 : decide (q ≤ 1100) = q6) (C2 : ∀ W : World, Below w.heap.size w W → Hid (Calls Try.prog 13 #[tg u r A n c] W (Yes W q6))) (d : Int) (e1 : wrap64 (s.2 - s.1) = d) (e2 : IntKind.i64.wrap (s.2 - s.1) = d) (p1 : decide (1 ≤ d) = true) (p2 : decide (d ≤ 1100) = true) : Calls Try.prog 6 #[tg s r A n c, sg u] w (Yes w true) := by
  have t1 : decide (50 < n) = false := decide_eq_false h1
  have t1' : decide (50 < (n : Int)) = false := decide_eq_false (by omega)
  obtain ⟨W, hW⟩ : ∃ W, ((w.alloc (.cells (tc s r A n c) 28)).alloc (.cells (sc u) 23)) = W := ⟨_, rfl⟩
  have H0 := Lib.hid (show TD w W s r A n c u by rw [← hW]; exact TD.start w s r A n c u)
  have HW := Lib.hid hW
  clear hW
  go_enter Try.func6, Try.ntmps6
  go_wp2_with fail
  rw [HW.out]
  clear HW
  refine (awake_ _).mono ?_
  rintro e w1 ⟨rfl, hb1⟩
  have H1 := Lib.hid (H0.out.next hb1)
  clear hb1 H0
  have x0 := H1.out.x.c 0
  have x1 := H1.out.x.c 1
  have x2 := H1.out.x.c 2
  have x3 := H1.out.x.c 3
  have x4 := H1.out.x.c 4
  have x5 := H1.out.x.c 5
  have x6 := H1.out.x.c 6
  simp at x0 x1 x2 x3 x4 x5 x6
  go_wp2_with fail
  refine ((C _ H1.out.b).out).mono ?_
  rintro e w2 ⟨rfl, hb2⟩
  have H2 := Lib.hid (H1.out.next hb2)
  clear hb2 H1 x0 x1 x2 x3 x4 x5 x6
  have x0 := H2.out.x.c 0
  have x1 := H2.out.x.c 1
  have x2 := H2.out.x.c 2
  have x3 := H2.out.x.c 3
  have x4 := H2.out.x.c 4
  have x5 := H2.out.x.c 5
  have x6 := H2.out.x.c 6
  simp at x0 x1 x2 x3 x4 x5 x6
  have y0 := H2.out.y.c 0
  have y1 := H2.out.y.c 1
  simp at y0 y1
  have l0 := H2.out.x.lt
  have l1 := H2.out.y.lt
  obtain ⟨w3, hw3⟩ : ∃ w3, w2.alloc (.cells (tc u r A n c) 28) = w3 := ⟨_, rfl⟩
  have H3 := Lib.hid (H2.out.next (hw3 ▸ alloc_ w2 (.cells (tc u r A n c) 28)))
  have HW3 := Lib.hid hw3
  clear hw3
  go_wp2_with fail
  rw [HW3.out]
  clear HW3 H2 l0 l1 x0 x1 x2 x3 x4 x5 x6 y0 y1
  go_wp2_with fail
  refine ((C2 _ H3.out.b).out).mono ?_
  rintro e w4 ⟨rfl, hb4⟩
  have H4 := Lib.hid (H3.out.next hb4)
  clear hb4 H3 
  have x0 := H4.out.x.c 0
  have x1 := H4.out.x.c 1
  simp at x0 x1
  go_wp2
  go_ret
  exact ⟨rfl, H4.out.b⟩

set_option maxRecDepth 100000 in
set_option maxHeartbeats 4000000 in
theorem way_n1 (w : World) (s : Sp) (r : Ri) (A : Option Addr) (n c : Nat) (ls : List Co) (g : GivenC w A n c ls) (u : Sp) (h1 : ¬ 50 < n) (C : ∀ W : World, Below w.heap.size w W → Hid (Calls Try.prog 13 #[tg s r A n c] W (Yes W true))) (t3 : decide (1 ≤ u.1) = false) (C2 : ∀ W : World, Below w.heap.size w W → Hid (Calls Try.prog 13 #[tg u r A n c] W (Yes W false))) (d : Int) (e1 : wrap64 (s.2 - s.1) = d) (e2 : IntKind.i64.wrap (s.2 - s.1) = d) (p1 : decide (1 ≤ d) = true) (p2 : decide (d ≤ 1100) = true) : Calls Try.prog 6 #[tg s r A n c, sg u] w (Yes w true) := by
  have t1 : decide (50 < n) = false := decide_eq_false h1
  have t1' : decide (50 < (n : Int)) = false := decide_eq_false (by omega)
  obtain ⟨W, hW⟩ : ∃ W, ((w.alloc (.cells (tc s r A n c) 28)).alloc (.cells (sc u) 23)) = W := ⟨_, rfl⟩
  have H0 := Lib.hid (show TD w W s r A n c u by rw [← hW]; exact TD.start w s r A n c u)
  have HW := Lib.hid hW
  clear hW
  go_enter Try.func6, Try.ntmps6
  go_wp2_with fail
  rw [HW.out]
  clear HW
  refine (awake_ _).mono ?_
  rintro e w1 ⟨rfl, hb1⟩
  have H1 := Lib.hid (H0.out.next hb1)
  clear hb1 H0
  have x0 := H1.out.x.c 0
  have x1 := H1.out.x.c 1
  have x2 := H1.out.x.c 2
  have x3 := H1.out.x.c 3
  have x4 := H1.out.x.c 4
  have x5 := H1.out.x.c 5
  have x6 := H1.out.x.c 6
  simp at x0 x1 x2 x3 x4 x5 x6
  go_wp2_with fail
  refine ((C _ H1.out.b).out).mono ?_
  rintro e w2 ⟨rfl, hb2⟩
  have H2 := Lib.hid (H1.out.next hb2)
  clear hb2 H1 x0 x1 x2 x3 x4 x5 x6
  have x0 := H2.out.x.c 0
  have x1 := H2.out.x.c 1
  have x2 := H2.out.x.c 2
  have x3 := H2.out.x.c 3
  have x4 := H2.out.x.c 4
  have x5 := H2.out.x.c 5
  have x6 := H2.out.x.c 6
  simp at x0 x1 x2 x3 x4 x5 x6
  have y0 := H2.out.y.c 0
  have y1 := H2.out.y.c 1
  simp at y0 y1
  have l0 := H2.out.x.lt
  have l1 := H2.out.y.lt
  obtain ⟨w3, hw3⟩ : ∃ w3, w2.alloc (.cells (tc u r A n c) 28) = w3 := ⟨_, rfl⟩
  have H3 := Lib.hid (H2.out.next (hw3 ▸ alloc_ w2 (.cells (tc u r A n c) 28)))
  have HW3 := Lib.hid hw3
  clear hw3
  go_wp2_with fail
  rw [HW3.out]
  clear HW3 H2 l0 l1 x0 x1 x2 x3 x4 x5 x6 y0 y1
  go_wp2_with fail
  refine ((C2 _ H3.out.b).out).mono ?_
  rintro e w4 ⟨rfl, hb4⟩
  have H4 := Lib.hid (H3.out.next hb4)
  clear hb4 H3 
  have x0 := H4.out.x.c 0
  have x1 := H4.out.x.c 1
  simp at x0 x1
  go_wp2
  go_ret
  exact ⟨rfl, H4.out.b⟩

set_option maxRecDepth 100000 in
set_option maxHeartbeats 4000000 in
theorem way_n2 (w : World) (s : Sp) (r : Ri) (A : Option Addr) (n c : Nat) (ls : List Co) (g : GivenC w A n c ls) (u : Sp) (h1 : ¬ 50 < n) (C : ∀ W : World, Below w.heap.size w W → Hid (Calls Try.prog 13 #[tg s r A n c] W (Yes W true))) (t3 : decide (1 ≤ u.1) = true) (t4 : decide (u.2 ≤ 292195) = false) (C2 : ∀ W : World, Below w.heap.size w W → Hid (Calls Try.prog 13 #[tg u r A n c] W (Yes W false))) (d : Int) (e1 : wrap64 (s.2 - s.1) = d) (e2 : IntKind.i64.wrap (s.2 - s.1) = d) (p1 : decide (1 ≤ d) = true) (p2 : decide (d ≤ 1100) = true) : Calls Try.prog 6 #[tg s r A n c, sg u] w (Yes w true) := by
  have t1 : decide (50 < n) = false := decide_eq_false h1
  have t1' : decide (50 < (n : Int)) = false := decide_eq_false (by omega)
  obtain ⟨W, hW⟩ : ∃ W, ((w.alloc (.cells (tc s r A n c) 28)).alloc (.cells (sc u) 23)) = W := ⟨_, rfl⟩
  have H0 := Lib.hid (show TD w W s r A n c u by rw [← hW]; exact TD.start w s r A n c u)
  have HW := Lib.hid hW
  clear hW
  go_enter Try.func6, Try.ntmps6
  go_wp2_with fail
  rw [HW.out]
  clear HW
  refine (awake_ _).mono ?_
  rintro e w1 ⟨rfl, hb1⟩
  have H1 := Lib.hid (H0.out.next hb1)
  clear hb1 H0
  have x0 := H1.out.x.c 0
  have x1 := H1.out.x.c 1
  have x2 := H1.out.x.c 2
  have x3 := H1.out.x.c 3
  have x4 := H1.out.x.c 4
  have x5 := H1.out.x.c 5
  have x6 := H1.out.x.c 6
  simp at x0 x1 x2 x3 x4 x5 x6
  go_wp2_with fail
  refine ((C _ H1.out.b).out).mono ?_
  rintro e w2 ⟨rfl, hb2⟩
  have H2 := Lib.hid (H1.out.next hb2)
  clear hb2 H1 x0 x1 x2 x3 x4 x5 x6
  have x0 := H2.out.x.c 0
  have x1 := H2.out.x.c 1
  have x2 := H2.out.x.c 2
  have x3 := H2.out.x.c 3
  have x4 := H2.out.x.c 4
  have x5 := H2.out.x.c 5
  have x6 := H2.out.x.c 6
  simp at x0 x1 x2 x3 x4 x5 x6
  have y0 := H2.out.y.c 0
  have y1 := H2.out.y.c 1
  simp at y0 y1
  have l0 := H2.out.x.lt
  have l1 := H2.out.y.lt
  obtain ⟨w3, hw3⟩ : ∃ w3, w2.alloc (.cells (tc u r A n c) 28) = w3 := ⟨_, rfl⟩
  have H3 := Lib.hid (H2.out.next (hw3 ▸ alloc_ w2 (.cells (tc u r A n c) 28)))
  have HW3 := Lib.hid hw3
  clear hw3
  go_wp2_with fail
  rw [HW3.out]
  clear HW3 H2 l0 l1 x0 x1 x2 x3 x4 x5 x6 y0 y1
  go_wp2_with fail
  refine ((C2 _ H3.out.b).out).mono ?_
  rintro e w4 ⟨rfl, hb4⟩
  have H4 := Lib.hid (H3.out.next hb4)
  clear hb4 H3 
  have x0 := H4.out.x.c 0
  have x1 := H4.out.x.c 1
  simp at x0 x1
  go_wp2
  go_ret
  exact ⟨rfl, H4.out.b⟩

set_option maxRecDepth 100000 in
set_option maxHeartbeats 4000000 in
theorem way_n3 (w : World) (s : Sp) (r : Ri) (A : Option Addr) (n c : Nat) (ls : List Co) (g : GivenC w A n c ls) (u : Sp) (h1 : ¬ 50 < n) (C : ∀ W : World, Below w.heap.size w W → Hid (Calls Try.prog 13 #[tg s r A n c] W (Yes W true))) (t3 : decide (1 ≤ u.1) = true) (t4 : decide (u.2 ≤ 292195) = true) (t5 : decide (u.1 < u.2) = false) (C2 : ∀ W : World, Below w.heap.size w W → Hid (Calls Try.prog 13 #[tg u r A n c] W (Yes W false))) (d : Int) (e1 : wrap64 (s.2 - s.1) = d) (e2 : IntKind.i64.wrap (s.2 - s.1) = d) (p1 : decide (1 ≤ d) = true) (p2 : decide (d ≤ 1100) = true) : Calls Try.prog 6 #[tg s r A n c, sg u] w (Yes w true) := by
  have t1 : decide (50 < n) = false := decide_eq_false h1
  have t1' : decide (50 < (n : Int)) = false := decide_eq_false (by omega)
  obtain ⟨W, hW⟩ : ∃ W, ((w.alloc (.cells (tc s r A n c) 28)).alloc (.cells (sc u) 23)) = W := ⟨_, rfl⟩
  have H0 := Lib.hid (show TD w W s r A n c u by rw [← hW]; exact TD.start w s r A n c u)
  have HW := Lib.hid hW
  clear hW
  go_enter Try.func6, Try.ntmps6
  go_wp2_with fail
  rw [HW.out]
  clear HW
  refine (awake_ _).mono ?_
  rintro e w1 ⟨rfl, hb1⟩
  have H1 := Lib.hid (H0.out.next hb1)
  clear hb1 H0
  have x0 := H1.out.x.c 0
  have x1 := H1.out.x.c 1
  have x2 := H1.out.x.c 2
  have x3 := H1.out.x.c 3
  have x4 := H1.out.x.c 4
  have x5 := H1.out.x.c 5
  have x6 := H1.out.x.c 6
  simp at x0 x1 x2 x3 x4 x5 x6
  go_wp2_with fail
  refine ((C _ H1.out.b).out).mono ?_
  rintro e w2 ⟨rfl, hb2⟩
  have H2 := Lib.hid (H1.out.next hb2)
  clear hb2 H1 x0 x1 x2 x3 x4 x5 x6
  have x0 := H2.out.x.c 0
  have x1 := H2.out.x.c 1
  have x2 := H2.out.x.c 2
  have x3 := H2.out.x.c 3
  have x4 := H2.out.x.c 4
  have x5 := H2.out.x.c 5
  have x6 := H2.out.x.c 6
  simp at x0 x1 x2 x3 x4 x5 x6
  have y0 := H2.out.y.c 0
  have y1 := H2.out.y.c 1
  simp at y0 y1
  have l0 := H2.out.x.lt
  have l1 := H2.out.y.lt
  obtain ⟨w3, hw3⟩ : ∃ w3, w2.alloc (.cells (tc u r A n c) 28) = w3 := ⟨_, rfl⟩
  have H3 := Lib.hid (H2.out.next (hw3 ▸ alloc_ w2 (.cells (tc u r A n c) 28)))
  have HW3 := Lib.hid hw3
  clear hw3
  go_wp2_with fail
  rw [HW3.out]
  clear HW3 H2 l0 l1 x0 x1 x2 x3 x4 x5 x6 y0 y1
  go_wp2_with fail
  refine ((C2 _ H3.out.b).out).mono ?_
  rintro e w4 ⟨rfl, hb4⟩
  have H4 := Lib.hid (H3.out.next hb4)
  clear hb4 H3 
  have x0 := H4.out.x.c 0
  have x1 := H4.out.x.c 1
  simp at x0 x1
  go_wp2
  go_ret
  exact ⟨rfl, H4.out.b⟩

theorem walk {w : World} (s : Sp) (r : Ri) (A : Option Addr) (n c : Nat) (ls : List Co) (g : GivenC w A n c ls) (u : Sp) : Calls Try.prog 6 #[tg s r A n c, sg u] w (Yes w true) := by
  by_cases h1 : 50 < n
  · exact way_far w s r A n c ls g u h1
  have C : ∀ W : World, Below w.heap.size w W → Hid (Calls Try.prog 13 #[tg s r A n c] W (Yes W (te s r ls))) := fun W h => Lib.hid (right_ s r A n c ls W (g.r.below h) g.m)
  have C2 : ∀ W : World, Below w.heap.size w W → Hid (Calls Try.prog 13 #[tg u r A n c] W (Yes W (te u r ls))) := fun W h => Lib.hid (right_ u r A n c ls W (g.r.below h) g.m)
  cases ht : te s r ls
  · rw [ht] at C
    exact way_no w s r A n c ls g u h1 C
  rw [ht] at C
  rw [te_span ht] at C2
  obtain ⟨⟨k1, k2, k3, k4⟩, _, _⟩ := te_iff.1 ht
  have e1 : wrap64 (s.2 - s.1) = s.2 - s.1 := IntWalk.wrap64_in _ ⟨by omega, by omega⟩
  have e2 : IntKind.i64.wrap (s.2 - s.1) = s.2 - s.1 := (IntWalk.i64_left _).trans e1
  have p1 : decide (1 ≤ s.2 - s.1) = true := decide_eq_true (by omega)
  have p2 : decide (s.2 - s.1 ≤ 1100) = true := decide_eq_true (by omega)
  by_cases h3 : 1 ≤ u.1
  · by_cases h4 : u.2 ≤ 292195
    · by_cases h5 : u.1 < u.2
      · have e3 : wrap64 (u.2 - u.1) = u.2 - u.1 := IntWalk.wrap64_in _ ⟨by omega, by omega⟩
        have e4 : IntKind.i64.wrap (u.2 - u.1) = u.2 - u.1 := (IntWalk.i64_left _).trans e3
        have e : spn u = decide (u.2 - u.1 ≤ 1100) := decide_eq_decide.2 ⟨fun h => h.2.2.2, fun h => ⟨h3, h5, h4, h⟩⟩
        rw [e] at C2
        exact way_yes w s r A n c ls g u h1 C (decide_eq_true h3) (decide_eq_true h4) (decide_eq_true h5) _ e3 e4 _ rfl C2 _ e1 e2 p1 p2
      · rw [show spn u = false from decide_eq_false (by omega)] at C2
        exact way_n3 w s r A n c ls g u h1 C (decide_eq_true h3) (decide_eq_true h4) (decide_eq_false h5) C2 _ e1 e2 p1 p2
    · rw [show spn u = false from decide_eq_false (by omega)] at C2
      exact way_n2 w s r A n c ls g u h1 C (decide_eq_true h3) (decide_eq_false h4) C2 _ e1 e2 p1 p2
  · rw [show spn u = false from decide_eq_false (by omega)] at C2
    exact way_n1 w s r A n c ls g u h1 C (decide_eq_false h3) C2 _ e1 e2 p1 p2

set_option maxRecDepth 100000 in
theorem lifted (os : Os) (started : os.Started) (H : Type) (enc : TypeId × Value → H) :
    ReturnsInHanded {} Try.checked os 6 .any (Rows.termsDaysSpec.pre6 enc Try.prog Try.f6 Rows.termsDaysRow.domain false) (Rows.termsDaysSpec.post enc Try.prog Try.f6 false true false false) := by
  refine returnsInHanded_of_change (C := Try.checked) Tm.own started (by kernel_rfl) Try.func6
    (ChangeSpec.witness6 (enc := enc) (C := Try.checked) false ⟨#[], #[.agg #[.int .i64 0, .int .i64 0, .int .i64 0, .int .i64 0, .int .i64 0, .int .i64 0, .slice none 0 0], .agg #[.int .i64 0, .int .i64 0]], []⟩ 8 (by kernel_rfl) (by kernel_rfl) (by kernel_rfl) (by kernel_rfl)) ?_
  intro W base args ds gs before hval0 hW hcnd _
  have hval : ∀ (j : Nat) t v, Try.f6.params[j]? = some t → args[j]? = some v → Value.okWide Try.prog W .any base t v := hval0
  have hW' := hW
  obtain ⟨p, q, hA0, hV, rfl, hfz, hnd⟩ := hW
  have hA : DataW.TrodAll enc Try.prog W 0 (fun _ => true) true Try.f6.params.toList args.toList ds p := hA0
  rw [Try.params6] at hA hval
  obtain ⟨v0, vs0, d0, ds0, p0, q0, hargs, rfl, rfl, h0, r0⟩ := trodAll_cons hA
  obtain ⟨v1, vs1, d1, ds1, p1, q1, rfl, rfl, rfl, h1, r1⟩ := trodAll_cons r0
  obtain ⟨rfl, rfl, rfl⟩ := trodAll_nil r1
  obtain rfl : args = #[v0, v1] := by cases args; simp_all
  obtain ⟨rfl, rfl⟩ := trodVars_none hV
  have k0 := h0
  have lt0 : ∀ x ∈ p0, x.block < W.heap.size := by obtain ⟨m, hm⟩ := k0; exact DataW.trod_lt m _ _ _ hm
  obtain ⟨s0, x0, A0, n0, e0, l0, rfl, g0⟩ := Tm.open_terms (hval 0 28 v0 rfl rfl) h0
  have k1 := h1
  have lt1 : ∀ x ∈ p1, x.block < W.heap.size := by obtain ⟨m, hm⟩ := k1; exact DataW.trod_lt m _ _ _ hm
  obtain ⟨s1, rfl⟩ := Tm.open_span (hval 1 23 v1 rfl rfl) h1
  clear hA0 hval0
  refine (walk s0 x0 A0 n0 e0 l0 g0 s1).mono fun e W' ⟨he, bel⟩ => ?_
  subst he
  exact ⟨_, rfl, _, _, _, [], _, [], hW', trodAll_mk1 (shut_bool Try.underlying4 _), (trodAll_cons_mk (Below.trod Tm.laidOut (by kernel_rfl) (of_decide_eq_true (by kernel_rfl)) k0 bel lt0) (trodAll_cons_mk (Below.trod Tm.laidOut (by kernel_rfl) (of_decide_eq_true (by kernel_rfl)) k1 bel lt1) trodAll_mk0)), rfl, bel.frame _, fun h => by cases h⟩

theorem over : Rows.termsDaysRow.holds Try.pinned (OpenSpec.ofChange Rows.termsDaysSpec) :=
  OpenClaim.holds_of_wide 6 Try.f6 rfl rfl rfl rfl rfl rfl rfl ⟨rfl, rfl, rfl, rfl, rfl⟩ rfl rfl rfl rfl rfl (by kernel_rfl) Try.func6 (by kernel_rfl)
    (of_decide_eq_true (by kernel_rfl)) (by unfold Func.isWrapper; first | (rw [if_pos (by decide +kernel)]; kernel_rfl) | (rw [if_neg (by decide +kernel)]; exact ⟨rfl, rfl⟩))
    (fun os started H enc _ => lifted os started H enc)

theorem proved : Rows.TermsDaysSaid := over
end Go.Proofs.Ytaadhageloiiaaa.termsDays
