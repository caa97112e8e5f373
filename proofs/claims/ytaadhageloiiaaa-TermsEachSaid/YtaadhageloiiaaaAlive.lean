/-
  The laws' own awake: it answers true. Conditions: none.
-/
import Derived.Test.YtaadhageloiiaaaFind
import Derived.Test.YtaadhageloiiaaaCov
namespace Go.Proofs.Ytaadhageloiiaaa
open Go.RowKit Ba Cv Sp Te
namespace Tm
set_option linter.unusedVariables false

abbrev coA : Co := ⟨1, 5, 5, 0, 1⟩
abbrev coB : Co := ⟨3, 7, 7, 0, 1⟩
abbrev two : Array Value := #[.int .i64 1, .int .i64 5, .int .i64 5, .int .i64 0, .int .i64 1, .int .i64 3, .int .i64 7, .int .i64 7, .int .i64 0, .int .i64 1]
theorem k1 : fnd 3 [coA, coB] = some coB := (fnd_next (by simp)).trans (fnd_yes rfl)
theorem k2 : fnd 2 [coA, coB] = none := (fnd_next (by simp)).trans (fnd_next (by simp))
theorem k3 : cvr [coA, coB] = true := by decide +kernel
theorem k4 : te (1, 366) ⟨0, 1, 0, 0⟩ [coA, coB] = true := by decide +kernel
theorem cvs_two {w : World} {b : Nat} (h : Bx w b 31 two) : Cvs w (· < w.heap.size) (some ⟨b, 0, none⟩) 2 [coA, coB] := by
  refine ⟨rfl, fun _ => ⟨_, rfl, h.lt, fun j c hj => ?_⟩⟩
  match j, hj with
  | 0, hj => simp at hj; subst hj; rw [Addr.add_lit]; exact ⟨h.c 0, h.c 1, h.c 2, h.c 3, h.c 4⟩
  | 1, hj => simp at hj; subst hj; rw [Addr.add_lit]; exact ⟨h.c 5, h.c 6, h.c 7, h.c 8, h.c 9⟩

/-- The row of two covers. -/
structure AW (w W : World) : Prop where
  b : Below w.heap.size w W
  x : Bx W w.heap.size 31 two
theorem AW.next {w W W' : World} (h : AW w W) (hb : Below W.heap.size W W') : AW w W' := ⟨h.b.trans (hb.mono h.b.size), h.x.keep hb⟩
theorem AW.start (w : World) : AW w (w.alloc (.cells two 31)) := ⟨alloc_ _ _, Bx.new _ _ _⟩
theorem AW.find {w W : World} (h : AW w W) (p : Int) (o : Option Co) (e : fnd p [coA, coB] = o) : Calls Try.prog 9 #[.slice (some ⟨w.heap.size, 0, none⟩) 2 2, .int .i64 p] W (Found W o) := by
  have := find_ _ 2 2 _ p W (cvs_two h.x) (by unfold maxLen; omega)
  rwa [e] at this
theorem AW.covers {w W : World} (h : AW w W) : Calls Try.prog 11 #[.slice (some ⟨w.heap.size, 0, none⟩) 2 2] W (Yes W true) := by
  have := covers_ _ 2 2 _ W (cvs_two h.x) (by unfold maxLen; omega)
  rwa [k3] at this
theorem AW.right {w W : World} (h : AW w W) : Calls Try.prog 13 #[tg (1, 366) ⟨0, 1, 0, 0⟩ (some ⟨w.heap.size, 0, none⟩) 2 2] W (Yes W true) := by
  have := right_ (1, 366) ⟨0, 1, 0, 0⟩ _ 2 2 _ W (cvs_two h.x) (by unfold maxLen; omega)
  rwa [k4] at this

set_option maxRecDepth 100000 in
set_option maxHeartbeats 4000000 in
theorem awake_ (w : World) : Calls Try.prog 8 #[] w (Yes w true) := by
  obtain ⟨W0, hW⟩ : ∃ W0, w.alloc (.cells two 31) = W0 := ⟨_, rfl⟩
  have H0 := Lib.hid (show AW w W0 by rw [← hW]; exact AW.start w)
  have HW := Lib.hid hW
  clear hW
  go_enter Try.func8, Try.ntmps8
  go_wp2_with fail
  rw [HW.out]
  clear HW
  refine (H0.out.find 3 _ k1).mono ?_
  rintro e w1 ⟨rfl, hb1⟩
  have H1 := Lib.hid (H0.out.next hb1)
  clear hb1 H0
  go_wp2_with fail
  have H2 := Lib.hid (H1.out.next (alloc_ w1 (.cells (cc coB) 31)))
  have B2 := Lib.hid (Bx.new w1 31 (cc coB))
  refine (H2.out.find 2 _ k2).mono ?_
  rintro e w2 ⟨rfl, hb2⟩
  have H3 := Lib.hid (H2.out.next hb2)
  have B3 := Lib.hid (B2.out.keep hb2)
  clear hb2 H2 H1 B2
  have H4 := Lib.hid (H3.out.next (alloc_ w2 (.cells (cc zco) 31)))
  have c1 := B3.out.c 1
  have hl := B3.out.lt
  simp at c1
  clear B3
  go_wp2_with fail
  refine H4.out.covers.mono ?_
  rintro e w3 ⟨rfl, hb3⟩
  have H5 := Lib.hid (H4.out.next hb3)
  clear hb3 H4 H3 c1 hl
  go_wp2_with fail
  refine H5.out.right.mono ?_
  rintro e w4 ⟨rfl, hb4⟩
  have H6 := Lib.hid (H5.out.next hb4)
  clear hb4 H5
  go_wp2
  go_ret
  exact ⟨rfl, H6.out.b⟩
end Tm
end Go.Proofs.Ytaadhageloiiaaa
