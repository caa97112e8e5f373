/-
  At of package step and of the document; Same, Few, In of the document. Conditions: those of each theorem.
-/
import Derived.Test.YtngpcabengmoiaaRRight
import Derived.Test.YtngpcabengmoiaaVal
namespace Go.Proofs.Ytngpcabengmoiaa
open Go.RowKit St
namespace Stp
set_option linter.unusedVariables false

/-- The value of any step. -/
def atv (xs vs : List Int) (x : Int) : Int := if rg xs vs = true then val 0 (xs.zip vs) x else 0
theorem atv_no {xs vs : List Int} (h : rg xs vs = false) (x : Int) : atv xs vs x = 0 := by rw [atv, if_neg (by simp [h])]
theorem atv_pairs {ps : List Pr} (h : Right ps) (x : Int) : atv (ps.map (·.1)) (ps.map (·.2)) x = val 0 ps x := by
  rw [atv, if_pos (rg_of h)]
  congr 1
  clear h
  induction ps with
  | nil => rfl
  | cons x r ih => simp at ih ⊢; simpa using ih

set_option maxHeartbeats 1000000 in
theorem at_no (A : Option Addr) (n c : Nat) (V : Option Addr) (m d : Nat) (xs vs : List Int) (x : Int) (w : World) (hS : Sx w w.heap.size A n V m xs vs) (hn : n ≤ 1000000) (h : rg xs vs = false) :
    Calls Try.prog 13 #[sg A n c V m d, .int .i64 x] w fun e w' => e = .returned (.int .i64 0) ∧ Below w.heap.size w w' := by
  have C := Lib.hid (right A n c V m d xs vs (w.alloc (.cells #[.slice A n c, .slice V m d] 24)) ((bx_ints (w1 := w) hS).wide (by simp)) hn)
  rw [h] at C
  clear h hS
  go_enter Try.func13, Try.ntmps13
  go_wp2_with fail
  refine C.out.mono ?_
  rintro e w1 ⟨rfl, hb⟩
  have HB := Lib.hid (bx1 hb).2
  clear hb
  go_wp2
  go_ret
  exact ⟨rfl, HB.out⟩

set_option maxHeartbeats 1000000 in
theorem at_yes (A : Option Addr) (n c : Nat) (V : Option Addr) (d : Nat) (ps : List Pr) (x : Int) (w : World) (hS : Sr w w.heap.size A V n ps) (hn : n ≤ 1000000) (h : Right ps) :
    Calls Try.prog 13 #[sg A n c V n d, .int .i64 x] w fun e w' => e = .returned (.int .i64 (val 0 ps x)) ∧ Below w.heap.size w w' := by
  have C := Lib.hid (right A n c V n d _ _ (w.alloc (.cells #[.slice A n c, .slice V n d] 24)) ((bx_ints (w1 := w) hS).wide (by simp)) hn)
  rw [rg_of h] at C
  have HS := Lib.hid hS
  have HP := Lib.hid h
  clear h hS
  go_enter Try.func13, Try.ntmps13
  go_wp2_with fail
  refine C.out.mono ?_
  rintro e w1 ⟨rfl, hb⟩
  obtain ⟨X, hB⟩ := bx1 hb
  have HB := Lib.hid hB
  have x0 := X.c0
  have x1 := X.c1
  have HB2 := Lib.hid (HB.out.alloc HB.out.size (.cells #[.slice A n c, .slice V n d] 24))
  have CV := Lib.hid (valueOf1 w1.heap.size A n c V d w.heap.size ps x _ (Bx.new w1 24 (.slice A n c) (.slice V n d)) (HS.out.below HB2.out (Nat.le_refl _)) HP.out.1 hn)
  clear hb hB X C
  go_wp2_with fail
  refine (valueOf A n c V n d w1).mono ?_
  rintro e w' ⟨rfl, rfl⟩
  go_wp2_with fail
  refine CV.out.mono ?_
  rintro e w' ⟨rfl, rfl⟩
  go_wp2
  go_ret
  exact ⟨rfl, HB2.out⟩

theorem at_ (A : Option Addr) (n c : Nat) (V : Option Addr) (m d : Nat) (xs vs : List Int) (x : Int) (w : World) (hS : Sx w w.heap.size A n V m xs vs) (hn : n ≤ 1000000) :
    Calls Try.prog 13 #[sg A n c V m d, .int .i64 x] w fun e w' => e = .returned (.int .i64 (atv xs vs x)) ∧ Below w.heap.size w w' := by
  cases h : rg xs vs
  · rw [atv_no h]; exact at_no A n c V m d xs vs x w hS hn h
  · obtain ⟨ps, hp, rfl, rfl⟩ := rg_pairs h
    obtain rfl : n = m := by rw [← hS.a.1, ← hS.v.1]; simp
    rw [atv_pairs hp]
    exact at_yes A n c V d ps x w hS hn hp

end Stp
end Go.Proofs.Ytngpcabengmoiaa
