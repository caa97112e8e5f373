/-
  Same, Few and In of the document. Conditions: those of each theorem.
-/
import Derived.Test.YtngpcabengmoiaaRight
namespace Go.Proofs.Ytngpcabengmoiaa
open Go.RowKit St
namespace Stp
set_option linter.unusedVariables false

set_option maxRecDepth 100000 in
set_option maxHeartbeats 2000000 in
/-- Two steps that read alike are one. -/
theorem same (A : Option Addr) (n c : Nat) (V : Option Addr) (m d : Nat) (A2 : Option Addr) (c2 : Nat) (V2 : Option Addr) (d2 B : Nat) (xs vs : List Int) (w : World) (hB : B ≤ w.heap.size) (h1 : Sx w B A n V m xs vs) (h2 : Sx w B A2 n V2 m xs vs) (hn : n ≤ 1000000) (hm : m ≤ 1000000) :
    Calls Try.prog 9 #[sg A n c V m d, sg A2 n c2 V2 m d2] w fun e w' => e = .returned (.bool true) ∧ Below w.heap.size w w' := by
  have hb0 : Below w.heap.size w ((w.alloc (.cells #[.slice A n c, .slice V m d] 24)).alloc (.cells #[.slice A2 n c2, .slice V2 m d2] 24)) := ((Below.refl _ _).alloc (Nat.le_refl _) _).alloc (by simp) _
  have H1 := Lib.hid (h1.below hb0 hB)
  have H2 := Lib.hid (h2.below hb0 hB)
  have HB := Lib.hid hb0
  clear h1 h2 hb0
  go_enter Try.func9, Try.ntmps9
  go_wp2
  go_loopw [5] (fun i w' => ∃ k nd : Nat, k ≤ n ∧ i = .int .i64 (k : Int) ∧ w' = ((w.alloc (.cells #[.slice A n c, .slice V m d] 24)).alloc (.cells #[.slice A2 n c2, .slice V2 m d2] 24)).drewN nd) (fun i _ => n - (intOf i).toNat)
  case atStart => exact ⟨0, 0, Nat.zero_le _, rfl, rfl⟩
  case round =>
    obtain ⟨k, nd, hk, rfl, rfl⟩ := hrel
    by_cases hlt : k < n
    · obtain ⟨ad, x, rfl, _, hx, hc⟩ := H1.out.a.get hlt
      obtain ⟨a2, y, rfl, _, hy, hc2⟩ := H2.out.a.get hlt
      obtain rfl : x = y := by rw [hx] at hy; simpa using hy
      have hlt2 : (k : Int) < (n : Int) := by omega
      clear hx hy
      go_wp2
      go_quiet (fail)
      go_wp2
      go_roundw
      case rel => exact ⟨k + 1, _, by omega, by go_num, rfl⟩
      case measure => simp [intOf]; omega
    · go_wp2
      go_loopw [6] (fun i w' => ∃ k nd : Nat, k ≤ m ∧ i = .int .i64 (k : Int) ∧ w' = ((w.alloc (.cells #[.slice A n c, .slice V m d] 24)).alloc (.cells #[.slice A2 n c2, .slice V2 m d2] 24)).drewN nd) (fun i _ => m - (intOf i).toNat)
      case atStart => exact ⟨0, nd, Nat.zero_le _, rfl, rfl⟩
      case round =>
        obtain ⟨j, ne, hj, rfl, rfl⟩ := hrel
        by_cases hlt2 : j < m
        · obtain ⟨ad, x, rfl, _, hx, hc⟩ := H1.out.v.get hlt2
          obtain ⟨a2, y, rfl, _, hy, hc2⟩ := H2.out.v.get hlt2
          obtain rfl : x = y := by rw [hx] at hy; simpa using hy
          have hlt3 : (j : Int) < (m : Int) := by omega
          clear hx hy
          go_wp2
          go_quiet (fail)
          go_wp2
          go_roundw
          case rel => exact ⟨j + 1, _, by omega, by go_num, rfl⟩
          case measure => simp [intOf]; omega
        · go_wp2
          go_ret
          exact ⟨rfl, below_drewN HB.out _⟩

set_option maxHeartbeats 1000000 in
theorem few (A : Option Addr) (n c : Nat) (V : Option Addr) (m d : Nat) (w : World) (hn : n ≤ 9223372036854775807) (hm : m ≤ 9223372036854775807) :
    Calls Try.prog 6 #[sg A n c V m d] w fun e w' => e = .returned (.bool (decide (n ≤ 100) && decide (m ≤ 100))) ∧ Below w.heap.size w w' := by
  by_cases h1 : n ≤ 100
  · have t1 : decide (n ≤ 100) = true := by simpa using h1
    have t2 : decide ((n : Int) ≤ 100) = true := by simp; omega
    by_cases h2 : m ≤ 100
    · have t3 : decide (m ≤ 100) = true := by simpa using h2
      have t4 : decide ((m : Int) ≤ 100) = true := by simp; omega
      rw [t1, t3]
      go_enter Try.func6, Try.ntmps6
      go_wp2
      go_ret
      exact ⟨rfl, (Below.refl _ _).alloc (Nat.le_refl _) _⟩
    · have t3 : decide (m ≤ 100) = false := by simpa using h2
      have t4 : decide ((m : Int) ≤ 100) = false := by simp; omega
      rw [t1, t3]
      go_enter Try.func6, Try.ntmps6
      go_wp2
      go_ret
      exact ⟨rfl, (Below.refl _ _).alloc (Nat.le_refl _) _⟩
  · have t1 : decide (n ≤ 100) = false := by simpa using h1
    have t2 : decide ((n : Int) ≤ 100) = false := by simp; omega
    rw [t1, Bool.false_and]
    go_enter Try.func6, Try.ntmps6
    go_wp2
    go_ret
    exact ⟨rfl, (Below.refl _ _).alloc (Nat.le_refl _) _⟩

end Stp
end Go.Proofs.Ytngpcabengmoiaa
