/-
  few of the laws. Conditions: those of each theorem.
-/
import Derived.Test.YtinhhphnbbdoeaaRYear
namespace Go.Proofs.Ytinhhphnbbdoeaa
open Go.RowKit Ba Tf Cv Qm
namespace Qo
set_option linter.unusedVariables false

def fw (r : Rw) (n : Nat) : Bool := decide (r.la + r.lz + r.lp ≤ 400) && decide (n ≤ 50)
theorem fw_yes {r : Rw} {n : Nat} (h : fw r n = true) : r.la + r.lz + r.lp ≤ 400 ∧ n ≤ 50 := by
  unfold fw at h
  rw [Bool.and_eq_true, decide_eq_true_eq, decide_eq_true_eq] at h
  exact h
set_option maxRecDepth 100000 in
set_option maxHeartbeats 2000000 in
theorem few_ (r : Rw) (A : Option Addr) (n c : Nat) (w : World) (S : Lo r) (hn : n ≤ maxLen) : Calls Try.prog 9 #[vg r, .slice A n c] w (Yes w (fw r n)) := by
  unfold maxLen at hn
  have s1 := S.a
  have s2 := S.z
  have s3 := S.p
  have HA := Lib.hid (alloc_ w (.cells (vc r) 26))
  obtain ⟨s, hs⟩ : ∃ s, r.la + r.lz + r.lp = s := ⟨_, rfl⟩
  obtain ⟨t, ht⟩ : ∃ t, r.la + r.lz = t := ⟨_, rfl⟩
  have e1 : (r.la : Int) + (r.lz : Int) = (t : Int) := by omega
  have e2 : (t : Int) + (r.lp : Int) = (s : Int) := by omega
  have b1 : (t : Int) ≤ 1000000000000000 := by omega
  have b2 : (s : Int) ≤ 1000000000000000 := by omega
  unfold fw
  rw [hs]
  clear S hs ht
  by_cases h1 : s ≤ 400
  · have t1 : decide ((s : Int) ≤ 400) = true := decide_eq_true (by omega)
    have t1' : decide (s ≤ 400) = true := decide_eq_true h1
    rw [t1']
    by_cases h2 : n ≤ 50
    · have t2 : decide ((n : Int) ≤ 50) = true := decide_eq_true (by omega)
      have t2' : decide (n ≤ 50) = true := decide_eq_true h2
      rw [t2']
      clear h1 h2
      go_enter Try.func9, Try.ntmps9
      go_wp2
      go_ret
      exact ⟨rfl, HA.out⟩
    · have t2 : decide ((n : Int) ≤ 50) = false := decide_eq_false (by omega)
      have t2' : decide (n ≤ 50) = false := decide_eq_false h2
      rw [t2']
      clear h1 h2
      go_enter Try.func9, Try.ntmps9
      go_wp2
      go_ret
      exact ⟨rfl, HA.out⟩
  · have t1 : decide ((s : Int) ≤ 400) = false := decide_eq_false (by omega)
    have t1' : decide (s ≤ 400) = false := decide_eq_false h1
    rw [t1']
    clear h1
    go_enter Try.func9, Try.ntmps9
    go_wp2
    go_ret
    exact ⟨rfl, HA.out⟩
end Qo
end Go.Proofs.Ytinhhphnbbdoeaa
