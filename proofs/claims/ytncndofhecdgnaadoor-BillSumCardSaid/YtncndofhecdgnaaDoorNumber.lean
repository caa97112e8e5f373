/-
  package day: Number, Of, Year, First. Conditions: those of each theorem (the table of months reads as it is laid).
-/
import Derived.Test.YtncndofhecdgnaaDoorCivil
namespace Go.Proofs.YtncndofhecdgnaaDoor
open Go.RowKit Cal
namespace Day
set_option linter.unusedVariables false

set_option maxHeartbeats 2000000 in
theorem number (y m d : Int) (w : World) (hT : Tab w) (hv : vld y m d = true) :
    Calls Tryd.prog 38 #[.agg #[.int .i64 y, .int .i64 m, .int .i64 d]] w fun e w' => e = .returned (.int .i64 (da y + cm y m + d)) ∧ Below w.heap.size w w' := by
  obtain ⟨y1, y2, m1, m2, d1, d2⟩ := vld_iff.1 hv
  have hl := ml_bd y m
  have hl1 := da_lo y1
  have hl2 := da_hi y1
  have cb := cm_bd (y := y) m1 (by omega : m ≤ 13)
  have es : IntKind.i64.wrap (da y + d) = da y + d := IntWalk.i64_in _ (by omega)
  have HT := Lib.hid hT
  have hT0 := hT.1
  clear hT hv
  go_enter Tryd.func38, Tryd.ntmps38
  go_wp2
  go_quiet ((go_at_call 48; exact still (daysAhead y _ y1 (by omega))))
  clear es
  go_wp2
  go_loop [3, 4, 14] (fun s _ k => ∃ z : Nat, (z : Int) < m ∧ k = .int .i64 z ∧ s = .int .i64 (da y + cm y (z + 1) + d)) (fun _ _ k => (m - intOf k).toNat)
  case atStart => exact ⟨0, by omega, rfl, by simp [cm]⟩
  case round =>
    obtain ⟨z, z2, rfl, rfl⟩ := hrel
    have cz := cm_bd (y := y) (m := z + 1) (by omega) (by omega)
    have lz := ml_bd y (z + 1)
    by_cases hc : (z : Int) < m - 1
    · have cs := Lib.hid (cm_succ (y := y) (m := z + 1) (by omega) (by omega))
      go_wp2_with (go_at_call 39; refine (monthLength y (z + 1) _ ((HT.out.alloc _).drewN _) (by omega) (by omega)).mono ?_; rintro e w' ⟨rfl, rfl⟩)
      go_round
      case rel => exact ⟨z + 1, by omega, by go_num, by rw [show ((z + 1 : Nat) : Int) + 1 = ((z : Int) + 1) + 1 by omega, cs.out]; go_num⟩
      case measure => simp [intOf]; omega
    · have ez : (z : Int) + 1 = m := by omega
      go_wp2
      go_ret
      exact ⟨rfl, below_drewN ((Below.refl _ _).alloc (Nat.le_refl _) _) _⟩

end Day
end Go.Proofs.YtncndofhecdgnaaDoor
