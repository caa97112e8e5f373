/-
  The document's own answers of layer 2: Leap, Month, year, Number, Of, First, In. Conditions: those of each theorem.
-/
import Derived.Test.YtncndofhecdgnaaDoorShift
namespace Go.Proofs.YtncndofhecdgnaaDoor
open Go.RowKit Cal
namespace Day
set_option linter.unusedVariables false

theorem ret_two {k k' : IntKind} {a b c d : Int} (h : a = b) (h' : c = d) : Ending.returned (.tuple #[.int k a, .int k' c]) = .returned (.tuple #[.int k b, .int k' d]) := by rw [h, h']

set_option maxHeartbeats 1000000 in
theorem rleap (y : Int) (w : World) : Calls Tryd.prog 55 #[.int .i64 y] w fun e w' => e = .returned (.bool (lp y)) ∧ w = w' := by
  by_cases h0 : y % 400 = 0
  · rw [(lp_iff y).2 (by omega)]
    have t0 : (y.tmod 400 == 0) = true := by simpa using tm0 h0
    clear h0
    go_enter Tryd.func55, Tryd.ntmps55
    go_wp2
    go_ret
    exact ⟨rfl, rfl⟩
  · have t0 : (y.tmod 400 == 0) = false := by simpa using tm1 h0
    by_cases h4 : y % 4 = 0
    · have t4 : (y.tmod 4 == 0) = true := by simpa using tm0 h4
      by_cases h1 : y % 100 = 0
      · rw [(lp_not y).2 (by omega)]
        have t1 : (y.tmod 100 != 0) = false := by simpa using tm0 h1
        clear h4 h1 h0
        go_enter Tryd.func55, Tryd.ntmps55
        go_wp2
        go_ret
        exact ⟨rfl, rfl⟩
      · rw [(lp_iff y).2 (by omega)]
        have t1 : (y.tmod 100 != 0) = true := by simpa using tm1 h1
        clear h4 h1 h0
        go_enter Tryd.func55, Tryd.ntmps55
        go_wp2
        go_ret
        exact ⟨rfl, rfl⟩
    · rw [(lp_not y).2 (by omega)]
      have t4 : (y.tmod 4 == 0) = false := by simpa using tm1 h4
      clear h4 h0
      go_enter Tryd.func55, Tryd.ntmps55
      go_wp2
      go_ret
      exact ⟨rfl, rfl⟩

set_option maxHeartbeats 1000000 in
theorem rmonth (y m : Int) (w : World) : Calls Tryd.prog 45 #[.int .i64 y, .int .i64 m] w fun e w' => e = .returned (.int .i64 (ml y m)) ∧ w = w' := by
  by_cases h2 : m = 2
  · subst h2
    have hL := Lib.hid (rleap y w)
    cases hl : lp y
    · have e : ml y 2 = 28 := by simp [ml, hl]
      rw [e]
      rw [hl] at hL
      clear hl e
      go_enter Tryd.func45, Tryd.ntmps45
      go_wp2_with (go_at_call 55; refine hL.out.mono ?_; rintro e w' ⟨rfl, rfl⟩)
      go_ret
      exact ⟨rfl, rfl⟩
    · have e : ml y 2 = 29 := by simp [ml, hl]
      rw [e]
      rw [hl] at hL
      clear hl e
      go_enter Tryd.func45, Tryd.ntmps45
      go_wp2_with (go_at_call 55; refine hL.out.mono ?_; rintro e w' ⟨rfl, rfl⟩)
      go_ret
      exact ⟨rfl, rfl⟩
  · by_cases h4 : m = 4 ∨ m = 6 ∨ m = 9 ∨ m = 11
    · have e : ml y m = 30 := by unfold ml; rw [if_neg h2, if_pos h4]
      rw [e]
      clear e h2
      rcases h4 with rfl | rfl | rfl | rfl
      all_goals
        go_enter Tryd.func45, Tryd.ntmps45
        go_wp2
        go_ret
        exact ⟨rfl, rfl⟩
    · have e : ml y m = 31 := by unfold ml; rw [if_neg h2, if_neg h4]
      rw [e]
      have t2 : (m == 2) = false := by simpa using h2
      have t4 : (m == 4) = false := by simp; omega
      have t6 : (m == 6) = false := by simp; omega
      have t9 : (m == 9) = false := by simp; omega
      have t11 : (m == 11) = false := by simp; omega
      clear e h2 h4
      go_enter Tryd.func45, Tryd.ntmps45
      go_wp2
      go_ret
      exact ⟨rfl, rfl⟩

theorem ryear (y : Int) (w : World) : Calls Tryd.prog 54 #[.int .i64 y] w fun e w' => e = .returned (.int .i64 (yl y)) ∧ w = w' := by
  have hL := Lib.hid (rleap y w)
  unfold yl
  cases hl : lp y
  all_goals
    rw [hl] at hL
    clear hl
    go_enter Tryd.func54, Tryd.ntmps54
    go_wp2_with (go_at_call 55; refine hL.out.mono ?_; rintro e w' ⟨rfl, rfl⟩)
    go_ret
    exact ⟨rfl, rfl⟩

theorem rn1 (y m d : Int) (w : World) (h : y < 1601) :
    Calls Tryd.prog 46 #[.agg #[.int .i64 y, .int .i64 m, .int .i64 d]] w fun e w' => e = .returned (.tuple #[.int .i64 0, .int .i64 3]) ∧ Below w.heap.size w w' := by
  go_enter Tryd.func46, Tryd.ntmps46
  go_wp2
  go_ret2
  exact ⟨rfl, (Below.refl _ _).alloc (Nat.le_refl _) _⟩
theorem rn2 (y m d : Int) (w : World) (h1 : 1601 ≤ y) (h : 2400 < y) :
    Calls Tryd.prog 46 #[.agg #[.int .i64 y, .int .i64 m, .int .i64 d]] w fun e w' => e = .returned (.tuple #[.int .i64 0, .int .i64 3]) ∧ Below w.heap.size w w' := by
  go_enter Tryd.func46, Tryd.ntmps46
  go_wp2
  go_ret2
  exact ⟨rfl, (Below.refl _ _).alloc (Nat.le_refl _) _⟩
theorem rn3 (y m d : Int) (w : World) (h1 : 1601 ≤ y) (h2 : y ≤ 2400) (h : m < 1) :
    Calls Tryd.prog 46 #[.agg #[.int .i64 y, .int .i64 m, .int .i64 d]] w fun e w' => e = .returned (.tuple #[.int .i64 0, .int .i64 3]) ∧ Below w.heap.size w w' := by
  go_enter Tryd.func46, Tryd.ntmps46
  go_wp2
  go_ret2
  exact ⟨rfl, (Below.refl _ _).alloc (Nat.le_refl _) _⟩
theorem rn4 (y m d : Int) (w : World) (h1 : 1601 ≤ y) (h2 : y ≤ 2400) (h3 : 1 ≤ m) (h : 12 < m) :
    Calls Tryd.prog 46 #[.agg #[.int .i64 y, .int .i64 m, .int .i64 d]] w fun e w' => e = .returned (.tuple #[.int .i64 0, .int .i64 3]) ∧ Below w.heap.size w w' := by
  go_enter Tryd.func46, Tryd.ntmps46
  go_wp2
  go_ret2
  exact ⟨rfl, (Below.refl _ _).alloc (Nat.le_refl _) _⟩
theorem rn5 (y m d : Int) (w : World) (h1 : 1601 ≤ y) (h2 : y ≤ 2400) (h3 : 1 ≤ m) (h4 : m ≤ 12) (h : d < 1) :
    Calls Tryd.prog 46 #[.agg #[.int .i64 y, .int .i64 m, .int .i64 d]] w fun e w' => e = .returned (.tuple #[.int .i64 0, .int .i64 3]) ∧ Below w.heap.size w w' := by
  go_enter Tryd.func46, Tryd.ntmps46
  go_wp2
  go_ret2
  exact ⟨rfl, (Below.refl _ _).alloc (Nat.le_refl _) _⟩
theorem rn6 (y m d : Int) (w : World) (h1 : 1601 ≤ y) (h2 : y ≤ 2400) (h3 : 1 ≤ m) (h4 : m ≤ 12) (h5 : 1 ≤ d) (h : ml y m < d) :
    Calls Tryd.prog 46 #[.agg #[.int .i64 y, .int .i64 m, .int .i64 d]] w fun e w' => e = .returned (.tuple #[.int .i64 0, .int .i64 3]) ∧ Below w.heap.size w w' := by
  have t : decide (ml y m < d) = true := by simpa using h
  go_enter Tryd.func46, Tryd.ntmps46
  go_wp2
  go_quiet ((go_at_call 45; exact still (rmonth y m _)))
  go_wp2
  go_ret2
  exact ⟨rfl, below_drewN ((Below.refl _ _).alloc (Nat.le_refl _) _) _⟩

set_option maxHeartbeats 2000000 in
set_option maxRecDepth 100000 in
theorem rn7 (y m d : Int) (w : World) (hv : vld y m d = true) :
    Calls Tryd.prog 46 #[.agg #[.int .i64 y, .int .i64 m, .int .i64 d]] w fun e w' => e = .returned (.tuple #[.int .i64 (da y + cm y m + d), .int .i64 0]) ∧ Below w.heap.size w w' := by
  obtain ⟨y1, y2, m1, m2, d1, d2⟩ := vld_iff.1 hv
  have hl := ml_bd y m
  have hl1 := da_lo y1
  have hl2 := da_hi y1
  have cb := cm_bd (y := y) m1 (by omega : m ≤ 13)
  have t : decide (ml y m < d) = false := by simpa using d2
  clear hv
  go_enter Tryd.func46, Tryd.ntmps46
  go_wp2
  go_quiet ((go_at_call 45; exact still (rmonth y m _)))
  go_wp2
  go_loop [4, 5] (fun s k => ∃ z : Int, 1601 ≤ z ∧ z ≤ y ∧ k = .int .i64 z ∧ s = .int .i64 (d + da z)) (fun _ k => (y - intOf k).toNat)
  case atStart => exact ⟨1601, by omega, by omega, rfl, by rw [da_1601]; simp⟩
  case round =>
    obtain ⟨z, z1, z2, rfl, rfl⟩ := hrel
    have dz1 := da_lo z1
    have dz2 := da_hi z1
    by_cases hc : z < y
    · have cs := Lib.hid (da_succ z)
      have hy := yl_lb z
      have hb := lb_bd z
      have yb : 365 ≤ yl z ∧ yl z ≤ 366 := by omega
      obtain ⟨yb1, yb2⟩ := yb
      clear hy hb
      go_wp2_with (go_at_call 54; refine (ryear _ _).mono ?_; rintro e w' ⟨rfl, rfl⟩)
      go_round
      case rel => exact ⟨z + 1, by omega, by omega, rfl, by rw [cs.out]; go_num⟩
      case measure => simp [intOf]; omega
    · obtain rfl : y = z := by omega
      clear hc
      go_wp2
      go_loop [4, 6] (fun s k => ∃ z : Int, 1 ≤ z ∧ z ≤ m ∧ k = .int .i64 z ∧ s = .int .i64 (d + da y + cm y z)) (fun _ k => (m - intOf k).toNat)
      case atStart => exact ⟨1, by omega, by omega, rfl, by rw [cm_1]; simp⟩
      case round =>
        obtain ⟨z, z1, z2, rfl, rfl⟩ := hrel
        have cz := cm_bd (y := y) z1 (by omega : z ≤ 13)
        have lz := ml_bd y z
        by_cases hc : z < m
        · have cs := Lib.hid (cm_succ (y := y) z1 (by omega : z ≤ 12))
          go_wp2_with (go_at_call 45; refine (rmonth _ _ _).mono ?_; rintro e w' ⟨rfl, rfl⟩)
          go_round
          case rel => exact ⟨z + 1, by omega, by omega, rfl, by rw [cs.out]; go_num⟩
          case measure => simp [intOf]; omega
        · obtain rfl : m = z := by omega
          go_wp2
          go_ret2
          exact ⟨ret_two (by omega) rfl, below_drewN ((Below.refl _ _).alloc (Nat.le_refl _) _) _⟩

theorem rnumber (y m d : Int) (w : World) :
    Calls Tryd.prog 46 #[.agg #[.int .i64 y, .int .i64 m, .int .i64 d]] w fun e w' => e = .returned (.tuple #[.int .i64 (nuV y m d), .int .i64 (nuE y m d)]) ∧ Below w.heap.size w w' := by
  cases hv : vld y m d
  · have hn := vld_not.1 hv
    rw [(nu_bad hv).1, (nu_bad hv).2]
    by_cases h1 : 1601 ≤ y
    · by_cases h2 : y ≤ 2400
      · by_cases h3 : 1 ≤ m
        · by_cases h4 : m ≤ 12
          · by_cases h5 : 1 ≤ d
            · exact rn6 y m d w h1 h2 h3 h4 h5 (by omega)
            · exact rn5 y m d w h1 h2 h3 h4 (by omega)
          · exact rn4 y m d w h1 h2 h3 (by omega)
        · exact rn3 y m d w h1 h2 (by omega)
      · exact rn2 y m d w h1 (by omega)
    · exact rn1 y m d w (by omega)
  · rw [(ymd_of_vld hv).nu.1, (ymd_of_vld hv).nu.2]
    exact rn7 y m d w hv

end Day
end Go.Proofs.YtncndofhecdgnaaDoor
