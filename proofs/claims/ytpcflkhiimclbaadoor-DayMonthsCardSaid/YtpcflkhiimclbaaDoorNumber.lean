/-
  package day: Number, Of, Year, First. Conditions: those of each theorem (the table of months reads as it is laid).
-/
import Derived.Test.YtpcflkhiimclbaaDoorCivil
namespace Go.Proofs.YtpcflkhiimclbaaDoor
open Go.RowKit Cal
namespace Day
set_option linter.unusedVariables false

set_option maxHeartbeats 2000000 in
theorem number (y m d : Int) (w : World) (hT : Tab w) (hv : vld y m d = true) :
    Calls Tryd.prog 26 #[.agg #[.int .i64 y, .int .i64 m, .int .i64 d]] w fun e w' => e = .returned (.int .i64 (da y + cm y m + d)) ∧ Below w.heap.size w w' := by
  obtain ⟨y1, y2, m1, m2, d1, d2⟩ := vld_iff.1 hv
  have hl := ml_bd y m
  have hl1 := da_lo y1
  have hl2 := da_hi y1
  have cb := cm_bd (y := y) m1 (by omega : m ≤ 13)
  have es : IntKind.i64.wrap (da y + d) = da y + d := IntWalk.i64_in _ (by omega)
  have HT := Lib.hid hT
  have hT0 := hT.1
  clear hT hv
  go_enter Tryd.func26, Tryd.ntmps26
  go_wp2
  go_quiet ((go_at_call 32; exact still (daysAhead y _ y1 (by omega))))
  clear es
  go_wp2
  go_loop [3, 4, 14] (fun s _ k => ∃ z : Nat, (z : Int) < m ∧ k = .int .i64 z ∧ s = .int .i64 (da y + cm y (z + 1) + d)) (fun _ _ k => (m - intOf k).toNat)
  case atStart => exact ⟨0, by omega, rfl, by simp [cm]⟩
  case round =>
    obtain ⟨z, z2, rfl, rfl⟩ := hrel
    have cz := cm_bd (y := y) (m := z + 1) (by omega) (by omega)
    have lz := ml_bd y (z + 1)
    by_cases hc : (z : Int) < m - 1
    · have cs := Lib.hid (cm_succ (y := y) (m := z + 1) (by omega) (by omega))
      go_wp2_with (go_at_call 33; refine (monthLength y (z + 1) _ ((HT.out.alloc _).drewN _) (by omega) (by omega)).mono ?_; rintro e w' ⟨rfl, rfl⟩)
      go_round
      case rel => exact ⟨z + 1, by omega, by go_num, by rw [show ((z + 1 : Nat) : Int) + 1 = ((z : Int) + 1) + 1 by omega, cs.out]; go_num⟩
      case measure => simp [intOf]; omega
    · have ez : (z : Int) + 1 = m := by omega
      go_wp2
      go_ret
      exact ⟨rfl, below_drewN ((Below.refl _ _).alloc (Nat.le_refl _) _) _⟩

theorem isC1 (y m d : Int) (w : World) (h : y < 1601) :
    Calls Tryd.prog 25 #[.agg #[.int .i64 y, .int .i64 m, .int .i64 d]] w fun e w' => e = .returned (.bool false) ∧ Below w.heap.size w w' := by
  go_enter Tryd.func25, Tryd.ntmps25
  go_wp2
  go_ret
  exact ⟨rfl, (Below.refl _ _).alloc (Nat.le_refl _) _⟩

theorem isC2 (y m d : Int) (w : World) (h1 : 1601 ≤ y) (h : 2400 < y) :
    Calls Tryd.prog 25 #[.agg #[.int .i64 y, .int .i64 m, .int .i64 d]] w fun e w' => e = .returned (.bool false) ∧ Below w.heap.size w w' := by
  go_enter Tryd.func25, Tryd.ntmps25
  go_wp2
  go_ret
  exact ⟨rfl, (Below.refl _ _).alloc (Nat.le_refl _) _⟩

theorem isC3 (y m d : Int) (w : World) (h1 : 1601 ≤ y) (h2 : y ≤ 2400) (h : m < 1) :
    Calls Tryd.prog 25 #[.agg #[.int .i64 y, .int .i64 m, .int .i64 d]] w fun e w' => e = .returned (.bool false) ∧ Below w.heap.size w w' := by
  go_enter Tryd.func25, Tryd.ntmps25
  go_wp2
  go_ret
  exact ⟨rfl, (Below.refl _ _).alloc (Nat.le_refl _) _⟩

theorem isC4 (y m d : Int) (w : World) (h1 : 1601 ≤ y) (h2 : y ≤ 2400) (h3 : 1 ≤ m) (h : 12 < m) :
    Calls Tryd.prog 25 #[.agg #[.int .i64 y, .int .i64 m, .int .i64 d]] w fun e w' => e = .returned (.bool false) ∧ Below w.heap.size w w' := by
  go_enter Tryd.func25, Tryd.ntmps25
  go_wp2
  go_ret
  exact ⟨rfl, (Below.refl _ _).alloc (Nat.le_refl _) _⟩

theorem isC5 (y m d : Int) (w : World) (h1 : 1601 ≤ y) (h2 : y ≤ 2400) (h3 : 1 ≤ m) (h4 : m ≤ 12) (h : d < 1) :
    Calls Tryd.prog 25 #[.agg #[.int .i64 y, .int .i64 m, .int .i64 d]] w fun e w' => e = .returned (.bool false) ∧ Below w.heap.size w w' := by
  have t : decide (1 ≤ d) = false := by simpa using h
  go_enter Tryd.func25, Tryd.ntmps25
  go_wp2
  go_quiet (fail)
  go_wp2
  go_ret
  exact ⟨rfl, below_drewN ((Below.refl _ _).alloc (Nat.le_refl _) _) _⟩

theorem isC6 (y m d : Int) (b : Bool) (w : World) (hT : Tab w) (h1 : 1601 ≤ y) (h2 : y ≤ 2400) (h3 : 1 ≤ m) (h4 : m ≤ 12) (h5 : 1 ≤ d) (h : decide (d ≤ ml y m) = b) :
    Calls Tryd.prog 25 #[.agg #[.int .i64 y, .int .i64 m, .int .i64 d]] w fun e w' => e = .returned (.bool b) ∧ Below w.heap.size w w' := by
  have t : decide (1 ≤ d) = true := by simpa using h5
  have HT := Lib.hid hT
  clear hT
  go_enter Tryd.func25, Tryd.ntmps25
  go_wp2
  go_quiet ((go_at_call 33; exact still (monthLength y m _ ((HT.out.alloc _).drewN _) h3 h4)))
  go_wp2
  go_ret
  exact ⟨rfl, below_drewN ((Below.refl _ _).alloc (Nat.le_refl _) _) _⟩

theorem isCivil (y m d : Int) (w : World) (hT : Tab w) :
    Calls Tryd.prog 25 #[.agg #[.int .i64 y, .int .i64 m, .int .i64 d]] w fun e w' => e = .returned (.bool (vld y m d)) ∧ Below w.heap.size w w' := by
  cases hv : vld y m d
  · have hn := vld_not.1 hv
    by_cases h1 : 1601 ≤ y
    · by_cases h2 : y ≤ 2400
      · by_cases h3 : 1 ≤ m
        · by_cases h4 : m ≤ 12
          · by_cases h5 : 1 ≤ d
            · exact isC6 y m d false w hT h1 h2 h3 h4 h5 (by simp; omega)
            · exact isC5 y m d w h1 h2 h3 h4 (by omega)
          · exact isC4 y m d w h1 h2 h3 (by omega)
        · exact isC3 y m d w h1 h2 (by omega)
      · exact isC2 y m d w h1 (by omega)
    · exact isC1 y m d w (by omega)
  · obtain ⟨h1, h2, h3, h4, h5, h6⟩ := vld_iff.1 hv
    exact isC6 y m d true w hT h1 h2 h3 h4 h5 (by simpa using h6)

theorem numberOf (y m d : Int) (w : World) (hT : Tab w) :
    Calls Tryd.prog 13 #[.agg #[.int .i64 y, .int .i64 m, .int .i64 d]] w fun e w' => e = .returned (.tuple #[.int .i64 (nuV y m d), .int .i64 (nuE y m d)]) ∧ Below w.heap.size w w' := by
  have c1 := fun w hT => Lib.hid (isCivil y m d w hT)
  have HT := Lib.hid hT
  have hT0 := hT.1
  clear hT
  cases hv : vld y m d
  · rw [hv] at c1
    rw [(nu_bad hv).1, (nu_bad hv).2]
    clear hv
    go_enter Tryd.func13, Tryd.ntmps13
    go_wp2_with fail
    refine (c1 _ (HT.out.alloc _)).out.mono ?_
    rintro e w1 ⟨rfl, hb1⟩
    have B1 := Lib.hid hb1
    clear hb1
    go_wp2
    go_ret2
    exact ⟨rfl, ((Below.refl _ _).alloc (Nat.le_refl _) _).trans (B1.out.mono (by simp))⟩
  · rw [hv] at c1
    have c2 := fun w hT => Lib.hid (number y m d w hT hv)
    rw [(ymd_of_vld hv).nu.1, (ymd_of_vld hv).nu.2]
    clear hv
    go_enter Tryd.func13, Tryd.ntmps13
    go_wp2_with fail
    refine (c1 _ (HT.out.alloc _)).out.mono ?_
    rintro e w1 ⟨rfl, hb1⟩
    have B1 := Lib.hid hb1
    obtain ⟨hc, hf⟩ := bcell hb1
    clear hb1
    go_wp2_with fail
    refine (c2 _ ((HT.out.alloc _).below B1.out (by simp))).out.mono ?_
    rintro e w2 ⟨rfl, hb2⟩
    have B2 := Lib.hid hb2
    clear hb2 hc hf
    go_wp2
    go_ret2
    exact ⟨rfl, (((Below.refl _ _).alloc (Nat.le_refl _) _).trans (B1.out.mono (by simp))).trans (B2.out.mono (by have := B1.out.size; simp at this; omega))⟩

theorem of_yes (n y m d : Int) (w : World) (hT : Tab w) (h : Ymd n y m d) :
    Calls Tryd.prog 17 #[.int .i64 n] w fun e w' => e = .returned (.tuple #[.agg #[.int .i64 y, .int .i64 m, .int .i64 d], .int .i64 0]) ∧ Below w.heap.size w w' := by
  obtain ⟨n1, n2⟩ := h.day
  have c1 := fun w => Lib.hid (isDay_yes n w n1 n2)
  have c2 := fun w hT => Lib.hid (civil n y m d w hT h)
  have HT := Lib.hid hT
  clear hT h
  go_enter Tryd.func17, Tryd.ntmps17
  go_wp2_with (go_at_call 29; refine (c1 _).out.mono ?_; rintro e w' ⟨rfl, rfl⟩)
  refine (c2 _ (HT.out.alloc _)).out.mono ?_
  rintro e w1 ⟨rfl, hb1⟩
  have B1 := Lib.hid hb1
  obtain ⟨hc, hf⟩ := bcell hb1
  have hz : w.heap.size < w1.heap.size := by have := hb1.size; simp at this; omega
  clear hb1
  go_wp2
  refine bodyPost_ret (v := .tuple #[.agg #[.int .i64 y, .int .i64 m, .int .i64 d], .int .i64 0]) (by simp [results, Tryd.results17, go_sem, hc]) rfl ⟨rfl, ?_⟩
  exact (((((Below.refl _ _).alloc (Nat.le_refl _) _).trans (B1.out.mono (by simp))).setCell (Nat.le_refl _) _).setCell (Nat.le_refl _) _).setCell (Nat.le_refl _) _

theorem of_no (n : Int) (w : World) (h : n < 1 ∨ 292194 < n) :
    Calls Tryd.prog 17 #[.int .i64 n] w fun e w' => e = .returned (.tuple #[.agg #[.int .i64 0, .int .i64 0, .int .i64 0], .int .i64 3]) ∧ Below w.heap.size w w' := by
  have c1 := fun w => Lib.hid (isDay_no n w h)
  clear h
  go_enter Tryd.func17, Tryd.ntmps17
  go_wp2_with (go_at_call 29; refine (c1 _).out.mono ?_; rintro e w' ⟨rfl, rfl⟩)
  refine bodyPost_ret (v := .tuple #[.agg #[.int .i64 0, .int .i64 0, .int .i64 0], .int .i64 3]) (by simp [results, Tryd.results17, go_sem]) rfl ⟨rfl, ?_⟩
  exact (Below.refl _ _).alloc (Nat.le_refl _) _

theorem year_yes (n y m d : Int) (w : World) (h : Ymd n y m d) :
    Calls Tryd.prog 19 #[.int .i64 n] w fun e w' => e = .returned (.tuple #[.int .i64 y, .int .i64 0]) ∧ w = w' := by
  obtain ⟨n1, n2⟩ := h.day
  obtain ⟨u1, u2, _, _⟩ := h.up
  have c1 := fun w => Lib.hid (isDay_yes n w n1 n2)
  have c2 := fun w => Lib.hid (yearOf n y w n1 n2 h.y1 h.y2 u1 u2)
  clear h u1 u2
  go_enter Tryd.func19, Tryd.ntmps19
  go_wp2_with (first | (go_at_call 29; refine (c1 _).out.mono ?_; rintro e w' ⟨rfl, rfl⟩) | (go_at_call 31; refine (c2 _).out.mono ?_; rintro e w' ⟨rfl, rfl⟩))
  go_ret2
  exact ⟨rfl, rfl⟩
theorem year_no (n : Int) (w : World) (h : n < 1 ∨ 292194 < n) :
    Calls Tryd.prog 19 #[.int .i64 n] w fun e w' => e = .returned (.tuple #[.int .i64 0, .int .i64 3]) ∧ w = w' := by
  have c1 := fun w => Lib.hid (isDay_no n w h)
  clear h
  go_enter Tryd.func19, Tryd.ntmps19
  go_wp2_with (go_at_call 29; refine (c1 _).out.mono ?_; rintro e w' ⟨rfl, rfl⟩)
  go_ret2
  exact ⟨rfl, rfl⟩

theorem first_yes (y : Int) (w : World) (h1 : 1601 ≤ y) (h2 : y ≤ 2401) :
    Calls Tryd.prog 20 #[.int .i64 y] w fun e w' => e = .returned (.tuple #[.int .i64 (da y + 1), .int .i64 0]) ∧ w = w' := by
  have hl1 := da_lo h1
  have hl2 := da_hi h1
  go_enter Tryd.func20, Tryd.ntmps20
  go_wp2_with (go_at_call 32; refine (daysAhead _ _ (by omega) (by omega)).mono ?_; rintro e w' ⟨rfl, rfl⟩)
  go_ret2
  exact ⟨rfl, rfl⟩
theorem first_no (y : Int) (w : World) (h : y < 1601 ∨ 2401 < y) :
    Calls Tryd.prog 20 #[.int .i64 y] w fun e w' => e = .returned (.tuple #[.int .i64 0, .int .i64 3]) ∧ w = w' := by
  rcases h with h | h
  · go_enter Tryd.func20, Tryd.ntmps20
    go_wp2
    go_ret2
    exact ⟨rfl, rfl⟩
  · have h1 : 1601 ≤ y := by omega
    go_enter Tryd.func20, Tryd.ntmps20
    go_wp2
    go_ret2
    exact ⟨rfl, rfl⟩

end Day
end Go.Proofs.YtpcflkhiimclbaaDoor
