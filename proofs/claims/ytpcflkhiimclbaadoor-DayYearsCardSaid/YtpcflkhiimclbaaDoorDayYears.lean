/-
  The statement DayYears holds: for every input the call returns true, and each argument reads afterwards as it read before; its card: the listed variable tied to the program's text. Conditions: none beside those that the row itself bears.
-/
import Derived.Test.YtpcflkhiimclbaaDoorAwake
import Derived.Test.YtpcflkhiimclbaaDoorTie
import Derived.Test.YtpcflkhiimclbaaDoorCards
import Derived.SevenTiedAt
namespace Go.Proofs.YtpcflkhiimclbaaDoor.dayYears
open Go.ChangeShapes Go.WideShapes Go.ChangeAt Go.RowKit
set_option linter.unusedVariables false

open Cal Day in
set_option maxRecDepth 100000 in
set_option maxHeartbeats 2000000 in
theorem core_leap (n s j u v A B C D : Int) (w : World) (hT : Tab w) (s1 : 0 ≤ s) (s2 : s ≤ 65535) (hv : 1601 + s % 401 = v) (v1 : 1601 ≤ v) (v2 : v ≤ 2001) (u1 : 1601 ≤ u) (u2 : u ≤ 2400)
    (a1 : A ≤ j) (b1 : j < B) (a0 : 0 ≤ A) (b2 : B ≤ 1000000) (hd : B - A = 366) (c0' : 0 ≤ C) (d0' : D ≤ 1000000) (he : D - C = 146097)
    (cI : ∀ w : World, Hid (Calls Tryd.prog 24 #[.int .u32 n] w fun e w' => e = .returned (.int .i64 j) ∧ w = w'))
    (c1 : ∀ w : World, Hid (Calls Tryd.prog 19 #[.int .i64 j] w fun e w' => e = .returned (.tuple #[.int .i64 u, .int .i64 0]) ∧ w = w'))
    (c2 : ∀ w : World, Hid (Calls Tryd.prog 20 #[.int .i64 u] w fun e w' => e = .returned (.tuple #[.int .i64 A, .int .i64 0]) ∧ w = w'))
    (c3 : ∀ w : World, Hid (Calls Tryd.prog 20 #[.int .i64 (u + 1)] w fun e w' => e = .returned (.tuple #[.int .i64 B, .int .i64 0]) ∧ w = w'))
    (c4 : ∀ w : World, Hid (Calls Tryd.prog 15 #[.int .i64 u] w fun e w' => e = .returned (.bool true) ∧ w = w'))
    (c5 : ∀ w : World, Hid (Calls Tryd.prog 20 #[.int .i64 v] w fun e w' => e = .returned (.tuple #[.int .i64 C, .int .i64 0]) ∧ w = w'))
    (c6 : ∀ w : World, Hid (Calls Tryd.prog 20 #[.int .i64 (v + 400)] w fun e w' => e = .returned (.tuple #[.int .i64 D, .int .i64 0]) ∧ w = w'))
    :
    Calls Tryd.prog 9 #[.int .u32 n, .int .u16 s] w fun e w' => e = .returned (.bool true) ∧ Below w.heap.size w w' := by
  have t1 : decide (j < A) = false := by simp; omega
  have t2 : decide (B ≤ j) = false := by simp; omega
  have HT := Lib.hid hT
  have hT0 := hT.1
  have c0 := fun w hT => Lib.hid (awake w hT)
  clear hT
  go_enter Tryd.func9, Tryd.ntmps9
  go_wp2_with fail
  refine (c0 _ HT.out).out.mono ?_
  rintro e w1 ⟨rfl, hb1⟩
  have B1 := Lib.hid ((Below.refl w.heap.size w).trans (hb1.mono (Below.refl w.heap.size w).size))
  clear hb1
  go_wp2_with fail
  refine (cI _).out.mono ?_
  rintro e w' ⟨rfl, rfl⟩
  go_wp2_with fail
  refine (c1 _).out.mono ?_
  rintro e w' ⟨rfl, rfl⟩
  go_wp2_with fail
  refine (c2 _).out.mono ?_
  rintro e w' ⟨rfl, rfl⟩
  go_wp2_with fail
  refine (c3 _).out.mono ?_
  rintro e w' ⟨rfl, rfl⟩
  go_wp2_with fail
  refine (c4 _).out.mono ?_
  rintro e w' ⟨rfl, rfl⟩
  go_wp2_with fail
  refine (c5 _).out.mono ?_
  rintro e w' ⟨rfl, rfl⟩
  go_wp2_with fail
  refine (c6 _).out.mono ?_
  rintro e w' ⟨rfl, rfl⟩
  clear cI c0 c1 c2 c3 c4 c5 c6 t1 t2 HT hv
  go_wp2
  go_loop [19, 20] (fun x y => ∃ z : Int, v ≤ z ∧ z ≤ v + 400 ∧ y = .int .i64 z ∧ x = .int .i64 (da z - da v - 365 * (z - v))) (fun _ y => (v + 400 - intOf y).toNat)
  case atStart => exact ⟨v, by omega, by omega, rfl, by simp⟩
  case round =>
    obtain ⟨z, z1, z2, rfl, rfl⟩ := hrel
    have l1 := da_lo v1
    have l2 := da_hi v1
    have l3 := da_lo (y := z) (by omega)
    have l4 := da_hi (y := z) (by omega)
    by_cases hc : z < v + 400
    · have cs := da_succ z
      have hL := Lib.hid (leap z w1)
      unfold yl at cs
      cases hl : lp z
      · rw [hl] at hL cs
        have CS := Lib.hid cs
        clear cs hl
        go_wp2_with (go_at_call 15; refine hL.out.mono ?_; rintro e w' ⟨rfl, rfl⟩)
        go_round
        case rel => exact ⟨z + 1, by omega, by omega, rfl, by rw [CS.out]; simp; omega⟩
        case measure => simp [intOf]; omega
      · rw [hl] at hL cs
        have CS := Lib.hid cs
        clear cs hl
        go_wp2_with (go_at_call 15; refine hL.out.mono ?_; rintro e w' ⟨rfl, rfl⟩)
        go_round
        case rel => exact ⟨z + 1, by omega, by omega, rfl, by rw [CS.out]; simp; omega⟩
        case measure => simp [intOf]; omega
    · obtain rfl : z = v + 400 := by omega
      have e97 : da (v + 400) - da v - 365 * (v + 400 - v) = 97 := by rw [da_400]; omega
      clear hc
      go_wp2
      go_ret
      exact ⟨rfl, B1.out⟩
open Cal Day in
set_option maxRecDepth 100000 in
set_option maxHeartbeats 2000000 in
theorem core_plain (n s j u v A B C D : Int) (w : World) (hT : Tab w) (s1 : 0 ≤ s) (s2 : s ≤ 65535) (hv : 1601 + s % 401 = v) (v1 : 1601 ≤ v) (v2 : v ≤ 2001) (u1 : 1601 ≤ u) (u2 : u ≤ 2400)
    (a1 : A ≤ j) (b1 : j < B) (a0 : 0 ≤ A) (b2 : B ≤ 1000000) (hd : B - A = 365) (c0' : 0 ≤ C) (d0' : D ≤ 1000000) (he : D - C = 146097)
    (cI : ∀ w : World, Hid (Calls Tryd.prog 24 #[.int .u32 n] w fun e w' => e = .returned (.int .i64 j) ∧ w = w'))
    (c1 : ∀ w : World, Hid (Calls Tryd.prog 19 #[.int .i64 j] w fun e w' => e = .returned (.tuple #[.int .i64 u, .int .i64 0]) ∧ w = w'))
    (c2 : ∀ w : World, Hid (Calls Tryd.prog 20 #[.int .i64 u] w fun e w' => e = .returned (.tuple #[.int .i64 A, .int .i64 0]) ∧ w = w'))
    (c3 : ∀ w : World, Hid (Calls Tryd.prog 20 #[.int .i64 (u + 1)] w fun e w' => e = .returned (.tuple #[.int .i64 B, .int .i64 0]) ∧ w = w'))
    (c4 : ∀ w : World, Hid (Calls Tryd.prog 15 #[.int .i64 u] w fun e w' => e = .returned (.bool false) ∧ w = w'))
    (c5 : ∀ w : World, Hid (Calls Tryd.prog 20 #[.int .i64 v] w fun e w' => e = .returned (.tuple #[.int .i64 C, .int .i64 0]) ∧ w = w'))
    (c6 : ∀ w : World, Hid (Calls Tryd.prog 20 #[.int .i64 (v + 400)] w fun e w' => e = .returned (.tuple #[.int .i64 D, .int .i64 0]) ∧ w = w'))
    :
    Calls Tryd.prog 9 #[.int .u32 n, .int .u16 s] w fun e w' => e = .returned (.bool true) ∧ Below w.heap.size w w' := by
  have t1 : decide (j < A) = false := by simp; omega
  have t2 : decide (B ≤ j) = false := by simp; omega
  have HT := Lib.hid hT
  have hT0 := hT.1
  have c0 := fun w hT => Lib.hid (awake w hT)
  clear hT
  go_enter Tryd.func9, Tryd.ntmps9
  go_wp2_with fail
  refine (c0 _ HT.out).out.mono ?_
  rintro e w1 ⟨rfl, hb1⟩
  have B1 := Lib.hid ((Below.refl w.heap.size w).trans (hb1.mono (Below.refl w.heap.size w).size))
  clear hb1
  go_wp2_with fail
  refine (cI _).out.mono ?_
  rintro e w' ⟨rfl, rfl⟩
  go_wp2_with fail
  refine (c1 _).out.mono ?_
  rintro e w' ⟨rfl, rfl⟩
  go_wp2_with fail
  refine (c2 _).out.mono ?_
  rintro e w' ⟨rfl, rfl⟩
  go_wp2_with fail
  refine (c3 _).out.mono ?_
  rintro e w' ⟨rfl, rfl⟩
  go_wp2_with fail
  refine (c4 _).out.mono ?_
  rintro e w' ⟨rfl, rfl⟩
  go_wp2_with fail
  refine (c5 _).out.mono ?_
  rintro e w' ⟨rfl, rfl⟩
  go_wp2_with fail
  refine (c6 _).out.mono ?_
  rintro e w' ⟨rfl, rfl⟩
  clear cI c0 c1 c2 c3 c4 c5 c6 t1 t2 HT hv
  go_wp2
  go_loop [19, 20] (fun x y => ∃ z : Int, v ≤ z ∧ z ≤ v + 400 ∧ y = .int .i64 z ∧ x = .int .i64 (da z - da v - 365 * (z - v))) (fun _ y => (v + 400 - intOf y).toNat)
  case atStart => exact ⟨v, by omega, by omega, rfl, by simp⟩
  case round =>
    obtain ⟨z, z1, z2, rfl, rfl⟩ := hrel
    have l1 := da_lo v1
    have l2 := da_hi v1
    have l3 := da_lo (y := z) (by omega)
    have l4 := da_hi (y := z) (by omega)
    by_cases hc : z < v + 400
    · have cs := da_succ z
      have hL := Lib.hid (leap z w1)
      unfold yl at cs
      cases hl : lp z
      · rw [hl] at hL cs
        have CS := Lib.hid cs
        clear cs hl
        go_wp2_with (go_at_call 15; refine hL.out.mono ?_; rintro e w' ⟨rfl, rfl⟩)
        go_round
        case rel => exact ⟨z + 1, by omega, by omega, rfl, by rw [CS.out]; simp; omega⟩
        case measure => simp [intOf]; omega
      · rw [hl] at hL cs
        have CS := Lib.hid cs
        clear cs hl
        go_wp2_with (go_at_call 15; refine hL.out.mono ?_; rintro e w' ⟨rfl, rfl⟩)
        go_round
        case rel => exact ⟨z + 1, by omega, by omega, rfl, by rw [CS.out]; simp; omega⟩
        case measure => simp [intOf]; omega
    · obtain rfl : z = v + 400 := by omega
      have e97 : da (v + 400) - da v - 365 * (v + 400 - v) = 97 := by rw [da_400]; omega
      clear hc
      go_wp2
      go_ret
      exact ⟨rfl, B1.out⟩
open Cal Day in
theorem walk (n : Int) (hn : 0 ≤ n ∧ n ≤ 4294967295) (s : Int) (hs : 0 ≤ s ∧ s ≤ 65535) (w : World) (hT : Tab w) :
    Calls Tryd.prog 9 #[.int .u32 n, .int .u16 s] w fun e w' => e = .returned (.bool true) ∧ Below w.heap.size w w' := by
  have cI := fun w => Lib.hid (rin n w hn.1 hn.2)
  have h1 : 1 ≤ 1 + n % 292194 := by omega
  have h2 : 1 + n % 292194 ≤ 292194 := by omega
  generalize 1 + n % 292194 = j at *
  have v1 : 1601 ≤ 1601 + s % 401 := by omega
  have v2 : 1601 + s % 401 ≤ 2001 := by omega
  obtain ⟨v, hv⟩ : ∃ v, 1601 + s % 401 = v := ⟨_, rfl⟩
  rw [hv] at v1 v2
  obtain ⟨y, m, d, hy⟩ := Ymd.of j h1 h2
  have y1 := hy.y1
  have y2 := hy.y2
  have c1 := fun w => Lib.hid (year_yes j y m d w hy)
  have c2 := fun w => Lib.hid (first_yes y w y1 (by omega))
  have c3 := fun w => Lib.hid (first_yes (y + 1) w (by omega) (by omega))
  have c4 := fun w => Lib.hid (leap y w)
  have c5 := fun w => Lib.hid (first_yes v w v1 (by omega))
  have c6 := fun w => Lib.hid (first_yes (v + 400) w (by omega) (by omega))
  have e4 := da_400 v
  have l1 := da_lo v1
  have l2 := da_hi v1
  have l3 := da_lo y1
  have l4 := da_hi y1
  obtain ⟨u1, u2, _, _⟩ := hy.up
  have es := da_succ y
  unfold yl at es
  cases hl : lp y
  · rw [hl] at c4 es
    simp at es
    exact core_plain n s j y v _ _ _ _ w hT hs.1 hs.2 hv v1 v2 y1 y2 (by omega) (by omega) (by omega) (by omega) (by omega) (by omega) (by omega) (by omega) cI c1 c2 c3 c4 c5 c6
  · rw [hl] at c4 es
    simp at es
    exact core_leap n s j y v _ _ _ _ w hT hs.1 hs.2 hv v1 v2 y1 y2 (by omega) (by omega) (by omega) (by omega) (by omega) (by omega) (by omega) (by omega) cI c1 c2 c3 c4 c5 c6

set_option maxRecDepth 100000 in
theorem lifted (os : Os) (started : os.Started) (H : Type) (enc : TypeId × Value → H) :
    ReturnsInHanded {} Tryd.checked os 9 .any (fun w args => (Rows.dayYearsSpec.pre enc Tryd.prog Tryd.f9 [] false w args ∧ laidMetH Tryd.prog [("bordereau/day.monthDays", Rows.laid_bordereau_day_monthDays)] w) ∧ sizedMet enc Tryd.prog Tryd.f9 (OpenSpec.ofChange Rows.dayYearsSpec) false w args)
      (Rows.dayYearsSpec.post enc Tryd.prog Tryd.f9 false true false false) := by
  refine returnsInHanded_of_change_and (C := Tryd.checked) (X := fun w _ => laidMetH Tryd.prog [("bordereau/day.monthDays", Rows.laid_bordereau_day_monthDays)] w) (fun _ _ _ hh h => h.of_heap hh) Day.own started (by kernel_rfl) Tryd.func9
    (ChangeSpec.witness_shaped (enc := enc) (C := Tryd.checked) (os := os) (X := fun w _ => laidMetH Tryd.prog [("bordereau/day.monthDays", Rows.laid_bordereau_day_monthDays)] w) false (World.doorLaid Tryd.prog 14 os) #[.int .u32 0, .int .u16 0] 8 rfl (World.shaped_of_RefB (by kernel_rfl) (by kernel_rfl)) (by kernel_rfl) (by kernel_rfl) (by kernel_rfl) (Day.door_met os _)) ?_
  intro W base args ds gs before hval0 hW _ _ hL _
  have hval : ∀ (j : Nat) t v, Tryd.f9.params[j]? = some t → args[j]? = some v → Value.okWide Tryd.prog W .any base t v := hval0
  have hW' := hW
  obtain ⟨p, q, hA0, hV, rfl, hfz, hnd⟩ := hW
  have hA : DataW.TrodAll enc Tryd.prog W 0 (fun _ => true) true Tryd.f9.params.toList args.toList ds p := hA0
  rw [Tryd.params9] at hA hval
  obtain ⟨v0, vs0, d0, ds0, p0, q0, hargs, rfl, rfl, h0, r0⟩ := trodAll_cons hA
  obtain ⟨v1, vs1, d1, ds1, p1, q1, rfl, rfl, rfl, h1, r1⟩ := trodAll_cons r0
  obtain ⟨rfl, rfl, rfl⟩ := trodAll_nil r1
  obtain rfl : args = #[v0, v1] := by cases args; simp_all
  obtain ⟨rfl, rfl⟩ := trodVars_none hV
  obtain ⟨a0, rfl, rfl, rfl, w0⟩ := open_int Tryd.underlying35 (hval 0 35 v0 rfl rfl) h0
  obtain ⟨a1, rfl, rfl, rfl, w1⟩ := open_int Tryd.underlying40 (hval 1 40 v1 rfl rfl) h1
  clear hA0 hval0
  refine (walk a0 (Day.u32_of w0) a1 (Day.u16_of w1) W (Day.of_laid hL)).mono fun e W' ⟨he, bel⟩ => ?_
  subst he
  exact ⟨_, rfl, _, _, _, [], _, [], hW', trodAll_mk1 (shut_bool Tryd.underlying4 _), (trodAll_cons_mk (shut_int Tryd.underlying35 w0) (trodAll_cons_mk (shut_int Tryd.underlying40 w1) trodAll_mk0)), rfl, bel.frame _, fun h => by cases h⟩

theorem proved : Rows.DayYearsSaid :=
  OpenClaim.holds_of_wide 9 Tryd.f9 rfl rfl rfl rfl rfl rfl rfl ⟨rfl, rfl, rfl, rfl, rfl⟩ rfl rfl rfl rfl rfl (by kernel_rfl) Tryd.func9 (by kernel_rfl)
    (of_decide_eq_true (by kernel_rfl)) (by unfold Func.isWrapper; first | (rw [if_pos (by decide +kernel)]; kernel_rfl) | (rw [if_neg (by decide +kernel)]; exact ⟨rfl, rfl⟩))
    (fun os started H enc _ => lifted os started H enc)

theorem carded : Rows.DayYearsCardSaid :=
  Claim7.holds_tied_plain_at .later [] [.data] true (true, "0d0c1c32c8900cf58ef4dbff73ea3e777abc26be34945349d325ec12e76e930c") false
    proved (fun _ h => by cases h) (by kernel_rfl) (fun _ h => by cases h) dayYears_row_tie rfl ⟨rfl, rfl⟩ (by kernel_rfl) rfl
    (fun f fn hf hfn => by
      obtain rfl : f = 9 := Option.some.inj ((show Tryd.prog.funcNamed "bordereau/bordereaulaw02.DayYears" = some 9 by kernel_rfl).symm.trans hf) |>.symm
      obtain rfl : fn = Tryd.f9 := (Option.some.inj (Tryd.func9.symm.trans hfn)).symm
      exact ⟨by kernel_rfl, fun j t ht => by
        rw [Tryd.params9] at ht
        have hm : t ∈ [35, 40] := by simpa using Array.mem_of_getElem? ht
        have hall : ([35, 40].all fun u => !Tryd.prog.wantsStandIn u) = true := by kernel_rfl
        exact (show Tryd.prog.wantsStandIn t = false by simpa using List.all_eq_true.1 hall t hm)⟩)
    (by kernel_rfl)

end Go.Proofs.YtpcflkhiimclbaaDoor.dayYears
