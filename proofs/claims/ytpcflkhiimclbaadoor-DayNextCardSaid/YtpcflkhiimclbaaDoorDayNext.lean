/-
  The statement DayNext holds: for every input the call returns true, and each argument reads afterwards as it read before; its card: the listed variable tied to the program's text. Conditions: none beside those that the row itself bears.
-/
import Derived.Test.YtpcflkhiimclbaaDoorAwake
import Derived.Test.YtpcflkhiimclbaaDoorTie
import Derived.Test.YtpcflkhiimclbaaDoorCards
import Derived.SevenTiedAt
namespace Go.Proofs.YtpcflkhiimclbaaDoor.dayNext
open Go.ChangeShapes Go.WideShapes Go.ChangeAt Go.RowKit
set_option linter.unusedVariables false

open Cal Day in
set_option maxRecDepth 100000 in
set_option maxHeartbeats 2000000 in
theorem core_last (n : Int) (w : World) (hT : Tab w)
    (cI : ∀ w : World, Hid (Calls Tryd.prog 24 #[.int .u32 n] w fun e w' => e = .returned (.int .i64 292194) ∧ w = w'))
    :
    Calls Tryd.prog 7 #[.int .u32 n] w fun e w' => e = .returned (.bool true) ∧ Below w.heap.size w w' := by
  have HT := Lib.hid hT
  have hT0 := hT.1
  have c0 := fun w hT => Lib.hid (awake w hT)
  clear hT
  go_enter Tryd.func7, Tryd.ntmps7
  go_wp2_with fail
  refine (c0 _ HT.out).out.mono ?_
  rintro e w1 ⟨rfl, hb1⟩
  have B1 := Lib.hid ((Below.refl w.heap.size w).trans (hb1.mono (Below.refl w.heap.size w).size))
  clear hb1
  go_wp2_with fail
  refine (cI _).out.mono ?_
  rintro e w' ⟨rfl, rfl⟩
  go_wp2
  go_ret
  exact ⟨rfl, B1.out⟩
open Cal Day in
set_option maxRecDepth 100000 in
set_option maxHeartbeats 2000000 in
theorem core_day (n j y m d : Int) (w : World) (hT : Tab w) (j1 : 1 ≤ j) (j2 : j < 292194) (y1 : 1601 ≤ y) (y2 : y ≤ 2400) (m1 : 1 ≤ m) (m2 : m ≤ 12) (d1 : 1 ≤ d) (d2 : d ≤ 31) (t1 : (d + 1 != 1) = true) (t2 : decide (d + 1 ≤ 31) = true)
    (cI : ∀ w : World, Hid (Calls Tryd.prog 24 #[.int .u32 n] w fun e w' => e = .returned (.int .i64 j) ∧ w = w'))
    (c1 : ∀ w : World, Tab w → Hid (Calls Tryd.prog 17 #[.int .i64 j] w fun e w' => e = .returned (.tuple #[.agg #[.int .i64 y, .int .i64 m, .int .i64 d], .int .i64 0]) ∧ Below w.heap.size w w'))
    (c2 : ∀ w : World, Tab w → Hid (Calls Tryd.prog 17 #[.int .i64 (j + 1)] w fun e w' => e = .returned (.tuple #[.agg #[.int .i64 y, .int .i64 m, .int .i64 (d + 1)], .int .i64 0]) ∧ Below w.heap.size w w'))
    :
    Calls Tryd.prog 7 #[.int .u32 n] w fun e w' => e = .returned (.bool true) ∧ Below w.heap.size w w' := by
  have tj : (j == 292194) = false := by simp; omega
  have HT := Lib.hid hT
  have hT0 := hT.1
  have c0 := fun w hT => Lib.hid (awake w hT)
  clear hT
  go_enter Tryd.func7, Tryd.ntmps7
  go_wp2_with fail
  refine (c0 _ HT.out).out.mono ?_
  rintro e w1 ⟨rfl, hb1⟩
  have B1 := Lib.hid ((Below.refl w.heap.size w).trans (hb1.mono (Below.refl w.heap.size w).size))
  clear hb1
  go_wp2_with fail
  refine (cI _).out.mono ?_
  rintro e w' ⟨rfl, rfl⟩
  go_wp2_with fail
  refine (c1 _ (HT.out.below B1.out hT0)).out.mono ?_
  rintro e w2 ⟨rfl, hb2⟩
  have B2 := Lib.hid (B1.out.trans (hb2.mono B1.out.size))
  clear hb2 B1
  go_wp2_with fail
  refine (c2 _ ((HT.out.below B2.out hT0).alloc _)).out.mono ?_
  rintro e w3 ⟨rfl, hb3⟩
  have Ba := Lib.hid (B2.out.alloc B2.out.size (Obj.cells #[.int .i64 (y), .int .i64 (m), .int .i64 (d)] 23))
  have B3 := Lib.hid (Ba.out.trans (hb3.mono Ba.out.size))
  have Ta3 := Lib.hid ((Tri.made w2 (y) (m) (d)).below hb3)
  clear hb3 Ba B2
  obtain ⟨r0a, r0b, r0c⟩ := Ta3.out
  have r0z := Ta3.out.lt
  go_wp2
  go_ret
  exact ⟨rfl, B3.out.alloc B3.out.size _⟩
open Cal Day in
set_option maxRecDepth 100000 in
set_option maxHeartbeats 2000000 in
theorem core_month (n j y m d : Int) (w : World) (hT : Tab w) (j1 : 1 ≤ j) (j2 : j < 292194) (y1 : 1601 ≤ y) (y2 : y ≤ 2400) (m1 : 1 ≤ m) (m2 : m ≤ 12) (d1 : 1 ≤ d) (d2 : d ≤ 31) (t1 : (m + 1 != 1) = true) (t2 : decide (28 ≤ d) = true)
    (cI : ∀ w : World, Hid (Calls Tryd.prog 24 #[.int .u32 n] w fun e w' => e = .returned (.int .i64 j) ∧ w = w'))
    (c1 : ∀ w : World, Tab w → Hid (Calls Tryd.prog 17 #[.int .i64 j] w fun e w' => e = .returned (.tuple #[.agg #[.int .i64 y, .int .i64 m, .int .i64 d], .int .i64 0]) ∧ Below w.heap.size w w'))
    (c2 : ∀ w : World, Tab w → Hid (Calls Tryd.prog 17 #[.int .i64 (j + 1)] w fun e w' => e = .returned (.tuple #[.agg #[.int .i64 y, .int .i64 (m + 1), .int .i64 1], .int .i64 0]) ∧ Below w.heap.size w w'))
    :
    Calls Tryd.prog 7 #[.int .u32 n] w fun e w' => e = .returned (.bool true) ∧ Below w.heap.size w w' := by
  have tj : (j == 292194) = false := by simp; omega
  have HT := Lib.hid hT
  have hT0 := hT.1
  have c0 := fun w hT => Lib.hid (awake w hT)
  clear hT
  go_enter Tryd.func7, Tryd.ntmps7
  go_wp2_with fail
  refine (c0 _ HT.out).out.mono ?_
  rintro e w1 ⟨rfl, hb1⟩
  have B1 := Lib.hid ((Below.refl w.heap.size w).trans (hb1.mono (Below.refl w.heap.size w).size))
  clear hb1
  go_wp2_with fail
  refine (cI _).out.mono ?_
  rintro e w' ⟨rfl, rfl⟩
  go_wp2_with fail
  refine (c1 _ (HT.out.below B1.out hT0)).out.mono ?_
  rintro e w2 ⟨rfl, hb2⟩
  have B2 := Lib.hid (B1.out.trans (hb2.mono B1.out.size))
  clear hb2 B1
  go_wp2_with fail
  refine (c2 _ ((HT.out.below B2.out hT0).alloc _)).out.mono ?_
  rintro e w3 ⟨rfl, hb3⟩
  have Ba := Lib.hid (B2.out.alloc B2.out.size (Obj.cells #[.int .i64 (y), .int .i64 (m), .int .i64 (d)] 23))
  have B3 := Lib.hid (Ba.out.trans (hb3.mono Ba.out.size))
  have Ta3 := Lib.hid ((Tri.made w2 (y) (m) (d)).below hb3)
  clear hb3 Ba B2
  obtain ⟨r0a, r0b, r0c⟩ := Ta3.out
  have r0z := Ta3.out.lt
  go_wp2
  go_ret
  exact ⟨rfl, B3.out.alloc B3.out.size _⟩
open Cal Day in
set_option maxRecDepth 100000 in
set_option maxHeartbeats 2000000 in
theorem core_year (n j y m d : Int) (w : World) (hT : Tab w) (j1 : 1 ≤ j) (j2 : j < 292194) (y1 : 1601 ≤ y) (y2 : y ≤ 2400) (m1 : 1 ≤ m) (m2 : m ≤ 12) (d1 : 1 ≤ d) (d2 : d ≤ 31) (t1 : (m == 12) = true) (t2 : (d == 31) = true)
    (cI : ∀ w : World, Hid (Calls Tryd.prog 24 #[.int .u32 n] w fun e w' => e = .returned (.int .i64 j) ∧ w = w'))
    (c1 : ∀ w : World, Tab w → Hid (Calls Tryd.prog 17 #[.int .i64 j] w fun e w' => e = .returned (.tuple #[.agg #[.int .i64 y, .int .i64 m, .int .i64 d], .int .i64 0]) ∧ Below w.heap.size w w'))
    (c2 : ∀ w : World, Tab w → Hid (Calls Tryd.prog 17 #[.int .i64 (j + 1)] w fun e w' => e = .returned (.tuple #[.agg #[.int .i64 (y + 1), .int .i64 1, .int .i64 1], .int .i64 0]) ∧ Below w.heap.size w w'))
    :
    Calls Tryd.prog 7 #[.int .u32 n] w fun e w' => e = .returned (.bool true) ∧ Below w.heap.size w w' := by
  have tj : (j == 292194) = false := by simp; omega
  have HT := Lib.hid hT
  have hT0 := hT.1
  have c0 := fun w hT => Lib.hid (awake w hT)
  clear hT
  go_enter Tryd.func7, Tryd.ntmps7
  go_wp2_with fail
  refine (c0 _ HT.out).out.mono ?_
  rintro e w1 ⟨rfl, hb1⟩
  have B1 := Lib.hid ((Below.refl w.heap.size w).trans (hb1.mono (Below.refl w.heap.size w).size))
  clear hb1
  go_wp2_with fail
  refine (cI _).out.mono ?_
  rintro e w' ⟨rfl, rfl⟩
  go_wp2_with fail
  refine (c1 _ (HT.out.below B1.out hT0)).out.mono ?_
  rintro e w2 ⟨rfl, hb2⟩
  have B2 := Lib.hid (B1.out.trans (hb2.mono B1.out.size))
  clear hb2 B1
  go_wp2_with fail
  refine (c2 _ ((HT.out.below B2.out hT0).alloc _)).out.mono ?_
  rintro e w3 ⟨rfl, hb3⟩
  have Ba := Lib.hid (B2.out.alloc B2.out.size (Obj.cells #[.int .i64 (y), .int .i64 (m), .int .i64 (d)] 23))
  have B3 := Lib.hid (Ba.out.trans (hb3.mono Ba.out.size))
  have Ta3 := Lib.hid ((Tri.made w2 (y) (m) (d)).below hb3)
  clear hb3 Ba B2
  obtain ⟨r0a, r0b, r0c⟩ := Ta3.out
  have r0z := Ta3.out.lt
  go_wp2
  go_ret
  exact ⟨rfl, B3.out.alloc B3.out.size _⟩
open Cal Day in
theorem walk (n : Int) (hn : 0 ≤ n ∧ n ≤ 4294967295) (w : World) (hT : Tab w) :
    Calls Tryd.prog 7 #[.int .u32 n] w fun e w' => e = .returned (.bool true) ∧ Below w.heap.size w w' := by
  have cI := fun w => Lib.hid (rin n w hn.1 hn.2)
  have h1 : 1 ≤ 1 + n % 292194 := by omega
  have h2 : 1 + n % 292194 ≤ 292194 := by omega
  generalize 1 + n % 292194 = j at *
  by_cases hl : j = 292194
  · subst hl
    exact core_last n w hT cI
  · obtain ⟨y, m, d, hy⟩ := Ymd.of j h1 h2
    have hm := ml_bd y m
    have c1 := fun w hT => Lib.hid (of_yes _ y m d w hT hy)
    have y1 := hy.y1
    have y2 := hy.y2
    have m1 := hy.m1
    have m2 := hy.m2
    have d1 := hy.d1
    have d2 := hy.d2
    have e := hy.eq
    by_cases hd : d < ml y m
    · have hb : Ymd (j + 1) y m (d + 1) := ⟨y1, y2, m1, m2, by omega, by omega, by omega⟩
      exact core_day n j y m d w hT h1 (by omega) y1 y2 m1 m2 d1 (by omega) (by simp; omega) (by simp; omega) cI c1 (fun w hT => Lib.hid (of_yes _ _ _ _ w hT hb))
    · have es := cm_succ (y := y) m1 m2
      by_cases h12 : m < 12
      · have hm2 := ml_bd y (m + 1)
        have hb : Ymd (j + 1) y (m + 1) 1 := ⟨y1, y2, by omega, by omega, by omega, by omega, by omega⟩
        exact core_month n j y m d w hT h1 (by omega) y1 y2 m1 m2 d1 (by omega) (by simp; omega) (by simp; omega) cI c1 (fun w hT => Lib.hid (of_yes _ _ _ _ w hT hb))
      · obtain rfl : m = 12 := by omega
        have e13 := cm_13 y
        rw [show (12 : Int) + 1 = 13 by omega] at es
        have ed := da_succ y
        have e31 : ml y 12 = 31 := by simp [ml]
        have hm2 := ml_bd (y + 1) 1
        have hc := cm_1 (y + 1)
        have hy3 : y ≠ 2400 := by
          rintro rfl
          have := da_2401
          rw [show (2400 : Int) + 1 = 2401 by omega] at ed
          omega
        have hb : Ymd (j + 1) (y + 1) 1 1 := ⟨by omega, by omega, by omega, by omega, by omega, by omega, by omega⟩
        exact core_year n j y 12 d w hT h1 (by omega) y1 y2 m1 m2 d1 (by omega) (by simp) (by simp; omega) cI c1 (fun w hT => Lib.hid (of_yes _ _ _ _ w hT hb))

set_option maxRecDepth 100000 in
theorem lifted (os : Os) (started : os.Started) (H : Type) (enc : TypeId × Value → H) :
    ReturnsInHanded {} Tryd.checked os 7 .any (fun w args => (Rows.dayNextSpec.pre enc Tryd.prog Tryd.f7 [] false w args ∧ laidMetH Tryd.prog [("bordereau/day.monthDays", Rows.laid_bordereau_day_monthDays)] w) ∧ sizedMet enc Tryd.prog Tryd.f7 (OpenSpec.ofChange Rows.dayNextSpec) false w args)
      (Rows.dayNextSpec.post enc Tryd.prog Tryd.f7 false true false false) := by
  refine returnsInHanded_of_change_and (C := Tryd.checked) (X := fun w _ => laidMetH Tryd.prog [("bordereau/day.monthDays", Rows.laid_bordereau_day_monthDays)] w) (fun _ _ _ hh h => h.of_heap hh) Day.own started (by kernel_rfl) Tryd.func7
    (ChangeSpec.witness_shaped (enc := enc) (C := Tryd.checked) (os := os) (X := fun w _ => laidMetH Tryd.prog [("bordereau/day.monthDays", Rows.laid_bordereau_day_monthDays)] w) false (World.doorLaid Tryd.prog 14 os) #[.int .u32 0] 8 rfl (World.shaped_of_RefB (by kernel_rfl) (by kernel_rfl)) (by kernel_rfl) (by kernel_rfl) (by kernel_rfl) (Day.door_met os _)) ?_
  intro W base args ds gs before hval0 hW _ _ hL _
  have hval : ∀ (j : Nat) t v, Tryd.f7.params[j]? = some t → args[j]? = some v → Value.okWide Tryd.prog W .any base t v := hval0
  have hW' := hW
  obtain ⟨p, q, hA0, hV, rfl, hfz, hnd⟩ := hW
  have hA : DataW.TrodAll enc Tryd.prog W 0 (fun _ => true) true Tryd.f7.params.toList args.toList ds p := hA0
  rw [Tryd.params7] at hA hval
  obtain ⟨v0, vs0, d0, ds0, p0, q0, hargs, rfl, rfl, h0, r0⟩ := trodAll_cons hA
  obtain ⟨rfl, rfl, rfl⟩ := trodAll_nil r0
  obtain rfl : args = #[v0] := by cases args; simp_all
  obtain ⟨rfl, rfl⟩ := trodVars_none hV
  obtain ⟨a0, rfl, rfl, rfl, w0⟩ := open_int Tryd.underlying35 (hval 0 35 v0 rfl rfl) h0
  clear hA0 hval0
  refine (walk a0 (Day.u32_of w0) W (Day.of_laid hL)).mono fun e W' ⟨he, bel⟩ => ?_
  subst he
  exact ⟨_, rfl, _, _, _, [], _, [], hW', trodAll_mk1 (shut_bool Tryd.underlying4 _), (trodAll_cons_mk (shut_int Tryd.underlying35 w0) trodAll_mk0), rfl, bel.frame _, fun h => by cases h⟩

theorem proved : Rows.DayNextSaid :=
  OpenClaim.holds_of_wide 7 Tryd.f7 rfl rfl rfl rfl rfl rfl rfl ⟨rfl, rfl, rfl, rfl, rfl⟩ rfl rfl rfl rfl rfl (by kernel_rfl) Tryd.func7 (by kernel_rfl)
    (of_decide_eq_true (by kernel_rfl)) (by unfold Func.isWrapper; first | (rw [if_pos (by decide +kernel)]; kernel_rfl) | (rw [if_neg (by decide +kernel)]; exact ⟨rfl, rfl⟩))
    (fun os started H enc _ => lifted os started H enc)

theorem carded : Rows.DayNextCardSaid :=
  Claim7.holds_tied_plain_at .later [] [.data] true (true, "0d0c1c32c8900cf58ef4dbff73ea3e777abc26be34945349d325ec12e76e930c") false
    proved (fun _ h => by cases h) (by kernel_rfl) (fun _ h => by cases h) dayNext_row_tie rfl ⟨rfl, rfl⟩ (by kernel_rfl) rfl
    (fun f fn hf hfn => by
      obtain rfl : f = 7 := Option.some.inj ((show Tryd.prog.funcNamed "bordereau/bordereaulaw02.DayNext" = some 7 by kernel_rfl).symm.trans hf) |>.symm
      obtain rfl : fn = Tryd.f7 := (Option.some.inj (Tryd.func7.symm.trans hfn)).symm
      exact ⟨by kernel_rfl, fun j t ht => by
        rw [Tryd.params7] at ht
        have hm : t ∈ [35] := by simpa using Array.mem_of_getElem? ht
        have hall : ([35].all fun u => !Tryd.prog.wantsStandIn u) = true := by kernel_rfl
        exact (show Tryd.prog.wantsStandIn t = false by simpa using List.all_eq_true.1 hall t hm)⟩)
    (by kernel_rfl)

end Go.Proofs.YtpcflkhiimclbaaDoor.dayNext
