/-
  The statement DayNumbers holds: for every input the call returns true, and each argument reads afterwards as it read before; its card: the listed variable tied to the program's text. Conditions: none beside those that the row itself bears.
-/
import Derived.Test.YtpcflkhiimclbaaDoorAwake
import Derived.Test.YtpcflkhiimclbaaDoorTie
import Derived.Test.YtpcflkhiimclbaaDoorCards
import Derived.SevenTiedAt
namespace Go.Proofs.YtpcflkhiimclbaaDoor.dayNumbers
open Go.ChangeShapes Go.WideShapes Go.ChangeAt Go.RowKit
set_option linter.unusedVariables false

open Cal Day in
set_option maxRecDepth 100000 in
set_option maxHeartbeats 2000000 in
theorem core (y m d x ec : Int) (l : Bool) (w : World) (hT : Tab w)
    (c1 : ∀ w : World, Tab w → Hid (Calls Tryd.prog 13 #[.agg #[.int .i64 y, .int .i64 m, .int .i64 d]] w fun e w' => e = .returned (.tuple #[.int .i64 x, .int .i64 ec]) ∧ Below w.heap.size w w'))
    (c2 : ∀ w : World, Hid (Calls Tryd.prog 14 #[.agg #[.int .i64 y, .int .i64 m, .int .i64 d]] w fun e w' => e = .returned (.tuple #[.int .i64 x, .int .i64 ec]) ∧ Below w.heap.size w w'))
    (c3 : ∀ w : World, Hid (Calls Tryd.prog 15 #[.int .i64 y] w fun e w' => e = .returned (.bool l) ∧ w = w'))
    (c4 : ∀ w : World, Hid (Calls Tryd.prog 16 #[.int .i64 y] w fun e w' => e = .returned (.bool l) ∧ w = w'))
    :
    Calls Tryd.prog 3 #[.agg #[.int .i64 y, .int .i64 m, .int .i64 d]] w fun e w' => e = .returned (.bool true) ∧ Below w.heap.size w w' := by
  have HT := Lib.hid hT
  have hT0 := hT.1
  have c0 := fun w hT => Lib.hid (awake w hT)
  clear hT
  go_enter Tryd.func3, Tryd.ntmps3
  go_wp2_with fail
  refine (c0 _ (HT.out.alloc _)).out.mono ?_
  rintro e w1 ⟨rfl, hb1⟩
  have B0 := Lib.hid ((Below.refl w.heap.size w).alloc (Nat.le_refl _) (Obj.cells #[.int .i64 y, .int .i64 m, .int .i64 d] 23))
  have B1 := Lib.hid (B0.out.trans (hb1.mono B0.out.size))
  have k0 : ∀ o, w1.cell? ⟨w.heap.size, o, none⟩ = (w.alloc (Obj.cells #[.int .i64 y, .int .i64 m, .int .i64 d] 23)).cell? ⟨w.heap.size, o, none⟩ := fun o => hb1.cell (p := ⟨w.heap.size, o, none⟩) (by simp)
  have z1 : w.heap.size < w1.heap.size := by have := hb1.size; simp at this; omega
  clear hb1 B0
  go_wp2_with fail
  refine (c1 _ (HT.out.below B1.out hT0)).out.mono ?_
  rintro e w2 ⟨rfl, hb2⟩
  have k2 : ∀ o, w2.cell? ⟨w.heap.size, o, none⟩ = (w.alloc (Obj.cells #[.int .i64 y, .int .i64 m, .int .i64 d] 23)).cell? ⟨w.heap.size, o, none⟩ := fun o => (hb2.cell (p := ⟨w.heap.size, o, none⟩) z1).trans (k0 o)
  have B2 := Lib.hid (B1.out.trans (hb2.mono B1.out.size))
  have z2 : w.heap.size < w2.heap.size := by have := hb2.size; omega
  clear hb2 B1 k0 z1
  go_wp2_with fail
  refine (c2 _).out.mono ?_
  rintro e w3 ⟨rfl, hb3⟩
  have k3 : w3.cell? ⟨w.heap.size, 0, none⟩ = some (.int .i64 y) := by rw [hb3.cell (p := ⟨w.heap.size, 0, none⟩) z2, k2 0]; simp
  have B3 := Lib.hid (B2.out.trans (hb3.mono B2.out.size))
  clear hb3 B2 k2 z2
  go_wp2
  go_quiet (first | (go_at_call 15; exact still (c3 _).out) | (go_at_call 16; exact still (c4 _).out))
  go_wp2
  go_ret
  exact ⟨rfl, below_drewN B3.out _⟩
open Cal Day in
theorem walk (y m d : Int) (w : World) (hT : Tab w) :
    Calls Tryd.prog 3 #[.agg #[.int .i64 y, .int .i64 m, .int .i64 d]] w fun e w' => e = .returned (.bool true) ∧ Below w.heap.size w w' := by
  exact core y m d _ _ _ w hT (fun w hT => Lib.hid (numberOf y m d w hT)) (fun w => Lib.hid (rnumber y m d w)) (fun w => Lib.hid (leap y w)) (fun w => Lib.hid (rleap y w))

set_option maxRecDepth 100000 in
theorem lifted (os : Os) (started : os.Started) (H : Type) (enc : TypeId × Value → H) :
    ReturnsInHanded {} Tryd.checked os 3 .any (fun w args => (Rows.dayNumbersSpec.pre enc Tryd.prog Tryd.f3 [] false w args ∧ laidMetH Tryd.prog [("bordereau/day.monthDays", Rows.laid_bordereau_day_monthDays)] w) ∧ sizedMet enc Tryd.prog Tryd.f3 (OpenSpec.ofChange Rows.dayNumbersSpec) false w args)
      (Rows.dayNumbersSpec.post enc Tryd.prog Tryd.f3 false true false false) := by
  refine returnsInHanded_of_change_and (C := Tryd.checked) (X := fun w _ => laidMetH Tryd.prog [("bordereau/day.monthDays", Rows.laid_bordereau_day_monthDays)] w) (fun _ _ _ hh h => h.of_heap hh) Day.own started (by kernel_rfl) Tryd.func3
    (ChangeSpec.witness_shaped (enc := enc) (C := Tryd.checked) (os := os) (X := fun w _ => laidMetH Tryd.prog [("bordereau/day.monthDays", Rows.laid_bordereau_day_monthDays)] w) false (World.doorLaid Tryd.prog 14 os) #[.agg #[.int .i64 0, .int .i64 0, .int .i64 0]] 8 rfl (World.shaped_of_RefB (by kernel_rfl) (by kernel_rfl)) (by kernel_rfl) (by kernel_rfl) (by kernel_rfl) (Day.door_met os _)) ?_
  intro W base args ds gs before hval0 hW _ _ hL _
  have hval : ∀ (j : Nat) t v, Tryd.f3.params[j]? = some t → args[j]? = some v → Value.okWide Tryd.prog W .any base t v := hval0
  have hW' := hW
  obtain ⟨p, q, hA0, hV, rfl, hfz, hnd⟩ := hW
  have hA : DataW.TrodAll enc Tryd.prog W 0 (fun _ => true) true Tryd.f3.params.toList args.toList ds p := hA0
  rw [Tryd.params3] at hA hval
  obtain ⟨v0, vs0, d0, ds0, p0, q0, hargs, rfl, rfl, h0, r0⟩ := trodAll_cons hA
  obtain ⟨rfl, rfl, rfl⟩ := trodAll_nil r0
  obtain rfl : args = #[v0] := by cases args; simp_all
  obtain ⟨rfl, rfl⟩ := trodVars_none hV
  have k0 := h0
  have lt0 : ∀ x ∈ p0, x.block < W.heap.size := by obtain ⟨m, hm⟩ := k0; exact DataW.trod_lt m _ _ _ hm
  obtain ⟨y0, m0, e0, rfl⟩ := Day.open_civil (hval 0 23 v0 rfl rfl) h0
  clear hA0 hval0
  refine (walk y0 m0 e0 W (Day.of_laid hL)).mono fun e W' ⟨he, bel⟩ => ?_
  subst he
  exact ⟨_, rfl, _, _, _, [], _, [], hW', trodAll_mk1 (shut_bool Tryd.underlying4 _), (trodAll_cons_mk (Below.trod Day.laidOut (by kernel_rfl) (of_decide_eq_true (by kernel_rfl)) k0 bel lt0) trodAll_mk0), rfl, bel.frame _, fun h => by cases h⟩

theorem proved : Rows.DayNumbersSaid :=
  OpenClaim.holds_of_wide 3 Tryd.f3 rfl rfl rfl rfl rfl rfl rfl ⟨rfl, rfl, rfl, rfl, rfl⟩ rfl rfl rfl rfl rfl (by kernel_rfl) Tryd.func3 (by kernel_rfl)
    (of_decide_eq_true (by kernel_rfl)) (by unfold Func.isWrapper; first | (rw [if_pos (by decide +kernel)]; kernel_rfl) | (rw [if_neg (by decide +kernel)]; exact ⟨rfl, rfl⟩))
    (fun os started H enc _ => lifted os started H enc)

theorem carded : Rows.DayNumbersCardSaid :=
  Claim7.holds_tied_plain_at .later [] [.data] true (true, "0d0c1c32c8900cf58ef4dbff73ea3e777abc26be34945349d325ec12e76e930c") false
    proved (fun _ h => by cases h) (by kernel_rfl) (fun _ h => by cases h) dayNumbers_row_tie rfl ⟨rfl, rfl⟩ (by kernel_rfl) rfl
    (fun f fn hf hfn => by
      obtain rfl : f = 3 := Option.some.inj ((show Tryd.prog.funcNamed "bordereau/bordereaulaw02.DayNumbers" = some 3 by kernel_rfl).symm.trans hf) |>.symm
      obtain rfl : fn = Tryd.f3 := (Option.some.inj (Tryd.func3.symm.trans hfn)).symm
      exact ⟨by kernel_rfl, fun j t ht => by
        rw [Tryd.params3] at ht
        have hm : t ∈ [23] := by simpa using Array.mem_of_getElem? ht
        have hall : ([23].all fun u => !Tryd.prog.wantsStandIn u) = true := by kernel_rfl
        exact (show Tryd.prog.wantsStandIn t = false by simpa using List.all_eq_true.1 hall t hm)⟩)
    (by kernel_rfl)

end Go.Proofs.YtpcflkhiimclbaaDoor.dayNumbers
