/-
  The statement DayBack holds: for every input the call returns true, and each argument reads afterwards as it read before; its card: the listed variable tied to the program's text. Conditions: none beside those that the row itself bears.
-/
import Derived.Test.YtpcflkhiimclbaaDoorAwake
import Derived.Test.YtpcflkhiimclbaaDoorTie
import Derived.Test.YtpcflkhiimclbaaDoorCards
import Derived.SevenTiedAt
namespace Go.Proofs.YtpcflkhiimclbaaDoor.dayBack
open Go.ChangeShapes Go.WideShapes Go.ChangeAt Go.RowKit
set_option linter.unusedVariables false

open Cal Day in
set_option maxRecDepth 100000 in
set_option maxHeartbeats 2000000 in
theorem core_ok (n j y m d p q r x : Int) (w : World) (hT : Tab w)
    (cI : ∀ w : World, Hid (Calls Tryd.prog 24 #[.int .u32 n] w fun e w' => e = .returned (.int .i64 j) ∧ w = w'))
    (c1 : ∀ w : World, Tab w → Hid (Calls Tryd.prog 17 #[.int .i64 j] w fun e w' => e = .returned (.tuple #[.agg #[.int .i64 y, .int .i64 m, .int .i64 d], .int .i64 0]) ∧ Below w.heap.size w w'))
    (c2 : ∀ w : World, Tab w → Hid (Calls Tryd.prog 13 #[.agg #[.int .i64 y, .int .i64 m, .int .i64 d]] w fun e w' => e = .returned (.tuple #[.int .i64 j, .int .i64 0]) ∧ Below w.heap.size w w'))
    (c3 : ∀ w : World, Tab w → Hid (Calls Tryd.prog 13 #[.agg #[.int .i64 p, .int .i64 q, .int .i64 r]] w fun e w' => e = .returned (.tuple #[.int .i64 x, .int .i64 0]) ∧ Below w.heap.size w w'))
    (c4 : ∀ w : World, Tab w → Hid (Calls Tryd.prog 17 #[.int .i64 x] w fun e w' => e = .returned (.tuple #[.agg #[.int .i64 p, .int .i64 q, .int .i64 r], .int .i64 0]) ∧ Below w.heap.size w w'))
    (x1 : 1 ≤ x) (x2 : x ≤ 292194)
    :
    Calls Tryd.prog 6 #[.int .u32 n, .agg #[.int .i64 p, .int .i64 q, .int .i64 r]] w fun e w' => e = .returned (.bool true) ∧ Below w.heap.size w w' := by
  have HT := Lib.hid hT
  have hT0 := hT.1
  have c0 := fun w hT => Lib.hid (awake w hT)
  clear hT
  go_enter Tryd.func6, Tryd.ntmps6
  go_wp2_with fail
  refine (c0 _ (HT.out.alloc _)).out.mono ?_
  rintro e w1 ⟨rfl, hb1⟩
  have Ba := Lib.hid ((Below.refl w.heap.size w).alloc (Below.refl w.heap.size w).size (Obj.cells #[.int .i64 (p), .int .i64 (q), .int .i64 (r)] 23))
  have B1 := Lib.hid (Ba.out.trans (hb1.mono Ba.out.size))
  have Ta1 := Lib.hid ((Tri.made w (p) (q) (r)).below hb1)
  clear hb1 Ba
  go_wp2_with fail
  refine (cI _).out.mono ?_
  rintro e w' ⟨rfl, rfl⟩
  go_wp2_with fail
  refine (c1 _ (HT.out.below B1.out hT0)).out.mono ?_
  rintro e w2 ⟨rfl, hb2⟩
  have B2 := Lib.hid (B1.out.trans (hb2.mono B1.out.size))
  have Ta2 := Lib.hid (Ta1.out.below hb2)
  clear hb2 B1 Ta1
  go_wp2_with fail
  refine (c2 _ ((HT.out.below B2.out hT0).alloc _)).out.mono ?_
  rintro e w3 ⟨rfl, hb3⟩
  have Ba := Lib.hid (B2.out.alloc B2.out.size (Obj.cells #[.int .i64 (y), .int .i64 (m), .int .i64 (d)] 23))
  have B3 := Lib.hid (Ba.out.trans (hb3.mono Ba.out.size))
  have Ta3 := Lib.hid ((Ta2.out.alloc (Obj.cells #[.int .i64 (y), .int .i64 (m), .int .i64 (d)] 23)).below hb3)
  have Tb3 := Lib.hid ((Tri.made w2 (y) (m) (d)).below hb3)
  clear hb3 Ba B2 Ta2
  obtain ⟨r0a, r0b, r0c⟩ := Ta3.out
  have r0z := Ta3.out.lt
  go_wp2_with fail
  refine (c3 _ (HT.out.below B3.out hT0)).out.mono ?_
  rintro e w4 ⟨rfl, hb4⟩
  have B4 := Lib.hid (B3.out.trans (hb4.mono B3.out.size))
  have Ta4 := Lib.hid (Ta3.out.below hb4)
  have Tb4 := Lib.hid (Tb3.out.below hb4)
  clear hb4 B3 Ta3 Tb3
  clear r0a r0b r0c r0z
  go_wp2_with fail
  refine (c4 _ (HT.out.below B4.out hT0)).out.mono ?_
  rintro e w5 ⟨rfl, hb5⟩
  have B5 := Lib.hid (B4.out.trans (hb5.mono B4.out.size))
  have Ta5 := Lib.hid (Ta4.out.below hb5)
  have Tb5 := Lib.hid (Tb4.out.below hb5)
  clear hb5 B4 Ta4 Tb4
  obtain ⟨r0a, r0b, r0c⟩ := Ta5.out
  have r0z := Ta5.out.lt
  go_wp2
  go_ret
  exact ⟨rfl, B5.out.alloc B5.out.size _⟩
open Cal Day in
set_option maxRecDepth 100000 in
set_option maxHeartbeats 2000000 in
theorem core_no (n j y m d p q r x : Int) (w : World) (hT : Tab w)
    (cI : ∀ w : World, Hid (Calls Tryd.prog 24 #[.int .u32 n] w fun e w' => e = .returned (.int .i64 j) ∧ w = w'))
    (c1 : ∀ w : World, Tab w → Hid (Calls Tryd.prog 17 #[.int .i64 j] w fun e w' => e = .returned (.tuple #[.agg #[.int .i64 y, .int .i64 m, .int .i64 d], .int .i64 0]) ∧ Below w.heap.size w w'))
    (c2 : ∀ w : World, Tab w → Hid (Calls Tryd.prog 13 #[.agg #[.int .i64 y, .int .i64 m, .int .i64 d]] w fun e w' => e = .returned (.tuple #[.int .i64 j, .int .i64 0]) ∧ Below w.heap.size w w'))
    (c3 : ∀ w : World, Tab w → Hid (Calls Tryd.prog 13 #[.agg #[.int .i64 p, .int .i64 q, .int .i64 r]] w fun e w' => e = .returned (.tuple #[.int .i64 x, .int .i64 3]) ∧ Below w.heap.size w w'))
    :
    Calls Tryd.prog 6 #[.int .u32 n, .agg #[.int .i64 p, .int .i64 q, .int .i64 r]] w fun e w' => e = .returned (.bool true) ∧ Below w.heap.size w w' := by
  have HT := Lib.hid hT
  have hT0 := hT.1
  have c0 := fun w hT => Lib.hid (awake w hT)
  clear hT
  go_enter Tryd.func6, Tryd.ntmps6
  go_wp2_with fail
  refine (c0 _ (HT.out.alloc _)).out.mono ?_
  rintro e w1 ⟨rfl, hb1⟩
  have Ba := Lib.hid ((Below.refl w.heap.size w).alloc (Below.refl w.heap.size w).size (Obj.cells #[.int .i64 (p), .int .i64 (q), .int .i64 (r)] 23))
  have B1 := Lib.hid (Ba.out.trans (hb1.mono Ba.out.size))
  have Ta1 := Lib.hid ((Tri.made w (p) (q) (r)).below hb1)
  clear hb1 Ba
  go_wp2_with fail
  refine (cI _).out.mono ?_
  rintro e w' ⟨rfl, rfl⟩
  go_wp2_with fail
  refine (c1 _ (HT.out.below B1.out hT0)).out.mono ?_
  rintro e w2 ⟨rfl, hb2⟩
  have B2 := Lib.hid (B1.out.trans (hb2.mono B1.out.size))
  have Ta2 := Lib.hid (Ta1.out.below hb2)
  clear hb2 B1 Ta1
  go_wp2_with fail
  refine (c2 _ ((HT.out.below B2.out hT0).alloc _)).out.mono ?_
  rintro e w3 ⟨rfl, hb3⟩
  have Ba := Lib.hid (B2.out.alloc B2.out.size (Obj.cells #[.int .i64 (y), .int .i64 (m), .int .i64 (d)] 23))
  have B3 := Lib.hid (Ba.out.trans (hb3.mono Ba.out.size))
  have Ta3 := Lib.hid ((Ta2.out.alloc (Obj.cells #[.int .i64 (y), .int .i64 (m), .int .i64 (d)] 23)).below hb3)
  have Tb3 := Lib.hid ((Tri.made w2 (y) (m) (d)).below hb3)
  clear hb3 Ba B2 Ta2
  obtain ⟨r0a, r0b, r0c⟩ := Ta3.out
  have r0z := Ta3.out.lt
  go_wp2_with fail
  refine (c3 _ (HT.out.below B3.out hT0)).out.mono ?_
  rintro e w4 ⟨rfl, hb4⟩
  have B4 := Lib.hid (B3.out.trans (hb4.mono B3.out.size))
  have Ta4 := Lib.hid (Ta3.out.below hb4)
  have Tb4 := Lib.hid (Tb3.out.below hb4)
  clear hb4 B3 Ta3 Tb3
  clear r0a r0b r0c r0z
  go_wp2
  go_ret
  exact ⟨rfl, B4.out⟩
open Cal Day in
theorem walk (n : Int) (hn : 0 ≤ n ∧ n ≤ 4294967295) (p q r : Int) (w : World) (hT : Tab w) :
    Calls Tryd.prog 6 #[.int .u32 n, .agg #[.int .i64 p, .int .i64 q, .int .i64 r]] w fun e w' => e = .returned (.bool true) ∧ Below w.heap.size w w' := by
  obtain ⟨y, m, d, hy⟩ := Ymd.of (1 + n % 292194) (by omega) (by omega)
  have c2 := fun w hT => Lib.hid (numberOf y m d w hT)
  rw [hy.nu.1, hy.nu.2] at c2
  have c3 := fun w hT => Lib.hid (numberOf p q r w hT)
  cases hv : vld p q r
  · rw [(nu_bad hv).1, (nu_bad hv).2] at c3
    exact core_no n _ y m d p q r 0 w hT (fun w => Lib.hid (rin n w hn.1 hn.2)) (fun w hT => Lib.hid (of_yes _ y m d w hT hy)) c2 c3
  · have hx := ymd_of_vld hv
    rw [hx.nu.1, hx.nu.2] at c3
    exact core_ok n _ y m d p q r _ w hT (fun w => Lib.hid (rin n w hn.1 hn.2)) (fun w hT => Lib.hid (of_yes _ y m d w hT hy)) c2 c3 (fun w hT => Lib.hid (of_yes _ p q r w hT hx)) hx.day.1 hx.day.2

set_option maxRecDepth 100000 in
theorem lifted (os : Os) (started : os.Started) (H : Type) (enc : TypeId × Value → H) :
    ReturnsInHanded {} Tryd.checked os 6 .any (fun w args => (Rows.dayBackSpec.pre enc Tryd.prog Tryd.f6 [] false w args ∧ laidMetH Tryd.prog [("bordereau/day.monthDays", Rows.laid_bordereau_day_monthDays)] w) ∧ sizedMet enc Tryd.prog Tryd.f6 (OpenSpec.ofChange Rows.dayBackSpec) false w args)
      (Rows.dayBackSpec.post enc Tryd.prog Tryd.f6 false true false false) := by
  refine returnsInHanded_of_change_and (C := Tryd.checked) (X := fun w _ => laidMetH Tryd.prog [("bordereau/day.monthDays", Rows.laid_bordereau_day_monthDays)] w) (fun _ _ _ hh h => h.of_heap hh) Day.own started (by kernel_rfl) Tryd.func6
    (ChangeSpec.witness_shaped (enc := enc) (C := Tryd.checked) (os := os) (X := fun w _ => laidMetH Tryd.prog [("bordereau/day.monthDays", Rows.laid_bordereau_day_monthDays)] w) false (World.doorLaid Tryd.prog 14 os) #[.int .u32 0, .agg #[.int .i64 0, .int .i64 0, .int .i64 0]] 8 rfl (World.shaped_of_RefB (by kernel_rfl) (by kernel_rfl)) (by kernel_rfl) (by kernel_rfl) (by kernel_rfl) (Day.door_met os _)) ?_
  intro W base args ds gs before hval0 hW _ _ hL _
  have hval : ∀ (j : Nat) t v, Tryd.f6.params[j]? = some t → args[j]? = some v → Value.okWide Tryd.prog W .any base t v := hval0
  have hW' := hW
  obtain ⟨p, q, hA0, hV, rfl, hfz, hnd⟩ := hW
  have hA : DataW.TrodAll enc Tryd.prog W 0 (fun _ => true) true Tryd.f6.params.toList args.toList ds p := hA0
  rw [Tryd.params6] at hA hval
  obtain ⟨v0, vs0, d0, ds0, p0, q0, hargs, rfl, rfl, h0, r0⟩ := trodAll_cons hA
  obtain ⟨v1, vs1, d1, ds1, p1, q1, rfl, rfl, rfl, h1, r1⟩ := trodAll_cons r0
  obtain ⟨rfl, rfl, rfl⟩ := trodAll_nil r1
  obtain rfl : args = #[v0, v1] := by cases args; simp_all
  obtain ⟨rfl, rfl⟩ := trodVars_none hV
  obtain ⟨a0, rfl, rfl, rfl, w0⟩ := open_int Tryd.underlying35 (hval 0 35 v0 rfl rfl) h0
  have k1 := h1
  have lt1 : ∀ x ∈ p1, x.block < W.heap.size := by obtain ⟨m, hm⟩ := k1; exact DataW.trod_lt m _ _ _ hm
  obtain ⟨y1, m1, e1, rfl⟩ := Day.open_civil (hval 1 23 v1 rfl rfl) h1
  clear hA0 hval0
  refine (walk a0 (Day.u32_of w0) y1 m1 e1 W (Day.of_laid hL)).mono fun e W' ⟨he, bel⟩ => ?_
  subst he
  exact ⟨_, rfl, _, _, _, [], _, [], hW', trodAll_mk1 (shut_bool Tryd.underlying4 _), (trodAll_cons_mk (shut_int Tryd.underlying35 w0) (trodAll_cons_mk (Below.trod Day.laidOut (by kernel_rfl) (of_decide_eq_true (by kernel_rfl)) k1 bel lt1) trodAll_mk0)), rfl, bel.frame _, fun h => by cases h⟩

theorem proved : Rows.DayBackSaid :=
  OpenClaim.holds_of_wide 6 Tryd.f6 rfl rfl rfl rfl rfl rfl rfl ⟨rfl, rfl, rfl, rfl, rfl⟩ rfl rfl rfl rfl rfl (by kernel_rfl) Tryd.func6 (by kernel_rfl)
    (of_decide_eq_true (by kernel_rfl)) (by unfold Func.isWrapper; first | (rw [if_pos (by decide +kernel)]; kernel_rfl) | (rw [if_neg (by decide +kernel)]; exact ⟨rfl, rfl⟩))
    (fun os started H enc _ => lifted os started H enc)

theorem carded : Rows.DayBackCardSaid :=
  Claim7.holds_tied_plain_at .later [] [.data] true (true, "0d0c1c32c8900cf58ef4dbff73ea3e777abc26be34945349d325ec12e76e930c") false
    proved (fun _ h => by cases h) (by kernel_rfl) (fun _ h => by cases h) dayBack_row_tie rfl ⟨rfl, rfl⟩ (by kernel_rfl) rfl
    (fun f fn hf hfn => by
      obtain rfl : f = 6 := Option.some.inj ((show Tryd.prog.funcNamed "bordereau/bordereaulaw02.DayBack" = some 6 by kernel_rfl).symm.trans hf) |>.symm
      obtain rfl : fn = Tryd.f6 := (Option.some.inj (Tryd.func6.symm.trans hfn)).symm
      exact ⟨by kernel_rfl, fun j t ht => by
        rw [Tryd.params6] at ht
        have hm : t ∈ [35, 23] := by simpa using Array.mem_of_getElem? ht
        have hall : ([35, 23].all fun u => !Tryd.prog.wantsStandIn u) = true := by kernel_rfl
        exact (show Tryd.prog.wantsStandIn t = false by simpa using List.all_eq_true.1 hall t hm)⟩)
    (by kernel_rfl)

end Go.Proofs.YtpcflkhiimclbaaDoor.dayBack
