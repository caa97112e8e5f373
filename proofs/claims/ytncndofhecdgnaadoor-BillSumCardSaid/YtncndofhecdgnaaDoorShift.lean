/-
  package day: Shift. Conditions: those of each theorem (numbers of 64 bits; the table of months reads as it is laid).
-/
import Derived.Test.YtncndofhecdgnaaDoorNumber
import Derived.StillTailTactics
import Derived.Lib.MinMax
namespace Go.Proofs.YtncndofhecdgnaaDoor
open Go.RowKit Cal
namespace Day
set_option linter.unusedVariables false

theorem shift_no (n k : Int) (w : World) (h : n < 1 ∨ 292194 < n) :
    Calls Tryd.prog 24 #[.int .i64 n, .int .i64 k] w fun e w' => e = .returned (.tuple #[.int .i64 0, .int .i64 3]) ∧ Below w.heap.size w w' := by
  have c1 := fun w => Lib.hid (isDay_no n w h)
  clear h
  go_enter Tryd.func24, Tryd.ntmps24
  go_wp2_with (go_at_call 36; refine (c1 _).out.mono ?_; rintro e w' ⟨rfl, rfl⟩)
  go_ret2
  exact ⟨rfl, Below.refl _ _⟩

theorem flip {P : Program} {f : FuncId} {args : Array Value} {w : World} {v : Value} (h : Calls P f args w fun e w' => e = .returned v ∧ w = w') : Calls P f args w fun e w' => e = .returned v ∧ w' = w :=
  h.mono fun _ _ ⟨he, hm⟩ => ⟨he, hm.symm⟩
theorem Tab.drew {w : World} (h : Tab w) : Tab w.drew := h.below (B := w.heap.size) ⟨rfl, rfl, rfl, Nat.le_refl _, fun _ _ => rfl⟩ h.1

theorem at_bd {n y m d : Int} (h : Ymd n y m d) : 0 ≤ at_ y m ∧ at_ y m ≤ 9599 := by
  have := h.y1; have := h.y2; have := h.m1; have := h.m2
  unfold at_; omega

set_option maxHeartbeats 2000000 in
theorem shift_out (n y m d k : Int) (w : World) (hT : Tab w) (h : Ymd n y m d) (hk : inR (at_ y m + k) = false) :
    Calls Tryd.prog 24 #[.int .i64 n, .int .i64 k] w fun e w' => e = .returned (.tuple #[.int .i64 0, .int .i64 3]) ∧ Below w.heap.size w w' := by
  obtain ⟨n1, n2⟩ := h.day
  have hr := inR_not.1 hk
  have ab := at_bd h
  have c1 := fun w => Lib.hid (isDay_yes n w n1 n2)
  have c2 := fun w hT => Lib.hid (civil n y m d w hT h)
  have y1 := h.y1
  have y2 := h.y2
  have m1 := h.m1
  have m2 := h.m2
  have HT := Lib.hid hT
  clear h hT hk
  have ea : (y - 1601) * 12 + m - 1 = at_ y m := rfl
  generalize at_ y m = a at *
  obtain ⟨a1, a2⟩ := ab
  by_cases hlt : k < -a
  · have t1 : decide (k < -a) = true := by simpa using hlt
    clear hr hlt
    go_enter Tryd.func24, Tryd.ntmps24
    go_wp2_with (go_at_call 36; refine (c1 _).out.mono ?_; rintro e w' ⟨rfl, rfl⟩)
    refine (c2 _ HT.out).out.mono ?_
    rintro e w1 ⟨rfl, hb1⟩
    have B1 := Lib.hid hb1
    clear hb1
    go_wp2
    go_ret2
    exact ⟨rfl, B1.out.alloc B1.out.size _⟩
  · have t1 : decide (k < -a) = false := by simpa using hlt
    have t2 : decide (9599 - a < k) = true := by simp; omega
    clear hr hlt
    go_enter Tryd.func24, Tryd.ntmps24
    go_wp2_with (go_at_call 36; refine (c1 _).out.mono ?_; rintro e w' ⟨rfl, rfl⟩)
    refine (c2 _ HT.out).out.mono ?_
    rintro e w1 ⟨rfl, hb1⟩
    have B1 := Lib.hid hb1
    clear hb1
    go_wp2
    go_ret2
    exact ⟨rfl, B1.out.alloc B1.out.size _⟩

set_option maxHeartbeats 400000 in
theorem shift_in (n y m d k : Int) (w : World) (hT : Tab w) (h : Ymd n y m d) (hk : inR (at_ y m + k) = true) :
    Calls Tryd.prog 24 #[.int .i64 n, .int .i64 k] w fun e w' => e = .returned (.tuple #[.int .i64 (shN y m d k), .int .i64 0]) ∧ Below w.heap.size w w' := by
  obtain ⟨n1, n2⟩ := h.day
  have hr := inR_iff.1 hk
  have ab := at_bd h
  have c1 := fun w => Lib.hid (isDay_yes n w n1 n2)
  have c2 := fun w hT => Lib.hid (civil n y m d w hT h)
  have hmb := ma_bd (at_ y m + k)
  have c3 := fun w hT => Lib.hid (monthLength (ya (at_ y m + k)) (ma (at_ y m + k)) w hT hmb.1 hmb.2)
  have c4 := fun w hT => Lib.hid (number (ya (at_ y m + k)) (ma (at_ y m + k)) (shD y m d k) w hT (h.shift hk).vld)
  have y1 := h.y1
  have y2 := h.y2
  have m1 := h.m1
  have m2 := h.m2
  have HT := Lib.hid hT
  have hT0 := hT.1
  clear h hT hk
  have ea : (y - 1601) * 12 + m - 1 = at_ y m := rfl
  have e1 : 1601 + (at_ y m + k) / 12 = ya (at_ y m + k) := rfl
  have e2 : (at_ y m + k) % 12 + 1 = ma (at_ y m + k) := rfl
  have e3 : min d (ml (ya (at_ y m + k)) (ma (at_ y m + k))) = shD y m d k := rfl
  have e4 : da (ya (at_ y m + k)) + cm (ya (at_ y m + k)) (ma (at_ y m + k)) + shD y m d k = shN y m d k := rfl
  rw [e4] at c4
  generalize shN y m d k = N at *
  generalize shD y m d k = D at *
  generalize hA : at_ y m + k = A at *
  obtain ⟨a1, a2⟩ := ab
  obtain ⟨a3, a4⟩ := hr
  have t1 : decide (k < -(at_ y m)) = false := by simp; omega
  have t2 : decide (9599 - at_ y m < k) = false := by simp; omega
  generalize at_ y m = a at *
  generalize ya A = Y at *
  generalize ma A = M at *
  obtain ⟨b1, b2⟩ := hmb
  clear e4
  go_enter Tryd.func24, Tryd.ntmps24
  go_wp2_with (go_at_call 36; refine (c1 _).out.mono ?_; rintro e w' ⟨rfl, rfl⟩)
  refine (c2 _ HT.out).out.mono ?_
  rintro e w1 ⟨rfl, hb1⟩
  have B1 := Lib.hid hb1
  have HT1 := Lib.hid (HT.out.below hb1 hT0)
  clear hb1
  go_wp2
  have k2 : (w1.alloc (Obj.cells #[.int .i64 y, .int .i64 m, .int .i64 d] 54)).cell? ⟨w1.heap.size, 2, none⟩ = some (.int .i64 d) := by simp
  have HT2 := Lib.hid (HT1.out.alloc (Obj.cells #[.int .i64 y, .int .i64 m, .int .i64 d] 54))
  have B2 := Lib.hid (B1.out.alloc B1.out.size (Obj.cells #[.int .i64 y, .int .i64 m, .int .i64 d] 54))
  generalize w1.alloc (Obj.cells #[.int .i64 y, .int .i64 m, .int .i64 d] 54) = w2 at *
  clear HT1 B1 ea hA e1 e2 t1 t2 c1 c2 HT
  have HT3 := Lib.hid HT2.out.drew
  refine wp_region_still_tail 9 (by kernel_rfl) (by kernel_rfl) ?_
  simp only [List.take_succ_cons, List.take_zero, List.drop_succ_cons, List.drop_zero]
  still_step
  still_step
  still_step
  still_step
  still_step
  still_step
  still_call (flip (c3 w2.drew HT3.out).out)
  still_step
  still_step
  refine wpStill_nil ?_
  have B3 := Lib.hid (show Below w.heap.size w w2.drew from B2.out.trans (B := w.heap.size) ⟨rfl, rfl, rfl, Nat.le_refl _, fun _ _ => rfl⟩)
  change wpList _ _ _ _ _ w2.drew
  generalize w2.drew = w3 at *
  clear k2 HT2 B2
  go_wp2_with fail
  refine (c4 _ HT3.out).out.mono ?_
  rintro e w4 ⟨rfl, hb4⟩
  have B4 := Lib.hid hb4
  clear hb4
  go_wp2
  go_ret2
  exact ⟨rfl, B3.out.trans (B4.out.mono B3.out.size)⟩

end Day
end Go.Proofs.YtncndofhecdgnaaDoor
