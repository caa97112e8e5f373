/-
  The document's own Shift. Conditions: those of each theorem.
-/
import Derived.Test.YtncndofhecdgnaaDoorRef2
namespace Go.Proofs.YtncndofhecdgnaaDoor
open Go.RowKit Cal
namespace Day
set_option linter.unusedVariables false

/-- The block 'b', made since 'w0', holds the three numbers. -/
structure Cv (w0 w : World) (b : Nat) (y m d : Int) : Prop where
  c0 : w.cell? ⟨b, 0, none⟩ = some (.int .i64 y)
  c1 : w.cell? ⟨b, 1, none⟩ = some (.int .i64 m)
  c2 : w.cell? ⟨b, 2, none⟩ = some (.int .i64 d)
  f0 : w.frozen? ⟨b, 0, none⟩ = false
  f1 : w.frozen? ⟨b, 1, none⟩ = false
  f2 : w.frozen? ⟨b, 2, none⟩ = false
  below : Below w0.heap.size w0 w
  lo : w0.heap.size ≤ b

theorem Cv.set0 {w0 w : World} {b : Nat} {y m d : Int} (h : Cv w0 w b y m d) (z : Int) : Cv w0 (w.setCell ⟨b, 0, none⟩ (.int .i64 z)) b z m d :=
  ⟨World.cell?_setCell_same _ _ _ h.c0, (World.cell?_setCell_other _ _ _ _ (by simp)).trans h.c1, (World.cell?_setCell_other _ _ _ _ (by simp)).trans h.c2,
    by simpa using h.f0, by simpa using h.f1, by simpa using h.f2, h.below.setCell h.lo _, h.lo⟩
theorem Cv.set1 {w0 w : World} {b : Nat} {y m d : Int} (h : Cv w0 w b y m d) (z : Int) : Cv w0 (w.setCell ⟨b, 1, none⟩ (.int .i64 z)) b y z d :=
  ⟨(World.cell?_setCell_other _ _ _ _ (by simp)).trans h.c0, World.cell?_setCell_same _ _ _ h.c1, (World.cell?_setCell_other _ _ _ _ (by simp)).trans h.c2,
    by simpa using h.f0, by simpa using h.f1, by simpa using h.f2, h.below.setCell h.lo _, h.lo⟩
theorem Cv.set2 {w0 w : World} {b : Nat} {y m d : Int} (h : Cv w0 w b y m d) (z : Int) : Cv w0 (w.setCell ⟨b, 2, none⟩ (.int .i64 z)) b y m z :=
  ⟨(World.cell?_setCell_other _ _ _ _ (by simp)).trans h.c0, (World.cell?_setCell_other _ _ _ _ (by simp)).trans h.c1, World.cell?_setCell_same _ _ _ h.c2,
    by simpa using h.f0, by simpa using h.f1, by simpa using h.f2, h.below.setCell h.lo _, h.lo⟩
theorem Cv.drew {w0 w : World} {b : Nat} {y m d : Int} (h : Cv w0 w b y m d) : Cv w0 w.drew b y m d :=
  ⟨h.c0, h.c1, h.c2, h.f0, h.f1, h.f2, h.below.trans (B := w0.heap.size) ⟨rfl, rfl, rfl, Nat.le_refl _, fun _ _ => rfl⟩, h.lo⟩
theorem Cv.make {w0 w : World} (hb : Below w0.heap.size w0 w) (y m d : Int) : Cv w0 (w.alloc (.cells #[.int .i64 y, .int .i64 m, .int .i64 d] 54)) w.heap.size y m d :=
  ⟨by simp, by simp, by simp, by simp, by simp, by simp, hb.alloc hb.size _, hb.size⟩

theorem rshift_no (n k : Int) (w : World) (h : n < 1 ∨ 292194 < n) :
    Calls Tryd.prog 31 #[.int .i64 n, .int .i64 k] w fun e w' => e = .returned (.tuple #[.int .i64 0, .int .i64 3]) ∧ Below w.heap.size w w' := by
  have c1 := fun w => Lib.hid (rof_no n w h)
  clear h
  go_enter Tryd.func31, Tryd.ntmps31
  go_wp2_with fail
  refine (c1 _).out.mono ?_
  rintro e w1 ⟨rfl, hb1⟩
  have B1 := Lib.hid hb1
  clear hb1
  go_wp2
  go_ret2
  exact ⟨rfl, B1.out.alloc B1.out.size _⟩

theorem rshift_far (n y m d k : Int) (w : World) (h : Ymd n y m d) (hk : 9600 < k ∨ k < -9600) :
    Calls Tryd.prog 31 #[.int .i64 n, .int .i64 k] w fun e w' => e = .returned (.tuple #[.int .i64 0, .int .i64 3]) ∧ Below w.heap.size w w' := by
  have c1 := fun w => Lib.hid (rof_yes n y m d w h)
  clear h
  rcases hk with hk | hk
  · go_enter Tryd.func31, Tryd.ntmps31
    go_wp2_with fail
    refine (c1 _).out.mono ?_
    rintro e w1 ⟨rfl, hb1⟩
    have B1 := Lib.hid hb1
    clear hb1
    go_wp2
    go_ret2
    exact ⟨rfl, B1.out.alloc B1.out.size _⟩
  · go_enter Tryd.func31, Tryd.ntmps31
    go_wp2_with fail
    refine (c1 _).out.mono ?_
    rintro e w1 ⟨rfl, hb1⟩
    have B1 := Lib.hid hb1
    clear hb1
    go_wp2
    go_ret2
    exact ⟨rfl, B1.out.alloc B1.out.size _⟩

theorem ya_up {a : Int} (h : ma a + 1 = 13) : ya (a + 1) = ya a + 1 ∧ ma (a + 1) = 1 := by unfold ya ma at *; omega
theorem ya_up2 {a : Int} (h : ¬ ma a + 1 = 13) : ya (a + 1) = ya a ∧ ma (a + 1) = ma a + 1 := by unfold ya ma at *; omega
theorem ya_dn {a : Int} (h : ma a - 1 = 0) : ya (a - 1) = ya a - 1 ∧ ma (a - 1) = 12 := by unfold ya ma at *; omega
theorem ya_dn2 {a : Int} (h : ¬ ma a - 1 = 0) : ya (a - 1) = ya a ∧ ma (a - 1) = ma a - 1 := by unfold ya ma at *; omega
theorem ya_in {a : Int} (h : -20000 ≤ a ∧ a ≤ 20000) : -100 ≤ ya a ∧ ya a ≤ 4000 := by unfold ya; omega

set_option maxHeartbeats 2000000 in
set_option maxRecDepth 100000 in
theorem rshift_near (n y m d k : Int) (w : World) (h : Ymd n y m d) (k1 : -9600 ≤ k) (k2 : k ≤ 9600) (Y M D : Int) (hY : Hid (ya (at_ y m + k) = Y)) (hM : Hid (ma (at_ y m + k) = M)) (hD : Hid (shD y m d k = D)) :
    Calls Tryd.prog 31 #[.int .i64 n, .int .i64 k] w fun e w' => e = .returned (.tuple #[.int .i64 (nuV Y M D), .int .i64 (nuE Y M D)]) ∧ Below w.heap.size w w' := by
  have c1 := fun w => Lib.hid (rof_yes n y m d w h)
  have ab := at_bd h
  have ey := ya_at (y := y) h.m1 h.m2
  have em := ma_at (y := y) h.m1 h.m2
  have e5 : min d (ml (ya (at_ y m + k)) (ma (at_ y m + k))) = shD y m d k := rfl
  rw [hY.out, hM.out, hD.out] at e5
  have E5 := Lib.hid e5
  clear e5 hD
  have d1 := h.d1
  have d2 := h.d2
  have y1 := h.y1
  have y2 := h.y2
  have m1 := h.m1
  have m2 := h.m2
  clear h
  generalize at_ y m = a at *
  have EY := Lib.hid ey
  have EM := Lib.hid em
  clear ey em
  obtain ⟨P, hP⟩ : ∃ P : Int, P = max k 0 := ⟨_, rfl⟩
  have P1 : 0 ≤ P ∧ P ≤ 9600 ∧ k ≤ P ∧ (k ≤ 0 ∨ P = k) ∧ (0 < k ∨ P = 0) := by omega
  have HP := Lib.hid P1
  clear P1 hP
  obtain ⟨a1, a2⟩ := ab
  go_enter Tryd.func31, Tryd.ntmps31
  go_wp2_with fail
  refine (c1 _).out.mono ?_
  rintro e w1 ⟨rfl, hb1⟩
  have C0 := Lib.hid (Cv.make hb1 y m d)
  clear hb1 c1
  go_wp2
  generalize w1.heap.size = b at *
  generalize w1.alloc (Obj.cells #[.int .i64 y, .int .i64 m, .int .i64 d] 54) = w2 at *
  go_loopw [8] (fun s w' => ∃ i : Int, 0 ≤ i ∧ i ≤ 9600 ∧ Hid (i ≤ P) ∧ s = .int .i64 i ∧ Hid (Cv w w' b (ya (a + i)) (ma (a + i)) d)) (fun s _ => (9600 - intOf s).toNat)
  case atStart => exact ⟨0, by omega, by omega, Lib.hid HP.out.1, rfl, Lib.hid (by rw [Int.add_zero, EY.out, EM.out]; exact C0.out)⟩
  case round =>
    obtain ⟨i, i1, i2, i3, rfl, HC⟩ := hrel
    clear C0
    have yb := ya_in (a := a + i) (by omega)
    have mb := ma_bd (a + i)
    by_cases hc : i < k
    · obtain ⟨c0, c1, c2, f0, f1, f2, _, _⟩ := HC.out
      have i4 : i < 9600 := by omega
      by_cases h13 : ma (a + i) + 1 = 13
      · obtain ⟨u1, u2⟩ := ya_up h13
        have U1 := Lib.hid u1
        have U2 := Lib.hid u2
        have t : (ma (a + i) + 1 == 13) = true := by simpa using h13
        clear u1 u2 h13
        generalize ya (a + i) = Z at *
        generalize ma (a + i) = V at *
        obtain ⟨yb1, yb2⟩ := yb
        obtain ⟨mb1, mb2⟩ := mb
        go_wp2
        go_roundw
        case rel =>
          refine ⟨i + 1, by omega, by omega, Lib.hid (by have := HP.out; omega), rfl, Lib.hid ?_⟩
          rw [show a + (i + 1) = a + i + 1 by omega, U1.out, U2.out]
          exact ((HC.out.set1 _).set1 _).set0 _
        case measure => simp [intOf]; omega
      · obtain ⟨u1, u2⟩ := ya_up2 h13
        have U1 := Lib.hid u1
        have U2 := Lib.hid u2
        have t : (ma (a + i) + 1 == 13) = false := by simpa using h13
        clear u1 u2 h13
        generalize ya (a + i) = Z at *
        generalize ma (a + i) = V at *
        obtain ⟨yb1, yb2⟩ := yb
        obtain ⟨mb1, mb2⟩ := mb
        go_wp2
        go_roundw
        case rel =>
          refine ⟨i + 1, by omega, by omega, Lib.hid (by have := HP.out; omega), rfl, Lib.hid ?_⟩
          rw [show a + (i + 1) = a + i + 1 by omega, U1.out, U2.out]
          exact HC.out.set1 _
        case measure => simp [intOf]; omega
    · have C1 : Hid (Cv w wr b (ya (a + P)) (ma (a + P)) d) := by
        have e : i = P := by have := HP.out; have := i3.out; omega
        rw [← e]
        exact HC
      clear HC yb mb i3
      go_wp2
      go_loopw [9] (fun s w' => ∃ j : Int, j ≤ 0 ∧ -9600 ≤ j ∧ s = .int .i64 j ∧ Hid (k ≤ P + j ∧ (0 < k → j = 0)) ∧ Hid (Cv w w' b (ya (a + P + j)) (ma (a + P + j)) d)) (fun s _ => (9600 + intOf s).toNat)
      case atStart => exact ⟨0, by omega, by omega, rfl, Lib.hid ⟨by have := HP.out; omega, fun _ => rfl⟩, Lib.hid (by rw [Int.add_zero]; exact C1.out)⟩
      case round =>
        obtain ⟨j, j1, j2, rfl, j3, HC⟩ := hrel
        clear C1
        have hP' := HP.out
        have yb := ya_in (a := a + P + j) (by omega)
        have mb := ma_bd (a + P + j)
        clear hP'
        by_cases hc2 : k < j
        · obtain ⟨c0, c1, c2, f0, f1, f2, _, _⟩ := HC.out
          have j4 : -9600 < j := by omega
          by_cases h0 : ma (a + P + j) - 1 = 0
          · obtain ⟨u1, u2⟩ := ya_dn h0
            have U1 := Lib.hid u1
            have U2 := Lib.hid u2
            have t : (ma (a + P + j) - 1 == 0) = true := by simpa using h0
            clear u1 u2 h0
            generalize ya (a + P + j) = Z at *
            generalize ma (a + P + j) = V at *
            obtain ⟨yb1, yb2⟩ := yb
            obtain ⟨mb1, mb2⟩ := mb
            go_wp2
            go_roundw
            case rel =>
              refine ⟨j - 1, by omega, by omega, rfl, Lib.hid (by have := HP.out; have := j3.out; omega), Lib.hid ?_⟩
              rw [show a + P + (j - 1) = a + P + j - 1 by omega, U1.out, U2.out]
              exact ((HC.out.set1 _).set1 _).set0 _
            case measure => simp [intOf]; omega
          · obtain ⟨u1, u2⟩ := ya_dn2 h0
            have U1 := Lib.hid u1
            have U2 := Lib.hid u2
            have t : (ma (a + P + j) - 1 == 0) = false := by simpa using h0
            clear u1 u2 h0
            generalize ya (a + P + j) = Z at *
            generalize ma (a + P + j) = V at *
            obtain ⟨yb1, yb2⟩ := yb
            obtain ⟨mb1, mb2⟩ := mb
            go_wp2
            go_roundw
            case rel =>
              refine ⟨j - 1, by omega, by omega, rfl, Lib.hid (by have := HP.out; have := j3.out; omega), Lib.hid ?_⟩
              rw [show a + P + (j - 1) = a + P + j - 1 by omega, U1.out, U2.out]
              exact HC.out.set1 _
            case measure => simp [intOf]; omega
        · have C2 : Hid (Cv w wr b Y M d) := by
            have e : a + P + j = a + k := by have := HP.out; have := j3.out; omega
            rw [← hY.out, ← hM.out, ← e]
            exact HC
          clear HC yb mb j3 hY hM EY EM HP
          obtain ⟨c0, c1, c2, f0, f1, f2, _, _⟩ := C2.out
          go_wp2
          refine wp_region_still_tail 9 (by kernel_rfl) (by kernel_rfl) ?_
          simp only [List.take_succ_cons, List.take_zero, List.drop_succ_cons, List.drop_zero]
          have e5 := E5.out
          clear E5
          still_step
          still_step
          still_step
          still_step
          still_step
          still_step
          still_call (flip (rmonth Y M _))
          still_step
          still_step
          refine wpStill_nil ?_
          have C3 := Lib.hid C2.out.drew
          change wpList _ _ _ _ _ wr.drew
          clear c0 c1 c2 f0 f1 f2 C2
          generalize wr.drew = w3 at *
          obtain ⟨c0, c1, c2, f0, f1, f2, _, _⟩ := C3.out
          have C4 := Lib.hid (C3.out.set2 D)
          go_wp2_with fail
          clear c0 c1 c2 f0 f1 f2
          refine (rnumber Y M D _).mono ?_
          rintro e w4 ⟨rfl, hb4⟩
          have B4 := Lib.hid (C4.out.below.trans (hb4.mono C4.out.below.size))
          clear hb4
          go_wp2
          go_ret2
          exact ⟨rfl, B4.out⟩

theorem nu_far {y m d : Int} (h : y < 1601 ∨ 2400 < y) : nuV y m d = 0 ∧ nuE y m d = 3 := nu_bad (vld_not.2 (by omega))

/-- Shift, by the document: any number of months behind a day. -/
theorem rshift (n y m d k : Int) (w : World) (h : Ymd n y m d) :
    Calls Tryd.prog 31 #[.int .i64 n, .int .i64 k] w fun e w' => e = .returned (.tuple #[.int .i64 (shV y m d k), .int .i64 (shE y m d k)]) ∧ Below w.heap.size w w' := by
  have ab := at_bd h
  by_cases hk : -9600 ≤ k ∧ k ≤ 9600
  · have c := rshift_near n y m d k w h hk.1 hk.2 _ _ _ (Lib.hid rfl) (Lib.hid rfl) (Lib.hid rfl)
    cases hr : inR (at_ y m + k)
    · have hr' := inR_not.1 hr
      have far := nu_far (y := ya (at_ y m + k)) (m := ma (at_ y m + k)) (d := shD y m d k) (by unfold ya; omega)
      rw [far.1, far.2] at c
      rw [(sh_out hr).1, (sh_out hr).2]
      exact c
    · rw [(h.shift hr).nu.1, (h.shift hr).nu.2] at c
      rw [(sh_in hr).1, (sh_in hr).2]
      exact c
  · have hr : inR (at_ y m + k) = false := inR_not.2 (by omega)
    rw [(sh_out hr).1, (sh_out hr).2]
    exact rshift_far n y m d k w h (by omega)
/-- Shift, by the program. -/
theorem shift (n y m d k : Int) (w : World) (hT : Tab w) (h : Ymd n y m d) :
    Calls Tryd.prog 24 #[.int .i64 n, .int .i64 k] w fun e w' => e = .returned (.tuple #[.int .i64 (shV y m d k), .int .i64 (shE y m d k)]) ∧ Below w.heap.size w w' := by
  cases hr : inR (at_ y m + k)
  · rw [(sh_out hr).1, (sh_out hr).2]
    exact shift_out n y m d k w hT h hr
  · rw [(sh_in hr).1, (sh_in hr).2]
    exact shift_in n y m d k w hT h hr

end Day
end Go.Proofs.YtncndofhecdgnaaDoor
