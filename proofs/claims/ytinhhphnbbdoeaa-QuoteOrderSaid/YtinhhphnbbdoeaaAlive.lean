/-
  The laws' own alive: it answers true. Conditions: none.
-/
import Derived.Test.YtinhhphnbbdoeaaPlain
import Derived.Test.YtinhhphnbbdoeaaYear
import Derived.Deep.LoopGhost
namespace Go.Proofs.Ytinhhphnbbdoeaa
open Go.RowKit Ba Tf Cv Qm
namespace Qo
set_option linter.unusedVariables false

/-- The risk's box. -/
structure AL (w W : World) : Prop where
  b : Below w.heap.size w W
  x : Bx W w.heap.size 28 (rc ⟨0, 1000000, 30, 0⟩)
theorem AL.next {w W W' : World} (h : AL w W) (hb : Below W.heap.size W W') : AL w W' := ⟨h.b.trans (hb.mono h.b.size), h.x.keep hb⟩
theorem AL.start (w : World) : AL w (w.alloc (.cells (rc ⟨0, 1000000, 30, 0⟩) 28)) := ⟨alloc_ _ _, Bx.new _ _ _⟩
theorem AL.s {w W : World} (h : AL w W) : W.cell? ⟨w.heap.size, 0, none⟩ = some (.int .i64 0) ∧ W.cell? ⟨w.heap.size, 1, none⟩ = some (.int .i64 1000000) ∧ W.cell? ⟨w.heap.size, 2, none⟩ = some (.int .i64 30) ∧ W.cell? ⟨w.heap.size, 3, none⟩ = some (.int .i64 0) := ⟨h.x.c 0, h.x.c 1, h.x.c 2, h.x.c 3⟩
theorem cost_pl (r : Rw) (x : Ri) (p s m e : Int) (w : World) (M : Mean w (· < w.heap.size) r) (S : Lo r) (hr : r.v = plV) (h : qd plV x (ofC p s) = (m, e)) :
    Calls Try.prog 11 #[vg r, rg x, cg (ofC p s)] w fun e' w' => e' = .returned (.tuple #[.int .i64 m, .int .i64 e]) ∧ Below w.heap.size w w' := by
  have := cost r x (ofC p s) w M S
  rw [hr, h] at this
  exact this
theorem k1 : qd plV ⟨0, 1000000, 30, 0⟩ (ofC 0 10000) = (5000, 0) := by decide +kernel
theorem k2 : qd plV ⟨0, 1000000, 30, 0⟩ (ofC 1 5000) = (2500, 0) := by decide +kernel
theorem k3 : qd plV ⟨0, 1000000, 30, 0⟩ (ofC 7 5000) = (100, 0) := by decide +kernel
theorem k4 : qd plV ⟨0, 1, 0, 1⟩ (ofC 0 1) = (0, 7) := by decide +kernel
theorem k5 : qd zeroV ⟨0, 1000000, 30, 0⟩ (ofC 0 1) = (0, 1) := by decide +kernel
theorem k6 : yr (qd plV ⟨0, 1000000, 30, 0⟩) 0 [ofC 0 10000, ofC 1 5000] = (7500, 0) := by decide +kernel
/-- The two covers as they lie. -/
theorem cvs_two (w : World) : Cvs (w.alloc (.cells #[.int .i64 0, .int .i64 1000, .int .i64 2000, .int .i64 0, .int .i64 10000, .int .i64 1, .int .i64 1000, .int .i64 2000, .int .i64 0, .int .i64 5000] 30)) (· < (w.alloc (.cells #[.int .i64 0, .int .i64 1000, .int .i64 2000, .int .i64 0, .int .i64 10000, .int .i64 1, .int .i64 1000, .int .i64 2000, .int .i64 0, .int .i64 5000] 30)).heap.size) (some ⟨w.heap.size, 0, none⟩) 2 [ofC 0 10000, ofC 1 5000] := by
  have h := Bx.new w 30 #[.int .i64 0, .int .i64 1000, .int .i64 2000, .int .i64 0, .int .i64 10000, .int .i64 1, .int .i64 1000, .int .i64 2000, .int .i64 0, .int .i64 5000]
  refine ⟨rfl, fun _ => ⟨_, rfl, h.lt, fun j c hj => ?_⟩⟩
  match j, hj with
  | 0, hj => simp at hj; subst hj; rw [Addr.add_lit]; exact ⟨h.c 0, h.c 1, h.c 2, h.c 3, h.c 4⟩
  | 1, hj => simp at hj; subst hj; rw [Addr.add_lit]; exact ⟨h.c 5, h.c 6, h.c 7, h.c 8, h.c 9⟩
theorem year_pl (r : Rw) (w : World) (M : Mean w (· < w.heap.size) r) (S : Lo r) (hr : r.v = plV) :
    Calls Try.prog 13 #[vg r, rg ⟨0, 1000000, 30, 0⟩, .slice (some ⟨w.heap.size, 0, none⟩) 2 2] (w.alloc (.cells #[.int .i64 0, .int .i64 1000, .int .i64 2000, .int .i64 0, .int .i64 10000, .int .i64 1, .int .i64 1000, .int .i64 2000, .int .i64 0, .int .i64 5000] 30)) fun e' w' => e' = .returned (.tuple #[.int .i64 7500, .int .i64 0]) ∧ Below (w.alloc (.cells #[.int .i64 0, .int .i64 1000, .int .i64 2000, .int .i64 0, .int .i64 10000, .int .i64 1, .int .i64 1000, .int .i64 2000, .int .i64 0, .int .i64 5000] 30)).heap.size (w.alloc (.cells #[.int .i64 0, .int .i64 1000, .int .i64 2000, .int .i64 0, .int .i64 10000, .int .i64 1, .int .i64 1000, .int .i64 2000, .int .i64 0, .int .i64 5000] 30)) w' := by
  have := year r ⟨0, 1000000, 30, 0⟩ (some ⟨w.heap.size, 0, none⟩) 2 2 [ofC 0 10000, ofC 1 5000] (w.alloc (.cells #[.int .i64 0, .int .i64 1000, .int .i64 2000, .int .i64 0, .int .i64 10000, .int .i64 1, .int .i64 1000, .int .i64 2000, .int .i64 0, .int .i64 5000] 30)) (M.below (alloc_ _ _)) S (cvs_two w) (by unfold maxLen; omega)
  rw [hr, k6] at this
  exact this
theorem zr_lo : Lo zr := ⟨Nat.zero_le _, Nat.zero_le _, Nat.zero_le _⟩
theorem cost_zr (w : World) : Calls Try.prog 11 #[.agg zc, rg ⟨0, 1000000, 30, 0⟩, cg (ofC 0 1)] w fun e' w' => e' = .returned (.tuple #[.int .i64 0, .int .i64 1]) ∧ Below w.heap.size w w' := by
  have := cost zr ⟨0, 1000000, 30, 0⟩ (ofC 0 1) w (zr_mean w _) zr_lo
  rw [show zr.v = zeroV from rfl, k5] at this
  exact this

set_option maxRecDepth 100000 in
set_option maxHeartbeats 4000000 in
theorem alive_ (w : World) : Calls Try.prog 10 #[] w (Yes w true) := by
  have CP := fun (w' : World) => Lib.hid (plain_ w')
  have CO := fun (p s : Int) (w' : World) => Lib.hid (of_ p s w')
  obtain ⟨W0, hW⟩ : ∃ W0, w.alloc (.cells (rc ⟨0, 1000000, 30, 0⟩) 28) = W0 := ⟨_, rfl⟩
  have HA := Lib.hid (show AL w W0 by rw [← hW]; exact AL.start w)
  have HW := Lib.hid hW
  clear hW
  go_enter Try.func10, Try.ntmps10
  go_wp2
  rw [HW.out]
  clear HW
  have hd := Lib.hid (HA.out.next (W' := W0.drew) ⟨rfl, rfl, rfl, Nat.le_refl _, fun _ _ => rfl⟩)
  have y0 := HA.out.x.c 0
  have y1 := HA.out.x.c 1
  have y2 := HA.out.x.c 2
  have y3 := HA.out.x.c 3
  simp at y0 y1 y2 y3
  go_cut [2, 3] (fun s1 s2 wx => ∃ (Wz : World), Wz = wx ∧ s1 = .int .i64 5000 ∧ s2 = .int .i64 0 ∧ Hid (AL w Wz))
  case first =>
    go_region_held3 (fun w' => w'.cell? ⟨w.heap.size, 0, none⟩ = some (.int .i64 0) ∧ w'.cell? ⟨w.heap.size, 1, none⟩ = some (.int .i64 1000000) ∧ w'.cell? ⟨w.heap.size, 2, none⟩ = some (.int .i64 30) ∧ w'.cell? ⟨w.heap.size, 3, none⟩ = some (.int .i64 0)) (first | exact hd.out.s | exact HA3.out.s | exact HA4.out.s | exact HA5.out.s)
      (first
      | (go_at_call 17; ((with_reducible refine (CP _).out.mono ?_); rintro e w3 ⟨r3, rfl, e3, m3, l3, hb3⟩; have HA3 := Lib.hid (HA.out.next (undrew hb3)); have HM := Lib.hid (And.intro e3 (And.intro m3 l3)); clear e3 m3 l3 hb3))
      | (go_at_call 15; ((with_reducible refine (CO 0 10000 _).out.mono ?_); rintro e w4 ⟨rfl, hb4⟩; have HA4 := Lib.hid (HA3.out.next hb4); have HC := Lib.hid (cost_pl r3 ⟨0, 1000000, 30, 0⟩ 0 10000 5000 0 w4 (HM.out.2.1.below hb4) HM.out.2.2 HM.out.1 k1); clear hb4))
      | (go_at_call 11; ((with_reducible refine HC.out.mono ?_); rintro e w5 ⟨rfl, hb5⟩; have HA5 := Lib.hid (HA4.out.next hb5); clear hb5 HC))
      | fail)
    all_goals
      go_wp2_with fail
      go_meet
      exact ⟨_, rfl, rfl, rfl, HA5⟩
  case rest =>
    clear HA hd y0 y1 y2 y3
    obtain ⟨W1, rfl, rfl, rfl, HA⟩ := hcut
    go_wp2
    have hd := Lib.hid (HA.out.next (W' := W1.drew) ⟨rfl, rfl, rfl, Nat.le_refl _, fun _ _ => rfl⟩)
    have y0 := HA.out.x.c 0
    have y1 := HA.out.x.c 1
    have y2 := HA.out.x.c 2
    have y3 := HA.out.x.c 3
    simp at y0 y1 y2 y3
    go_cut [4, 5] (fun s1 s2 wx => ∃ (Wz : World), Wz = wx ∧ s1 = .int .i64 2500 ∧ s2 = .int .i64 0 ∧ Hid (AL w Wz))
    case first =>
      go_region_held3 (fun w' => w'.cell? ⟨w.heap.size, 0, none⟩ = some (.int .i64 0) ∧ w'.cell? ⟨w.heap.size, 1, none⟩ = some (.int .i64 1000000) ∧ w'.cell? ⟨w.heap.size, 2, none⟩ = some (.int .i64 30) ∧ w'.cell? ⟨w.heap.size, 3, none⟩ = some (.int .i64 0)) (first | exact hd.out.s | exact HA3.out.s | exact HA4.out.s | exact HA5.out.s)
        (first
        | (go_at_call 17; ((with_reducible refine (CP _).out.mono ?_); rintro e w3 ⟨r3, rfl, e3, m3, l3, hb3⟩; have HA3 := Lib.hid (HA.out.next (undrew hb3)); have HM := Lib.hid (And.intro e3 (And.intro m3 l3)); clear e3 m3 l3 hb3))
        | (go_at_call 15; ((with_reducible refine (CO 1 5000 _).out.mono ?_); rintro e w4 ⟨rfl, hb4⟩; have HA4 := Lib.hid (HA3.out.next hb4); have HC := Lib.hid (cost_pl r3 ⟨0, 1000000, 30, 0⟩ 1 5000 2500 0 w4 (HM.out.2.1.below hb4) HM.out.2.2 HM.out.1 k2); clear hb4))
        | (go_at_call 11; ((with_reducible refine HC.out.mono ?_); rintro e w5 ⟨rfl, hb5⟩; have HA5 := Lib.hid (HA4.out.next hb5); clear hb5 HC))
        | fail)
      all_goals
        go_wp2_with fail
        go_meet
        exact ⟨_, rfl, rfl, rfl, HA5⟩
    case rest =>
      clear HA hd y0 y1 y2 y3
      obtain ⟨W2, rfl, rfl, rfl, HA⟩ := hcut
      go_wp2
      have hd := Lib.hid (HA.out.next (W' := W2.drew) ⟨rfl, rfl, rfl, Nat.le_refl _, fun _ _ => rfl⟩)
      have y0 := HA.out.x.c 0
      have y1 := HA.out.x.c 1
      have y2 := HA.out.x.c 2
      have y3 := HA.out.x.c 3
      simp at y0 y1 y2 y3
      go_cut [6, 7] (fun s1 s2 wx => ∃ (Wz : World), Wz = wx ∧ s1 = .int .i64 100 ∧ s2 = .int .i64 0 ∧ Hid (AL w Wz))
      case first =>
        go_region_held3 (fun w' => w'.cell? ⟨w.heap.size, 0, none⟩ = some (.int .i64 0) ∧ w'.cell? ⟨w.heap.size, 1, none⟩ = some (.int .i64 1000000) ∧ w'.cell? ⟨w.heap.size, 2, none⟩ = some (.int .i64 30) ∧ w'.cell? ⟨w.heap.size, 3, none⟩ = some (.int .i64 0)) (first | exact hd.out.s | exact HA3.out.s | exact HA4.out.s | exact HA5.out.s)
          (first
          | (go_at_call 17; ((with_reducible refine (CP _).out.mono ?_); rintro e w3 ⟨r3, rfl, e3, m3, l3, hb3⟩; have HA3 := Lib.hid (HA.out.next (undrew hb3)); have HM := Lib.hid (And.intro e3 (And.intro m3 l3)); clear e3 m3 l3 hb3))
          | (go_at_call 15; ((with_reducible refine (CO 7 5000 _).out.mono ?_); rintro e w4 ⟨rfl, hb4⟩; have HA4 := Lib.hid (HA3.out.next hb4); have HC := Lib.hid (cost_pl r3 ⟨0, 1000000, 30, 0⟩ 7 5000 100 0 w4 (HM.out.2.1.below hb4) HM.out.2.2 HM.out.1 k3); clear hb4))
          | (go_at_call 11; ((with_reducible refine HC.out.mono ?_); rintro e w5 ⟨rfl, hb5⟩; have HA5 := Lib.hid (HA4.out.next hb5); clear hb5 HC))
          | fail)
        all_goals
          go_wp2_with fail
          go_meet
          exact ⟨_, rfl, rfl, rfl, HA5⟩
      case rest =>
        clear HA hd y0 y1 y2 y3
        obtain ⟨W3, rfl, rfl, rfl, HA⟩ := hcut
        go_wp2_with fail
        refine (CP _).out.mono ?_
        rintro e w3 ⟨r3, rfl, e3, m3, l3, hb3⟩
        have HA3 := Lib.hid (HA.out.next hb3)
        have HM := Lib.hid (And.intro e3 (And.intro m3 l3))
        clear e3 m3 l3 hb3 HA
        go_wp2_with fail
        refine (CO 0 1 _).out.mono ?_
        rintro e w4 ⟨rfl, hb4⟩
        have HA := Lib.hid (HA3.out.next hb4)
        have HC := Lib.hid (cost_pl r3 ⟨0, 1, 0, 1⟩ 0 1 0 7 w4 (HM.out.2.1.below hb4) HM.out.2.2 HM.out.1 k4)
        clear hb4 HA3
        go_wp2_with fail
        refine HC.out.mono ?_
        rintro e w5 ⟨rfl, hb5⟩
        have HA5 := Lib.hid (HA.out.next hb5)
        clear hb5 HC HA HM
        have HA := HA5
        clear HA5
        go_wp2
        have hd := Lib.hid (HA.out.next (W' := w5.drew) ⟨rfl, rfl, rfl, Nat.le_refl _, fun _ _ => rfl⟩)
        have y0 := HA.out.x.c 0
        have y1 := HA.out.x.c 1
        have y2 := HA.out.x.c 2
        have y3 := HA.out.x.c 3
        simp at y0 y1 y2 y3
        go_cut [10, 11] (fun s1 s2 wx => ∃ (Wz : World), Wz = wx ∧ s1 = .int .i64 0 ∧ s2 = .int .i64 1 ∧ Hid (AL w Wz))
        case first =>
          go_region_held3 (fun w' => w'.cell? ⟨w.heap.size, 0, none⟩ = some (.int .i64 0) ∧ w'.cell? ⟨w.heap.size, 1, none⟩ = some (.int .i64 1000000) ∧ w'.cell? ⟨w.heap.size, 2, none⟩ = some (.int .i64 30) ∧ w'.cell? ⟨w.heap.size, 3, none⟩ = some (.int .i64 0)) (first | exact hd.out.s | exact HA4.out.s | exact HA5.out.s)
            (first
            | (go_at_call 15; ((with_reducible refine (CO 0 1 _).out.mono ?_); rintro e w6 ⟨rfl, hb4⟩; have HA4 := Lib.hid (HA.out.next (undrew hb4)); have HC := Lib.hid (cost_zr w6); clear hb4))
            | (go_at_call 11; ((with_reducible refine HC.out.mono ?_); rintro e w7 ⟨rfl, hb5⟩; have HA5 := Lib.hid (HA4.out.next hb5); clear hb5 HC))
            | fail)
          all_goals
            go_wp2_with fail
            go_meet
            exact ⟨_, rfl, rfl, rfl, HA5⟩
        case rest =>
          clear HA hd y0 y1 y2 y3
          obtain ⟨W6, rfl, rfl, rfl, HA⟩ := hcut
          go_wp2
          have hd := Lib.hid (HA.out.next (W' := W6.drew) ⟨rfl, rfl, rfl, Nat.le_refl _, fun _ _ => rfl⟩)
          have y0 := HA.out.x.c 0
          have y1 := HA.out.x.c 1
          have y2 := HA.out.x.c 2
          have y3 := HA.out.x.c 3
          simp at y0 y1 y2 y3
          go_cut [12, 13] (fun s1 s2 wx => ∃ (Wz : World), Wz = wx ∧ s1 = .int .i64 7500 ∧ s2 = .int .i64 0 ∧ Hid (AL w Wz))
          case first =>
            go_region_held3 (fun w' => w'.cell? ⟨w.heap.size, 0, none⟩ = some (.int .i64 0) ∧ w'.cell? ⟨w.heap.size, 1, none⟩ = some (.int .i64 1000000) ∧ w'.cell? ⟨w.heap.size, 2, none⟩ = some (.int .i64 30) ∧ w'.cell? ⟨w.heap.size, 3, none⟩ = some (.int .i64 0)) (first | exact hd.out.s | exact HA3.out.s | exact HA4.out.s | exact HA5.out.s | exact HA6.out.s | exact HA7.out.s)
              (first
              | (go_at_call 17; ((with_reducible refine (CP _).out.mono ?_); rintro e w7 ⟨r3, rfl, e3, m3, l3, hb3⟩; have HA3 := Lib.hid (HA.out.next (undrew hb3)); have HM := Lib.hid (And.intro e3 (And.intro m3 l3)); clear e3 m3 l3 hb3))
              | (go_at_call 15; ((with_reducible refine (CO 0 10000 _).out.mono ?_); rintro e w8 ⟨rfl, hb4⟩; have HA4 := Lib.hid (HA3.out.next hb4); have HM4 := Lib.hid (HM.out.2.1.below hb4); clear hb4))
              | (go_at_call 15; ((with_reducible refine (CO 1 5000 _).out.mono ?_); rintro e w9 ⟨rfl, hb4⟩; have HA5 := Lib.hid (HA4.out.next hb4); have HA6 := Lib.hid (HA5.out.next (alloc_ w9 (.cells #[.int .i64 0, .int .i64 1000, .int .i64 2000, .int .i64 0, .int .i64 10000, .int .i64 1, .int .i64 1000, .int .i64 2000, .int .i64 0, .int .i64 5000] 30))); have HC := Lib.hid (year_pl r3 w9 (HM4.out.below hb4) HM.out.2.2 HM.out.1); clear hb4))
              | (go_at_call 13; ((with_reducible refine HC.out.mono ?_); rintro e w10 ⟨rfl, hb5⟩; have HA7 := Lib.hid (HA6.out.next hb5); clear hb5 HC))
              | fail)
            all_goals
              go_wp2_with fail
              go_meet
              exact ⟨_, rfl, rfl, rfl, HA7⟩
          case rest =>
            clear HA hd y0 y1 y2 y3
            obtain ⟨W7, rfl, rfl, rfl, HA⟩ := hcut
            go_wp2
            go_ret
            exact ⟨rfl, HA.out.b⟩
end Qo
end Go.Proofs.Ytinhhphnbbdoeaa
