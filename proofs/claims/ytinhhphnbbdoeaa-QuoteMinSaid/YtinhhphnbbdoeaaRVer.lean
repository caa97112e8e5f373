/-
  The document's Version. Conditions: the version's lists read as lists, and are no longer than memory.
-/
import Derived.Test.YtinhhphnbbdoeaaVer
namespace Go.Proofs.Ytinhhphnbbdoeaa
open Go.RowKit Ba Tf
namespace Qo
set_option linter.unusedVariables false

theorem ver_iff {v : Ve} : ver v = true ↔ (1 ≤ v.fr ∧ v.fr ≤ 292194) ∧ (0 ≤ v.mn ∧ v.mn ≤ 1000000000000000) ∧ (1 ≤ (v.zn.length : Int) ∧ (v.zn.length : Int) ≤ 100) ∧ v.pe.length = 8 ∧ fac [v.b0, v.b1, v.b2, v.b3] = true ∧ fac v.zn = true ∧ fac v.pe = true ∧ bds v.ag = true := by
  unfold ver
  simp only [Bool.and_eq_true, wi_iff, decide_eq_true_eq]
theorem ver_no {v : Ve} (h : ¬ ((1 ≤ v.fr ∧ v.fr ≤ 292194) ∧ (0 ≤ v.mn ∧ v.mn ≤ 1000000000000000) ∧ (1 ≤ (v.zn.length : Int) ∧ (v.zn.length : Int) ≤ 100) ∧ v.pe.length = 8 ∧ fac [v.b0, v.b1, v.b2, v.b3] = true ∧ fac v.zn = true ∧ fac v.pe = true ∧ bds v.ag = true)) : ver v = false := by
  cases e : ver v
  · rfl
  · exact absurd (ver_iff.1 e) h

set_option maxRecDepth 100000 in
set_option maxHeartbeats 4000000 in
theorem rversion (r : Rw) (w : World) (M : Mean w (· < w.heap.size) r) (S : Lo r) :
    Calls Try.prog 16 #[vg r] w (Yes w (ver r.v)) := by
  have hz1 := M.z.1
  have hp1 := M.p.1
  have ha1 := M.a.1
  have sa := S.a
  have sz := S.z
  have sp := S.p
  have HBx := Lib.hid (Bx.new w 26 (vc r))
  have CZ := fun w' (h : Below w.heap.size w w') => Lib.hid (rfactors r.Z r.lz r.cz r.v.zn w' _ (M.z.below h) (by unfold maxLen; omega))
  have CP := fun w' (h : Below w.heap.size w w') => Lib.hid (rfactors r.P r.lp r.cp r.v.pe w' _ (M.p.below h) (by unfold maxLen; omega))
  have CA := Lib.hid (rbands r.A r.la r.ca r.v.ag (w.alloc (.cells (vc r) 26)) (M.a.below (alloc_ _ _)) (by unfold maxLen; omega))
  have HA := Lib.hid (alloc_ w (.cells (vc r) 26))
  have HL := Lib.hid (show r.v.zn.length = r.lz ∧ r.v.pe.length = r.lp ∧ r.v.ag.length = r.la from ⟨hz1, hp1, ha1⟩)
  obtain ⟨R, hR⟩ : ∃ R, ver r.v = R := ⟨_, rfl⟩
  rw [hR]
  have HR := Lib.hid hR
  clear hR hz1 hp1 ha1 M S
  go_enter Try.func16, Try.ntmps16
  go_wp2
  have y0 := HBx.out.c 0
  have y1 := HBx.out.c 1
  have y2 := HBx.out.c 2
  have y3 := HBx.out.c 3
  have y4 := HBx.out.c 4
  have y5 := HBx.out.c 5
  have y6 := HBx.out.c 6
  have y7 := HBx.out.c 7
  have y8 := HBx.out.c 8
  simp at y0 y1 y2 y3 y4 y5 y6 y7 y8
  go_loop [3] (fun i => ∃ (k : Nat), k ≤ 4 ∧ i = .int .i64 (k : Int) ∧ Hid (fac ([r.v.b0, r.v.b1, r.v.b2, r.v.b3].take k) = true)) (fun i => 4 - (intOf i).toNat)
  case atStart => exact ⟨0, Nat.zero_le _, rfl, Lib.hid rfl⟩
  case round =>
    obtain ⟨k, hk, rfl, HF⟩ := hrel
    match k, hk, HF with
    | 0, hk, HF =>
      clear hk
      by_cases h1 : r.v.b0 < 0
      · have t1 : decide (r.v.b0 < 0) = true := decide_eq_true h1
        have HN := Lib.hid (show R = false by rw [← HR.out]; exact ver_no (fun q => by have := q.2.2.2.2.1; simp only [fac, Bool.and_eq_true, wi_iff] at this; omega))
        clear h1
        go_wp2
        go_ret
        exact ⟨by rw [HN.out]; rfl, HA.out⟩
      · have t1 : decide (r.v.b0 < 0) = false := decide_eq_false h1
        by_cases h2 : 100000 < r.v.b0
        · have t2 : decide (100000 < r.v.b0) = true := decide_eq_true h2
          have HN := Lib.hid (show R = false by rw [← HR.out]; exact ver_no (fun q => by have := q.2.2.2.2.1; simp only [fac, Bool.and_eq_true, wi_iff] at this; omega))
          clear h1 h2
          go_wp2
          go_ret
          exact ⟨by rw [HN.out]; rfl, HA.out⟩
        · have t2 : decide (100000 < r.v.b0) = false := decide_eq_false h2
          have HN := Lib.hid (show fac ([r.v.b0, r.v.b1, r.v.b2, r.v.b3].take 1) = true by
            have := HF.out
            simp only [List.take_succ_cons, List.take_zero, fac, Bool.and_eq_true, wi_iff, eq_self, and_true] at this ⊢
            omega)
          clear h1 h2
          go_wp2
          go_round
          case rel => exact ⟨1, by omega, rfl, HN⟩
          case measure => simp [intOf]
    | 1, hk, HF =>
      clear hk
      by_cases h1 : r.v.b1 < 0
      · have t1 : decide (r.v.b1 < 0) = true := decide_eq_true h1
        have HN := Lib.hid (show R = false by rw [← HR.out]; exact ver_no (fun q => by have := q.2.2.2.2.1; simp only [fac, Bool.and_eq_true, wi_iff] at this; omega))
        clear h1
        go_wp2
        go_ret
        exact ⟨by rw [HN.out]; rfl, HA.out⟩
      · have t1 : decide (r.v.b1 < 0) = false := decide_eq_false h1
        by_cases h2 : 100000 < r.v.b1
        · have t2 : decide (100000 < r.v.b1) = true := decide_eq_true h2
          have HN := Lib.hid (show R = false by rw [← HR.out]; exact ver_no (fun q => by have := q.2.2.2.2.1; simp only [fac, Bool.and_eq_true, wi_iff] at this; omega))
          clear h1 h2
          go_wp2
          go_ret
          exact ⟨by rw [HN.out]; rfl, HA.out⟩
        · have t2 : decide (100000 < r.v.b1) = false := decide_eq_false h2
          have HN := Lib.hid (show fac ([r.v.b0, r.v.b1, r.v.b2, r.v.b3].take 2) = true by
            have := HF.out
            simp only [List.take_succ_cons, List.take_zero, fac, Bool.and_eq_true, wi_iff, eq_self, and_true] at this ⊢
            omega)
          clear h1 h2
          go_wp2
          go_round
          case rel => exact ⟨2, by omega, rfl, HN⟩
          case measure => simp [intOf]
    | 2, hk, HF =>
      clear hk
      by_cases h1 : r.v.b2 < 0
      · have t1 : decide (r.v.b2 < 0) = true := decide_eq_true h1
        have HN := Lib.hid (show R = false by rw [← HR.out]; exact ver_no (fun q => by have := q.2.2.2.2.1; simp only [fac, Bool.and_eq_true, wi_iff] at this; omega))
        clear h1
        go_wp2
        go_ret
        exact ⟨by rw [HN.out]; rfl, HA.out⟩
      · have t1 : decide (r.v.b2 < 0) = false := decide_eq_false h1
        by_cases h2 : 100000 < r.v.b2
        · have t2 : decide (100000 < r.v.b2) = true := decide_eq_true h2
          have HN := Lib.hid (show R = false by rw [← HR.out]; exact ver_no (fun q => by have := q.2.2.2.2.1; simp only [fac, Bool.and_eq_true, wi_iff] at this; omega))
          clear h1 h2
          go_wp2
          go_ret
          exact ⟨by rw [HN.out]; rfl, HA.out⟩
        · have t2 : decide (100000 < r.v.b2) = false := decide_eq_false h2
          have HN := Lib.hid (show fac ([r.v.b0, r.v.b1, r.v.b2, r.v.b3].take 3) = true by
            have := HF.out
            simp only [List.take_succ_cons, List.take_zero, fac, Bool.and_eq_true, wi_iff, eq_self, and_true] at this ⊢
            omega)
          clear h1 h2
          go_wp2
          go_round
          case rel => exact ⟨3, by omega, rfl, HN⟩
          case measure => simp [intOf]
    | 3, hk, HF =>
      clear hk
      by_cases h1 : r.v.b3 < 0
      · have t1 : decide (r.v.b3 < 0) = true := decide_eq_true h1
        have HN := Lib.hid (show R = false by rw [← HR.out]; exact ver_no (fun q => by have := q.2.2.2.2.1; simp only [fac, Bool.and_eq_true, wi_iff] at this; omega))
        clear h1
        go_wp2
        go_ret
        exact ⟨by rw [HN.out]; rfl, HA.out⟩
      · have t1 : decide (r.v.b3 < 0) = false := decide_eq_false h1
        by_cases h2 : 100000 < r.v.b3
        · have t2 : decide (100000 < r.v.b3) = true := decide_eq_true h2
          have HN := Lib.hid (show R = false by rw [← HR.out]; exact ver_no (fun q => by have := q.2.2.2.2.1; simp only [fac, Bool.and_eq_true, wi_iff] at this; omega))
          clear h1 h2
          go_wp2
          go_ret
          exact ⟨by rw [HN.out]; rfl, HA.out⟩
        · have t2 : decide (100000 < r.v.b3) = false := decide_eq_false h2
          have HN := Lib.hid (show fac ([r.v.b0, r.v.b1, r.v.b2, r.v.b3].take 4) = true by
            have := HF.out
            simp only [List.take_succ_cons, List.take_zero, fac, Bool.and_eq_true, wi_iff, eq_self, and_true] at this ⊢
            omega)
          clear h1 h2
          go_wp2
          go_round
          case rel => exact ⟨4, by omega, rfl, HN⟩
          case measure => simp [intOf]
    | 4, hk, HF =>
      clear hk
      have HF4 := Lib.hid (show fac [r.v.b0, r.v.b1, r.v.b2, r.v.b3] = true from HF.out)
      clear HF
      by_cases g0 : r.v.fr < 1
      · have q0 : decide (r.v.fr < 1) = true := decide_eq_true g0
        have HN := Lib.hid (show R = false by rw [← HR.out]; exact ver_no (fun q => by have := HL.out; omega))
        clear g0
        go_wp2
        go_ret
        exact ⟨by rw [HN.out]; rfl, HA.out⟩
      have q0 : decide (r.v.fr < 1) = false := decide_eq_false g0
      by_cases g1 : 292194 < r.v.fr
      · have q1 : decide (292194 < r.v.fr) = true := decide_eq_true g1
        have HN := Lib.hid (show R = false by rw [← HR.out]; exact ver_no (fun q => by have := HL.out; omega))
        clear g0 g1
        go_wp2
        go_ret
        exact ⟨by rw [HN.out]; rfl, HA.out⟩
      have q1 : decide (292194 < r.v.fr) = false := decide_eq_false g1
      by_cases g2 : r.v.mn < 0
      · have q2 : decide (r.v.mn < 0) = true := decide_eq_true g2
        have HN := Lib.hid (show R = false by rw [← HR.out]; exact ver_no (fun q => by have := HL.out; omega))
        clear g0 g1 g2
        go_wp2
        go_ret
        exact ⟨by rw [HN.out]; rfl, HA.out⟩
      have q2 : decide (r.v.mn < 0) = false := decide_eq_false g2
      by_cases g3 : 1000000000000000 < r.v.mn
      · have q3 : decide (1000000000000000 < r.v.mn) = true := decide_eq_true g3
        have HN := Lib.hid (show R = false by rw [← HR.out]; exact ver_no (fun q => by have := HL.out; omega))
        clear g0 g1 g2 g3
        go_wp2
        go_ret
        exact ⟨by rw [HN.out]; rfl, HA.out⟩
      have q3 : decide (1000000000000000 < r.v.mn) = false := decide_eq_false g3
      by_cases g4 : 100 < (r.la : Int)
      · have q4 : decide (100 < (r.la : Int)) = true := decide_eq_true g4
        have q4n : decide (100 < r.la) = true := decide_eq_true (by omega)
        have HN := Lib.hid (show R = false by rw [← HR.out]; exact ver_no (fun q => by have := HL.out; rw [bds_far (by omega)] at q; exact absurd q.2.2.2.2.2.2.2 (by simp)))
        clear g0 g1 g2 g3 g4
        go_wp2
        go_ret
        exact ⟨by rw [HN.out]; rfl, HA.out⟩
      have q4 : decide (100 < (r.la : Int)) = false := decide_eq_false g4
      have q4n : decide (100 < r.la) = false := decide_eq_false (by omega)
      by_cases g5 : (r.lz : Int) < 1
      · have q5 : decide ((r.lz : Int) < 1) = true := decide_eq_true g5
        have q5n : decide (r.lz < 1) = true := decide_eq_true (by omega)
        have HN := Lib.hid (show R = false by rw [← HR.out]; exact ver_no (fun q => by have := HL.out; omega))
        clear g0 g1 g2 g3 g4 g5
        go_wp2
        go_ret
        exact ⟨by rw [HN.out]; rfl, HA.out⟩
      have q5 : decide ((r.lz : Int) < 1) = false := decide_eq_false g5
      have q5n : decide (r.lz < 1) = false := decide_eq_false (by omega)
      by_cases g6 : 100 < (r.lz : Int)
      · have q6 : decide (100 < (r.lz : Int)) = true := decide_eq_true g6
        have q6n : decide (100 < r.lz) = true := decide_eq_true (by omega)
        have HN := Lib.hid (show R = false by rw [← HR.out]; exact ver_no (fun q => by have := HL.out; omega))
        clear g0 g1 g2 g3 g4 g5 g6
        go_wp2
        go_ret
        exact ⟨by rw [HN.out]; rfl, HA.out⟩
      have q6 : decide (100 < (r.lz : Int)) = false := decide_eq_false g6
      have q6n : decide (100 < r.lz) = false := decide_eq_false (by omega)
      by_cases g7 : (r.lp : Int) = 8
      rotate_left
      · have q7 : ((r.lp : Int) == 8) = false := by simpa using g7
        have q7' : decide ((r.lp : Int) = 8) = false := decide_eq_false g7
        have q7n : decide (r.lp = 8) = false := decide_eq_false (by omega)
        have HN := Lib.hid (show R = false by rw [← HR.out]; exact ver_no (fun q => by have := HL.out; omega))
        clear g0 g1 g2 g3 g4 g5 g6 g7
        go_wp2
        go_ret
        exact ⟨by rw [HN.out]; rfl, HA.out⟩
      have q7 : ((r.lp : Int) == 8) = true := by simpa using g7
      have q7' : decide ((r.lp : Int) = 8) = true := decide_eq_true g7
      have q7n : decide (r.lp = 8) = true := decide_eq_true (by omega)
      have HV := Lib.hid (show R = (bds r.v.ag && (fac r.v.zn && fac r.v.pe)) by
        have hl := HL.out
        rw [← HR.out]
        unfold ver
        rw [wi_iff.2 (by omega : 1 ≤ r.v.fr ∧ r.v.fr ≤ 292194), wi_iff.2 (by omega : 0 ≤ r.v.mn ∧ r.v.mn ≤ 1000000000000000), wi_iff.2 (by omega : (1 : Int) ≤ (r.v.zn.length : Int) ∧ (r.v.zn.length : Int) ≤ 100), decide_eq_true (by omega : r.v.pe.length = 8), HF4.out]
        cases bds r.v.ag <;> cases fac r.v.zn <;> cases fac r.v.pe <;> rfl)
      clear g0 g1 g2 g3 g4 g5 g6 g7
      generalize fac r.v.zn = fz at CZ HV
      generalize fac r.v.pe = fp at CP HV
      generalize bds r.v.ag = fa at CA HV
      cases fa
      · skip
        have HN := Lib.hid (show R = false from HV.out)
        go_wp2_with (first
          | (go_at_call 29; (with_reducible refine CA.out.mono ?_); rintro e w1 ⟨rfl, hb1⟩; have HB1 := Lib.hid (HA.out.trans (hb1.mono HA.out.size)); have u6 := (HBx.out.keep hb1).c 6; have u7 := (HBx.out.keep hb1).c 7; simp at u6 u7; clear hb1)
          | (go_at_call 30; (with_reducible refine (CZ _ HB1.out).out.mono ?_); rintro e w' ⟨rfl, rfl⟩)
          | (go_at_call 30; (with_reducible refine (CP _ HB1.out).out.mono ?_); rintro e w' ⟨rfl, rfl⟩)
          | fail)
        go_ret
        exact ⟨by rw [HN.out]; rfl, HB1.out⟩
      · cases fz
        · skip
          have HN := Lib.hid (show R = false from HV.out)
          go_wp2_with (first
            | (go_at_call 29; (with_reducible refine CA.out.mono ?_); rintro e w1 ⟨rfl, hb1⟩; have HB1 := Lib.hid (HA.out.trans (hb1.mono HA.out.size)); have u6 := (HBx.out.keep hb1).c 6; have u7 := (HBx.out.keep hb1).c 7; simp at u6 u7; clear hb1)
            | (go_at_call 30; (with_reducible refine (CZ _ HB1.out).out.mono ?_); rintro e w' ⟨rfl, rfl⟩)
            | (go_at_call 30; (with_reducible refine (CP _ HB1.out).out.mono ?_); rintro e w' ⟨rfl, rfl⟩)
            | fail)
          go_ret
          exact ⟨by rw [HN.out]; rfl, HB1.out⟩
        · cases fp
          · skip
            have HN := Lib.hid (show R = false from HV.out)
            go_wp2_with (first
              | (go_at_call 29; (with_reducible refine CA.out.mono ?_); rintro e w1 ⟨rfl, hb1⟩; have HB1 := Lib.hid (HA.out.trans (hb1.mono HA.out.size)); have u6 := (HBx.out.keep hb1).c 6; have u7 := (HBx.out.keep hb1).c 7; simp at u6 u7; clear hb1)
              | (go_at_call 30; (with_reducible refine (CZ _ HB1.out).out.mono ?_); rintro e w' ⟨rfl, rfl⟩)
              | (go_at_call 30; (with_reducible refine (CP _ HB1.out).out.mono ?_); rintro e w' ⟨rfl, rfl⟩)
              | fail)
            go_ret
            exact ⟨by rw [HN.out]; rfl, HB1.out⟩
          · skip
            have HN := Lib.hid (show R = true from HV.out)
            go_wp2_with (first
              | (go_at_call 29; (with_reducible refine CA.out.mono ?_); rintro e w1 ⟨rfl, hb1⟩; have HB1 := Lib.hid (HA.out.trans (hb1.mono HA.out.size)); have u6 := (HBx.out.keep hb1).c 6; have u7 := (HBx.out.keep hb1).c 7; simp at u6 u7; clear hb1)
              | (go_at_call 30; (with_reducible refine (CZ _ HB1.out).out.mono ?_); rintro e w' ⟨rfl, rfl⟩)
              | (go_at_call 30; (with_reducible refine (CP _ HB1.out).out.mono ?_); rintro e w' ⟨rfl, rfl⟩)
              | fail)
            go_ret
            exact ⟨by rw [HN.out]; rfl, HB1.out⟩

end Qo
end Go.Proofs.Ytinhhphnbbdoeaa
