/-
  The parts QTwo, QThree of this proof. Conditions: those of each theorem.
-/
import Derived.Test.YtplenoaajokpjaaGreatMQa
import Derived.WalkMore
import Derived.ScopeJumps
import Derived.Deep.SlicePairs
namespace Go.Proofs.YtplenoaajokpjaaGreat
open Go.RowKit Ba
namespace Qo
set_option linter.unusedVariables false
set_option maxHeartbeats 1000000 in
theorem risk_right (k v a z : Int) (w : World) : Calls Tryz.prog 79 #[rg ⟨k, v, a, z⟩] w (Yes w (rk k v a z)) := by
 have C := fun n lo hi w => Lib.hid (within n lo hi w)
 cases t0 : wi k 0 3
 ·rw [show rk k v a z = false by unfold rk; rw [t0]; rfl]; go_enter Tryz.func79, Tryz.ntmps79
  go_wp2_with (go_at_call 107; refine (C _ _ _ _).out.mono ?_; rintro e w' ⟨rfl, rfl⟩)
  go_ret; exact ⟨rfl, alloc_ _ _⟩
 ·skip
  cases t1 : wi v 1 1000000000000000
  ·rw [show rk k v a z = false by unfold rk; rw [t0, t1]; rfl]; go_enter Tryz.func79, Tryz.ntmps79
   go_wp2_with (go_at_call 107; refine (C _ _ _ _).out.mono ?_; rintro e w' ⟨rfl, rfl⟩)
   go_ret; exact ⟨rfl, alloc_ _ _⟩
  ·skip
   cases t2 : wi a 0 200
   ·rw [show rk k v a z = false by unfold rk; rw [t0, t1, t2]; rfl]; go_enter Tryz.func79, Tryz.ntmps79
    go_wp2_with (go_at_call 107; refine (C _ _ _ _).out.mono ?_; rintro e w' ⟨rfl, rfl⟩)
    go_ret; exact ⟨rfl, alloc_ _ _⟩
   ·skip
    cases t3 : wi z 0 99
    ·rw [show rk k v a z = false by unfold rk; rw [t0, t1, t2, t3]; rfl]; go_enter Tryz.func79, Tryz.ntmps79
     go_wp2_with (go_at_call 107; refine (C _ _ _ _).out.mono ?_; rintro e w' ⟨rfl, rfl⟩)
     go_ret; exact ⟨rfl, alloc_ _ _⟩
    ·rw [show rk k v a z = true by unfold rk; rw [t0, t1, t2, t3]; rfl]; go_enter Tryz.func79, Tryz.ntmps79
     go_wp2_with (go_at_call 107; refine (C _ _ _ _).out.mono ?_; rintro e w' ⟨rfl, rfl⟩)
     go_ret; exact ⟨rfl, alloc_ _ _⟩
set_option maxHeartbeats 1000000 in
theorem rrisk_right (k v a z : Int) (w : World) : Calls Tryz.prog 100 #[rg ⟨k, v, a, z⟩] w (Yes w (rk k v a z)) := by
 by_cases h0 : k < 0
 ·have t0 : decide (k < 0) = true := by simpa using h0
  rw [rk_no (by omega)]; clear h0; go_enter Tryz.func100, Tryz.ntmps100; go_wp2; go_ret; exact ⟨rfl, alloc_ _ _⟩
 ·have t0 : decide (k < 0) = false := by simpa using h0
  by_cases h1 : 3 < k
  ·have t1 : decide (3 < k) = true := by simpa using h1
   rw [rk_no (by omega)]; clear h0 h1; go_enter Tryz.func100, Tryz.ntmps100; go_wp2; go_ret; exact ⟨rfl, alloc_ _ _⟩
  ·have t1 : decide (3 < k) = false := by simpa using h1
   by_cases h2 : v < 1
   ·have t2 : decide (v < 1) = true := by simpa using h2
    rw [rk_no (by omega)]; clear h0 h1 h2; go_enter Tryz.func100, Tryz.ntmps100; go_wp2; go_ret; exact ⟨rfl, alloc_ _ _⟩
   ·have t2 : decide (v < 1) = false := by simpa using h2
    by_cases h3 : 1000000000000000 < v
    ·have t3 : decide (1000000000000000 < v) = true := by simpa using h3
     rw [rk_no (by omega)]; clear h0 h1 h2 h3; go_enter Tryz.func100, Tryz.ntmps100; go_wp2; go_ret; exact ⟨rfl, alloc_ _ _⟩
    ·have t3 : decide (1000000000000000 < v) = false := by simpa using h3
     by_cases h4 : ¬ 0 ≤ a
     ·have t4 : decide (0 ≤ a) = false := by simpa using h4
      rw [rk_no (by omega)]; clear h0 h1 h2 h3 h4; go_enter Tryz.func100, Tryz.ntmps100; go_wp2; go_ret; exact ⟨rfl, alloc_ _ _⟩
     ·have t4 : decide (0 ≤ a) = true := by simpa using h4
      by_cases h5 : ¬ a ≤ 200
      ·have t5 : decide (a ≤ 200) = false := by simpa using h5
       rw [rk_no (by omega)]; clear h0 h1 h2 h3 h4 h5; go_enter Tryz.func100, Tryz.ntmps100; go_wp2; go_ret; exact ⟨rfl, alloc_ _ _⟩
      ·have t5 : decide (a ≤ 200) = true := by simpa using h5
       by_cases h6 : ¬ 0 ≤ z
       ·have t6 : decide (0 ≤ z) = false := by simpa using h6
        rw [rk_no (by omega)]; clear h0 h1 h2 h3 h4 h5 h6; go_enter Tryz.func100, Tryz.ntmps100; go_wp2; go_ret; exact ⟨rfl, alloc_ _ _⟩
       ·have t6 : decide (0 ≤ z) = true := by simpa using h6
        by_cases h7 : ¬ z ≤ 99
        ·have t7 : decide (z ≤ 99) = false := by simpa using h7
         rw [rk_no (by omega)]; clear h0 h1 h2 h3 h4 h5 h6 h7; go_enter Tryz.func100, Tryz.ntmps100; go_wp2; go_ret; exact ⟨rfl, alloc_ _ _⟩
        ·have t7 : decide (z ≤ 99) = true := by simpa using h7
         rw [rk_yes (by omega)]; clear h0 h1 h2 h3 h4 h5 h6 h7; go_enter Tryz.func100, Tryz.ntmps100; go_wp2; go_ret; exact ⟨rfl, alloc_ _ _⟩
theorem scope_from {P : Program} {a : Act} {w : World} {Q : Exit → Act → World → Prop} {c rest : Code} (l : Nat) (J : Act → World → Prop) (μ : Act → World → Nat) (hf : findLabel c l = some (.seq .skip rest))
  (first : Hid (∀ a w, J a w → rest.wp P (Exit.jump l J Q) a w) → c.wp P (Exit.jump l J Q) a w)
  (pass : ∀ a w, J a w → rest.wp P (Exit.jump l (fun a' w' => J a' w' ∧ μ a' w' < μ a w) Q) a w) : (Code.scope c).wp P Q a w :=
 wp_scope_jumps l J μ hf (first (Lib.hid fun a w h => wp_mono (pass a w h) fun e a w h => by
  cases e with
  | goto l' => exact ⟨h.1, h.2.1⟩
  | _ => exact h)) fun a w h => wp_seq (wp_skip (pass a w h))
set_option maxRecDepth 100000 in
set_option maxHeartbeats 2000000 in
theorem band (L : Option Addr) (m c : Nat) (ls : List Pr) (age : Int) (w : World) (ok : Nat → Prop) (hS : Lns w ok L m ls) (hm : m ≤ maxLen) :
  Calls Tryz.prog 117 #[.slice L m c, .int .i64 age] w fun e w' => e = .returned (.int .i64 (bnd age ls)) ∧ w = w' := by
 have hl := hS.1; unfold maxLen at hm; have HS := Lib.hid hS; have HL := Lib.hid hl; obtain ⟨R, hR⟩ : ∃ R, bnd age ls = R := ⟨_, rfl⟩; rw [hR]; have HR := Lib.hid hR; clear hS hl hR; go_enter Tryz.func117, Tryz.ntmps117; go_wp2; refine scope_from 0 (fun a' w' => w = w' ∧ ∃ (k : Nat) (u5 u6 u7 u8 u9 u10 u11 u12 u13 u14 u15 u16 u17 u18 : Value), a' = { tmps := #[.slice L m c, .int .i64 age, undef, undef, .int .i64 0, u5, u6, u7, u8, u9, u10, u11, u12, u13, u14, u15, u16, u17, u18, undef, undef, undef, undef, undef], defers := [] } ∧ u5 = .int .i64 (k : Int) ∧ k ≤ m ∧ Hid (bnd age (ls.drop k) = R)) (fun a' _ => m - (intOf (a'.tmps.getD 5 undef)).toNat) rfl (fun HP => ?_) ?_
 ·go_wp2; go_step3
  rename_i hK
  exact hK _ _ (HP.out _ _ ⟨rfl, 0, _, _, _, _, _, _, _, _, _, _, _, _, _, _, rfl, rfl, Nat.zero_le _, HR⟩)
 ·rintro a' w' ⟨rfl, k, u5, u6, u7, u8, u9, u10, u11, u12, u13, u14, u15, u16, u17, u18, rfl, rfl, hk, HB⟩; by_cases hlt : k < m
  ·obtain ⟨ad, x, y, rfl, hb, hx, hc0, hc1⟩ := HS.out.get hlt; have HD := Lib.hid (drop_get hx); have hlt2 : (k : Int) < (m : Int) := by omega
   have t0 : ((k : Int) == (m : Int)) = false := by rw [beq_eq_false_iff_ne]; omega
   have t0' : (k == m) = false := by rw [beq_eq_false_iff_ne]; omega
   clear hx hb; by_cases h1 : x < age
   ·have t1 : decide (x < age) = true := by simpa using h1
    have HN := Lib.hid (show bnd age (ls.drop (k + 1)) = R by rw [← HB.out, HD.out]; exact (bnd_up (x := (x, y)) h1).symm); clear h1; go_wp2; go_step3; refine ⟨rfl, ⟨rfl, k + 1, _, _, _, _, _, _, _, _, _, _, _, _, _, _, rfl, by go_num, by omega, HN⟩, ?_⟩
    ·simp [intOf]; omega
   ·have t1 : decide (x < age) = false := by simpa using h1
    have HF := Lib.hid (show R = y by rw [← HB.out, HD.out]; exact bnd_at (x := (x, y)) h1); clear h1; go_wp2; simp only [Exit.jump]; go_ret; exact ⟨by rw [HF.out]; rfl, rfl⟩
  ·have HF := Lib.hid (show R = 10000 by rw [← HB.out, List.drop_of_length_le (by rw [HL.out]; omega)]; rfl); have t0 : ((k : Int) == (m : Int)) = true := by rw [beq_iff_eq]; omega
   have t0' : (k == m) = true := by rw [beq_iff_eq]; omega
   go_wp2; simp only [Exit.jump]; go_ret; exact ⟨by rw [HF.out]; rfl, rfl⟩
set_option maxHeartbeats 2000000 in
theorem rband (L : Option Addr) (m c : Nat) (ls : List Pr) (age : Int) (w : World) (ok : Nat → Prop) (hS : Lns w ok L m ls) (hm : m ≤ maxLen) :
  Calls Tryz.prog 105 #[.slice L m c, .int .i64 age] w fun e w' => e = .returned (.int .i64 (bnd age ls)) ∧ w = w' := by
 have hl := hS.1; unfold maxLen at hm; have HS := Lib.hid hS; have HL := Lib.hid hl; clear hS hl; go_enter Tryz.func105, Tryz.ntmps105; go_wp2
 go_loop [5, 6] (fun b i => ∃ (k : Nat) (r : Int), k ≤ m ∧ i = .int .i64 ((k : Int) - 1) ∧ b = .int .i64 r ∧ Hid (bnd age (ls.drop k) = r)) (fun _ i => ((intOf i) + 1).toNat)
 case atStart => exact ⟨m, 10000, Nat.le_refl _, rfl, rfl, Lib.hid (by rw [List.drop_of_length_le (by rw [HL.out]; omega)]; rfl)⟩
 case round =>
  obtain ⟨k, r, hk, rfl, rfl, HB⟩ := hrel; cases k with
  | zero =>
   have HF := Lib.hid (show bnd age ls = r by have := HB.out; rwa [List.drop_zero] at this); rw [show ((0 : Nat) : Int) - 1 = -1 from rfl]; go_wp2; go_ret; exact ⟨by rw [HF.out]; rfl, rfl⟩
  | succ j =>
   obtain ⟨ad, x, y, rfl, hb, hx, hc0, hc1⟩ := HS.out.get (show j < m by omega); have HD := Lib.hid (drop_get hx); have hlt2 : (j : Int) < (m : Int) := by omega
   have e1 : ((j + 1 : Nat) : Int) - 1 = (j : Int) := by omega
   rw [e1]; clear hx hb e1; by_cases h1 : age ≤ x
   ·have t1 : decide (age ≤ x) = true := by simpa using h1
    have HN := Lib.hid (show bnd age (ls.drop j) = y by rw [HD.out]; exact bnd_at (by simp only; omega)); clear h1; go_wp2
    go_round
    case rel => exact ⟨j, y, by omega, rfl, rfl, HN⟩
    case measure => simp [intOf]
   ·have t1 : decide (age ≤ x) = false := by simpa using h1
    have HN := Lib.hid (show bnd age (ls.drop j) = r by rw [HD.out]; exact (bnd_up (by simp only; omega)).trans HB.out); clear h1; go_wp2
    go_round
    case rel => exact ⟨j, r, by omega, rfl, rfl, HN⟩
    case measure => simp [intOf]
end Qo
end Go.Proofs.YtplenoaajokpjaaGreat
namespace Go.Proofs.YtplenoaajokpjaaGreat
open Go.RowKit Cv
namespace Qo
set_option linter.unusedVariables false
set_option maxHeartbeats 1000000 in
theorem cov_right (c : Co) (w : World) : Calls Tryz.prog 111 #[cg c] w (Yes w (ok c)) := by
 by_cases h0 : c.p < 0
 ·have t0 : decide (c.p < 0) = true := by simpa using h0
  rw [ok_no (c := c) (by unfold Ok; omega)]; clear h0; go_enter Tryz.func111, Tryz.ntmps111; go_wp2; go_ret; exact ⟨rfl, alloc_ _ _⟩
 ·have t0 : decide (c.p < 0) = false := by simpa using h0
  by_cases h1 : 7 < c.p
  ·have t1 : decide (7 < c.p) = true := by simpa using h1
   rw [ok_no (c := c) (by unfold Ok; omega)]; clear h0 h1; go_enter Tryz.func111, Tryz.ntmps111; go_wp2; go_ret; exact ⟨rfl, alloc_ _ _⟩
  ·have t1 : decide (7 < c.p) = false := by simpa using h1
   by_cases h2 : c.s < 1
   ·have t2 : decide (c.s < 1) = true := by simpa using h2
    rw [ok_no (c := c) (by unfold Ok; omega)]; clear h0 h1 h2; go_enter Tryz.func111, Tryz.ntmps111; go_wp2; go_ret; exact ⟨rfl, alloc_ _ _⟩
   ·have t2 : decide (c.s < 1) = false := by simpa using h2
    by_cases h3 : 10000 < c.s
    ·have t3 : decide (10000 < c.s) = true := by simpa using h3
     rw [ok_no (c := c) (by unfold Ok; omega)]; clear h0 h1 h2 h3; go_enter Tryz.func111, Tryz.ntmps111; go_wp2; go_ret; exact ⟨rfl, alloc_ _ _⟩
    ·have t3 : decide (10000 < c.s) = false := by simpa using h3
     by_cases h4 : ¬ 0 ≤ c.d
     ·have t4 : decide (0 ≤ c.d) = false := by simpa using h4
      rw [ok_no (c := c) (by unfold Ok; omega)]; clear h0 h1 h2 h3 h4; go_enter Tryz.func111, Tryz.ntmps111; go_wp2; go_ret; exact ⟨rfl, alloc_ _ _⟩
     ·have t4 : decide (0 ≤ c.d) = true := by simpa using h4
      by_cases h5 : ¬ c.d < c.l
      ·have t5 : decide (c.d < c.l) = false := by simpa using h5
       rw [ok_no (c := c) (by unfold Ok; omega)]; clear h0 h1 h2 h3 h4 h5; go_enter Tryz.func111, Tryz.ntmps111; go_wp2; go_ret; exact ⟨rfl, alloc_ _ _⟩
      ·have t5 : decide (c.d < c.l) = true := by simpa using h5
       by_cases h6 : ¬ c.l ≤ c.g
       ·have t6 : decide (c.l ≤ c.g) = false := by simpa using h6
        rw [ok_no (c := c) (by unfold Ok; omega)]; clear h0 h1 h2 h3 h4 h5 h6; go_enter Tryz.func111, Tryz.ntmps111; go_wp2; go_ret; exact ⟨rfl, alloc_ _ _⟩
       ·have t6 : decide (c.l ≤ c.g) = true := by simpa using h6
        by_cases h7 : ¬ c.g ≤ 1000000000000000
        ·have t7 : decide (c.g ≤ 1000000000000000) = false := by simpa using h7
         rw [ok_no (c := c) (by unfold Ok; omega)]; clear h0 h1 h2 h3 h4 h5 h6 h7; go_enter Tryz.func111, Tryz.ntmps111; go_wp2; go_ret; exact ⟨rfl, alloc_ _ _⟩
        ·have t7 : decide (c.g ≤ 1000000000000000) = true := by simpa using h7
         rw [ok_yes (c := c) (by unfold Ok; omega)]; clear h0 h1 h2 h3 h4 h5 h6 h7; go_enter Tryz.func111, Tryz.ntmps111; go_wp2; go_ret; exact ⟨rfl, alloc_ _ _⟩
set_option maxHeartbeats 1000000 in
theorem rcov_right (c : Co) (w : World) : Calls Tryz.prog 104 #[cg c] w (Yes w (ok c)) := by
 by_cases h0 : c.p < 0
 ·have t0 : decide (c.p < 0) = true := by simpa using h0
  rw [ok_no (c := c) (by unfold Ok; omega)]; clear h0; go_enter Tryz.func104, Tryz.ntmps104; go_wp2; go_ret; exact ⟨rfl, alloc_ _ _⟩
 ·have t0 : decide (c.p < 0) = false := by simpa using h0
  by_cases h1 : 7 < c.p
  ·have t1 : decide (7 < c.p) = true := by simpa using h1
   rw [ok_no (c := c) (by unfold Ok; omega)]; clear h0 h1; go_enter Tryz.func104, Tryz.ntmps104; go_wp2; go_ret; exact ⟨rfl, alloc_ _ _⟩
  ·have t1 : decide (7 < c.p) = false := by simpa using h1
   by_cases h2 : c.s < 1
   ·have t2 : decide (c.s < 1) = true := by simpa using h2
    rw [ok_no (c := c) (by unfold Ok; omega)]; clear h0 h1 h2; go_enter Tryz.func104, Tryz.ntmps104; go_wp2; go_ret; exact ⟨rfl, alloc_ _ _⟩
   ·have t2 : decide (c.s < 1) = false := by simpa using h2
    by_cases h3 : 10000 < c.s
    ·have t3 : decide (10000 < c.s) = true := by simpa using h3
     rw [ok_no (c := c) (by unfold Ok; omega)]; clear h0 h1 h2 h3; go_enter Tryz.func104, Tryz.ntmps104; go_wp2; go_ret; exact ⟨rfl, alloc_ _ _⟩
    ·have t3 : decide (10000 < c.s) = false := by simpa using h3
     by_cases h4 : ¬ 0 ≤ c.d
     ·have t4 : decide (0 ≤ c.d) = false := by simpa using h4
      rw [ok_no (c := c) (by unfold Ok; omega)]; clear h0 h1 h2 h3 h4; go_enter Tryz.func104, Tryz.ntmps104; go_wp2; go_ret; exact ⟨rfl, alloc_ _ _⟩
     ·have t4 : decide (0 ≤ c.d) = true := by simpa using h4
      by_cases h5 : ¬ c.d < c.l
      ·have t5 : decide (c.d < c.l) = false := by simpa using h5
       rw [ok_no (c := c) (by unfold Ok; omega)]; clear h0 h1 h2 h3 h4 h5; go_enter Tryz.func104, Tryz.ntmps104; go_wp2; go_ret; exact ⟨rfl, alloc_ _ _⟩
      ·have t5 : decide (c.d < c.l) = true := by simpa using h5
       by_cases h6 : ¬ c.l ≤ c.g
       ·have t6 : decide (c.l ≤ c.g) = false := by simpa using h6
        rw [ok_no (c := c) (by unfold Ok; omega)]; clear h0 h1 h2 h3 h4 h5 h6; go_enter Tryz.func104, Tryz.ntmps104; go_wp2; go_ret; exact ⟨rfl, alloc_ _ _⟩
       ·have t6 : decide (c.l ≤ c.g) = true := by simpa using h6
        by_cases h7 : ¬ c.g ≤ 1000000000000000
        ·have t7 : decide (c.g ≤ 1000000000000000) = false := by simpa using h7
         rw [ok_no (c := c) (by unfold Ok; omega)]; clear h0 h1 h2 h3 h4 h5 h6 h7; go_enter Tryz.func104, Tryz.ntmps104; go_wp2; go_ret; exact ⟨rfl, alloc_ _ _⟩
        ·have t7 : decide (c.g ≤ 1000000000000000) = true := by simpa using h7
         rw [ok_yes (c := c) (by unfold Ok; omega)]; clear h0 h1 h2 h3 h4 h5 h6 h7; go_enter Tryz.func104, Tryz.ntmps104; go_wp2; go_ret; exact ⟨rfl, alloc_ _ _⟩
end Qo
end Go.Proofs.YtplenoaajokpjaaGreat
namespace Go.Proofs.YtplenoaajokpjaaGreat
open Go.RowKit Ba Tf
namespace Qo
set_option linter.unusedVariables false
structure Lo (r : Rw) : Prop where
 a : r.la ≤ 140737488355328
 z : r.lz ≤ 140737488355328
 p : r.lp ≤ 140737488355328
theorem base_ins (w : World) (r : Rw) (W : World) (h : Bx W w.heap.size 70 (vc r)) : Ins W (fun _ => True) (some ⟨w.heap.size, 1, none⟩) 4 [r.v.b0, r.v.b1, r.v.b2, r.v.b3] := by
 refine ⟨rfl, fun _ => ⟨_, rfl, trivial, fun j x hx => ?_⟩⟩; rw [Addr.add_lit, h.c]
 match j, hx with
 | 0, hx => injection hx with hx; subst hx; rfl
 | 1, hx => injection hx with hx; subst hx; rfl
 | 2, hx => injection hx with hx; subst hx; rfl
 | 3, hx => injection hx with hx; subst hx; rfl
set_option maxRecDepth 100000 in
set_option maxHeartbeats 4000000 in
theorem version_ (r : Rw) (w : World) (M : Mean w (· < w.heap.size) r) (S : Lo r) :
  Calls Tryz.prog 116 #[vg r] w (Yes w (ver r.v)) := by
 have hz1 := M.z.1; have hp1 := M.p.1; have sa := S.a; have sz := S.z; have sp := S.p; have HBx := Lib.hid (Bx.new w 70 (vc r)); have CW := fun n lo hi w => Lib.hid (twithin n lo hi w)
 have CB := Lib.hid (factors (some ⟨w.heap.size, 1, none⟩) 4 4 [r.v.b0, r.v.b1, r.v.b2, r.v.b3] (w.alloc (.cells (vc r) 70)) _ (base_ins w r _ HBx.out) (by unfold maxLen; omega)); have CZ := Lib.hid (factors r.Z r.lz r.cz r.v.zn (w.alloc (.cells (vc r) 70)) _ (M.z.below (alloc_ _ _)) (by unfold maxLen; omega)); have CP := Lib.hid (factors r.P r.lp r.cp r.v.pe (w.alloc (.cells (vc r) 70)) _ (M.p.below (alloc_ _ _)) (by unfold maxLen; omega)); have CA := Lib.hid (bands_ r.A r.la r.ca r.v.ag (w.alloc (.cells (vc r) 70)) (M.a.below (alloc_ _ _)) (by unfold maxLen; omega)); have HV := Lib.hid (show ver r.v = (wi r.v.fr 1 292194 && (wi r.v.mn 0 1000000000000000 && (wi (r.lz : Int) 1 100 && (decide (r.lp = 8) && (fac [r.v.b0, r.v.b1, r.v.b2, r.v.b3] && (fac r.v.zn && (fac r.v.pe && bds r.v.ag))))))) by unfold ver; rw [hz1, hp1]); have HA := Lib.hid (alloc_ w (.cells (vc r) 70)); generalize fac [r.v.b0, r.v.b1, r.v.b2, r.v.b3] = fb at CB HV; generalize fac r.v.zn = fz at CZ HV; generalize fac r.v.pe = fp at CP HV; generalize bds r.v.ag = fa at CA HV; clear hz1 hp1 M S; cases t0 : wi r.v.fr 1 292194
 ·skip
  rw [show ver r.v = false by rw [HV.out, t0]; rfl]; go_enter Tryz.func116, Tryz.ntmps116
  go_wp2_with (first
     | (go_at_call 128; refine (CW _ _ _ _).out.mono ?_; rintro e w' ⟨rfl, rfl⟩)
     | (go_at_call 129; (with_reducible refine CB.out.mono ?_); rintro e w' ⟨rfl, rfl⟩)
     | (go_at_call 129; (with_reducible refine CZ.out.mono ?_); rintro e w' ⟨rfl, rfl⟩)
     | (go_at_call 129; (with_reducible refine CP.out.mono ?_); rintro e w' ⟨rfl, rfl⟩)
     | (go_at_call 130; (with_reducible refine CA.out.mono ?_); rintro e w' ⟨rfl, hb1⟩; have HB1 := Lib.hid hb1; clear hb1)
     | fail)
  go_ret; exact ⟨rfl, HA.out⟩
 ·skip
  cases t1 : wi r.v.mn 0 1000000000000000
  ·skip
   rw [show ver r.v = false by rw [HV.out, t0, t1]; rfl]; go_enter Tryz.func116, Tryz.ntmps116
   go_wp2_with (first
      | (go_at_call 128; refine (CW _ _ _ _).out.mono ?_; rintro e w' ⟨rfl, rfl⟩)
      | (go_at_call 129; (with_reducible refine CB.out.mono ?_); rintro e w' ⟨rfl, rfl⟩)
      | (go_at_call 129; (with_reducible refine CZ.out.mono ?_); rintro e w' ⟨rfl, rfl⟩)
      | (go_at_call 129; (with_reducible refine CP.out.mono ?_); rintro e w' ⟨rfl, rfl⟩)
      | (go_at_call 130; (with_reducible refine CA.out.mono ?_); rintro e w' ⟨rfl, hb1⟩; have HB1 := Lib.hid hb1; clear hb1)
      | fail)
   go_ret; exact ⟨rfl, HA.out⟩
  ·skip
   cases t2 : wi (r.lz : Int) 1 100
   ·skip
    rw [show ver r.v = false by rw [HV.out, t0, t1, t2]; rfl]; go_enter Tryz.func116, Tryz.ntmps116
    go_wp2_with (first
       | (go_at_call 128; refine (CW _ _ _ _).out.mono ?_; rintro e w' ⟨rfl, rfl⟩)
       | (go_at_call 129; (with_reducible refine CB.out.mono ?_); rintro e w' ⟨rfl, rfl⟩)
       | (go_at_call 129; (with_reducible refine CZ.out.mono ?_); rintro e w' ⟨rfl, rfl⟩)
       | (go_at_call 129; (with_reducible refine CP.out.mono ?_); rintro e w' ⟨rfl, rfl⟩)
       | (go_at_call 130; (with_reducible refine CA.out.mono ?_); rintro e w' ⟨rfl, hb1⟩; have HB1 := Lib.hid hb1; clear hb1)
       | fail)
    go_ret; exact ⟨rfl, HA.out⟩
   ·skip
    by_cases h3 : r.lp = 8
    ·have t3 : decide (r.lp = 8) = true := decide_eq_true h3; have t3' : ((r.lp : Int) == 8) = true := by simpa using (show (r.lp : Int) = 8 by omega)
     have t3'' : decide ((r.lp : Int) = 8) = true := decide_eq_true (by omega); have t3z : (r.lp : Int) = 8 := by omega
     clear h3; cases fb
     ·skip
      rw [show ver r.v = false by rw [HV.out, t0, t1, t2, t3]; rfl]; go_enter Tryz.func116, Tryz.ntmps116
      go_wp2_with (first
         | (go_at_call 128; refine (CW _ _ _ _).out.mono ?_; rintro e w' ⟨rfl, rfl⟩)
         | (go_at_call 129; (with_reducible refine CB.out.mono ?_); rintro e w' ⟨rfl, rfl⟩)
         | (go_at_call 129; (with_reducible refine CZ.out.mono ?_); rintro e w' ⟨rfl, rfl⟩)
         | (go_at_call 129; (with_reducible refine CP.out.mono ?_); rintro e w' ⟨rfl, rfl⟩)
         | (go_at_call 130; (with_reducible refine CA.out.mono ?_); rintro e w' ⟨rfl, hb1⟩; have HB1 := Lib.hid hb1; clear hb1)
         | fail)
      go_ret; exact ⟨rfl, HA.out⟩
     ·skip
      cases fz
      ·skip
       rw [show ver r.v = false by rw [HV.out, t0, t1, t2, t3]; rfl]; go_enter Tryz.func116, Tryz.ntmps116
       go_wp2_with (first
          | (go_at_call 128; refine (CW _ _ _ _).out.mono ?_; rintro e w' ⟨rfl, rfl⟩)
          | (go_at_call 129; (with_reducible refine CB.out.mono ?_); rintro e w' ⟨rfl, rfl⟩)
          | (go_at_call 129; (with_reducible refine CZ.out.mono ?_); rintro e w' ⟨rfl, rfl⟩)
          | (go_at_call 129; (with_reducible refine CP.out.mono ?_); rintro e w' ⟨rfl, rfl⟩)
          | (go_at_call 130; (with_reducible refine CA.out.mono ?_); rintro e w' ⟨rfl, hb1⟩; have HB1 := Lib.hid hb1; clear hb1)
          | fail)
       go_ret; exact ⟨rfl, HA.out⟩
      ·skip
       cases fp
       ·skip
        rw [show ver r.v = false by rw [HV.out, t0, t1, t2, t3]; rfl]; go_enter Tryz.func116, Tryz.ntmps116
        go_wp2_with (first
           | (go_at_call 128; refine (CW _ _ _ _).out.mono ?_; rintro e w' ⟨rfl, rfl⟩)
           | (go_at_call 129; (with_reducible refine CB.out.mono ?_); rintro e w' ⟨rfl, rfl⟩)
           | (go_at_call 129; (with_reducible refine CZ.out.mono ?_); rintro e w' ⟨rfl, rfl⟩)
           | (go_at_call 129; (with_reducible refine CP.out.mono ?_); rintro e w' ⟨rfl, rfl⟩)
           | (go_at_call 130; (with_reducible refine CA.out.mono ?_); rintro e w' ⟨rfl, hb1⟩; have HB1 := Lib.hid hb1; clear hb1)
           | fail)
        go_ret; exact ⟨rfl, HA.out⟩
       ·skip
        cases fa
        ·skip
         rw [show ver r.v = false by rw [HV.out, t0, t1, t2, t3]; rfl]; go_enter Tryz.func116, Tryz.ntmps116
         go_wp2_with (first
            | (go_at_call 128; refine (CW _ _ _ _).out.mono ?_; rintro e w' ⟨rfl, rfl⟩)
            | (go_at_call 129; (with_reducible refine CB.out.mono ?_); rintro e w' ⟨rfl, rfl⟩)
            | (go_at_call 129; (with_reducible refine CZ.out.mono ?_); rintro e w' ⟨rfl, rfl⟩)
            | (go_at_call 129; (with_reducible refine CP.out.mono ?_); rintro e w' ⟨rfl, rfl⟩)
            | (go_at_call 130; (with_reducible refine CA.out.mono ?_); rintro e w' ⟨rfl, hb1⟩; have HB1 := Lib.hid hb1; clear hb1)
            | fail)
         go_ret; exact ⟨rfl, HA.out.trans (HB1.out.mono HA.out.size)⟩
        ·skip
         rw [show ver r.v = true by rw [HV.out, t0, t1, t2, t3]; rfl]; go_enter Tryz.func116, Tryz.ntmps116
         go_wp2_with (first
            | (go_at_call 128; refine (CW _ _ _ _).out.mono ?_; rintro e w' ⟨rfl, rfl⟩)
            | (go_at_call 129; (with_reducible refine CB.out.mono ?_); rintro e w' ⟨rfl, rfl⟩)
            | (go_at_call 129; (with_reducible refine CZ.out.mono ?_); rintro e w' ⟨rfl, rfl⟩)
            | (go_at_call 129; (with_reducible refine CP.out.mono ?_); rintro e w' ⟨rfl, rfl⟩)
            | (go_at_call 130; (with_reducible refine CA.out.mono ?_); rintro e w' ⟨rfl, hb1⟩; have HB1 := Lib.hid hb1; clear hb1)
            | fail)
         go_ret; exact ⟨rfl, HA.out.trans (HB1.out.mono HA.out.size)⟩
    ·have t3 : decide (r.lp = 8) = false := decide_eq_false h3; have t3' : ((r.lp : Int) == 8) = false := by simpa using (show ¬ (r.lp : Int) = 8 by omega)
     have t3'' : decide ((r.lp : Int) = 8) = false := decide_eq_false (by omega); clear h3; rw [show ver r.v = false by rw [HV.out, t0, t1, t2, t3]; rfl]; go_enter Tryz.func116, Tryz.ntmps116
     go_wp2_with (first
        | (go_at_call 128; refine (CW _ _ _ _).out.mono ?_; rintro e w' ⟨rfl, rfl⟩)
        | (go_at_call 129; (with_reducible refine CB.out.mono ?_); rintro e w' ⟨rfl, rfl⟩)
        | (go_at_call 129; (with_reducible refine CZ.out.mono ?_); rintro e w' ⟨rfl, rfl⟩)
        | (go_at_call 129; (with_reducible refine CP.out.mono ?_); rintro e w' ⟨rfl, rfl⟩)
        | (go_at_call 130; (with_reducible refine CA.out.mono ?_); rintro e w' ⟨rfl, hb1⟩; have HB1 := Lib.hid hb1; clear hb1)
        | fail)
     go_ret; exact ⟨rfl, HA.out⟩
end Qo
end Go.Proofs.YtplenoaajokpjaaGreat

namespace Go.Proofs.YtplenoaajokpjaaGreat
open Go.RowKit Ba Tf Cv Qm
namespace Qo
set_option linter.unusedVariables false
theorem ev_all (x s : Nat) : Num.nums Num.nearB (x : Int) (s : Int) 10000 = if 4000000000000000000 < prt x s then (0, 5) else (prt x s, 0) := by
 have e : Num.quo Num.nearB x s 10000 = rnd (x * s) := by
  unfold Num.quo rnd Num.nearB; by_cases h : 5000 < x * s % 10000 ∨ (x * s % 10000 = 5000 ∧ x * s / 10000 % 2 = 1)
  ·rw [if_pos h, if_pos (by simp; omega)]
  ·rw [if_neg h, if_neg (by simp; omega)]
 rw [prt_nat]; by_cases h : 4000000000000000000 < ((rnd (x * s) : Nat) : Int)
 ·rw [if_pos h]; exact Num.nums_over (up := Num.nearB) (a := x) (b := s) (c := 10000) (by omega) (by rw [e]; omega)
 ·rw [if_neg h]; have k := Num.nums_ok (up := Num.nearB) (a := x) (b := s) (c := 10000) (by omega) (by rw [e]; omega); rw [e] at k; exact k
theorem ev_over {x s : Int} (hx : 0 ≤ x) (hs : 0 ≤ s) (h : 4000000000000000000 < prt x s) : Num.evV x s 10000 = 0 ∧ Num.evE x s 10000 = 5 := by
 obtain ⟨x, rfl⟩ := Int.eq_ofNat_of_zero_le hx; obtain ⟨s, rfl⟩ := Int.eq_ofNat_of_zero_le hs; unfold Num.evV Num.evE; rw [ev_all, if_pos h]; exact ⟨rfl, rfl⟩
theorem ev_ok {x s : Int} (hx : 0 ≤ x) (hs : 0 ≤ s) (h : ¬ 4000000000000000000 < prt x s) : Num.evV x s 10000 = prt x s ∧ Num.evE x s 10000 = 0 := by
 obtain ⟨x, rfl⟩ := Int.eq_ofNat_of_zero_le hx; obtain ⟨s, rfl⟩ := Int.eq_ofNat_of_zero_le hs; unfold Num.evV Num.evE; rw [ev_all, if_neg h]; exact ⟨rfl, rfl⟩
def tkN : Option Int → Int
 | none => 0
 | some x => x
def tkE : Option Int → Int
 | none => 5
 | some _ => 0
set_option maxRecDepth 100000 in
set_option maxHeartbeats 2000000 in
theorem taken (L : Option Addr) (m c : Nat) (xs : List Int) (a : Int) (w : World) (hS : Ins w (· < w.heap.size) L m xs) (hm : m ≤ maxLen) (ha : 0 ≤ a ∧ a ≤ 4000000000000000000) (hx : ∀ x ∈ xs, 0 ≤ x ∧ x ≤ 100000) :
  Calls Tryz.prog 118 #[.int .i64 a, .slice L m c] w fun e w' => e = .returned (.tuple #[.int .i64 (tkN (tk a xs)), .int .i64 (tkE (tk a xs))]) ∧ Below w.heap.size w w' := by
 unfold maxLen at hm; have HS := Lib.hid hS; have HX := Lib.hid hx; obtain ⟨R, hR⟩ : ∃ R, tk a xs = R := ⟨_, rfl⟩; rw [hR]; have HR := Lib.hid hR; clear hS hR hx; go_enter Tryz.func118, Tryz.ntmps118; go_wp2; go_step3; go_wp2; go_step3; go_wp2
 go_loopw [0, 12] (fun s0 i w' => ∃ (k : Nat) (x : Int) (w1 : World), k ≤ m ∧ 0 ≤ x ∧ x ≤ 4000000000000000000 ∧ i = .int .i64 (k : Int) ∧ s0 = .int .i64 x ∧ w1 = w' ∧ Hid (tk x (xs.drop k) = R) ∧ Hid (Below w.heap.size w w1)) (fun _ i _ => m - (intOf i).toNat)
 case atStart => exact ⟨0, a, _, Nat.zero_le _, ha.1, ha.2, rfl, rfl, rfl, HR, Lib.hid (Below.refl _ _)⟩
 case round =>
  obtain ⟨k, x, w1, hk, hx0, hx1, rfl, rfl, rfl, HT, HB⟩ := hrel; by_cases hlt : k < m
  ·obtain ⟨ad, y, rfl, hb, hy, hc0⟩ := (HS.out.below HB.out).get hlt; have HD := Lib.hid (drop_get hy); have hy2 := HX.out y (List.mem_of_getElem? hy); have hlt2 : (k : Int) < (m : Int) := by omega
   have C := fun w => Lib.hid (Num.bp x y w (by omega) (by omega))
   clear hy hb; by_cases ho : 4000000000000000000 < prt x y
   ·obtain ⟨e1, e2⟩ := ev_over hx0 hy2.1 ho; rw [e1, e2] at C; have HF := Lib.hid (show R = none by rw [← HT.out, HD.out, tk_over ho]); clear e1 e2 ho hy2
    go_wp2_with (go_at_call 131; refine (C _).out.mono ?_; rintro e w2 ⟨rfl, hb2⟩; have HB2 := Lib.hid (HB.out.trans (hb2.mono HB.out.size)); clear hb2)
    simp only [Exit.noGoto]; go_ret2; exact ⟨by rw [HF.out]; rfl, HB2.out⟩
   ·obtain ⟨e1, e2⟩ := ev_ok hx0 hy2.1 ho; rw [e1, e2] at C; have HN := Lib.hid (show tk (prt x y) (xs.drop (k + 1)) = R by rw [← HT.out, HD.out, tk_next ho]); have hn := prt_nn x y; clear e1 e2 hy2; generalize prt x y = z at C HN ho hn; by_cases hz : z = 0
    ·have t1 : (z == 0) = true := by rw [beq_iff_eq]; exact hz
     have HF := Lib.hid (show R = some 0 by rw [← HN.out, hz, tk_zero]); clear hz ho hn
     go_wp2_with (go_at_call 131; refine (C _).out.mono ?_; rintro e w2 ⟨rfl, hb2⟩; have HB2 := Lib.hid (HB.out.trans (hb2.mono HB.out.size)); clear hb2)
     simp only [Exit.noGoto]; go_ret2; exact ⟨by rw [HF.out]; rfl, HB2.out⟩
    ·have t1 : (z == 0) = false := by rw [beq_eq_false_iff_ne]; exact hz
     have ho2 : z ≤ 4000000000000000000 := by omega
     clear hz ho
     go_wp2_with (go_at_call 131; refine (C _).out.mono ?_; rintro e w2 ⟨rfl, hb2⟩; have HB2 := Lib.hid (HB.out.trans (hb2.mono HB.out.size)); clear hb2)
     go_roundw
     case rel => exact ⟨k + 1, z, _, by omega, hn, ho2, by go_num, rfl, rfl, HN, HB2⟩
     case measure => simp [intOf]; omega
  ·have HF := Lib.hid (show R = some x by rw [← HT.out, List.drop_of_length_le (by rw [HS.out.1]; omega)]; rfl); go_wp2; simp only [Exit.noGoto]; go_ret2; exact ⟨by rw [HF.out]; rfl, HB.out⟩
end Qo
end Go.Proofs.YtplenoaajokpjaaGreat
namespace Go.Proofs.YtplenoaajokpjaaGreat
open Go.RowKit Ba Tf Cv Qm
namespace Qo
set_option linter.unusedVariables false
structure Adds (w : World) (g : Nat) (s : Int) (b : Bool) : Prop where
 s : Bx w g 3 #[.int .i64 s]
 b : Bx w (g + 1) 4 #[.bool b]
structure Turned (g : Nat) (w w' : World) : Prop where
 os : w'.os = w.os
 tape : w'.tape = w.tape
 output : w'.output = w.output
 size : w.heap.size ≤ w'.heap.size
 block : ∀ i, i < w.heap.size → i ≠ g → i ≠ g + 1 → w'.heap[i]? = w.heap[i]?
theorem Turned.below {g : Nat} {w0 w w' : World} (h : Turned g w w') (hb : Below w0.heap.size w0 w) (hg : w0.heap.size ≤ g) : Below w0.heap.size w0 w' :=
 ⟨h.os.trans hb.os, h.tape.trans hb.tape, h.output.trans hb.output, Nat.le_trans hb.size h.size, fun i hi => (h.block i (Nat.lt_of_lt_of_le hi hb.size) (by omega) (by omega)).trans (hb.block i hi)⟩
theorem Adds.keep {g : Nat} {s : Int} {b : Bool} {w w' : World} (h : Adds w g s b) (hb : Below w.heap.size w w') : Adds w' g s b := ⟨h.s.keep hb, h.b.keep hb⟩
theorem Adds.alloc {g : Nat} {s : Int} {b : Bool} {w : World} (h : Adds w g s b) (o : Obj) : Adds (w.alloc o) g s b := ⟨h.s.alloc o, h.b.alloc o⟩
abbrev addFn (g : Nat) : Value := .func (.func 115) #[] #[.pointer (some ⟨g + 1, 0, none⟩), .pointer (some ⟨g, 0, none⟩)]
set_option maxHeartbeats 1000000 in
theorem adder (w : World) : Calls Tryz.prog 90 #[] w fun e w' => e = .returned (addFn w.heap.size) ∧ Adds w' w.heap.size 0 true ∧ Below w.heap.size w w' := by
 have HA := Lib.hid (show Adds ((w.alloc (.cells #[.int .i64 0] 3)).alloc (.cells #[.bool true] 4)) w.heap.size 0 true by
  refine ⟨(Bx.new _ _ _).alloc _, ?_⟩; have := Bx.new (w.alloc (.cells #[.int .i64 0] 3)) 4 #[.bool true]; rw [World.size_alloc] at this; exact this)
 go_enter Tryz.func90, Tryz.ntmps90; go_wp2; go_ret; exact ⟨rfl, HA.out, (alloc_ _ _).alloc (by simp) _⟩
abbrev AddTo (w : World) (g : Nat) (s : Int) (b : Bool) (e : Ending) (w' : World) : Prop := e = .returned (.tuple #[.int .i64 s, .bool b]) ∧ Adds w' g s b ∧ Turned g w w'
theorem Turned.refl (g : Nat) (w : World) : Turned g w w := ⟨rfl, rfl, rfl, Nat.le_refl _, fun _ _ _ _ => rfl⟩
theorem Turned.set {g : Nat} {w w' : World} (h : Turned g w w') {b : Nat} (hb : b = g ∨ b = g + 1) (u : Value) : Turned g w (w'.setCell ⟨b, 0, none⟩ u) := by
 have q := (Below.refl 0 w').setCell (p := ⟨b, 0, none⟩) (Nat.zero_le _) u; exact ⟨q.os.trans h.os, q.tape.trans h.tape, q.output.trans h.output, Nat.le_trans h.size q.size, fun i hi h1 h2 => (Below.heap_setCell w' ⟨b, 0, none⟩ u i (by show i ≠ b; omega)).trans (h.block i hi h1 h2)⟩
theorem Turned.drew1 {g : Nat} {w w' : World} (h : Turned g w w') (n : Nat) : Turned g w (w'.drewN n) := ⟨h.os, h.tape, h.output, h.size, h.block⟩
theorem Adds.fits {g : Nat} {s : Int} {b : Bool} {w : World} (h : Adds w g s b) (c : Bool) : Adds (w.setCell ⟨g + 1, 0, none⟩ (.bool c)) g s c := ⟨h.s.far (by show g ≠ g + 1; omega) _, h.b.set 0 _⟩
theorem Adds.sum {g : Nat} {s : Int} {b : Bool} {w : World} (h : Adds w g s b) (t : Int) : Adds (w.setCell ⟨g, 0, none⟩ (.int .i64 t)) g t b := ⟨h.s.set 0 _, h.b.far (by show g + 1 ≠ g; omega) _⟩
set_option maxHeartbeats 1000000 in
theorem add_no (g : Nat) (s a : Int) (w : World) (h : Adds w g s false) :
  Calls Tryz.prog 115 #[.int .i64 a, .pointer (some ⟨g + 1, 0, none⟩), .pointer (some ⟨g, 0, none⟩)] w (AddTo w g (s) false) := by
 have HA := Lib.hid (show Adds (w.setCell ⟨g + 1, 0, none⟩ (.bool false)) g (s) false ∧ Turned g w (w.setCell ⟨g + 1, 0, none⟩ (.bool false)) from ⟨h.fits false, (Turned.refl g w).set (.inr rfl) _⟩); have c0 := h.s.c 0; have c1 := h.b.c 0; have f0 := h.s.f 0; have f1 := h.b.f 0; simp at c0 c1; clear h; go_enter Tryz.func115, Tryz.ntmps115; go_wp2; generalize w.setCell ⟨g + 1, 0, none⟩ (.bool false) = W at HA ⊢; have d0 := HA.out.1.s.c 0; have d1 := HA.out.1.b.c 0; simp at d0 d1; clear c0 c1 f0 f1
 go_quiet (fail)
 go_wp2; go_ret2; exact ⟨rfl, (HA.out.1).keep ⟨rfl, rfl, rfl, Nat.le_refl _, fun _ _ => rfl⟩, HA.out.2.drew1 _⟩
set_option maxHeartbeats 1000000 in
theorem add_over (g : Nat) (s a : Int) (w : World) (h : Adds w g s true) (d : Int) (e : 4000000000000000000 - s = d) (t1 : decide (a ≤ d) = false) (k1 : -9223372036854775808 ≤ d) (k2 : d ≤ 9223372036854775807) :
  Calls Tryz.prog 115 #[.int .i64 a, .pointer (some ⟨g + 1, 0, none⟩), .pointer (some ⟨g, 0, none⟩)] w (AddTo w g (s) false) := by
 have HA := Lib.hid (show Adds (w.setCell ⟨g + 1, 0, none⟩ (.bool false)) g (s) false ∧ Turned g w (w.setCell ⟨g + 1, 0, none⟩ (.bool false)) from ⟨h.fits false, (Turned.refl g w).set (.inr rfl) _⟩); have c0 := h.s.c 0; have c1 := h.b.c 0; have f0 := h.s.f 0; have f1 := h.b.f 0; simp at c0 c1; clear h; go_enter Tryz.func115, Tryz.ntmps115; go_wp2; generalize w.setCell ⟨g + 1, 0, none⟩ (.bool false) = W at HA ⊢; have d0 := HA.out.1.s.c 0; have d1 := HA.out.1.b.c 0; simp at d0 d1; clear c0 c1 f0 f1
 go_quiet (fail)
 go_wp2; go_ret2; exact ⟨rfl, (HA.out.1).keep ⟨rfl, rfl, rfl, Nat.le_refl _, fun _ _ => rfl⟩, HA.out.2.drew1 _⟩
set_option maxHeartbeats 1000000 in
theorem add_yes (g : Nat) (s a : Int) (w : World) (h : Adds w g s true) (d : Int) (e : 4000000000000000000 - s = d) (t1 : decide (a ≤ d) = true) (k1 : -9223372036854775808 ≤ d) (k2 : d ≤ 9223372036854775807) (t : Int) (et : s + a = t) (k3 : -9223372036854775808 ≤ t) (k4 : t ≤ 9223372036854775807) :
  Calls Tryz.prog 115 #[.int .i64 a, .pointer (some ⟨g + 1, 0, none⟩), .pointer (some ⟨g, 0, none⟩)] w (AddTo w g (t) true) := by
 have HA := Lib.hid (show Adds ((w.setCell ⟨g + 1, 0, none⟩ (.bool true)).setCell ⟨g, 0, none⟩ (.int .i64 t)) g (t) true ∧ Turned g w ((w.setCell ⟨g + 1, 0, none⟩ (.bool true)).setCell ⟨g, 0, none⟩ (.int .i64 t)) from ⟨(h.fits true).sum t, ((Turned.refl g w).set (.inr rfl) _).set (.inl rfl) _⟩); have c0 := h.s.c 0; have c1 := h.b.c 0; have f0 := h.s.f 0; have f1 := h.b.f 0; simp at c0 c1; clear h; go_enter Tryz.func115, Tryz.ntmps115; go_wp2; generalize (w.setCell ⟨g + 1, 0, none⟩ (.bool true)).setCell ⟨g, 0, none⟩ (.int .i64 t) = W at HA ⊢; have d0 := HA.out.1.s.c 0; have d1 := HA.out.1.b.c 0; simp at d0 d1; clear c0 c1 f0 f1
 go_quiet (fail)
 go_wp2; go_ret2; exact ⟨rfl, (HA.out.1).keep ⟨rfl, rfl, rfl, Nat.le_refl _, fun _ _ => rfl⟩, HA.out.2.drew1 _⟩
def nxs (s a : Int) (b : Bool) : Int := if b = true ∧ a ≤ 4000000000000000000 - s then s + a else s
def nxb (s a : Int) (b : Bool) : Bool := b && decide (a ≤ 4000000000000000000 - s)
theorem add (g : Nat) (s a : Int) (b : Bool) (w : World) (h : Adds w g s b) (hs : 0 ≤ s ∧ s ≤ 4000000000000000000) (ha : 0 ≤ a ∧ a ≤ 4000000000000000000) :
  Calls Tryz.prog 115 #[.int .i64 a, .pointer (some ⟨g + 1, 0, none⟩), .pointer (some ⟨g, 0, none⟩)] w (AddTo w g (nxs s a b) (nxb s a b)) := by
 cases b with
 | false => exact add_no g s a w h
 | true =>
  by_cases h1 : a ≤ 4000000000000000000 - s
  ·have e1 : nxs s a true = s + a := by unfold nxs; rw [if_pos ⟨rfl, h1⟩]
   have e2 : nxb s a true = true := by unfold nxb; rw [decide_eq_true h1]; rfl
   rw [e1, e2]; exact add_yes g s a w h _ rfl (decide_eq_true h1) (by omega) (by omega) _ rfl (by omega) (by omega)
  ·have e1 : nxs s a true = s := by unfold nxs; rw [if_neg (fun e => h1 e.2)]
   have e2 : nxb s a true = false := by unfold nxb; rw [decide_eq_false h1]; rfl
   rw [e1, e2]; exact add_over g s a w h _ rfl (decide_eq_false h1) (by omega) (by omega)
end Qo
end Go.Proofs.YtplenoaajokpjaaGreat
namespace Go.Proofs.YtplenoaajokpjaaGreat
open Go.RowKit Ba Tf Cv Qm
namespace Qo
set_option linter.unusedVariables false
structure Fiv (w : World) (a : Addr) (c : Co) : Prop where
 c0 : w.cell? a = some (.int .i64 c.p)
 c1 : w.cell? ⟨a.block, a.off + 1, none⟩ = some (.int .i64 c.l)
 c2 : w.cell? ⟨a.block, a.off + 2, none⟩ = some (.int .i64 c.g)
 c3 : w.cell? ⟨a.block, a.off + 3, none⟩ = some (.int .i64 c.d)
 c4 : w.cell? ⟨a.block, a.off + 4, none⟩ = some (.int .i64 c.s)
theorem Fiv.keep {w w' : World} {a : Addr} {c : Co} (h : Fiv w a c) (hk : ∀ p : Addr, p.block = a.block → w'.cell? p = w.cell? p) : Fiv w' a c :=
 ⟨(hk _ rfl).trans h.c0, (hk ⟨a.block, a.off + 1, none⟩ rfl).trans h.c1, (hk ⟨a.block, a.off + 2, none⟩ rfl).trans h.c2, (hk ⟨a.block, a.off + 3, none⟩ rfl).trans h.c3, (hk ⟨a.block, a.off + 4, none⟩ rfl).trans h.c4⟩
def cl5 (c : Co) : List Value := [.int .i64 c.p, .int .i64 c.l, .int .i64 c.g, .int .i64 c.d, .int .i64 c.s]
theorem fiv_of {w : World} {a : Addr} {c : Co} {j : Nat} (h : ∀ (o : Nat) (u : Value), (cl5 c)[o]? = some u → w.cell? (a.add (j + o)) = some u) : Fiv w (a.add j) c :=
 ⟨h 0 _ rfl, by rw [← add_more a j 0]; exact h 1 _ rfl, by rw [← add_more a j 1]; exact h 2 _ rfl, by rw [← add_more a j 2]; exact h 3 _ rfl, by rw [← add_more a j 3]; exact h 4 _ rfl⟩
theorem fiv_back {w : World} {a : Addr} {c : Co} {j : Nat} (h : Fiv w (a.add j) c) : ∀ (o : Nat) (u : Value), (cl5 c)[o]? = some u → w.cell? (a.add (j + o)) = some u := by
 intro o u hu
 match o, hu with
 | 0, hu => injection hu with hu; subst hu; exact h.c0
 | 1, hu => injection hu with hu; subst hu; rw [add_more a j 0]; exact h.c1
 | 2, hu => injection hu with hu; subst hu; rw [add_more a j 1]; exact h.c2
 | 3, hu => injection hu with hu; subst hu; rw [add_more a j 2]; exact h.c3
 | 4, hu => injection hu with hu; subst hu; rw [add_more a j 3]; exact h.c4
def cel5 (cs : List Co) : List Value := cs.flatMap cl5
theorem cel5_append (xs ys : List Co) : cel5 (xs ++ ys) = cel5 xs ++ cel5 ys := List.flatMap_append
theorem cel5_one (c : Co) : cel5 [c] = cl5 c := by simp [cel5]
theorem cel5_length (xs : List Co) : (cel5 xs).length = xs.length * 5 := by
 induction xs with
 | nil => rfl
 | cons x xs ih => rw [show x :: xs = [x] ++ xs from rfl, cel5_append, List.length_append, ih, cel5_one]; simp [cl5]; omega
theorem cel5_get {xs : List Co} {j : Nat} {c : Co} (h : xs[j]? = some c) {o : Nat} (ho : o < 5) : (cel5 xs)[j * 5 + o]? = (cl5 c)[o]? := by
 induction xs generalizing j with
 | nil => simp at h
 | cons y ys ih =>
  have hl : (cl5 y).length = 5 := rfl; rw [show y :: ys = [y] ++ ys from rfl, cel5_append, cel5_one]; cases j with
  | zero => simp at h; subst h; rw [Nat.zero_mul, Nat.zero_add, List.getElem?_append_left (by omega)]
  | succ j =>
   simp at h; rw [List.getElem?_append_right (by omega), hl, show (j + 1) * 5 + o - 5 = j * 5 + o by omega]; exact ih h
theorem cel5_cell (xs : List Co) : ∀ u ∈ cel5 xs, u.oneCell' = true := by
 intro u hu; obtain ⟨x, _, hx⟩ := List.mem_flatMap.1 hu; simp [cl5] at hx; rcases hx with rfl | rfl | rfl | rfl | rfl <;> rfl
def Cvs (w : World) (ok : Nat → Prop) (A : Option Addr) (n : Nat) (cs : List Co) : Prop :=
 cs.length = n ∧ (0 < n → ∃ ad : Addr, A = some ad ∧ ok ad.block ∧ ∀ (j : Nat) (c : Co), cs[j]? = some c → Fiv w (ad.add (j * 5)) c)
section
variable {w w' : World} {ok ok' : Nat → Prop} {n : Nat} {A : Option Addr} {cs : List Co}
theorem Cvs.nil {A : Option Addr} : Cvs w ok A 0 [] := ⟨rfl, fun h => absurd h (by omega)⟩
theorem Cvs.keep (h : Cvs w ok A n cs) (hk : ∀ p : Addr, ok p.block → w'.cell? p = w.cell? p) (hw : ∀ b, ok b → ok' b) : Cvs w' ok' A n cs :=
 ⟨h.1, fun hn => by
  obtain ⟨ad, e, hb, hc⟩ := h.2 hn; exact ⟨ad, e, hw _ hb, fun j x hx => (hc j x hx).keep fun p hp => hk p (by rw [hp, add_block]; exact hb)⟩⟩
theorem Cvs.below (h : Cvs w (· < w.heap.size) A n cs) (hb : Below w.heap.size w w') : Cvs w' (· < w'.heap.size) A n cs := h.keep (fun _ hp => hb.cell hp) fun b h => Nat.lt_of_lt_of_le h hb.size
theorem Cvs.get {k : Nat} (h : Cvs w ok A n cs) (hk : k < n) : ∃ (ad : Addr) (c : Co), A = some ad ∧ ok ad.block ∧ cs[k]? = some c ∧ Fiv w (ad.add (k * 5)) c := by
 obtain ⟨ad, e, hb, hc⟩ := h.2 (by omega); have hl : k < cs.length := by have := h.1; omega
 exact ⟨ad, cs[k], e, hb, List.getElem?_eq_getElem hl, hc k _ (List.getElem?_eq_getElem hl)⟩
theorem Cvs.noroom (h : Cvs w ok none n cs) : n = 0 := by
 rcases Nat.eq_zero_or_pos n with h0 | h0
 ·exact h0
 ·obtain ⟨ad, e, _⟩ := h.2 h0; cases e
theorem Cvs.cells {ad : Addr} (h : Cvs w ok (some ad) n cs) (j : Nat) (u : Value) (hu : (cel5 cs)[j]? = some u) : w.cell? (ad.add j) = some u := by
 have hl : j < cs.length * 5 := by rw [← cel5_length]; exact (List.getElem?_eq_some_iff.1 hu).1
 have hm : j / 5 < cs.length := by omega
 have hy : cs[j / 5]? = some cs[j / 5] := List.getElem?_eq_getElem hm; obtain ⟨ad', e, _, hc⟩ := h.2 (by have := h.1; omega); injection e with e
 subst e; have hj : j / 5 * 5 + j % 5 = j := by omega
 have g := cel5_get hy (o := j % 5) (by omega); rw [hj] at g; have := fiv_back (hc _ _ hy) (j % 5) u (by rw [← g]; exact hu); rwa [hj] at this
theorem Cvs.take (h : Cvs w ok A n cs) {k : Nat} (hk : k ≤ n) : Cvs w ok A k (cs.take k) := by
 refine ⟨by rw [List.length_take, h.1]; omega, fun hn => ?_⟩; obtain ⟨ad, e, hb, hc⟩ := h.2 (by omega); refine ⟨ad, e, hb, fun j c hj => hc j c ?_⟩; rw [List.getElem?_take] at hj; split at hj
 ·exact hj
 ·cases hj
theorem add_add (a : Addr) (i j : Nat) : (a.add i).add j = a.add (i + j) := Go.Deep.add_add a i j
theorem Cvs.drop {ad : Addr} (h : Cvs w ok (some ad) n cs) {k : Nat} (hk : k ≤ n) : Cvs w ok (some (ad.add (k * 5))) (n - k) (cs.drop k) := by
 refine ⟨by rw [List.length_drop, h.1], fun hn => ?_⟩; obtain ⟨ad', e, hb, hc⟩ := h.2 (by omega); injection e with e
 subst e; refine ⟨_, rfl, by rw [add_block]; exact hb, fun j c hj => ?_⟩; rw [List.getElem?_drop] at hj; have := hc (k + j) c hj; rw [add_add, ← Nat.add_mul]; exact this
end
end Qo
end Go.Proofs.YtplenoaajokpjaaGreat
