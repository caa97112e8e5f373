/-
  The document's Part and Pays. Conditions: the numbers are of 64 bits.
-/
import Derived.Test.YtjcehjofimkjaaaPays
namespace Go.Proofs.Ytjcehjofimkjaaa
open Go.RowKit Cv
namespace Cvr
set_option linter.unusedVariables false

set_option maxRecDepth 100000 in
set_option maxHeartbeats 1000000 in
theorem part_far (a s W R N L Z : Nat) (w : World) (ha : (a : Int) ≤ 1000000000000000) (hs : (s : Int) ≤ 10000)
    (eW : Hid (wrap64 ((a : Int) / 10000 * (s : Int)) = (W : Int))) (eR : Hid (wrap64 ((a : Int) % 10000 * (s : Int)) = (R : Int))) (eN : Hid ((R : Int) / 10000 = (N : Int))) (eL : Hid ((R : Int) % 10000 = (L : Int))) (hR : (R : Int) ≤ 100000000) (hW : (W : Int) ≤ 1000000000000000) (hN : (N : Int) ≤ 10000) (M : Nat) (eM : M = N + 1) (eZ : Z = W + M) (hL : (L : Int) ≤ 9999) (h : 5000 < L) :
    Calls Try.prog 16 #[.int .i64 (a : Int), .int .i64 (s : Int)] w fun e w' => e = .returned (.int .i64 (Z : Int)) ∧ w = w' := by
  have e5 : (N : Int) + 1 = (M : Int) := by omega
  have e6 : (W : Int) + (M : Int) = (Z : Int) := by omega
  have bZ : (Z : Int) ≤ 4000000000000000000 := by omega
  have bM : (M : Int) ≤ 4000000000000000000 := by omega
  clear eM eZ
  have t1 : decide ((5000 : Int) < (L : Int)) = true := by simp; omega
  have t1' : decide (5000 < L) = true := by simp; omega
  clear h
  have e1 := eW.out
  have e2 := eR.out
  have e3 := eN.out
  have e4 := eL.out
  go_enter Try.func16, Try.ntmps16
  go_wp2
  go_ret
  exact ⟨rfl, rfl⟩

set_option maxRecDepth 100000 in
set_option maxHeartbeats 1000000 in
theorem part_tie (a s W R N L Z : Nat) (w : World) (ha : (a : Int) ≤ 1000000000000000) (hs : (s : Int) ≤ 10000)
    (eW : Hid (wrap64 ((a : Int) / 10000 * (s : Int)) = (W : Int))) (eR : Hid (wrap64 ((a : Int) % 10000 * (s : Int)) = (R : Int))) (eN : Hid ((R : Int) / 10000 = (N : Int))) (eL : Hid ((R : Int) % 10000 = (L : Int))) (hR : (R : Int) ≤ 100000000) (hW : (W : Int) ≤ 1000000000000000) (hN : (N : Int) ≤ 10000) (M : Nat) (eM : M = N + 1) (eZ : Z = W + M) (hL : (L : Int) ≤ 9999) (h : L = 5000) (ho : (W + N) % 2 = 1) :
    Calls Try.prog 16 #[.int .i64 (a : Int), .int .i64 (s : Int)] w fun e w' => e = .returned (.int .i64 (Z : Int)) ∧ w = w' := by
  have e5 : (N : Int) + 1 = (M : Int) := by omega
  have e6 : (W : Int) + (M : Int) = (Z : Int) := by omega
  have bZ : (Z : Int) ≤ 4000000000000000000 := by omega
  have bM : (M : Int) ≤ 4000000000000000000 := by omega
  have t3 : (((W : Int) + (N : Int)) % 2 == 1) = true := by rw [beq_iff_eq]; omega
  clear eM eZ
  have t1 : decide ((5000 : Int) < (L : Int)) = false := by simp; omega
  have t1' : decide (5000 < L) = false := by simp; omega
  have t2 : ((L : Int) == 5000) = true := by rw [beq_iff_eq]; omega
  have t2' : (L == 5000) = true := by rw [beq_iff_eq]; omega
  clear h ho
  have e1 := eW.out
  have e2 := eR.out
  have e3 := eN.out
  have e4 := eL.out
  go_enter Try.func16, Try.ntmps16
  go_wp2
  go_ret
  exact ⟨rfl, rfl⟩

set_option maxRecDepth 100000 in
set_option maxHeartbeats 1000000 in
theorem part_even (a s W R N L Z : Nat) (w : World) (ha : (a : Int) ≤ 1000000000000000) (hs : (s : Int) ≤ 10000)
    (eW : Hid (wrap64 ((a : Int) / 10000 * (s : Int)) = (W : Int))) (eR : Hid (wrap64 ((a : Int) % 10000 * (s : Int)) = (R : Int))) (eN : Hid ((R : Int) / 10000 = (N : Int))) (eL : Hid ((R : Int) % 10000 = (L : Int))) (hR : (R : Int) ≤ 100000000) (hW : (W : Int) ≤ 1000000000000000) (hN : (N : Int) ≤ 10000) (eZ : Z = W + N) (hL : (L : Int) ≤ 9999) (h : L = 5000) (ho : ¬ Z % 2 = 1) :
    Calls Try.prog 16 #[.int .i64 (a : Int), .int .i64 (s : Int)] w fun e w' => e = .returned (.int .i64 (Z : Int)) ∧ w = w' := by
  have e6 : (W : Int) + (N : Int) = (Z : Int) := by omega
  have bZ : (Z : Int) ≤ 4000000000000000000 := by omega
  have t3 : ((Z : Int) % 2 == 1) = false := by rw [beq_eq_false_iff_ne]; omega
  clear eZ
  have t1 : decide ((5000 : Int) < (L : Int)) = false := by simp; omega
  have t1' : decide (5000 < L) = false := by simp; omega
  have t2 : ((L : Int) == 5000) = true := by rw [beq_iff_eq]; omega
  have t2' : (L == 5000) = true := by rw [beq_iff_eq]; omega
  clear h ho
  have e1 := eW.out
  have e2 := eR.out
  have e3 := eN.out
  have e4 := eL.out
  go_enter Try.func16, Try.ntmps16
  go_wp2
  go_ret
  exact ⟨rfl, rfl⟩

set_option maxRecDepth 100000 in
set_option maxHeartbeats 1000000 in
theorem part_near (a s W R N L Z : Nat) (w : World) (ha : (a : Int) ≤ 1000000000000000) (hs : (s : Int) ≤ 10000)
    (eW : Hid (wrap64 ((a : Int) / 10000 * (s : Int)) = (W : Int))) (eR : Hid (wrap64 ((a : Int) % 10000 * (s : Int)) = (R : Int))) (eN : Hid ((R : Int) / 10000 = (N : Int))) (eL : Hid ((R : Int) % 10000 = (L : Int))) (hR : (R : Int) ≤ 100000000) (hW : (W : Int) ≤ 1000000000000000) (hN : (N : Int) ≤ 10000) (eZ : Z = W + N) (hL : (L : Int) ≤ 9999) (h : L < 5000) :
    Calls Try.prog 16 #[.int .i64 (a : Int), .int .i64 (s : Int)] w fun e w' => e = .returned (.int .i64 (Z : Int)) ∧ w = w' := by
  have e6 : (W : Int) + (N : Int) = (Z : Int) := by omega
  have bZ : (Z : Int) ≤ 4000000000000000000 := by omega
  clear eZ
  have t1 : decide ((5000 : Int) < (L : Int)) = false := by simp; omega
  have t1' : decide (5000 < L) = false := by simp; omega
  have t2 : ((L : Int) == 5000) = false := by rw [beq_eq_false_iff_ne]; omega
  have t2' : (L == 5000) = false := by rw [beq_eq_false_iff_ne]; omega
  clear h
  have e1 := eW.out
  have e2 := eR.out
  have e3 := eN.out
  have e4 := eL.out
  go_enter Try.func16, Try.ntmps16
  go_wp2
  go_ret
  exact ⟨rfl, rfl⟩

theorem part (x s : Int) (w : World) (hx : 0 ≤ x ∧ x ≤ 1000000000000000) (hs : 0 ≤ s ∧ s ≤ 10000) :
    Calls Try.prog 16 #[.int .i64 x, .int .i64 s] w fun e w' => e = .returned (.int .i64 (prt x s)) ∧ w = w' := by
  obtain ⟨a, rfl⟩ := Int.eq_ofNat_of_zero_le hx.1
  obtain ⟨s, rfl⟩ := Int.eq_ofNat_of_zero_le hs.1
  have ha : (a : Int) ≤ 1000000000000000 := hx.2
  have h2 : (s : Int) ≤ 10000 := hs.2
  obtain ⟨W, eW⟩ : ∃ W, W = a / 10000 * s := ⟨_, rfl⟩
  obtain ⟨R, eR⟩ : ∃ R, R = a % 10000 * s := ⟨_, rfl⟩
  have bW : W ≤ a / 10000 * 10000 := by rw [eW]; exact Nat.mul_le_mul_left _ (by omega)
  have bR : R ≤ a % 10000 * 10000 := by rw [eR]; exact Nat.mul_le_mul_left _ (by omega)
  have hall : a * s = 10000 * W + R := by
    rw [eW, eR, ← Nat.mul_assoc, ← Nat.add_mul]
    congr 1
    omega
  have cW : (a : Int) / 10000 * (s : Int) = (W : Int) := by rw [eW]; simp
  have cR : (a : Int) % 10000 * (s : Int) = (R : Int) := by rw [eR]; simp
  have hW := Lib.hid (show wrap64 ((a : Int) / 10000 * (s : Int)) = (W : Int) by rw [cW]; exact IntWalk.wrap64_in _ ⟨by omega, by omega⟩)
  have hR := Lib.hid (show wrap64 ((a : Int) % 10000 * (s : Int)) = (R : Int) by rw [cR]; exact IntWalk.wrap64_in _ ⟨by omega, by omega⟩)
  have hN := Lib.hid (show (R : Int) / 10000 = ((R / 10000 : Nat) : Int) by omega)
  have hL := Lib.hid (show (R : Int) % 10000 = ((R % 10000 : Nat) : Int) by omega)
  rw [prt_nat, hall]
  unfold rnd
  have q : (10000 * W + R) / 10000 = W + R / 10000 := by omega
  have r : (10000 * W + R) % 10000 = R % 10000 := by omega
  rw [q, r]
  by_cases h5 : 5000 < R % 10000
  · rw [if_pos (.inl h5)]
    exact part_far a s W R (R / 10000) (R % 10000) _ w ha h2 hW hR hN hL (by omega) (by omega) (by omega) (R / 10000 + 1) rfl (by omega) (by omega) h5
  · by_cases h6 : R % 10000 = 5000
    · by_cases h7 : (W + R / 10000) % 2 = 1
      · rw [if_pos (.inr ⟨h6, h7⟩)]
        exact part_tie a s W R (R / 10000) (R % 10000) _ w ha h2 hW hR hN hL (by omega) (by omega) (by omega) (R / 10000 + 1) rfl (by omega) (by omega) h6 h7
      · rw [if_neg (by omega)]
        exact part_even a s W R (R / 10000) (R % 10000) _ w ha h2 hW hR hN hL (by omega) (by omega) (by omega) rfl (by omega) h6 h7
    · rw [if_neg (by omega)]
      exact part_near a s W R (R / 10000) (R % 10000) _ w ha h2 hW hR hN hL (by omega) (by omega) (by omega) rfl (by omega) (by omega)

set_option maxRecDepth 100000 in
set_option maxHeartbeats 1000000 in
theorem rpays_yes (c : Co) (x u : Int) (w : World) (hc : Ok c) (hx : 0 ≤ x ∧ x ≤ 9223372036854775807) (hu : 0 ≤ u ∧ u ≤ 9223372036854775807) :
    Calls Try.prog 12 #[cg c, .int .i64 x, .int .i64 u] w fun e w' => e = .returned (.int .i64 (pay c x u)) ∧ Below w.heap.size w w' := by
  have C := fun w => Lib.hid (rright_ c w)
  rw [ok_yes hc] at C
  have t1 : decide (x < 0) = false := by simpa using hx.1
  have t2 : decide (u < 0) = false := by simpa using hu.1
  have hb := clm_bd (x := x) hc
  have e : max 0 (min (prt (clm c x) c.s) (c.g - u)) = pay c x u := by rw [pay_yes hx.1 hu.1 hc, Int.max_comm]; rfl
  have q1 : wrap64 (x - c.d) = x - c.d := by obtain ⟨_, _, _, _, _, _, _, _⟩ := hc; exact IntWalk.wrap64_in _ ⟨by omega, by omega⟩
  have q2 : wrap64 (c.g - u) = c.g - u := by obtain ⟨_, _, _, _, _, _, _, _⟩ := hc; exact IntWalk.wrap64_in _ ⟨by omega, by omega⟩
  have q2' : IntKind.i64.wrap (c.g - u) = c.g - u := (IntWalk.i64_left _).trans q2
  have q3 : max 0 (min (x - c.d) c.l) = clm c x := by rw [Int.max_comm]; rfl
  have C2 := fun w => Lib.hid (part (clm c x) c.s w ⟨hb.1, by obtain ⟨_, _, _, _, _, _, _, _⟩ := hc; omega⟩ (by obtain ⟨_, _, _, _, _, _, _, _⟩ := hc; omega))
  generalize clm c x = a1 at C2 e q3
  generalize prt a1 c.s = a2 at C2 e
  generalize pay c x u = a3 at e ⊢
  clear hb hc
  go_enter Try.func12, Try.ntmps12
  go_wp2_with fail
  refine (C _).out.mono ?_
  rintro e w1 ⟨rfl, hb1⟩
  have HX := (bx1 hb1).1
  have hlt : w.heap.size < w1.heap.size := HX.lt
  have HB1 := Lib.hid (below_alloc hb1)
  have x1 := HX.c 1
  have x3 := HX.c 3
  have X2 : ∀ p : Ext w1, p.W.cell? ⟨w.heap.size, 2, none⟩ = some (.int .i64 c.g) := fun p => HX.ext p 2
  have X4 : ∀ p : Ext w1, p.W.cell? ⟨w.heap.size, 4, none⟩ = some (.int .i64 c.s) := fun p => HX.ext p 4
  have ne : Nonempty (Ext w1) := ⟨⟨w1, Below.refl _ _⟩⟩
  clear hb1 HX
  go_wp2
  refine quietE (by kernel_rfl) (by kernel_rfl) ?_
  repeat (quiet_step (first
    | (go_at_call 16; exact ext_of ((C2 _).out.mono fun e w' h => ⟨h.1, h.2 ▸ Below.refl _ _⟩))))
  refine wpQuiet_nil ?_
  rintro _ ⟨p, rfl⟩
  go_wp2
  go_ret
  exact ⟨rfl, HB1.out.trans (p.b.mono HB1.out.size)⟩

set_option maxHeartbeats 1000000 in
theorem rpays_no (c : Co) (x u : Int) (w : World) (h : x < 0 ∨ u < 0 ∨ ¬ Ok c) :
    Calls Try.prog 12 #[cg c, .int .i64 x, .int .i64 u] w fun e w' => e = .returned (.int .i64 0) ∧ Below w.heap.size w w' := by
  have C := fun w => Lib.hid (rright_ c w)
  by_cases hc : Ok c
  · rw [ok_yes hc] at C
    by_cases h1 : x < 0
    · have t1 : decide (x < 0) = true := by simpa using h1
      clear h
      go_enter Try.func12, Try.ntmps12
      go_wp2_with fail
      refine (C _).out.mono ?_
      rintro e w1 ⟨rfl, hb1⟩
      have HB1 := Lib.hid (below_alloc hb1)
      clear hb1
      go_wp2
      go_ret
      exact ⟨rfl, HB1.out⟩
    · have h2 : u < 0 := by rcases h with h | h | h; exact absurd h h1; exact h; exact absurd hc h
      have t1 : decide (x < 0) = false := by simpa using h1
      have t2 : decide (u < 0) = true := by simpa using h2
      clear h
      go_enter Try.func12, Try.ntmps12
      go_wp2_with fail
      refine (C _).out.mono ?_
      rintro e w1 ⟨rfl, hb1⟩
      have HB1 := Lib.hid (below_alloc hb1)
      clear hb1
      go_wp2
      go_ret
      exact ⟨rfl, HB1.out⟩
  · rw [ok_no hc] at C
    clear h
    go_enter Try.func12, Try.ntmps12
    go_wp2_with fail
    refine (C _).out.mono ?_
    rintro e w1 ⟨rfl, hb1⟩
    have HB1 := Lib.hid (below_alloc hb1)
    clear hb1
    go_wp2
    go_ret
    exact ⟨rfl, HB1.out⟩

theorem rpays (c : Co) (x u : Int) (w : World) (hx : I64 x) (hu : I64 u) :
    Calls Try.prog 12 #[cg c, .int .i64 x, .int .i64 u] w fun e w' => e = .returned (.int .i64 (pay c x u)) ∧ Below w.heap.size w w' := by
  by_cases h : x < 0 ∨ u < 0 ∨ ¬ Ok c
  · rw [pay_no h]
    exact rpays_no c x u w h
  · exact rpays_yes c x u w (Decidable.byContradiction fun h2 => h (.inr (.inr h2))) ⟨by omega, hx.2⟩ ⟨by omega, hu.2⟩

end Cvr
end Go.Proofs.Ytjcehjofimkjaaa
