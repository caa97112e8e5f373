/-
  bounded, claimed, shared, left, Pays of package cover. Conditions: the numbers are of 64 bits.
-/
import Derived.Test.YtjcehjofimkjaaaOne
namespace Go.Proofs.Ytjcehjofimkjaaa
open Go.RowKit Cv
namespace Cvr
set_option linter.unusedVariables false

abbrev I64 (a : Int) : Prop := -9223372036854775808 ≤ a ∧ a ≤ 9223372036854775807

set_option maxHeartbeats 1000000 in
theorem bounded (a b : Int) (n : Nat) (w : World) (h : w.cell? ⟨n, 0, none⟩ = some (.int .i64 b)) :
    Calls Try.prog 17 #[.int .i64 a, .slice (some ⟨n, 0, none⟩) 1 1] w fun e w' => e = .returned (.int .i64 (max (min a b) 0)) ∧ w = w' := by
  obtain ⟨m, hm⟩ : ∃ m, min a b = m := ⟨_, rfl⟩
  obtain ⟨r, hr⟩ : ∃ r, max m 0 = r := ⟨_, rfl⟩
  rw [hm, hr]
  go_enter Try.func17, Try.ntmps17
  go_wp2
  go_loop [0, 9] (fun y i => (y = .int .i64 a ∧ i = .int .i64 0) ∨ (y = .int .i64 m ∧ i = .int .i64 1)) (fun _ i => 1 - (intOf i).toNat)
  case atStart => exact .inl ⟨rfl, rfl⟩
  case round =>
    rcases hrel with ⟨rfl, rfl⟩ | ⟨rfl, rfl⟩
    · go_wp2
      go_round
      case rel => exact .inr ⟨rfl, rfl⟩
      case measure => simp [intOf]
    · go_wp2
      go_ret
      exact ⟨rfl, rfl⟩

theorem bounded_new (a b : Int) (w : World) :
    Calls Try.prog 17 #[.int .i64 a, .slice (some ⟨w.heap.size, 0, none⟩) 1 1] (w.alloc (.cells #[.int .i64 b] 3)) fun e w' => e = .returned (.int .i64 (max (min a b) 0)) ∧ w.alloc (.cells #[.int .i64 b] 3) = w' :=
  bounded a b _ _ ((Bx.new w 3 #[.int .i64 b]).c 0)

set_option maxHeartbeats 1000000 in
theorem claimed (c : Co) (u x : Int) (w : World) (hx : 0 ≤ x ∧ x ≤ 9223372036854775807) (hc : Ok c) :
    Calls Try.prog 13 #[bg c u, .int .i64 x] w fun e w' => e = .returned (.int .i64 (clm c x)) ∧ Below w.heap.size w w' := by
  have C := fun w => Lib.hid (bounded_new (x - c.d) c.l w)
  have h1 : wrap64 (x - c.d) = x - c.d := by obtain ⟨_, _, _, _, _, _, _, _⟩ := hc; exact IntWalk.wrap64_in _ ⟨by omega, by omega⟩
  go_enter Try.func13, Try.ntmps13
  go_wp2_with fail
  rw [h1]
  have HC := C (w.alloc (.cells (bc c u) 35))
  rw [World.size_alloc] at HC
  refine HC.out.mono ?_
  rintro e w' ⟨rfl, rfl⟩
  go_wp2
  go_ret
  exact ⟨rfl, (alloc_ _ _).alloc (by simp) _⟩

set_option maxHeartbeats 1000000 in
theorem left_ (c : Co) (u x : Int) (w : World) (hu : 0 ≤ u ∧ u ≤ 9223372036854775807) (hc : Ok c) :
    Calls Try.prog 15 #[bg c u, .int .i64 x] w fun e w' => e = .returned (.int .i64 (max (min x (c.g - u)) 0)) ∧ Below w.heap.size w w' := by
  have C := fun w => Lib.hid (bounded_new x (c.g - u) w)
  have h1 : wrap64 (c.g - u) = c.g - u := by obtain ⟨_, _, _, _, _, _, _, _⟩ := hc; exact IntWalk.wrap64_in _ ⟨by omega, by omega⟩
  go_enter Try.func15, Try.ntmps15
  go_wp2_with fail
  rw [h1]
  have HC := C (w.alloc (.cells (bc c u) 35))
  rw [World.size_alloc] at HC
  refine HC.out.mono ?_
  rintro e w' ⟨rfl, rfl⟩
  go_wp2
  go_ret
  exact ⟨rfl, (alloc_ _ _).alloc (by simp) _⟩

theorem evV_prt {x s : Int} (hx : 0 ≤ x ∧ x ≤ 1000000000000000) (hs : 1 ≤ s ∧ s ≤ 10000) : Num.evV x s 10000 = prt x s ∧ Num.evE x s 10000 = 0 := by
  obtain ⟨x, rfl⟩ := Int.eq_ofNat_of_zero_le hx.1
  obtain ⟨s, rfl⟩ := Int.eq_ofNat_of_zero_le (a := s) (by omega)
  have e : Num.quo Num.nearB x s 10000 = rnd (x * s) := by
    unfold Num.quo rnd Num.nearB
    by_cases h : 5000 < x * s % 10000 ∨ (x * s % 10000 = 5000 ∧ x * s / 10000 % 2 = 1)
    · rw [if_pos h, if_pos (by simp; omega)]
    · rw [if_neg h, if_neg (by simp; omega)]
  have hle : rnd (x * s) ≤ x := rnd_le (Nat.mul_le_mul_left _ (by omega))
  have k := Num.nums_ok (up := Num.nearB) (a := x) (b := s) (c := 10000) (by omega) (by rw [e]; omega)
  rw [e] at k
  have k2 : Num.nums Num.nearB (x : Int) (s : Int) 10000 = (((rnd (x * s) : Nat) : Int), 0) := k
  rw [Num.evV, Num.evE, k2, prt_nat]
  exact ⟨rfl, rfl⟩

set_option maxHeartbeats 1000000 in
theorem shared (c : Co) (u x : Int) (w : World) (hx : 0 ≤ x ∧ x ≤ 1000000000000000) (hc : Ok c) :
    Calls Try.prog 14 #[bg c u, .int .i64 x] w fun e w' => e = .returned (.int .i64 (prt x c.s)) ∧ Below w.heap.size w w' := by
  have C := fun w => Lib.hid (Num.bp x c.s w (by omega) (by obtain ⟨_, _, _, _, _⟩ := hc; omega))
  obtain ⟨e1, e2⟩ := evV_prt hx (s := c.s) (by obtain ⟨_, _, _, _, _⟩ := hc; omega)
  rw [e1, e2] at C
  clear e1 e2
  go_enter Try.func14, Try.ntmps14
  go_wp2_with fail
  refine (C _).out.mono ?_
  rintro e w1 ⟨rfl, hb⟩
  have HB := Lib.hid (below_alloc hb)
  clear hb
  go_wp2
  go_ret
  exact ⟨rfl, HB.out⟩

set_option maxHeartbeats 1000000 in
theorem pays_no1 (c : Co) (x u : Int) (w : World) (hc : x < 0 ∨ u < 0) :
    Calls Try.prog 11 #[cg c, .int .i64 x, .int .i64 u] w fun e w' => e = .returned (.int .i64 0) ∧ Below w.heap.size w w' := by
  by_cases h1 : x < 0
  · have t1 : decide (x < 0) = true := by simpa using h1
    go_enter Try.func11, Try.ntmps11
    go_wp2
    go_ret
    exact ⟨rfl, alloc_ _ _⟩
  · have t1 : decide (x < 0) = false := by simpa using h1
    have t2 : decide (u < 0) = true := by simp; omega
    go_enter Try.func11, Try.ntmps11
    go_wp2
    go_ret
    exact ⟨rfl, alloc_ _ _⟩

set_option maxHeartbeats 1000000 in
theorem pays_no2 (c : Co) (x u : Int) (w : World) (hx : 0 ≤ x) (hu : 0 ≤ u) (hc : ¬ Ok c) :
    Calls Try.prog 11 #[cg c, .int .i64 x, .int .i64 u] w fun e w' => e = .returned (.int .i64 0) ∧ Below w.heap.size w w' := by
  have C := fun w => Lib.hid (right_ c w)
  rw [ok_no hc] at C
  have t1 : decide (x < 0) = false := by simpa using hx
  have t2 : decide (u < 0) = false := by simpa using hu
  go_enter Try.func11, Try.ntmps11
  go_wp2_with fail
  refine (C _).out.mono ?_
  rintro e w1 ⟨rfl, hb1⟩
  have HB1 := Lib.hid (below_alloc hb1)
  clear hb1
  go_wp2
  go_ret
  exact ⟨rfl, HB1.out⟩

/-- The three ways that an amount goes. -/
abbrev ways (c : Co) (u : Int) : Array Value := #[.func (.func 13) #[bg c u] #[], .func (.func 14) #[bg c u] #[], .func (.func 15) #[bg c u] #[]]

set_option maxHeartbeats 1000000 in
theorem pays_yes (c : Co) (x u : Int) (w : World) (hc : Ok c) (hx : 0 ≤ x ∧ x ≤ 9223372036854775807) (hu : 0 ≤ u ∧ u ≤ 9223372036854775807) :
    Calls Try.prog 11 #[cg c, .int .i64 x, .int .i64 u] w fun e w' => e = .returned (.int .i64 (pay c x u)) ∧ Below w.heap.size w w' := by
  have C := fun w => Lib.hid (right_ c w)
  rw [ok_yes hc] at C
  have t1 : decide (x < 0) = false := by simpa using hx.1
  have t2 : decide (u < 0) = false := by simpa using hu.1
  have C1 := fun w => Lib.hid (claimed c u x w hx hc)
  have hb := clm_bd (x := x) hc
  have C2 := fun w => Lib.hid (shared c u (clm c x) w ⟨hb.1, by obtain ⟨_, _, _, _, _, _, _, _⟩ := hc; omega⟩ hc)
  have C3 := fun w => Lib.hid (left_ c u (prt (clm c x) c.s) w hu hc)
  have e : max (min (prt (clm c x) c.s) (c.g - u)) 0 = pay c x u := by rw [pay_yes hx.1 hu.1 hc]; rfl
  rw [e] at C3
  generalize clm c x = a1 at C1 C2 C3
  generalize prt a1 c.s = a2 at C2 C3
  generalize pay c x u = a3 at C3 ⊢
  clear e hb hc
  go_enter Try.func11, Try.ntmps11
  go_wp2_with fail
  refine (C _).out.mono ?_
  rintro e w1 ⟨rfl, hb1⟩
  have HX := (bx1 hb1).1
  have hlt : w.heap.size < w1.heap.size := HX.lt
  have HB1 := Lib.hid (below_alloc hb1)
  have x0 := HX.c 0
  have x1 := HX.c 1
  have x2 := HX.c 2
  have x3 := HX.c 3
  have x4 := HX.c 4
  clear hb1 HX
  go_wp2
  obtain ⟨B, hB⟩ : ∃ B, w1.heap.size + 1 = B := ⟨_, rfl⟩
  rw [hB]
  have HB2 := Lib.hid hB
  clear hB
  go_loopw [8, 34] (fun y i w' => ∃ (w2 : World), ((y = .int .i64 x ∧ i = .int .i64 0) ∨ (y = .int .i64 a1 ∧ i = .int .i64 1) ∨ (y = .int .i64 a2 ∧ i = .int .i64 2) ∨ (y = .int .i64 a3 ∧ i = .int .i64 3)) ∧ w2 = w' ∧ Hid (Bx w2 B 36 (ways c u)) ∧ Hid (Below w.heap.size w w2)) (fun _ i _ => 3 - (intOf i).toNat)
  case atStart =>
    refine ⟨_, .inl ⟨rfl, rfl⟩, rfl, Lib.hid ?_, Lib.hid ((HB1.out.alloc HB1.out.size _).alloc (by have := HB1.out.size; simp; omega) _)⟩
    rw [← HB2.out]
    have := Bx.new (w1.alloc (.cells (bc c u) 35)) 36 (ways c u)
    rw [World.size_alloc] at this
    exact this
  case round =>
    obtain ⟨w2, hyi, rfl, hX, hY⟩ := hrel
    have c0 := hX.out.c 0
    have c1 := hX.out.c 1
    have c2 := hX.out.c 2
    rcases hyi with ⟨rfl, rfl⟩ | ⟨rfl, rfl⟩ | ⟨rfl, rfl⟩ | ⟨rfl, rfl⟩
    · go_wp2_with fail
      refine (C1 _).out.mono ?_
      rintro e w3 ⟨rfl, hb⟩
      have HX := Lib.hid (hX.out.keep hb)
      have HY := Lib.hid (hY.out.trans (hb.mono hY.out.size))
      clear hb hX hY c0 c1 c2
      go_wp2
      go_round
      case rel => exact ⟨_, .inr (.inl ⟨rfl, rfl⟩), rfl, HX, HY⟩
      case measure => simp [intOf]
    · go_wp2_with fail
      refine (C2 _).out.mono ?_
      rintro e w3 ⟨rfl, hb⟩
      have HX := Lib.hid (hX.out.keep hb)
      have HY := Lib.hid (hY.out.trans (hb.mono hY.out.size))
      clear hb hX hY c0 c1 c2
      go_wp2
      go_round
      case rel => exact ⟨_, .inr (.inr (.inl ⟨rfl, rfl⟩)), rfl, HX, HY⟩
      case measure => simp [intOf]
    · go_wp2_with fail
      refine (C3 _).out.mono ?_
      rintro e w3 ⟨rfl, hb⟩
      have HX := Lib.hid (hX.out.keep hb)
      have HY := Lib.hid (hY.out.trans (hb.mono hY.out.size))
      clear hb hX hY c0 c1 c2
      go_wp2
      go_round
      case rel => exact ⟨_, .inr (.inr (.inr ⟨rfl, rfl⟩)), rfl, HX, HY⟩
      case measure => simp [intOf]
    · clear c0 c1 c2
      go_wp2
      go_ret
      exact ⟨rfl, hY.out⟩

theorem pays (c : Co) (x u : Int) (w : World) (hx : I64 x) (hu : I64 u) :
    Calls Try.prog 11 #[cg c, .int .i64 x, .int .i64 u] w fun e w' => e = .returned (.int .i64 (pay c x u)) ∧ Below w.heap.size w w' := by
  by_cases h : x < 0 ∨ u < 0
  · rw [pay_no (h.imp id .inl)]
    exact pays_no1 c x u w h
  · by_cases hc : Ok c
    · exact pays_yes c x u w hc ⟨by omega, hx.2⟩ ⟨by omega, hu.2⟩
    · rw [pay_no (.inr (.inr hc))]
      exact pays_no2 c x u w (by omega) (by omega) hc
end Cvr
end Go.Proofs.Ytjcehjofimkjaaa
