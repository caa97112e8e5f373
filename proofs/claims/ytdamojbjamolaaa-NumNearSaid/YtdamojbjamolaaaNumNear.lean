/-
  The statement NumNear holds: for every input the call returns true, and each argument reads afterwards as it read before. Conditions: none beside those that the row itself bears.
-/
import Derived.Test.YtdamojbjamolaaaGiven
namespace Go.Proofs.Ytdamojbjamolaaa.numNear
open Go.ChangeShapes Go.WideShapes Go.ChangeAt Go.RowKit
set_option linter.unusedVariables false

theorem own : ownKnob Try.prog.godebug = none := by kernel_rfl
theorem laidOut : laidOutB Try.prog = true := by kernel_rfl

set_option maxRecDepth 100000 in
set_option maxHeartbeats 2000000 in
theorem near_err (a b c x y ec : Int) (he : (ec != 0) = true) (w : World)
    (c1 : ∀ w : World, Hid (Calls Try.prog 12 #[.int .i64 a, .int .i64 b, .int .i64 c] w fun e w' => e = .returned (.tuple #[.int .i64 x, .int .i64 ec]) ∧ Below w.heap.size w w'))
    (c2 : ∀ w : World, Hid (Calls Try.prog 15 #[.int .i64 a, .int .i64 b, .int .i64 c] w fun e w' => e = .returned (.tuple #[.int .i64 y, .int .i64 ec]) ∧ Below w.heap.size w w')) :
    Calls Try.prog 8 #[.int .i64 a, .int .i64 b, .int .i64 c] w fun e w' => e = .returned (.bool true) ∧ Below w.heap.size w w' := by
  go_enter Try.func8, Try.ntmps8
  go_wp2_with fail
  refine ((c1 _).out).mono ?_
  rintro e w1 ⟨rfl, hbw1⟩
  have Bw1 := Lib.hid hbw1
  clear hbw1
  go_wp2_with fail
  refine ((c2 _).out).mono ?_
  rintro e w2 ⟨rfl, hbw2⟩
  have Bw2 := Lib.hid (Bw1.out.trans (hbw2.mono Bw1.out.size))
  clear hbw2 Bw1
  go_wp2_with fail
  refine (Num.alive _).mono ?_
  rintro e w3 ⟨rfl, hbw3⟩
  have Bw3 := Lib.hid (Bw2.out.trans (hbw3.mono Bw2.out.size))
  clear hbw3 Bw2
  go_wp2
  go_ret
  exact ⟨rfl, Bw3.out⟩

set_option maxRecDepth 100000 in
set_option maxHeartbeats 2000000 in
theorem near_top (a b c : Int) (w : World)
    (c1 : ∀ w : World, Hid (Calls Try.prog 12 #[.int .i64 a, .int .i64 b, .int .i64 c] w fun e w' => e = .returned (.tuple #[.int .i64 4000000000000000000, .int .i64 0]) ∧ Below w.heap.size w w'))
    (c2 : ∀ w : World, Hid (Calls Try.prog 15 #[.int .i64 a, .int .i64 b, .int .i64 c] w fun e w' => e = .returned (.tuple #[.int .i64 0, .int .i64 5]) ∧ Below w.heap.size w w')) :
    Calls Try.prog 8 #[.int .i64 a, .int .i64 b, .int .i64 c] w fun e w' => e = .returned (.bool true) ∧ Below w.heap.size w w' := by
  go_enter Try.func8, Try.ntmps8
  go_wp2_with fail
  refine ((c1 _).out).mono ?_
  rintro e w1 ⟨rfl, hbw1⟩
  have Bw1 := Lib.hid hbw1
  clear hbw1
  go_wp2_with fail
  refine ((c2 _).out).mono ?_
  rintro e w2 ⟨rfl, hbw2⟩
  have Bw2 := Lib.hid (Bw1.out.trans (hbw2.mono Bw1.out.size))
  clear hbw2 Bw1
  go_wp2_with fail
  refine (Num.alive _).mono ?_
  rintro e w3 ⟨rfl, hbw3⟩
  have Bw3 := Lib.hid (Bw2.out.trans (hbw3.mono Bw2.out.size))
  clear hbw3 Bw2
  go_wp2
  go_ret
  exact ⟨rfl, Bw3.out⟩

set_option maxRecDepth 100000 in
set_option maxHeartbeats 2000000 in
theorem near_less (a b c q l : Nat) (w : World) (hc : (c : Int) ≤ 9223372036854775807) (hl : l < c) (hq : (q : Int) ≤ 4000000000000000000)
    (c1 : ∀ w : World, Hid (Calls Try.prog 12 #[.int .i64 (a : Int), .int .i64 (b : Int), .int .i64 (c : Int)] w fun e w' => e = .returned (.tuple #[.int .i64 (q : Int), .int .i64 0]) ∧ Below w.heap.size w w'))
    (c2 : ∀ w : World, Hid (Calls Try.prog 15 #[.int .i64 (a : Int), .int .i64 (b : Int), .int .i64 (c : Int)] w fun e w' => e = .returned (.tuple #[.int .i64 (q : Int), .int .i64 0]) ∧ Below w.heap.size w w'))
    (t : ∀ w : World, Hid (Calls Try.prog 23 #[.int .i64 (a : Int), .int .i64 (b : Int), .int .i64 (c : Int)] w fun e w' => e = .returned (.tuple #[.int .i64 (q : Int), .int .i64 (l : Int), .bool true]) ∧ w = w'))
    (hn : 2 * l < c) :
    Calls Try.prog 8 #[.int .i64 (a : Int), .int .i64 (b : Int), .int .i64 (c : Int)] w fun e w' => e = .returned (.bool true) ∧ Below w.heap.size w w' := by
  obtain ⟨d, hd⟩ : ∃ d : Nat, d = c - l := ⟨_, rfl⟩
  have ed : (c : Int) - (l : Int) = (d : Int) := by omega
  have t1 : decide (l < d) = true := by simp; omega
  clear hn hd
  go_enter Try.func8, Try.ntmps8
  go_wp2_with fail
  refine ((c1 _).out).mono ?_
  rintro e w1 ⟨rfl, hbw1⟩
  have Bw1 := Lib.hid hbw1
  clear hbw1
  go_wp2_with fail
  refine ((c2 _).out).mono ?_
  rintro e w2 ⟨rfl, hbw2⟩
  have Bw2 := Lib.hid (Bw1.out.trans (hbw2.mono Bw1.out.size))
  clear hbw2 Bw1
  go_wp2_with fail
  refine ((t _).out).mono ?_
  rintro e w3 ⟨rfl, rfl⟩
  go_wp2_with fail
  refine (Num.alive _).mono ?_
  rintro e w4 ⟨rfl, hbw4⟩
  have Bw4 := Lib.hid (Bw2.out.trans (hbw4.mono Bw2.out.size))
  clear hbw4 Bw2
  go_wp2
  go_ret
  exact ⟨rfl, Bw4.out⟩

set_option maxRecDepth 100000 in
set_option maxHeartbeats 2000000 in
theorem near_tie (a b c q l : Nat) (w : World) (hc : (c : Int) ≤ 9223372036854775807) (hl : l < c) (hq : (q : Int) ≤ 4000000000000000000)
    (c1 : ∀ w : World, Hid (Calls Try.prog 12 #[.int .i64 (a : Int), .int .i64 (b : Int), .int .i64 (c : Int)] w fun e w' => e = .returned (.tuple #[.int .i64 (q : Int), .int .i64 0]) ∧ Below w.heap.size w w'))
    (c2 : ∀ w : World, Hid (Calls Try.prog 15 #[.int .i64 (a : Int), .int .i64 (b : Int), .int .i64 (c : Int)] w fun e w' => e = .returned (.tuple #[.int .i64 (q : Int), .int .i64 0]) ∧ Below w.heap.size w w'))
    (t : ∀ w : World, Hid (Calls Try.prog 23 #[.int .i64 (a : Int), .int .i64 (b : Int), .int .i64 (c : Int)] w fun e w' => e = .returned (.tuple #[.int .i64 (q : Int), .int .i64 (l : Int), .bool true]) ∧ w = w'))
    (hn : c = 2 * l) (ho : q % 2 = 0) :
    Calls Try.prog 8 #[.int .i64 (a : Int), .int .i64 (b : Int), .int .i64 (c : Int)] w fun e w' => e = .returned (.bool true) ∧ Below w.heap.size w w' := by
  obtain ⟨d, hd⟩ : ∃ d : Nat, d = c - l := ⟨_, rfl⟩
  have ed : (c : Int) - (l : Int) = (d : Int) := by omega
  have t1 : decide (l < d) = false := by simp; omega
  have t2 : ((l : Int) == (d : Int)) = true := by rw [beq_iff_eq]; omega
  have t3 : ((q : Int) % 2 == 0) = true := by rw [beq_iff_eq]; omega
  clear hn hd ho
  go_enter Try.func8, Try.ntmps8
  go_wp2_with fail
  refine ((c1 _).out).mono ?_
  rintro e w1 ⟨rfl, hbw1⟩
  have Bw1 := Lib.hid hbw1
  clear hbw1
  go_wp2_with fail
  refine ((c2 _).out).mono ?_
  rintro e w2 ⟨rfl, hbw2⟩
  have Bw2 := Lib.hid (Bw1.out.trans (hbw2.mono Bw1.out.size))
  clear hbw2 Bw1
  go_wp2_with fail
  refine ((t _).out).mono ?_
  rintro e w3 ⟨rfl, rfl⟩
  go_wp2_with fail
  refine (Num.alive _).mono ?_
  rintro e w4 ⟨rfl, hbw4⟩
  have Bw4 := Lib.hid (Bw2.out.trans (hbw4.mono Bw2.out.size))
  clear hbw4 Bw2
  go_wp2
  go_ret
  exact ⟨rfl, Bw4.out⟩

set_option maxRecDepth 100000 in
set_option maxHeartbeats 2000000 in
theorem near_tieup (a b c q l : Nat) (w : World) (hc : (c : Int) ≤ 9223372036854775807) (hl : l < c) (hq : (q : Int) ≤ 4000000000000000000)
    (c1 : ∀ w : World, Hid (Calls Try.prog 12 #[.int .i64 (a : Int), .int .i64 (b : Int), .int .i64 (c : Int)] w fun e w' => e = .returned (.tuple #[.int .i64 (q : Int), .int .i64 0]) ∧ Below w.heap.size w w'))
    (c2 : ∀ w : World, Hid (Calls Try.prog 15 #[.int .i64 (a : Int), .int .i64 (b : Int), .int .i64 (c : Int)] w fun e w' => e = .returned (.tuple #[.int .i64 ((q + 1 : Nat) : Int), .int .i64 0]) ∧ Below w.heap.size w w'))
    (t : ∀ w : World, Hid (Calls Try.prog 23 #[.int .i64 (a : Int), .int .i64 (b : Int), .int .i64 (c : Int)] w fun e w' => e = .returned (.tuple #[.int .i64 (q : Int), .int .i64 (l : Int), .bool true]) ∧ w = w'))
    (hn : c = 2 * l) (ho : q % 2 = 1) :
    Calls Try.prog 8 #[.int .i64 (a : Int), .int .i64 (b : Int), .int .i64 (c : Int)] w fun e w' => e = .returned (.bool true) ∧ Below w.heap.size w w' := by
  obtain ⟨d, hd⟩ : ∃ d : Nat, d = c - l := ⟨_, rfl⟩
  have ed : (c : Int) - (l : Int) = (d : Int) := by omega
  have t1 : decide (l < d) = false := by simp; omega
  have t2 : ((l : Int) == (d : Int)) = true := by rw [beq_iff_eq]; omega
  have t3 : ((q : Int) % 2 == 0) = false := by rw [beq_eq_false_iff_ne]; omega
  clear hn hd ho
  obtain ⟨m, hm⟩ : ∃ m : Nat, m = q + 1 := ⟨_, rfl⟩
  have em : (q : Int) + 1 = (m : Int) := by omega
  have tm : ((m : Int) == (q : Int)) = false := by rw [beq_eq_false_iff_ne]; omega
  rw [← hm] at c2
  clear hm
  go_enter Try.func8, Try.ntmps8
  go_wp2_with fail
  refine ((c1 _).out).mono ?_
  rintro e w1 ⟨rfl, hbw1⟩
  have Bw1 := Lib.hid hbw1
  clear hbw1
  go_wp2_with fail
  refine ((c2 _).out).mono ?_
  rintro e w2 ⟨rfl, hbw2⟩
  have Bw2 := Lib.hid (Bw1.out.trans (hbw2.mono Bw1.out.size))
  clear hbw2 Bw1
  go_wp2_with fail
  refine ((t _).out).mono ?_
  rintro e w3 ⟨rfl, rfl⟩
  go_wp2_with fail
  refine (Num.alive _).mono ?_
  rintro e w4 ⟨rfl, hbw4⟩
  have Bw4 := Lib.hid (Bw2.out.trans (hbw4.mono Bw2.out.size))
  clear hbw4 Bw2
  go_wp2
  go_ret
  exact ⟨rfl, Bw4.out⟩

set_option maxRecDepth 100000 in
set_option maxHeartbeats 2000000 in
theorem near_up (a b c q l : Nat) (w : World) (hc : (c : Int) ≤ 9223372036854775807) (hl : l < c) (hq : (q : Int) ≤ 4000000000000000000)
    (c1 : ∀ w : World, Hid (Calls Try.prog 12 #[.int .i64 (a : Int), .int .i64 (b : Int), .int .i64 (c : Int)] w fun e w' => e = .returned (.tuple #[.int .i64 (q : Int), .int .i64 0]) ∧ Below w.heap.size w w'))
    (c2 : ∀ w : World, Hid (Calls Try.prog 15 #[.int .i64 (a : Int), .int .i64 (b : Int), .int .i64 (c : Int)] w fun e w' => e = .returned (.tuple #[.int .i64 ((q + 1 : Nat) : Int), .int .i64 0]) ∧ Below w.heap.size w w'))
    (t : ∀ w : World, Hid (Calls Try.prog 23 #[.int .i64 (a : Int), .int .i64 (b : Int), .int .i64 (c : Int)] w fun e w' => e = .returned (.tuple #[.int .i64 (q : Int), .int .i64 (l : Int), .bool true]) ∧ w = w'))
    (hn : c < 2 * l) :
    Calls Try.prog 8 #[.int .i64 (a : Int), .int .i64 (b : Int), .int .i64 (c : Int)] w fun e w' => e = .returned (.bool true) ∧ Below w.heap.size w w' := by
  obtain ⟨d, hd⟩ : ∃ d : Nat, d = c - l := ⟨_, rfl⟩
  have ed : (c : Int) - (l : Int) = (d : Int) := by omega
  have t1 : decide (l < d) = false := by simp; omega
  have t2 : ((l : Int) == (d : Int)) = false := by rw [beq_eq_false_iff_ne]; omega
  clear hn hd
  obtain ⟨m, hm⟩ : ∃ m : Nat, m = q + 1 := ⟨_, rfl⟩
  have em : (q : Int) + 1 = (m : Int) := by omega
  have tm : ((m : Int) == (q : Int)) = false := by rw [beq_eq_false_iff_ne]; omega
  rw [← hm] at c2
  clear hm
  go_enter Try.func8, Try.ntmps8
  go_wp2_with fail
  refine ((c1 _).out).mono ?_
  rintro e w1 ⟨rfl, hbw1⟩
  have Bw1 := Lib.hid hbw1
  clear hbw1
  go_wp2_with fail
  refine ((c2 _).out).mono ?_
  rintro e w2 ⟨rfl, hbw2⟩
  have Bw2 := Lib.hid (Bw1.out.trans (hbw2.mono Bw1.out.size))
  clear hbw2 Bw1
  go_wp2_with fail
  refine ((t _).out).mono ?_
  rintro e w3 ⟨rfl, rfl⟩
  go_wp2_with fail
  refine (Num.alive _).mono ?_
  rintro e w4 ⟨rfl, hbw4⟩
  have Bw4 := Lib.hid (Bw2.out.trans (hbw4.mono Bw2.out.size))
  clear hbw4 Bw2
  go_wp2
  go_ret
  exact ⟨rfl, Bw4.out⟩

open Num in
theorem walk (a : Int) (ha : -9223372036854775808 ≤ a ∧ a ≤ 9223372036854775807) (b : Int) (hb : -9223372036854775808 ≤ b ∧ b ≤ 9223372036854775807) (c : Int) (hc : -9223372036854775808 ≤ c ∧ c ≤ 9223372036854775807) (w : World) : Calls Try.prog 8 #[.int .i64 a, .int .i64 b, .int .i64 c] w fun e w' => e = .returned (.bool true) ∧ Below w.heap.size w w' := by
  have c1 := fun w => Lib.hid (Num.down a b c w ha hb hc)
  have c2 := fun w => Lib.hid (Num.even a b c w ha hb hc)
  by_cases h1 : a < 0 ∨ b < 0 ∨ c < 0
  · rw [dnV, dnE, nums_arg h1] at c1
    rw [evV, evE, nums_arg h1] at c2
    exact near_err a b c 0 0 1 (by decide) w c1 c2
  · by_cases h2 : c = 0
    · subst h2
      rw [dnV, dnE, nums_zero (by omega) (by omega)] at c1
      rw [evV, evE, nums_zero (by omega) (by omega)] at c2
      exact near_err a b 0 0 0 6 (by decide) w c1 c2
    · obtain ⟨a, rfl⟩ := Int.eq_ofNat_of_zero_le (a := a) (by omega)
      obtain ⟨b, rfl⟩ := Int.eq_ofNat_of_zero_le (a := b) (by omega)
      obtain ⟨c, rfl⟩ := Int.eq_ofNat_of_zero_le (a := c) (by omega)
      have t := fun w => Lib.hid (two a b c (by omega) (by omega) (by omega) (by omega) w)
      have hm : a * b % c < c := Nat.mod_lt _ (by omega)
      have hqq := quo_ge (up := nearB) (a := a) (b := b) (c := c)
      by_cases h4 : a * b / c ≤ 4000000000000000000
      · simp only [twoVal, if_pos h4] at t
        have e1 : nums downB a b c = _ := nums_ok (by omega) (by rw [quo_down]; exact h4)
        rw [dnV, dnE, e1, quo_down] at c1
        have yes : nearB (a * b / c) (a * b % c) c = true → quo nearB a b c = a * b / c + 1 := fun h => by rw [quo, if_pos h]
        have no : nearB (a * b / c) (a * b % c) c = false → quo nearB a b c = a * b / c := fun h => by rw [quo, if_neg (by rw [h]; decide)]
        have okk := fun h => nums_ok (up := nearB) (a := a) (b := b) (c := c) (by omega) h
        have ovv := fun h => nums_over (up := nearB) (a := a) (b := b) (c := c) (by omega) h
        rw [evV, evE] at c2
        clear e1
        generalize hQ : a * b / c = q at *
        generalize hL : a * b % c = l at *
        rcases Nat.lt_trichotomy c (2 * l) with h | h | h
        · have hu := yes (by simp [nearB, h])
          by_cases h5 : q ≤ 3999999999999999999
          · rw [okk (by rw [hu]; omega), hu] at c2
            exact near_up a b c q l w (by omega) hm (by omega) c1 c2 t h
          · rw [ovv (by rw [hu]; omega)] at c2
            obtain rfl : q = 4000000000000000000 := by omega
            exact near_top a b c w c1 c2
        · by_cases h6 : q % 2 = 1
          · have hu := yes (by simp [nearB, h, h6])
            by_cases h5 : q ≤ 3999999999999999999
            · rw [okk (by rw [hu]; omega), hu] at c2
              exact near_tieup a b c q l w (by omega) hm (by omega) c1 c2 t h h6
            · rw [ovv (by rw [hu]; omega)] at c2
              obtain rfl : q = 4000000000000000000 := by omega
              exact near_top a b c w c1 c2
          · have hu := no (by simp [nearB, h, h6])
            rw [okk (by rw [hu]; omega), hu] at c2
            exact near_tie a b c q l w (by omega) hm (by omega) c1 c2 t h (by omega)
        · have hu := no (by simp [nearB]; omega)
          rw [okk (by rw [hu]; omega), hu] at c2
          exact near_less a b c q l w (by omega) hm (by omega) c1 c2 t h
      · have e1 : nums downB a b c = _ := nums_over (by omega) (by rw [quo_down]; omega)
        have e2 : nums nearB a b c = _ := nums_over (by omega) (by omega)
        rw [dnV, dnE, e1] at c1
        rw [evV, evE, e2] at c2
        exact near_err a b c 0 0 5 (by decide) w c1 c2


set_option maxRecDepth 100000 in
theorem lifted (os : Os) (started : os.Started) (H : Type) (enc : TypeId × Value → H) :
    ReturnsInHanded {} Try.checked os 8 .any (Rows.numNearSpec.pre6 enc Try.prog Try.f8 Rows.numNearRow.domain false) (Rows.numNearSpec.post enc Try.prog Try.f8 false true false false) := by
  refine returnsInHanded_of_change (C := Try.checked) own started (by kernel_rfl) Try.func8
    (ChangeSpec.witness6 (enc := enc) (C := Try.checked) false ⟨#[], #[.int .i64 0, .int .i64 0, .int .i64 0], []⟩ 8 (by kernel_rfl) (by kernel_rfl) (by kernel_rfl) (by kernel_rfl)) ?_
  intro W base args ds gs before hval0 hW hcnd _
  have hval : ∀ (j : Nat) t v, Try.f8.params[j]? = some t → args[j]? = some v → Value.okWide Try.prog W .any base t v := hval0
  have hW' := hW
  obtain ⟨p, q, hA0, hV, rfl, hfz, hnd⟩ := hW
  have hA : DataW.TrodAll enc Try.prog W 0 (fun _ => true) true Try.f8.params.toList args.toList ds p := hA0
  rw [Try.params8] at hA hval
  obtain ⟨v0, vs0, d0, ds0, p0, q0, hargs, rfl, rfl, h0, r0⟩ := trodAll_cons hA
  obtain ⟨v1, vs1, d1, ds1, p1, q1, rfl, rfl, rfl, h1, r1⟩ := trodAll_cons r0
  obtain ⟨v2, vs2, d2, ds2, p2, q2, rfl, rfl, rfl, h2, r2⟩ := trodAll_cons r1
  obtain ⟨rfl, rfl, rfl⟩ := trodAll_nil r2
  obtain rfl : args = #[v0, v1, v2] := by cases args; simp_all
  obtain ⟨rfl, rfl⟩ := trodVars_none hV
  obtain ⟨a0, rfl, rfl, rfl, w0⟩ := open_int Try.underlying3 (hval 0 3 v0 rfl rfl) h0
  obtain ⟨a1, rfl, rfl, rfl, w1⟩ := open_int Try.underlying3 (hval 1 3 v1 rfl rfl) h1
  obtain ⟨a2, rfl, rfl, rfl, w2⟩ := open_int Try.underlying3 (hval 2 3 v2 rfl rfl) h2
  clear hA0 hval0
  refine (walk a0 (Num.i64_of w0) a1 (Num.i64_of w1) a2 (Num.i64_of w2) W).mono fun e W' ⟨he, bel⟩ => ?_
  subst he
  exact ⟨_, rfl, _, _, _, [], _, [], hW', trodAll_mk1 (shut_bool Try.underlying4 _), (trodAll_cons_mk (shut_int Try.underlying3 w0) (trodAll_cons_mk (shut_int Try.underlying3 w1) (trodAll_cons_mk (shut_int Try.underlying3 w2) trodAll_mk0))), rfl, bel.frame _, fun h => by cases h⟩

theorem over : Rows.numNearRow.holds Try.pinned (OpenSpec.ofChange Rows.numNearSpec) :=
  OpenClaim.holds_of_wide 8 Try.f8 rfl rfl rfl rfl rfl rfl rfl ⟨rfl, rfl, rfl, rfl, rfl⟩ rfl rfl rfl rfl rfl (by kernel_rfl) Try.func8 (by kernel_rfl)
    (of_decide_eq_true (by kernel_rfl)) (by unfold Func.isWrapper; first | (rw [if_pos (by decide +kernel)]; kernel_rfl) | (rw [if_neg (by decide +kernel)]; exact ⟨rfl, rfl⟩))
    (fun os started H enc _ => lifted os started H enc)

theorem proved : Rows.NumNearSaid := over
end Go.Proofs.Ytdamojbjamolaaa.numNear
