/-
  The parts QEven, QRYear of this proof. Conditions: those of each theorem.
-/
import Derived.Test.YtfidmphajohljaaGreatKNu
namespace Go.Proofs.YtfidmphajohljaaGreat
open Go.RowKit NumMath NumBits
namespace Num
def TwoI (a b c j q l : Nat) : Prop := a / 2 ^ j * b = q * c + l ∧ l < c
theorem dbl0 {A b c q l : Nat} (h : A * b = q * c + l) : (2 * A) * b = (2 * q) * c + 2 * l := by
 rw [Nat.mul_assoc, h, Nat.mul_add, Nat.mul_assoc]
theorem dbl1 {A b c q l : Nat} (h : A * b = q * c + l) (hl : c ≤ 2 * l) : (2 * A) * b = (2 * q + 1) * c + (2 * l - c) := by
 rw [dbl0 h, Nat.add_mul, Nat.one_mul]; omega
theorem add0 {A b c q l wh rs : Nat} (h : A * b = q * c + l) (hb : b = wh * c + rs) : (A + 1) * b = (q + wh) * c + (l + rs) := by
 rw [Nat.add_mul, h, Nat.one_mul, Nat.add_mul]; omega
theorem add1 {A b c q l wh rs : Nat} (h : A * b = q * c + l) (hb : b = wh * c + rs) (hl : c ≤ l + rs) : (A + 1) * b = (q + wh + 1) * c + (l + rs - c) := by
 rw [add0 h hb, Nat.add_mul (q + wh), Nat.one_mul]; omega
theorem half_bit (a k : Nat) : a / 2 ^ k = 2 * (a / 2 ^ (k + 1)) + a / 2 ^ k % 2 := by
 rw [Nat.pow_succ, ← Nat.div_div_eq_div_mul]; omega
theorem two_out {a b c q l : Nat} (h : TwoI a b c 0 q l) : q = a * b / c ∧ l = a * b % c := by
 obtain ⟨h1, h2⟩ := h; simp only [Nat.pow_zero, Nat.div_one] at h1; rw [h1]; have hc : 0 < c := by omega
 constructor
 ·rw [Nat.mul_comm, Nat.mul_add_div hc, Nat.div_eq_of_lt h2, Nat.add_zero]
 ·rw [Nat.mul_comm, Nat.mul_add_mod, Nat.mod_eq_of_lt h2]
theorem two_over {a b c k q l : Nat} (h : TwoI a b c k q l) (hq : 4000000000000000000 < q) : 4000000000000000000 < a * b / c := by
 obtain ⟨h1, h2⟩ := h; have hc : 0 < c := by omega
 refine Nat.lt_of_lt_of_le hq ?_; rw [Nat.le_div_iff_mul_le hc]; have h3 : a / 2 ^ k * b ≤ a * b := Nat.mul_le_mul_right _ (Nat.div_le_self _ _); omega
def twoVal (a b c : Nat) : Value := if a * b / c ≤ 4000000000000000000 then .tuple #[.int .i64 ((a * b / c : Nat) : Int), .int .i64 ((a * b % c : Nat) : Int), .bool true] else .tuple #[.int .i64 0, .int .i64 0, .bool false]
theorem twoVal_ok {a b c q l : Nat} (h : TwoI a b c 0 q l) (hq : (q : Int) ≤ 4000000000000000000) : Ending.returned (.tuple #[.int .i64 (q : Int), .int .i64 (l : Int), .bool true]) = .returned (twoVal a b c) := by
 obtain ⟨h1, h2⟩ := two_out h; rw [twoVal, ← h1, ← h2, if_pos (by omega)]
theorem twoVal_no {a b c k q l : Nat} (h : TwoI a b c k q l) (hq : (4000000000000000000 : Int) < (q : Int)) : Ending.returned (.tuple #[.int .i64 0, .int .i64 0, .bool false]) = .returned (twoVal a b c) := by
 have := two_over h (by omega); rw [twoVal, if_neg (by omega)]
set_option maxRecDepth 100000 in
set_option maxHeartbeats 2000000 in
theorem two_walk (a b c wh rs : Nat) (ha : (a : Int) ≤ 9223372036854775807) (hb : (b : Int) ≤ 9223372036854775807) (hc : (c : Int) ≤ 9223372036854775807) (hc0 : 0 < c)
  (ew : IntKind.u64.wrap ((b : Int) / (c : Int)) = wh) (er : (b : Int) % (c : Int) = rs) (hbb : Hid (b = wh * c + rs)) (hrs : rs < c) (hwh : (wh : Int) ≤ 9223372036854775807) (w : World) :
  Calls Tryz.prog 82 #[.int .i64 (a : Int), .int .i64 (b : Int), .int .i64 (c : Int)] w fun e w' => e = .returned (twoVal a b c) ∧ w = w' := by
 have hz : ((c : Int) == 0) = false := by simp; omega
 go_enter Tryz.func82, Tryz.ntmps82; go_wp2; rw [er]
 go_loop [9, 10, 14] (fun q l k => ∃ j qn ln : Nat, j ≤ 63 ∧ q = .int .u64 (qn : Int) ∧ l = .int .u64 (ln : Int) ∧ k = .int .i64 ((j : Int) - 1) ∧ Hid (TwoI a b c j qn ln) ∧ (qn : Int) ≤ 4000000000000000000) (fun _ _ k => (intOf k + 1).toNat)
 case atStart =>
  refine ⟨63, 0, 0, by omega, rfl, rfl, rfl, Lib.hid ⟨?_, hc0⟩, by omega⟩; rw [Nat.div_eq_of_lt (by simp only [Nat.reducePow]; omega)]; omega
 case round =>
  clear er ew; obtain ⟨j, q, l, hj, rfl, rfl, rfl, HI, hq⟩ := hrel; have hl := HI.out.2; rcases j with _ | k
  ·rw [show ((0 : Nat) : Int) - 1 = -1 from rfl]; go_wp2
   go_ret3
   exact ⟨twoVal_ok HI.out hq, rfl⟩
  ·have ek : ((k + 1 : Nat) : Int) - 1 = (k : Int) := by omega
   rw [ek]; obtain ⟨bit, hbit⟩ : ∃ bit : Nat, bit = a / 2 ^ k % 2 := ⟨_, rfl⟩; have hk : k ≤ 62 := by omega
   have HB := Lib.hid hbit; clear hj ek hbit; obtain ⟨m1, hm1⟩ : ∃ m1 : Nat, m1 = 2 * l := ⟨_, rfl⟩; obtain ⟨p1, hp1⟩ : ∃ p1 : Nat, p1 = 2 * q := ⟨_, rfl⟩; have em1 : 2 * (l : Int) = (m1 : Int) := by omega
   have ep1 : 2 * (q : Int) = (p1 : Int) := by omega
   have bm1 : (m1 : Int) ≤ 18446744073709551614 := by omega
   have bp1 : (p1 : Int) ≤ 8000000000000000000 := by omega
   have HM := Lib.hid hm1; have HP := Lib.hid hp1; clear hm1 hp1; by_cases hd : c ≤ m1
   ·have t1 : decide (c ≤ m1) = true := by simpa using hd
    obtain ⟨m2, hm2⟩ : ∃ m2 : Nat, m2 = m1 - c := ⟨_, rfl⟩; obtain ⟨p2, hp2⟩ : ∃ p2 : Nat, p2 = p1 + 1 := ⟨_, rfl⟩; have em2 : (m1 : Int) - (c : Int) = (m2 : Int) := by omega
    have ep2 : (p1 : Int) + 1 = (p2 : Int) := by omega
    have bp2 : (p2 : Int) ≤ 8000000000000000001 := by omega
    have HM2 := Lib.hid hm2; have HP2 := Lib.hid hp2; clear hm2 hp2; have hD : Hid (2 * (a / 2 ^ (k + 1)) * b = p2 * c + m2) := Lib.hid (by rw [HM2.out, HP2.out, HM.out, HP.out]; exact dbl1 HI.out.1 (by rw [← HM.out]; exact hd)); have hL : m2 < c := by have := HM.out; have := HM2.out; omega
    by_cases hb1 : bit = 1
    ·have tb : (((a : Int) / 2 ^ k).tmod 2 == 1) = true := by rw [pow_cast, ← Int.natCast_ediv, beq_iff_eq, Int.tmod_eq_emod_of_nonneg (Int.natCast_nonneg _)]; have := HB.out; omega
     obtain ⟨m3, hm3⟩ : ∃ m3 : Nat, m3 = m2 + rs := ⟨_, rfl⟩; obtain ⟨p3, hp3⟩ : ∃ p3 : Nat, p3 = p2 + wh := ⟨_, rfl⟩; have em3 : (m2 : Int) + (rs : Int) = (m3 : Int) := by omega
     have ep3 : (p2 : Int) + (wh : Int) = (p3 : Int) := by omega
     have bm3 : (m3 : Int) ≤ 18446744073709551614 := by omega
     have bp3 : (p3 : Int) ≤ 17223372036854775808 := by omega
     have HA : Hid (a / 2 ^ k = 2 * (a / 2 ^ (k + 1)) + 1) := Lib.hid (by rw [half_bit a k, ← HB.out, hb1]); have HM3 := Lib.hid hm3; have HP3 := Lib.hid hp3; clear hm3 hp3 hb1; by_cases he : c ≤ m3
     ·have t3 : decide (c ≤ m3) = true := by simpa using he
      obtain ⟨m4, hm4⟩ : ∃ m4 : Nat, m4 = m3 - c := ⟨_, rfl⟩; obtain ⟨p4, hp4⟩ : ∃ p4 : Nat, p4 = p3 + 1 := ⟨_, rfl⟩; have em4 : (m3 : Int) - (c : Int) = (m4 : Int) := by omega
      have ep4 : (p3 : Int) + 1 = (p4 : Int) := by omega
      have bp4 : (p4 : Int) ≤ 17223372036854775809 := by omega
      have HM4 := Lib.hid hm4; have HP4 := Lib.hid hp4; clear hm4 hp4; have HT : Hid (TwoI a b c k p4 m4) := Lib.hid (by refine ⟨?_, by have := HM4.out; have := HM3.out; omega⟩; rw [HA.out, HM4.out, HP4.out, HM3.out, HP3.out]; exact add1 hD.out hbb.out (by rw [← HM3.out]; exact he)); by_cases hov : (4000000000000000000 : Int) < (p4 : Int)
      ·have tov : decide ((4000000000000000000 : Int) < (p4 : Int)) = true := by simpa using hov
       have HO := Lib.hid hov; clear hov; go_wp2
       go_ret3
       exact ⟨twoVal_no HT.out HO.out, rfl⟩
      ·have tov : decide ((4000000000000000000 : Int) < (p4 : Int)) = false := by simpa using hov
       have HO := Lib.hid hov; clear hov; go_wp2
       go_round
       case rel => exact ⟨k, p4, m4, by omega, rfl, rfl, rfl, HT, by have := HO.out; omega⟩
       case measure => simp [intOf]
     ·have t3 : decide (c ≤ m3) = false := by simpa using he
      have HT : Hid (TwoI a b c k p3 m3) := Lib.hid (by refine ⟨?_, by omega⟩; rw [HA.out, HM3.out, HP3.out]; exact add0 hD.out hbb.out); by_cases hov : (4000000000000000000 : Int) < (p3 : Int)
      ·have tov : decide ((4000000000000000000 : Int) < (p3 : Int)) = true := by simpa using hov
       have HO := Lib.hid hov; clear hov; go_wp2
       go_ret3
       exact ⟨twoVal_no HT.out HO.out, rfl⟩
      ·have tov : decide ((4000000000000000000 : Int) < (p3 : Int)) = false := by simpa using hov
       have HO := Lib.hid hov; clear hov; go_wp2
       go_round
       case rel => exact ⟨k, p3, m3, by omega, rfl, rfl, rfl, HT, by have := HO.out; omega⟩
       case measure => simp [intOf]
    ·have tb : (((a : Int) / 2 ^ k).tmod 2 == 1) = false := by rw [pow_cast, ← Int.natCast_ediv, beq_eq_false_iff_ne, Int.tmod_eq_emod_of_nonneg (Int.natCast_nonneg _)]; have := HB.out; omega
     have HA : Hid (a / 2 ^ k = 2 * (a / 2 ^ (k + 1))) := Lib.hid (by rw [half_bit a k, ← HB.out]; have := HB.out; omega); clear hb1; have HT : Hid (TwoI a b c k p2 m2) := Lib.hid (by refine ⟨?_, hL⟩; rw [HA.out]; exact hD.out); by_cases hov : (4000000000000000000 : Int) < (p2 : Int)
     ·have tov : decide ((4000000000000000000 : Int) < (p2 : Int)) = true := by simpa using hov
      have HO := Lib.hid hov; clear hov; go_wp2
      go_ret3
      exact ⟨twoVal_no HT.out HO.out, rfl⟩
     ·have tov : decide ((4000000000000000000 : Int) < (p2 : Int)) = false := by simpa using hov
      have HO := Lib.hid hov; clear hov; go_wp2
      go_round
      case rel => exact ⟨k, p2, m2, by omega, rfl, rfl, rfl, HT, by have := HO.out; omega⟩
      case measure => simp [intOf]
   ·have t1 : decide (c ≤ m1) = false := by simpa using hd
    have hD : Hid (2 * (a / 2 ^ (k + 1)) * b = p1 * c + m1) := Lib.hid (by rw [HM.out, HP.out]; exact dbl0 HI.out.1); have hL : m1 < c := by have := HM.out; omega
    by_cases hb1 : bit = 1
    ·have tb : (((a : Int) / 2 ^ k).tmod 2 == 1) = true := by rw [pow_cast, ← Int.natCast_ediv, beq_iff_eq, Int.tmod_eq_emod_of_nonneg (Int.natCast_nonneg _)]; have := HB.out; omega
     obtain ⟨m3, hm3⟩ : ∃ m3 : Nat, m3 = m1 + rs := ⟨_, rfl⟩; obtain ⟨p3, hp3⟩ : ∃ p3 : Nat, p3 = p1 + wh := ⟨_, rfl⟩; have em3 : (m1 : Int) + (rs : Int) = (m3 : Int) := by omega
     have ep3 : (p1 : Int) + (wh : Int) = (p3 : Int) := by omega
     have bm3 : (m3 : Int) ≤ 18446744073709551614 := by omega
     have bp3 : (p3 : Int) ≤ 17223372036854775808 := by omega
     have HA : Hid (a / 2 ^ k = 2 * (a / 2 ^ (k + 1)) + 1) := Lib.hid (by rw [half_bit a k, ← HB.out, hb1]); have HM3 := Lib.hid hm3; have HP3 := Lib.hid hp3; clear hm3 hp3 hb1; by_cases he : c ≤ m3
     ·have t3 : decide (c ≤ m3) = true := by simpa using he
      obtain ⟨m4, hm4⟩ : ∃ m4 : Nat, m4 = m3 - c := ⟨_, rfl⟩; obtain ⟨p4, hp4⟩ : ∃ p4 : Nat, p4 = p3 + 1 := ⟨_, rfl⟩; have em4 : (m3 : Int) - (c : Int) = (m4 : Int) := by omega
      have ep4 : (p3 : Int) + 1 = (p4 : Int) := by omega
      have bp4 : (p4 : Int) ≤ 17223372036854775809 := by omega
      have HM4 := Lib.hid hm4; have HP4 := Lib.hid hp4; clear hm4 hp4; have HT : Hid (TwoI a b c k p4 m4) := Lib.hid (by refine ⟨?_, by have := HM4.out; have := HM3.out; omega⟩; rw [HA.out, HM4.out, HP4.out, HM3.out, HP3.out]; exact add1 hD.out hbb.out (by rw [← HM3.out]; exact he)); by_cases hov : (4000000000000000000 : Int) < (p4 : Int)
      ·have tov : decide ((4000000000000000000 : Int) < (p4 : Int)) = true := by simpa using hov
       have HO := Lib.hid hov; clear hov; go_wp2
       go_ret3
       exact ⟨twoVal_no HT.out HO.out, rfl⟩
      ·have tov : decide ((4000000000000000000 : Int) < (p4 : Int)) = false := by simpa using hov
       have HO := Lib.hid hov; clear hov; go_wp2
       go_round
       case rel => exact ⟨k, p4, m4, by omega, rfl, rfl, rfl, HT, by have := HO.out; omega⟩
       case measure => simp [intOf]
     ·have t3 : decide (c ≤ m3) = false := by simpa using he
      have HT : Hid (TwoI a b c k p3 m3) := Lib.hid (by refine ⟨?_, by omega⟩; rw [HA.out, HM3.out, HP3.out]; exact add0 hD.out hbb.out); by_cases hov : (4000000000000000000 : Int) < (p3 : Int)
      ·have tov : decide ((4000000000000000000 : Int) < (p3 : Int)) = true := by simpa using hov
       have HO := Lib.hid hov; clear hov; go_wp2
       go_ret3
       exact ⟨twoVal_no HT.out HO.out, rfl⟩
      ·have tov : decide ((4000000000000000000 : Int) < (p3 : Int)) = false := by simpa using hov
       have HO := Lib.hid hov; clear hov; go_wp2
       go_round
       case rel => exact ⟨k, p3, m3, by omega, rfl, rfl, rfl, HT, by have := HO.out; omega⟩
       case measure => simp [intOf]
    ·have tb : (((a : Int) / 2 ^ k).tmod 2 == 1) = false := by rw [pow_cast, ← Int.natCast_ediv, beq_eq_false_iff_ne, Int.tmod_eq_emod_of_nonneg (Int.natCast_nonneg _)]; have := HB.out; omega
     have HA : Hid (a / 2 ^ k = 2 * (a / 2 ^ (k + 1))) := Lib.hid (by rw [half_bit a k, ← HB.out]; have := HB.out; omega); clear hb1; have HT : Hid (TwoI a b c k p1 m1) := Lib.hid (by refine ⟨?_, hL⟩; rw [HA.out]; exact hD.out); by_cases hov : (4000000000000000000 : Int) < (p1 : Int)
     ·have tov : decide ((4000000000000000000 : Int) < (p1 : Int)) = true := by simpa using hov
      have HO := Lib.hid hov; clear hov; go_wp2
      go_ret3
      exact ⟨twoVal_no HT.out HO.out, rfl⟩
     ·have tov : decide ((4000000000000000000 : Int) < (p1 : Int)) = false := by simpa using hov
      have HO := Lib.hid hov; clear hov; go_wp2
      go_round
      case rel => exact ⟨k, p1, m1, by omega, rfl, rfl, rfl, HT, by have := HO.out; omega⟩
      case measure => simp [intOf]
theorem two (a b c : Nat) (ha : a < 9223372036854775808) (hb : b < 9223372036854775808) (hc : c < 9223372036854775808) (hc0 : 0 < c) (w : World) :
  Calls Tryz.prog 82 #[.int .i64 (a : Int), .int .i64 (b : Int), .int .i64 (c : Int)] w fun e w' => e = .returned (twoVal a b c) ∧ w = w' := by
 have hw : b / c ≤ b := Nat.div_le_self _ _; exact two_walk a b c (b / c) (b % c) (by omega) (by omega) (by omega) hc0 (by rw [← Int.natCast_ediv, wrapN _ (by omega)]) (Int.natCast_emod _ _).symm (Lib.hid (Nat.div_add_mod' b c).symm) (Nat.mod_lt _ hc0) (by omega) w
set_option maxHeartbeats 1000000 in
theorem check_arg (a b c : Int) (h : a < 0 ∨ b < 0 ∨ c < 0) (w : World) :
  Calls Tryz.prog 81 #[.int .i64 a, .int .i64 b, .int .i64 c] w fun e w' => e = .returned (.int .i64 1) ∧ w = w' := by
 by_cases h1 : a < 0
 ·have t1 : decide (a < 0) = true := by simpa using h1
  clear h; go_enter Tryz.func81, Tryz.ntmps81; go_wp2; go_ret; exact ⟨rfl, rfl⟩
 ·have t1 : decide (a < 0) = false := by simpa using h1
  by_cases h2 : b < 0
  ·have t2 : decide (b < 0) = true := by simpa using h2
   clear h; go_enter Tryz.func81, Tryz.ntmps81; go_wp2; go_ret; exact ⟨rfl, rfl⟩
  ·have t2 : decide (b < 0) = false := by simpa using h2
   have h3 : c < 0 := by omega
   have t3 : decide (c < 0) = true := by simpa using h3
   clear h; go_enter Tryz.func81, Tryz.ntmps81; go_wp2; go_ret; exact ⟨rfl, rfl⟩
set_option maxHeartbeats 1000000 in
theorem check_zero (a b : Int) (ha : 0 ≤ a) (hb : 0 ≤ b) (w : World) :
  Calls Tryz.prog 81 #[.int .i64 a, .int .i64 b, .int .i64 0] w fun e w' => e = .returned (.int .i64 6) ∧ w = w' := by
 have t1 : decide (a < 0) = false := by simpa using ha
 have t2 : decide (b < 0) = false := by simpa using hb
 go_enter Tryz.func81, Tryz.ntmps81; go_wp2; go_ret; exact ⟨rfl, rfl⟩
set_option maxHeartbeats 1000000 in
theorem check_ok (a b c : Int) (ha : 0 ≤ a) (hb : 0 ≤ b) (hc : 0 < c) (w : World) :
  Calls Tryz.prog 81 #[.int .i64 a, .int .i64 b, .int .i64 c] w fun e w' => e = .returned (.int .i64 0) ∧ w = w' := by
 have t1 : decide (a < 0) = false := by simpa using ha
 have t2 : decide (b < 0) = false := by simpa using hb
 have t3 : decide (c < 0) = false := by simp; omega
 have t4 : (c == 0) = false := by simp; omega
 go_enter Tryz.func81, Tryz.ntmps81; go_wp2; go_ret; exact ⟨rfl, rfl⟩
end Num
end Go.Proofs.YtfidmphajohljaaGreat
namespace Go.Proofs.YtfidmphajohljaaGreat
open Go.RowKit NumMath NumBits
namespace Num
set_option maxRecDepth 100000 in
set_option maxHeartbeats 1000000 in
theorem re_far_ok (a b c q l : Nat) (w : World) (hc : (c : Int) ≤ 9223372036854775807) (hl : l < c) (hq : (q : Int) ≤ 4000000000000000000)
  (H : ∀ w : World, Hid (Calls Tryz.prog 81 #[.int .i64 (a : Int), .int .i64 (b : Int), .int .i64 (c : Int)] w fun e w' => e = .returned (.int .i64 0) ∧ w = w'))
  (T : ∀ w : World, Hid (Calls Tryz.prog 82 #[.int .i64 (a : Int), .int .i64 (b : Int), .int .i64 (c : Int)] w fun e w' => e = .returned (.tuple #[.int .i64 (q : Int), .int .i64 (l : Int), .bool true]) ∧ w = w'))
  (hn : c < 2 * l) (hq0 : (q : Int) ≤ 3999999999999999999) :
  Calls Tryz.prog 46 #[.int .i64 (a : Int), .int .i64 (b : Int), .int .i64 (c : Int)] w fun e w' => e = .returned (.tuple #[.int .i64 ((q + 1 : Nat) : Int), .int .i64 0]) ∧ w = w' := by
 obtain ⟨d, hd⟩ : ∃ d : Nat, d = c - l := ⟨_, rfl⟩; have ed : (c : Int) - (l : Int) = (d : Int) := by omega
 have t1 : decide (d < l) = true := by simp; omega
 clear hn hd; obtain ⟨m, hm⟩ : ∃ m : Nat, m = q + 1 := ⟨_, rfl⟩; have em : (q : Int) + 1 = (m : Int) := by omega
 have t5 : decide ((4000000000000000000 : Int) < (m : Int)) = false := by simp; omega
 rw [← hm]; clear hm; go_enter Tryz.func46, Tryz.ntmps46
 go_wp2_with (first | (go_at_call 81; refine (H _).out.mono ?_; rintro e w1 ⟨rfl, rfl⟩) | (go_at_call 82; refine (T _).out.mono ?_; rintro e w1 ⟨rfl, rfl⟩))
 go_ret2; exact ⟨rfl, rfl⟩
set_option maxRecDepth 100000 in
set_option maxHeartbeats 1000000 in
theorem re_far_over (a b c q l : Nat) (w : World) (hc : (c : Int) ≤ 9223372036854775807) (hl : l < c) (hq : (q : Int) ≤ 4000000000000000000)
  (H : ∀ w : World, Hid (Calls Tryz.prog 81 #[.int .i64 (a : Int), .int .i64 (b : Int), .int .i64 (c : Int)] w fun e w' => e = .returned (.int .i64 0) ∧ w = w'))
  (T : ∀ w : World, Hid (Calls Tryz.prog 82 #[.int .i64 (a : Int), .int .i64 (b : Int), .int .i64 (c : Int)] w fun e w' => e = .returned (.tuple #[.int .i64 (q : Int), .int .i64 (l : Int), .bool true]) ∧ w = w'))
  (hn : c < 2 * l) (hq1 : Hid ((4000000000000000000 : Int) ≤ (q : Int))) :
  Calls Tryz.prog 46 #[.int .i64 (a : Int), .int .i64 (b : Int), .int .i64 (c : Int)] w fun e w' => e = .returned (.tuple #[.int .i64 0, .int .i64 5]) ∧ w = w' := by
 obtain ⟨d, hd⟩ : ∃ d : Nat, d = c - l := ⟨_, rfl⟩; have ed : (c : Int) - (l : Int) = (d : Int) := by omega
 have t1 : decide (d < l) = true := by simp; omega
 clear hn hd; obtain ⟨m, hm⟩ : ∃ m : Nat, m = q + 1 := ⟨_, rfl⟩; have em : (q : Int) + 1 = (m : Int) := by omega
 have t5 : decide ((4000000000000000000 : Int) < (m : Int)) = true := by have := hq1.out; simp; omega
 clear hm hq1; go_enter Tryz.func46, Tryz.ntmps46
 go_wp2_with (first | (go_at_call 81; refine (H _).out.mono ?_; rintro e w1 ⟨rfl, rfl⟩) | (go_at_call 82; refine (T _).out.mono ?_; rintro e w1 ⟨rfl, rfl⟩))
 go_ret2; exact ⟨rfl, rfl⟩
set_option maxRecDepth 100000 in
set_option maxHeartbeats 1000000 in
theorem re_near (a b c q l : Nat) (w : World) (hc : (c : Int) ≤ 9223372036854775807) (hl : l < c) (hq : (q : Int) ≤ 4000000000000000000)
  (H : ∀ w : World, Hid (Calls Tryz.prog 81 #[.int .i64 (a : Int), .int .i64 (b : Int), .int .i64 (c : Int)] w fun e w' => e = .returned (.int .i64 0) ∧ w = w'))
  (T : ∀ w : World, Hid (Calls Tryz.prog 82 #[.int .i64 (a : Int), .int .i64 (b : Int), .int .i64 (c : Int)] w fun e w' => e = .returned (.tuple #[.int .i64 (q : Int), .int .i64 (l : Int), .bool true]) ∧ w = w'))
  (hn : 2 * l < c) :
  Calls Tryz.prog 46 #[.int .i64 (a : Int), .int .i64 (b : Int), .int .i64 (c : Int)] w fun e w' => e = .returned (.tuple #[.int .i64 (q : Int), .int .i64 0]) ∧ w = w' := by
 obtain ⟨d, hd⟩ : ∃ d : Nat, d = c - l := ⟨_, rfl⟩; have ed : (c : Int) - (l : Int) = (d : Int) := by omega
 have t1 : decide (d < l) = false := by simp; omega
 have t2 : ((l : Int) == (d : Int)) = false := by rw [beq_eq_false_iff_ne]; omega
 have t4 : decide ((4000000000000000000 : Int) < (q : Int)) = false := by simp; omega
 clear hn hd; go_enter Tryz.func46, Tryz.ntmps46
 go_wp2_with (first | (go_at_call 81; refine (H _).out.mono ?_; rintro e w1 ⟨rfl, rfl⟩) | (go_at_call 82; refine (T _).out.mono ?_; rintro e w1 ⟨rfl, rfl⟩))
 go_ret2; exact ⟨rfl, rfl⟩
set_option maxRecDepth 100000 in
set_option maxHeartbeats 1000000 in
theorem re_tie_even (a b c q l : Nat) (w : World) (hc : (c : Int) ≤ 9223372036854775807) (hl : l < c) (hq : (q : Int) ≤ 4000000000000000000)
  (H : ∀ w : World, Hid (Calls Tryz.prog 81 #[.int .i64 (a : Int), .int .i64 (b : Int), .int .i64 (c : Int)] w fun e w' => e = .returned (.int .i64 0) ∧ w = w'))
  (T : ∀ w : World, Hid (Calls Tryz.prog 82 #[.int .i64 (a : Int), .int .i64 (b : Int), .int .i64 (c : Int)] w fun e w' => e = .returned (.tuple #[.int .i64 (q : Int), .int .i64 (l : Int), .bool true]) ∧ w = w'))
  (hn : c = 2 * l) (ho : q % 2 = 0) :
  Calls Tryz.prog 46 #[.int .i64 (a : Int), .int .i64 (b : Int), .int .i64 (c : Int)] w fun e w' => e = .returned (.tuple #[.int .i64 (q : Int), .int .i64 0]) ∧ w = w' := by
 obtain ⟨d, hd⟩ : ∃ d : Nat, d = c - l := ⟨_, rfl⟩; have ed : (c : Int) - (l : Int) = (d : Int) := by omega
 have t1 : decide (d < l) = false := by simp; omega
 have t2 : ((l : Int) == (d : Int)) = true := by rw [beq_iff_eq]; omega
 have t3 : ((q : Int) % 2 == 1) = false := by rw [beq_eq_false_iff_ne]; omega
 clear hn hd ho; have t4 : decide ((4000000000000000000 : Int) < (q : Int)) = false := by simp; omega
 go_enter Tryz.func46, Tryz.ntmps46
 go_wp2_with (first | (go_at_call 81; refine (H _).out.mono ?_; rintro e w1 ⟨rfl, rfl⟩) | (go_at_call 82; refine (T _).out.mono ?_; rintro e w1 ⟨rfl, rfl⟩))
 go_ret2; exact ⟨rfl, rfl⟩
set_option maxRecDepth 100000 in
set_option maxHeartbeats 1000000 in
theorem re_tie_ok (a b c q l : Nat) (w : World) (hc : (c : Int) ≤ 9223372036854775807) (hl : l < c) (hq : (q : Int) ≤ 4000000000000000000)
  (H : ∀ w : World, Hid (Calls Tryz.prog 81 #[.int .i64 (a : Int), .int .i64 (b : Int), .int .i64 (c : Int)] w fun e w' => e = .returned (.int .i64 0) ∧ w = w'))
  (T : ∀ w : World, Hid (Calls Tryz.prog 82 #[.int .i64 (a : Int), .int .i64 (b : Int), .int .i64 (c : Int)] w fun e w' => e = .returned (.tuple #[.int .i64 (q : Int), .int .i64 (l : Int), .bool true]) ∧ w = w'))
  (hn : c = 2 * l) (ho : q % 2 = 1) (hq0 : (q : Int) ≤ 3999999999999999999) :
  Calls Tryz.prog 46 #[.int .i64 (a : Int), .int .i64 (b : Int), .int .i64 (c : Int)] w fun e w' => e = .returned (.tuple #[.int .i64 ((q + 1 : Nat) : Int), .int .i64 0]) ∧ w = w' := by
 obtain ⟨d, hd⟩ : ∃ d : Nat, d = c - l := ⟨_, rfl⟩; have ed : (c : Int) - (l : Int) = (d : Int) := by omega
 have t1 : decide (d < l) = false := by simp; omega
 have t2 : ((l : Int) == (d : Int)) = true := by rw [beq_iff_eq]; omega
 have t3 : ((q : Int) % 2 == 1) = true := by rw [beq_iff_eq]; omega
 clear hn hd ho; obtain ⟨m, hm⟩ : ∃ m : Nat, m = q + 1 := ⟨_, rfl⟩; have em : (q : Int) + 1 = (m : Int) := by omega
 have t5 : decide ((4000000000000000000 : Int) < (m : Int)) = false := by simp; omega
 rw [← hm]; clear hm; go_enter Tryz.func46, Tryz.ntmps46
 go_wp2_with (first | (go_at_call 81; refine (H _).out.mono ?_; rintro e w1 ⟨rfl, rfl⟩) | (go_at_call 82; refine (T _).out.mono ?_; rintro e w1 ⟨rfl, rfl⟩))
 go_ret2; exact ⟨rfl, rfl⟩
set_option maxRecDepth 100000 in
set_option maxHeartbeats 1000000 in
theorem re_tie_over (a b c q l : Nat) (w : World) (hc : (c : Int) ≤ 9223372036854775807) (hl : l < c) (hq : (q : Int) ≤ 4000000000000000000)
  (H : ∀ w : World, Hid (Calls Tryz.prog 81 #[.int .i64 (a : Int), .int .i64 (b : Int), .int .i64 (c : Int)] w fun e w' => e = .returned (.int .i64 0) ∧ w = w'))
  (T : ∀ w : World, Hid (Calls Tryz.prog 82 #[.int .i64 (a : Int), .int .i64 (b : Int), .int .i64 (c : Int)] w fun e w' => e = .returned (.tuple #[.int .i64 (q : Int), .int .i64 (l : Int), .bool true]) ∧ w = w'))
  (hn : c = 2 * l) (ho : q % 2 = 1) (hq1 : Hid ((4000000000000000000 : Int) ≤ (q : Int))) :
  Calls Tryz.prog 46 #[.int .i64 (a : Int), .int .i64 (b : Int), .int .i64 (c : Int)] w fun e w' => e = .returned (.tuple #[.int .i64 0, .int .i64 5]) ∧ w = w' := by
 obtain ⟨d, hd⟩ : ∃ d : Nat, d = c - l := ⟨_, rfl⟩; have ed : (c : Int) - (l : Int) = (d : Int) := by omega
 have t1 : decide (d < l) = false := by simp; omega
 have t2 : ((l : Int) == (d : Int)) = true := by rw [beq_iff_eq]; omega
 have t3 : ((q : Int) % 2 == 1) = true := by rw [beq_iff_eq]; omega
 clear hn hd ho; obtain ⟨m, hm⟩ : ∃ m : Nat, m = q + 1 := ⟨_, rfl⟩; have em : (q : Int) + 1 = (m : Int) := by omega
 have t5 : decide ((4000000000000000000 : Int) < (m : Int)) = true := by have := hq1.out; simp; omega
 clear hm hq1; go_enter Tryz.func46, Tryz.ntmps46
 go_wp2_with (first | (go_at_call 81; refine (H _).out.mono ?_; rintro e w1 ⟨rfl, rfl⟩) | (go_at_call 82; refine (T _).out.mono ?_; rintro e w1 ⟨rfl, rfl⟩))
 go_ret2; exact ⟨rfl, rfl⟩
set_option maxHeartbeats 1000000 in
theorem refEven (a b c : Int) (w : World) (ha : -9223372036854775808 ≤ a ∧ a ≤ 9223372036854775807) (hb : -9223372036854775808 ≤ b ∧ b ≤ 9223372036854775807) (hc : -9223372036854775808 ≤ c ∧ c ≤ 9223372036854775807) :
  Calls Tryz.prog 46 #[.int .i64 a, .int .i64 b, .int .i64 c] w fun e w' => e = .returned (.tuple #[.int .i64 (evV a b c), .int .i64 (evE a b c)]) ∧ w = w' := by
 by_cases h1 : a < 0 ∨ b < 0 ∨ c < 0
 ·rw [evV, evE, nums_arg h1]; have H := fun w => Lib.hid (check_arg a b c h1 w)
  clear h1; go_enter Tryz.func46, Tryz.ntmps46
  go_wp2_with (go_at_call 81; refine (H _).out.mono ?_; rintro e w1 ⟨rfl, rfl⟩)
  go_ret2; exact ⟨rfl, rfl⟩
 ·by_cases h2 : c = 0
  ·subst h2; rw [evV, evE, nums_zero (by omega) (by omega)]; have H := fun w => Lib.hid (check_zero a b (by omega) (by omega) w)
   clear h1; go_enter Tryz.func46, Tryz.ntmps46
   go_wp2_with (go_at_call 81; refine (H _).out.mono ?_; rintro e w1 ⟨rfl, rfl⟩)
   go_ret2; exact ⟨rfl, rfl⟩
  ·obtain ⟨a, rfl⟩ := Int.eq_ofNat_of_zero_le (a := a) (by omega); obtain ⟨b, rfl⟩ := Int.eq_ofNat_of_zero_le (a := b) (by omega); obtain ⟨c, rfl⟩ := Int.eq_ofNat_of_zero_le (a := c) (by omega); have H := fun w => Lib.hid (check_ok a b c (by omega) (by omega) (by omega) w)
   have T := fun w => Lib.hid (two a b c (by omega) (by omega) (by omega) (by omega) w)
   have hqq := quo_ge (up := nearB) (a := a) (b := b) (c := c); have hm : a * b % c < c := Nat.mod_lt _ (by omega); by_cases h4 : a * b / c ≤ 4000000000000000000
   ·simp only [twoVal, if_pos h4] at T; have yes : nearB (a * b / c) (a * b % c) c = true → quo nearB a b c = a * b / c + 1 := fun h => by rw [quo, if_pos h]
    have no : nearB (a * b / c) (a * b % c) c = false → quo nearB a b c = a * b / c := fun h => by rw [quo, if_neg (by rw [h]; decide)]
    have okk := fun h => nums_ok (up := nearB) (a := a) (b := b) (c := c) (by omega) h
    have ovv := fun h => nums_over (up := nearB) (a := a) (b := b) (c := c) (by omega) h
    rw [evV, evE]; generalize hQ : a * b / c = q at *; generalize hL : a * b % c = l at *; rcases Nat.lt_trichotomy c (2 * l) with h | h | h
    ·have hu := yes (by simp [nearB, h]); by_cases h5 : q ≤ 3999999999999999999
     ·rw [okk (by rw [hu]; omega), hu]; exact re_far_ok a b c q l w (by omega) hm (by omega) H T h (by omega)
     ·rw [ovv (by rw [hu]; omega)]; exact re_far_over a b c q l w (by omega) hm (by omega) H T h (Lib.hid (by omega))
    ·by_cases h6 : q % 2 = 1
     ·have hu := yes (by simp [nearB, h, h6]); by_cases h5 : q ≤ 3999999999999999999
      ·rw [okk (by rw [hu]; omega), hu]; exact re_tie_ok a b c q l w (by omega) hm (by omega) H T h h6 (by omega)
      ·rw [ovv (by rw [hu]; omega)]; exact re_tie_over a b c q l w (by omega) hm (by omega) H T h h6 (Lib.hid (by omega))
     ·have hu := no (by simp [nearB, h, h6]); rw [okk (by rw [hu]; omega), hu]; exact re_tie_even a b c q l w (by omega) hm (by omega) H T h (by omega)
    ·have hu := no (by simp [nearB]; omega); rw [okk (by rw [hu]; omega), hu]; exact re_near a b c q l w (by omega) hm (by omega) H T h
   ·have e : nums nearB a b c = _ := nums_over (by omega) (by omega); rw [evV, evE, e]; simp only [twoVal, if_neg h4] at T; clear h1 h2 h4 e hqq hm; go_enter Tryz.func46, Tryz.ntmps46
    go_wp2_with (first | (go_at_call 81; refine (H _).out.mono ?_; rintro e w1 ⟨rfl, rfl⟩) | (go_at_call 82; refine (T _).out.mono ?_; rintro e w1 ⟨rfl, rfl⟩))
    go_ret2; exact ⟨rfl, rfl⟩
set_option maxHeartbeats 1000000 in
theorem refBp (a b : Int) (w : World) (ha : -9223372036854775808 ≤ a ∧ a ≤ 9223372036854775807) (hb : -9223372036854775808 ≤ b ∧ b ≤ 9223372036854775807) :
  Calls Tryz.prog 22 #[.int .i64 a, .int .i64 b] w fun e w' => e = .returned (.tuple #[.int .i64 (evV a b 10000), .int .i64 (evE a b 10000)]) ∧ w = w' := by
 have H := Lib.hid (refEven a b 10000 w ha hb (by omega)); go_enter Tryz.func22, Tryz.ntmps22
 go_wp2_with (go_at_call 46; refine H.out.mono ?_; rintro e w1 ⟨rfl, rfl⟩)
 go_ret2; exact ⟨rfl, rfl⟩
end Num
end Go.Proofs.YtfidmphajohljaaGreat
