/-
  The parts QEven, QRYear of this proof. Conditions: those of each theorem.
-/
import Derived.Test.YtplenoaajokpjaaGreatKNu
import Derived.Test.YtplenoaajokpjaaGreatMQb
import Derived.Test.YtplenoaajokpjaaGreatKQYear
import Derived.Deep.RegionHeld3
namespace Go.Proofs.YtplenoaajokpjaaGreat
open Go.RowKit NumMath NumBits
namespace Num
def TwoI (a b c j q l : Nat) : Prop := a / 2 ^ j * b = q * c + l ∧ l < c
theorem dbl0 {A b c q l : Nat} (h : A * b = q * c + l) : (2 * A) * b = (2 * q) * c + 2 * l := by
 rw [Nat.mul_assoc, h, Nat.mul_add, Nat.mul_assoc]
theorem dbl1 {A b c q l : Nat} (h : A * b = q * c + l) (hl : c ≤ 2 * l) : (2 * A) * b = (2 * q + 1) * c + (2 * l - c) := by
 rw [dbl0 h, Nat.add_mul, Nat.one_mul]; omega
theorem add0 {A b c q l wh rs : Nat} (h : A * b = q * c + l) (hb : b = wh * c + rs) : (A + 1) * b = (q + wh) * c + (l + rs) := by
 rw [Nat.add_mul, h, Nat.one_mul, Nat.add_mul]; omega
theorem add1 {A b c q l wh rs : Nat} (h : A * b = q * c + l) (hb : b = wh * c + rs) (hl : c ≤ l + rs) : (A + 1) * b = (q + wh + 1) * c + (l + rs - c) := by
 rw [add0 h hb, Nat.add_mul (q + wh), Nat.one_mul]; omega
theorem half_bit (a k : Nat) : a / 2 ^ k = 2 * (a / 2 ^ (k + 1)) + a / 2 ^ k % 2 := by
 rw [Nat.pow_succ, ← Nat.div_div_eq_div_mul]; omega
theorem two_out {a b c q l : Nat} (h : TwoI a b c 0 q l) : q = a * b / c ∧ l = a * b % c := by
 obtain ⟨h1, h2⟩ := h; simp only [Nat.pow_zero, Nat.div_one] at h1; rw [h1]; have hc : 0 < c := by omega
 constructor
 ·rw [Nat.mul_comm, Nat.mul_add_div hc, Nat.div_eq_of_lt h2, Nat.add_zero]
 ·rw [Nat.mul_comm, Nat.mul_add_mod, Nat.mod_eq_of_lt h2]
theorem two_over {a b c k q l : Nat} (h : TwoI a b c k q l) (hq : 4000000000000000000 < q) : 4000000000000000000 < a * b / c := by
 obtain ⟨h1, h2⟩ := h; have hc : 0 < c := by omega
 refine Nat.lt_of_lt_of_le hq ?_; rw [Nat.le_div_iff_mul_le hc]; have h3 : a / 2 ^ k * b ≤ a * b := Nat.mul_le_mul_right _ (Nat.div_le_self _ _); omega
def twoVal (a b c : Nat) : Value := if a * b / c ≤ 4000000000000000000 then .tuple #[.int .i64 ((a * b / c : Nat) : Int), .int .i64 ((a * b % c : Nat) : Int), .bool true] else .tuple #[.int .i64 0, .int .i64 0, .bool false]
theorem twoVal_ok {a b c q l : Nat} (h : TwoI a b c 0 q l) (hq : (q : Int) ≤ 4000000000000000000) : Ending.returned (.tuple #[.int .i64 (q : Int), .int .i64 (l : Int), .bool true]) = .returned (twoVal a b c) := by
 obtain ⟨h1, h2⟩ := two_out h; rw [twoVal, ← h1, ← h2, if_pos (by omega)]
theorem twoVal_no {a b c k q l : Nat} (h : TwoI a b c k q l) (hq : (4000000000000000000 : Int) < (q : Int)) : Ending.returned (.tuple #[.int .i64 0, .int .i64 0, .bool false]) = .returned (twoVal a b c) := by
 have := two_over h (by omega); rw [twoVal, if_neg (by omega)]
set_option maxRecDepth 100000 in
set_option maxHeartbeats 2000000 in
theorem two_walk (a b c wh rs : Nat) (ha : (a : Int) ≤ 9223372036854775807) (hb : (b : Int) ≤ 9223372036854775807) (hc : (c : Int) ≤ 9223372036854775807) (hc0 : 0 < c)
  (ew : IntKind.u64.wrap ((b : Int) / (c : Int)) = wh) (er : (b : Int) % (c : Int) = rs) (hbb : Hid (b = wh * c + rs)) (hrs : rs < c) (hwh : (wh : Int) ≤ 9223372036854775807) (w : World) :
  Calls Tryz.prog 147 #[.int .i64 (a : Int), .int .i64 (b : Int), .int .i64 (c : Int)] w fun e w' => e = .returned (twoVal a b c) ∧ w = w' := by
 have hz : ((c : Int) == 0) = false := by simp; omega
 go_enter Tryz.func147, Tryz.ntmps147; go_wp2; rw [er]
 go_loop [9, 10, 14] (fun q l k => ∃ j qn ln : Nat, j ≤ 63 ∧ q = .int .u64 (qn : Int) ∧ l = .int .u64 (ln : Int) ∧ k = .int .i64 ((j : Int) - 1) ∧ Hid (TwoI a b c j qn ln) ∧ (qn : Int) ≤ 4000000000000000000) (fun _ _ k => (intOf k + 1).toNat)
 case atStart =>
  refine ⟨63, 0, 0, by omega, rfl, rfl, rfl, Lib.hid ⟨?_, hc0⟩, by omega⟩; rw [Nat.div_eq_of_lt (by simp only [Nat.reducePow]; omega)]; omega
 case round =>
  clear er ew; obtain ⟨j, q, l, hj, rfl, rfl, rfl, HI, hq⟩ := hrel; have hl := HI.out.2; rcases j with _ | k
  ·rw [show ((0 : Nat) : Int) - 1 = -1 from rfl]; go_wp2
   go_ret3
   exact ⟨twoVal_ok HI.out hq, rfl⟩
  ·have ek : ((k + 1 : Nat) : Int) - 1 = (k : Int) := by omega
   rw [ek]; obtain ⟨bit, hbit⟩ : ∃ bit : Nat, bit = a / 2 ^ k % 2 := ⟨_, rfl⟩; have hk : k ≤ 62 := by omega
   have HB := Lib.hid hbit; clear hj ek hbit; obtain ⟨m1, hm1⟩ : ∃ m1 : Nat, m1 = 2 * l := ⟨_, rfl⟩; obtain ⟨p1, hp1⟩ : ∃ p1 : Nat, p1 = 2 * q := ⟨_, rfl⟩; have em1 : 2 * (l : Int) = (m1 : Int) := by omega
   have ep1 : 2 * (q : Int) = (p1 : Int) := by omega
   have bm1 : (m1 : Int) ≤ 18446744073709551614 := by omega
   have bp1 : (p1 : Int) ≤ 8000000000000000000 := by omega
   have HM := Lib.hid hm1; have HP := Lib.hid hp1; clear hm1 hp1; by_cases hd : c ≤ m1
   ·have t1 : decide (c ≤ m1) = true := by simpa using hd
    obtain ⟨m2, hm2⟩ : ∃ m2 : Nat, m2 = m1 - c := ⟨_, rfl⟩; obtain ⟨p2, hp2⟩ : ∃ p2 : Nat, p2 = p1 + 1 := ⟨_, rfl⟩; have em2 : (m1 : Int) - (c : Int) = (m2 : Int) := by omega
    have ep2 : (p1 : Int) + 1 = (p2 : Int) := by omega
    have bp2 : (p2 : Int) ≤ 8000000000000000001 := by omega
    have HM2 := Lib.hid hm2; have HP2 := Lib.hid hp2; clear hm2 hp2; have hD : Hid (2 * (a / 2 ^ (k + 1)) * b = p2 * c + m2) := Lib.hid (by rw [HM2.out, HP2.out, HM.out, HP.out]; exact dbl1 HI.out.1 (by rw [← HM.out]; exact hd)); have hL : m2 < c := by have := HM.out; have := HM2.out; omega
    by_cases hb1 : bit = 1
    ·have tb : (((a : Int) / 2 ^ k).tmod 2 == 1) = true := by rw [pow_cast, ← Int.natCast_ediv, beq_iff_eq, Int.tmod_eq_emod_of_nonneg (Int.natCast_nonneg _)]; have := HB.out; omega
     obtain ⟨m3, hm3⟩ : ∃ m3 : Nat, m3 = m2 + rs := ⟨_, rfl⟩; obtain ⟨p3, hp3⟩ : ∃ p3 : Nat, p3 = p2 + wh := ⟨_, rfl⟩; have em3 : (m2 : Int) + (rs : Int) = (m3 : Int) := by omega
     have ep3 : (p2 : Int) + (wh : Int) = (p3 : Int) := by omega
     have bm3 : (m3 : Int) ≤ 18446744073709551614 := by omega
     have bp3 : (p3 : Int) ≤ 17223372036854775808 := by omega
     have HA : Hid (a / 2 ^ k = 2 * (a / 2 ^ (k + 1)) + 1) := Lib.hid (by rw [half_bit a k, ← HB.out, hb1]); have HM3 := Lib.hid hm3; have HP3 := Lib.hid hp3; clear hm3 hp3 hb1; by_cases he : c ≤ m3
     ·have t3 : decide (c ≤ m3) = true := by simpa using he
      obtain ⟨m4, hm4⟩ : ∃ m4 : Nat, m4 = m3 - c := ⟨_, rfl⟩; obtain ⟨p4, hp4⟩ : ∃ p4 : Nat, p4 = p3 + 1 := ⟨_, rfl⟩; have em4 : (m3 : Int) - (c : Int) = (m4 : Int) := by omega
      have ep4 : (p3 : Int) + 1 = (p4 : Int) := by omega
      have bp4 : (p4 : Int) ≤ 17223372036854775809 := by omega
      have HM4 := Lib.hid hm4; have HP4 := Lib.hid hp4; clear hm4 hp4; have HT : Hid (TwoI a b c k p4 m4) := Lib.hid (by refine ⟨?_, by have := HM4.out; have := HM3.out; omega⟩; rw [HA.out, HM4.out, HP4.out, HM3.out, HP3.out]; exact add1 hD.out hbb.out (by rw [← HM3.out]; exact he)); by_cases hov : (4000000000000000000 : Int) < (p4 : Int)
      ·have tov : decide ((4000000000000000000 : Int) < (p4 : Int)) = true := by simpa using hov
       have HO := Lib.hid hov; clear hov; go_wp2
       go_ret3
       exact ⟨twoVal_no HT.out HO.out, rfl⟩
      ·have tov : decide ((4000000000000000000 : Int) < (p4 : Int)) = false := by simpa using hov
       have HO := Lib.hid hov; clear hov; go_wp2
       go_round
       case rel => exact ⟨k, p4, m4, by omega, rfl, rfl, rfl, HT, by have := HO.out; omega⟩
       case measure => simp [intOf]
     ·have t3 : decide (c ≤ m3) = false := by simpa using he
      have HT : Hid (TwoI a b c k p3 m3) := Lib.hid (by refine ⟨?_, by omega⟩; rw [HA.out, HM3.out, HP3.out]; exact add0 hD.out hbb.out); by_cases hov : (4000000000000000000 : Int) < (p3 : Int)
      ·have tov : decide ((4000000000000000000 : Int) < (p3 : Int)) = true := by simpa using hov
       have HO := Lib.hid hov; clear hov; go_wp2
       go_ret3
       exact ⟨twoVal_no HT.out HO.out, rfl⟩
      ·have tov : decide ((4000000000000000000 : Int) < (p3 : Int)) = false := by simpa using hov
       have HO := Lib.hid hov; clear hov; go_wp2
       go_round
       case rel => exact ⟨k, p3, m3, by omega, rfl, rfl, rfl, HT, by have := HO.out; omega⟩
       case measure => simp [intOf]
    ·have tb : (((a : Int) / 2 ^ k).tmod 2 == 1) = false := by rw [pow_cast, ← Int.natCast_ediv, beq_eq_false_iff_ne, Int.tmod_eq_emod_of_nonneg (Int.natCast_nonneg _)]; have := HB.out; omega
     have HA : Hid (a / 2 ^ k = 2 * (a / 2 ^ (k + 1))) := Lib.hid (by rw [half_bit a k, ← HB.out]; have := HB.out; omega); clear hb1; have HT : Hid (TwoI a b c k p2 m2) := Lib.hid (by refine ⟨?_, hL⟩; rw [HA.out]; exact hD.out); by_cases hov : (4000000000000000000 : Int) < (p2 : Int)
     ·have tov : decide ((4000000000000000000 : Int) < (p2 : Int)) = true := by simpa using hov
      have HO := Lib.hid hov; clear hov; go_wp2
      go_ret3
      exact ⟨twoVal_no HT.out HO.out, rfl⟩
     ·have tov : decide ((4000000000000000000 : Int) < (p2 : Int)) = false := by simpa using hov
      have HO := Lib.hid hov; clear hov; go_wp2
      go_round
      case rel => exact ⟨k, p2, m2, by omega, rfl, rfl, rfl, HT, by have := HO.out; omega⟩
      case measure => simp [intOf]
   ·have t1 : decide (c ≤ m1) = false := by simpa using hd
    have hD : Hid (2 * (a / 2 ^ (k + 1)) * b = p1 * c + m1) := Lib.hid (by rw [HM.out, HP.out]; exact dbl0 HI.out.1); have hL : m1 < c := by have := HM.out; omega
    by_cases hb1 : bit = 1
    ·have tb : (((a : Int) / 2 ^ k).tmod 2 == 1) = true := by rw [pow_cast, ← Int.natCast_ediv, beq_iff_eq, Int.tmod_eq_emod_of_nonneg (Int.natCast_nonneg _)]; have := HB.out; omega
     obtain ⟨m3, hm3⟩ : ∃ m3 : Nat, m3 = m1 + rs := ⟨_, rfl⟩; obtain ⟨p3, hp3⟩ : ∃ p3 : Nat, p3 = p1 + wh := ⟨_, rfl⟩; have em3 : (m1 : Int) + (rs : Int) = (m3 : Int) := by omega
     have ep3 : (p1 : Int) + (wh : Int) = (p3 : Int) := by omega
     have bm3 : (m3 : Int) ≤ 18446744073709551614 := by omega
     have bp3 : (p3 : Int) ≤ 17223372036854775808 := by omega
     have HA : Hid (a / 2 ^ k = 2 * (a / 2 ^ (k + 1)) + 1) := Lib.hid (by rw [half_bit a k, ← HB.out, hb1]); have HM3 := Lib.hid hm3; have HP3 := Lib.hid hp3; clear hm3 hp3 hb1; by_cases he : c ≤ m3
     ·have t3 : decide (c ≤ m3) = true := by simpa using he
      obtain ⟨m4, hm4⟩ : ∃ m4 : Nat, m4 = m3 - c := ⟨_, rfl⟩; obtain ⟨p4, hp4⟩ : ∃ p4 : Nat, p4 = p3 + 1 := ⟨_, rfl⟩; have em4 : (m3 : Int) - (c : Int) = (m4 : Int) := by omega
      have ep4 : (p3 : Int) + 1 = (p4 : Int) := by omega
      have bp4 : (p4 : Int) ≤ 17223372036854775809 := by omega
      have HM4 := Lib.hid hm4; have HP4 := Lib.hid hp4; clear hm4 hp4; have HT : Hid (TwoI a b c k p4 m4) := Lib.hid (by refine ⟨?_, by have := HM4.out; have := HM3.out; omega⟩; rw [HA.out, HM4.out, HP4.out, HM3.out, HP3.out]; exact add1 hD.out hbb.out (by rw [← HM3.out]; exact he)); by_cases hov : (4000000000000000000 : Int) < (p4 : Int)
      ·have tov : decide ((4000000000000000000 : Int) < (p4 : Int)) = true := by simpa using hov
       have HO := Lib.hid hov; clear hov; go_wp2
       go_ret3
       exact ⟨twoVal_no HT.out HO.out, rfl⟩
      ·have tov : decide ((4000000000000000000 : Int) < (p4 : Int)) = false := by simpa using hov
       have HO := Lib.hid hov; clear hov; go_wp2
       go_round
       case rel => exact ⟨k, p4, m4, by omega, rfl, rfl, rfl, HT, by have := HO.out; omega⟩
       case measure => simp [intOf]
     ·have t3 : decide (c ≤ m3) = false := by simpa using he
      have HT : Hid (TwoI a b c k p3 m3) := Lib.hid (by refine ⟨?_, by omega⟩; rw [HA.out, HM3.out, HP3.out]; exact add0 hD.out hbb.out); by_cases hov : (4000000000000000000 : Int) < (p3 : Int)
      ·have tov : decide ((4000000000000000000 : Int) < (p3 : Int)) = true := by simpa using hov
       have HO := Lib.hid hov; clear hov; go_wp2
       go_ret3
       exact ⟨twoVal_no HT.out HO.out, rfl⟩
      ·have tov : decide ((4000000000000000000 : Int) < (p3 : Int)) = false := by simpa using hov
       have HO := Lib.hid hov; clear hov; go_wp2
       go_round
       case rel => exact ⟨k, p3, m3, by omega, rfl, rfl, rfl, HT, by have := HO.out; omega⟩
       case measure => simp [intOf]
    ·have tb : (((a : Int) / 2 ^ k).tmod 2 == 1) = false := by rw [pow_cast, ← Int.natCast_ediv, beq_eq_false_iff_ne, Int.tmod_eq_emod_of_nonneg (Int.natCast_nonneg _)]; have := HB.out; omega
     have HA : Hid (a / 2 ^ k = 2 * (a / 2 ^ (k + 1))) := Lib.hid (by rw [half_bit a k, ← HB.out]; have := HB.out; omega); clear hb1; have HT : Hid (TwoI a b c k p1 m1) := Lib.hid (by refine ⟨?_, hL⟩; rw [HA.out]; exact hD.out); by_cases hov : (4000000000000000000 : Int) < (p1 : Int)
     ·have tov : decide ((4000000000000000000 : Int) < (p1 : Int)) = true := by simpa using hov
      have HO := Lib.hid hov; clear hov; go_wp2
      go_ret3
      exact ⟨twoVal_no HT.out HO.out, rfl⟩
     ·have tov : decide ((4000000000000000000 : Int) < (p1 : Int)) = false := by simpa using hov
      have HO := Lib.hid hov; clear hov; go_wp2
      go_round
      case rel => exact ⟨k, p1, m1, by omega, rfl, rfl, rfl, HT, by have := HO.out; omega⟩
      case measure => simp [intOf]
theorem two (a b c : Nat) (ha : a < 9223372036854775808) (hb : b < 9223372036854775808) (hc : c < 9223372036854775808) (hc0 : 0 < c) (w : World) :
  Calls Tryz.prog 147 #[.int .i64 (a : Int), .int .i64 (b : Int), .int .i64 (c : Int)] w fun e w' => e = .returned (twoVal a b c) ∧ w = w' := by
 have hw : b / c ≤ b := Nat.div_le_self _ _; exact two_walk a b c (b / c) (b % c) (by omega) (by omega) (by omega) hc0 (by rw [← Int.natCast_ediv, wrapN _ (by omega)]) (Int.natCast_emod _ _).symm (Lib.hid (Nat.div_add_mod' b c).symm) (Nat.mod_lt _ hc0) (by omega) w
set_option maxHeartbeats 1000000 in
theorem check_arg (a b c : Int) (h : a < 0 ∨ b < 0 ∨ c < 0) (w : World) :
  Calls Tryz.prog 146 #[.int .i64 a, .int .i64 b, .int .i64 c] w fun e w' => e = .returned (.int .i64 1) ∧ w = w' := by
 by_cases h1 : a < 0
 ·have t1 : decide (a < 0) = true := by simpa using h1
  clear h; go_enter Tryz.func146, Tryz.ntmps146; go_wp2; go_ret; exact ⟨rfl, rfl⟩
 ·have t1 : decide (a < 0) = false := by simpa using h1
  by_cases h2 : b < 0
  ·have t2 : decide (b < 0) = true := by simpa using h2
   clear h; go_enter Tryz.func146, Tryz.ntmps146; go_wp2; go_ret; exact ⟨rfl, rfl⟩
  ·have t2 : decide (b < 0) = false := by simpa using h2
   have h3 : c < 0 := by omega
   have t3 : decide (c < 0) = true := by simpa using h3
   clear h; go_enter Tryz.func146, Tryz.ntmps146; go_wp2; go_ret; exact ⟨rfl, rfl⟩
set_option maxHeartbeats 1000000 in
theorem check_zero (a b : Int) (ha : 0 ≤ a) (hb : 0 ≤ b) (w : World) :
  Calls Tryz.prog 146 #[.int .i64 a, .int .i64 b, .int .i64 0] w fun e w' => e = .returned (.int .i64 6) ∧ w = w' := by
 have t1 : decide (a < 0) = false := by simpa using ha
 have t2 : decide (b < 0) = false := by simpa using hb
 go_enter Tryz.func146, Tryz.ntmps146; go_wp2; go_ret; exact ⟨rfl, rfl⟩
set_option maxHeartbeats 1000000 in
theorem check_ok (a b c : Int) (ha : 0 ≤ a) (hb : 0 ≤ b) (hc : 0 < c) (w : World) :
  Calls Tryz.prog 146 #[.int .i64 a, .int .i64 b, .int .i64 c] w fun e w' => e = .returned (.int .i64 0) ∧ w = w' := by
 have t1 : decide (a < 0) = false := by simpa using ha
 have t2 : decide (b < 0) = false := by simpa using hb
 have t3 : decide (c < 0) = false := by simp; omega
 have t4 : (c == 0) = false := by simp; omega
 go_enter Tryz.func146, Tryz.ntmps146; go_wp2; go_ret; exact ⟨rfl, rfl⟩
end Num
end Go.Proofs.YtplenoaajokpjaaGreat
namespace Go.Proofs.YtplenoaajokpjaaGreat
open Go.RowKit NumMath NumBits
namespace Num
set_option maxRecDepth 100000 in
set_option maxHeartbeats 1000000 in
theorem re_far_ok (a b c q l : Nat) (w : World) (hc : (c : Int) ≤ 9223372036854775807) (hl : l < c) (hq : (q : Int) ≤ 4000000000000000000)
  (H : ∀ w : World, Hid (Calls Tryz.prog 146 #[.int .i64 (a : Int), .int .i64 (b : Int), .int .i64 (c : Int)] w fun e w' => e = .returned (.int .i64 0) ∧ w = w'))
  (T : ∀ w : World, Hid (Calls Tryz.prog 147 #[.int .i64 (a : Int), .int .i64 (b : Int), .int .i64 (c : Int)] w fun e w' => e = .returned (.tuple #[.int .i64 (q : Int), .int .i64 (l : Int), .bool true]) ∧ w = w'))
  (hn : c < 2 * l) (hq0 : (q : Int) ≤ 3999999999999999999) :
  Calls Tryz.prog 127 #[.int .i64 (a : Int), .int .i64 (b : Int), .int .i64 (c : Int)] w fun e w' => e = .returned (.tuple #[.int .i64 ((q + 1 : Nat) : Int), .int .i64 0]) ∧ w = w' := by
 obtain ⟨d, hd⟩ : ∃ d : Nat, d = c - l := ⟨_, rfl⟩; have ed : (c : Int) - (l : Int) = (d : Int) := by omega
 have t1 : decide (d < l) = true := by simp; omega
 clear hn hd; obtain ⟨m, hm⟩ : ∃ m : Nat, m = q + 1 := ⟨_, rfl⟩; have em : (q : Int) + 1 = (m : Int) := by omega
 have t5 : decide ((4000000000000000000 : Int) < (m : Int)) = false := by simp; omega
 rw [← hm]; clear hm; go_enter Tryz.func127, Tryz.ntmps127
 go_wp2_with (first | (go_at_call 146; refine (H _).out.mono ?_; rintro e w1 ⟨rfl, rfl⟩) | (go_at_call 147; refine (T _).out.mono ?_; rintro e w1 ⟨rfl, rfl⟩))
 go_ret2; exact ⟨rfl, rfl⟩
set_option maxRecDepth 100000 in
set_option maxHeartbeats 1000000 in
theorem re_far_over (a b c q l : Nat) (w : World) (hc : (c : Int) ≤ 9223372036854775807) (hl : l < c) (hq : (q : Int) ≤ 4000000000000000000)
  (H : ∀ w : World, Hid (Calls Tryz.prog 146 #[.int .i64 (a : Int), .int .i64 (b : Int), .int .i64 (c : Int)] w fun e w' => e = .returned (.int .i64 0) ∧ w = w'))
  (T : ∀ w : World, Hid (Calls Tryz.prog 147 #[.int .i64 (a : Int), .int .i64 (b : Int), .int .i64 (c : Int)] w fun e w' => e = .returned (.tuple #[.int .i64 (q : Int), .int .i64 (l : Int), .bool true]) ∧ w = w'))
  (hn : c < 2 * l) (hq1 : Hid ((4000000000000000000 : Int) ≤ (q : Int))) :
  Calls Tryz.prog 127 #[.int .i64 (a : Int), .int .i64 (b : Int), .int .i64 (c : Int)] w fun e w' => e = .returned (.tuple #[.int .i64 0, .int .i64 5]) ∧ w = w' := by
 obtain ⟨d, hd⟩ : ∃ d : Nat, d = c - l := ⟨_, rfl⟩; have ed : (c : Int) - (l : Int) = (d : Int) := by omega
 have t1 : decide (d < l) = true := by simp; omega
 clear hn hd; obtain ⟨m, hm⟩ : ∃ m : Nat, m = q + 1 := ⟨_, rfl⟩; have em : (q : Int) + 1 = (m : Int) := by omega
 have t5 : decide ((4000000000000000000 : Int) < (m : Int)) = true := by have := hq1.out; simp; omega
 clear hm hq1; go_enter Tryz.func127, Tryz.ntmps127
 go_wp2_with (first | (go_at_call 146; refine (H _).out.mono ?_; rintro e w1 ⟨rfl, rfl⟩) | (go_at_call 147; refine (T _).out.mono ?_; rintro e w1 ⟨rfl, rfl⟩))
 go_ret2; exact ⟨rfl, rfl⟩
set_option maxRecDepth 100000 in
set_option maxHeartbeats 1000000 in
theorem re_near (a b c q l : Nat) (w : World) (hc : (c : Int) ≤ 9223372036854775807) (hl : l < c) (hq : (q : Int) ≤ 4000000000000000000)
  (H : ∀ w : World, Hid (Calls Tryz.prog 146 #[.int .i64 (a : Int), .int .i64 (b : Int), .int .i64 (c : Int)] w fun e w' => e = .returned (.int .i64 0) ∧ w = w'))
  (T : ∀ w : World, Hid (Calls Tryz.prog 147 #[.int .i64 (a : Int), .int .i64 (b : Int), .int .i64 (c : Int)] w fun e w' => e = .returned (.tuple #[.int .i64 (q : Int), .int .i64 (l : Int), .bool true]) ∧ w = w'))
  (hn : 2 * l < c) :
  Calls Tryz.prog 127 #[.int .i64 (a : Int), .int .i64 (b : Int), .int .i64 (c : Int)] w fun e w' => e = .returned (.tuple #[.int .i64 (q : Int), .int .i64 0]) ∧ w = w' := by
 obtain ⟨d, hd⟩ : ∃ d : Nat, d = c - l := ⟨_, rfl⟩; have ed : (c : Int) - (l : Int) = (d : Int) := by omega
 have t1 : decide (d < l) = false := by simp; omega
 have t2 : ((l : Int) == (d : Int)) = false := by rw [beq_eq_false_iff_ne]; omega
 have t4 : decide ((4000000000000000000 : Int) < (q : Int)) = false := by simp; omega
 clear hn hd; go_enter Tryz.func127, Tryz.ntmps127
 go_wp2_with (first | (go_at_call 146; refine (H _).out.mono ?_; rintro e w1 ⟨rfl, rfl⟩) | (go_at_call 147; refine (T _).out.mono ?_; rintro e w1 ⟨rfl, rfl⟩))
 go_ret2; exact ⟨rfl, rfl⟩
set_option maxRecDepth 100000 in
set_option maxHeartbeats 1000000 in
theorem re_tie_even (a b c q l : Nat) (w : World) (hc : (c : Int) ≤ 9223372036854775807) (hl : l < c) (hq : (q : Int) ≤ 4000000000000000000)
  (H : ∀ w : World, Hid (Calls Tryz.prog 146 #[.int .i64 (a : Int), .int .i64 (b : Int), .int .i64 (c : Int)] w fun e w' => e = .returned (.int .i64 0) ∧ w = w'))
  (T : ∀ w : World, Hid (Calls Tryz.prog 147 #[.int .i64 (a : Int), .int .i64 (b : Int), .int .i64 (c : Int)] w fun e w' => e = .returned (.tuple #[.int .i64 (q : Int), .int .i64 (l : Int), .bool true]) ∧ w = w'))
  (hn : c = 2 * l) (ho : q % 2 = 0) :
  Calls Tryz.prog 127 #[.int .i64 (a : Int), .int .i64 (b : Int), .int .i64 (c : Int)] w fun e w' => e = .returned (.tuple #[.int .i64 (q : Int), .int .i64 0]) ∧ w = w' := by
 obtain ⟨d, hd⟩ : ∃ d : Nat, d = c - l := ⟨_, rfl⟩; have ed : (c : Int) - (l : Int) = (d : Int) := by omega
 have t1 : decide (d < l) = false := by simp; omega
 have t2 : ((l : Int) == (d : Int)) = true := by rw [beq_iff_eq]; omega
 have t3 : ((q : Int) % 2 == 1) = false := by rw [beq_eq_false_iff_ne]; omega
 clear hn hd ho; have t4 : decide ((4000000000000000000 : Int) < (q : Int)) = false := by simp; omega
 go_enter Tryz.func127, Tryz.ntmps127
 go_wp2_with (first | (go_at_call 146; refine (H _).out.mono ?_; rintro e w1 ⟨rfl, rfl⟩) | (go_at_call 147; refine (T _).out.mono ?_; rintro e w1 ⟨rfl, rfl⟩))
 go_ret2; exact ⟨rfl, rfl⟩
set_option maxRecDepth 100000 in
set_option maxHeartbeats 1000000 in
theorem re_tie_ok (a b c q l : Nat) (w : World) (hc : (c : Int) ≤ 9223372036854775807) (hl : l < c) (hq : (q : Int) ≤ 4000000000000000000)
  (H : ∀ w : World, Hid (Calls Tryz.prog 146 #[.int .i64 (a : Int), .int .i64 (b : Int), .int .i64 (c : Int)] w fun e w' => e = .returned (.int .i64 0) ∧ w = w'))
  (T : ∀ w : World, Hid (Calls Tryz.prog 147 #[.int .i64 (a : Int), .int .i64 (b : Int), .int .i64 (c : Int)] w fun e w' => e = .returned (.tuple #[.int .i64 (q : Int), .int .i64 (l : Int), .bool true]) ∧ w = w'))
  (hn : c = 2 * l) (ho : q % 2 = 1) (hq0 : (q : Int) ≤ 3999999999999999999) :
  Calls Tryz.prog 127 #[.int .i64 (a : Int), .int .i64 (b : Int), .int .i64 (c : Int)] w fun e w' => e = .returned (.tuple #[.int .i64 ((q + 1 : Nat) : Int), .int .i64 0]) ∧ w = w' := by
 obtain ⟨d, hd⟩ : ∃ d : Nat, d = c - l := ⟨_, rfl⟩; have ed : (c : Int) - (l : Int) = (d : Int) := by omega
 have t1 : decide (d < l) = false := by simp; omega
 have t2 : ((l : Int) == (d : Int)) = true := by rw [beq_iff_eq]; omega
 have t3 : ((q : Int) % 2 == 1) = true := by rw [beq_iff_eq]; omega
 clear hn hd ho; obtain ⟨m, hm⟩ : ∃ m : Nat, m = q + 1 := ⟨_, rfl⟩; have em : (q : Int) + 1 = (m : Int) := by omega
 have t5 : decide ((4000000000000000000 : Int) < (m : Int)) = false := by simp; omega
 rw [← hm]; clear hm; go_enter Tryz.func127, Tryz.ntmps127
 go_wp2_with (first | (go_at_call 146; refine (H _).out.mono ?_; rintro e w1 ⟨rfl, rfl⟩) | (go_at_call 147; refine (T _).out.mono ?_; rintro e w1 ⟨rfl, rfl⟩))
 go_ret2; exact ⟨rfl, rfl⟩
set_option maxRecDepth 100000 in
set_option maxHeartbeats 1000000 in
theorem re_tie_over (a b c q l : Nat) (w : World) (hc : (c : Int) ≤ 9223372036854775807) (hl : l < c) (hq : (q : Int) ≤ 4000000000000000000)
  (H : ∀ w : World, Hid (Calls Tryz.prog 146 #[.int .i64 (a : Int), .int .i64 (b : Int), .int .i64 (c : Int)] w fun e w' => e = .returned (.int .i64 0) ∧ w = w'))
  (T : ∀ w : World, Hid (Calls Tryz.prog 147 #[.int .i64 (a : Int), .int .i64 (b : Int), .int .i64 (c : Int)] w fun e w' => e = .returned (.tuple #[.int .i64 (q : Int), .int .i64 (l : Int), .bool true]) ∧ w = w'))
  (hn : c = 2 * l) (ho : q % 2 = 1) (hq1 : Hid ((4000000000000000000 : Int) ≤ (q : Int))) :
  Calls Tryz.prog 127 #[.int .i64 (a : Int), .int .i64 (b : Int), .int .i64 (c : Int)] w fun e w' => e = .returned (.tuple #[.int .i64 0, .int .i64 5]) ∧ w = w' := by
 obtain ⟨d, hd⟩ : ∃ d : Nat, d = c - l := ⟨_, rfl⟩; have ed : (c : Int) - (l : Int) = (d : Int) := by omega
 have t1 : decide (d < l) = false := by simp; omega
 have t2 : ((l : Int) == (d : Int)) = true := by rw [beq_iff_eq]; omega
 have t3 : ((q : Int) % 2 == 1) = true := by rw [beq_iff_eq]; omega
 clear hn hd ho; obtain ⟨m, hm⟩ : ∃ m : Nat, m = q + 1 := ⟨_, rfl⟩; have em : (q : Int) + 1 = (m : Int) := by omega
 have t5 : decide ((4000000000000000000 : Int) < (m : Int)) = true := by have := hq1.out; simp; omega
 clear hm hq1; go_enter Tryz.func127, Tryz.ntmps127
 go_wp2_with (first | (go_at_call 146; refine (H _).out.mono ?_; rintro e w1 ⟨rfl, rfl⟩) | (go_at_call 147; refine (T _).out.mono ?_; rintro e w1 ⟨rfl, rfl⟩))
 go_ret2; exact ⟨rfl, rfl⟩
set_option maxHeartbeats 1000000 in
theorem refEven (a b c : Int) (w : World) (ha : -9223372036854775808 ≤ a ∧ a ≤ 9223372036854775807) (hb : -9223372036854775808 ≤ b ∧ b ≤ 9223372036854775807) (hc : -9223372036854775808 ≤ c ∧ c ≤ 9223372036854775807) :
  Calls Tryz.prog 127 #[.int .i64 a, .int .i64 b, .int .i64 c] w fun e w' => e = .returned (.tuple #[.int .i64 (evV a b c), .int .i64 (evE a b c)]) ∧ w = w' := by
 by_cases h1 : a < 0 ∨ b < 0 ∨ c < 0
 ·rw [evV, evE, nums_arg h1]; have H := fun w => Lib.hid (check_arg a b c h1 w)
  clear h1; go_enter Tryz.func127, Tryz.ntmps127
  go_wp2_with (go_at_call 146; refine (H _).out.mono ?_; rintro e w1 ⟨rfl, rfl⟩)
  go_ret2; exact ⟨rfl, rfl⟩
 ·by_cases h2 : c = 0
  ·subst h2; rw [evV, evE, nums_zero (by omega) (by omega)]; have H := fun w => Lib.hid (check_zero a b (by omega) (by omega) w)
   clear h1; go_enter Tryz.func127, Tryz.ntmps127
   go_wp2_with (go_at_call 146; refine (H _).out.mono ?_; rintro e w1 ⟨rfl, rfl⟩)
   go_ret2; exact ⟨rfl, rfl⟩
  ·obtain ⟨a, rfl⟩ := Int.eq_ofNat_of_zero_le (a := a) (by omega); obtain ⟨b, rfl⟩ := Int.eq_ofNat_of_zero_le (a := b) (by omega); obtain ⟨c, rfl⟩ := Int.eq_ofNat_of_zero_le (a := c) (by omega); have H := fun w => Lib.hid (check_ok a b c (by omega) (by omega) (by omega) w)
   have T := fun w => Lib.hid (two a b c (by omega) (by omega) (by omega) (by omega) w)
   have hqq := quo_ge (up := nearB) (a := a) (b := b) (c := c); have hm : a * b % c < c := Nat.mod_lt _ (by omega); by_cases h4 : a * b / c ≤ 4000000000000000000
   ·simp only [twoVal, if_pos h4] at T; have yes : nearB (a * b / c) (a * b % c) c = true → quo nearB a b c = a * b / c + 1 := fun h => by rw [quo, if_pos h]
    have no : nearB (a * b / c) (a * b % c) c = false → quo nearB a b c = a * b / c := fun h => by rw [quo, if_neg (by rw [h]; decide)]
    have okk := fun h => nums_ok (up := nearB) (a := a) (b := b) (c := c) (by omega) h
    have ovv := fun h => nums_over (up := nearB) (a := a) (b := b) (c := c) (by omega) h
    rw [evV, evE]; generalize hQ : a * b / c = q at *; generalize hL : a * b % c = l at *; rcases Nat.lt_trichotomy c (2 * l) with h | h | h
    ·have hu := yes (by simp [nearB, h]); by_cases h5 : q ≤ 3999999999999999999
     ·rw [okk (by rw [hu]; omega), hu]; exact re_far_ok a b c q l w (by omega) hm (by omega) H T h (by omega)
     ·rw [ovv (by rw [hu]; omega)]; exact re_far_over a b c q l w (by omega) hm (by omega) H T h (Lib.hid (by omega))
    ·by_cases h6 : q % 2 = 1
     ·have hu := yes (by simp [nearB, h, h6]); by_cases h5 : q ≤ 3999999999999999999
      ·rw [okk (by rw [hu]; omega), hu]; exact re_tie_ok a b c q l w (by omega) hm (by omega) H T h h6 (by omega)
      ·rw [ovv (by rw [hu]; omega)]; exact re_tie_over a b c q l w (by omega) hm (by omega) H T h h6 (Lib.hid (by omega))
     ·have hu := no (by simp [nearB, h, h6]); rw [okk (by rw [hu]; omega), hu]; exact re_tie_even a b c q l w (by omega) hm (by omega) H T h (by omega)
    ·have hu := no (by simp [nearB]; omega); rw [okk (by rw [hu]; omega), hu]; exact re_near a b c q l w (by omega) hm (by omega) H T h
   ·have e : nums nearB a b c = _ := nums_over (by omega) (by omega); rw [evV, evE, e]; simp only [twoVal, if_neg h4] at T; clear h1 h2 h4 e hqq hm; go_enter Tryz.func127, Tryz.ntmps127
    go_wp2_with (first | (go_at_call 146; refine (H _).out.mono ?_; rintro e w1 ⟨rfl, rfl⟩) | (go_at_call 147; refine (T _).out.mono ?_; rintro e w1 ⟨rfl, rfl⟩))
    go_ret2; exact ⟨rfl, rfl⟩
set_option maxHeartbeats 1000000 in
theorem refBp (a b : Int) (w : World) (ha : -9223372036854775808 ≤ a ∧ a ≤ 9223372036854775807) (hb : -9223372036854775808 ≤ b ∧ b ≤ 9223372036854775807) :
  Calls Tryz.prog 106 #[.int .i64 a, .int .i64 b] w fun e w' => e = .returned (.tuple #[.int .i64 (evV a b 10000), .int .i64 (evE a b 10000)]) ∧ w = w' := by
 have H := Lib.hid (refEven a b 10000 w ha hb (by omega)); go_enter Tryz.func106, Tryz.ntmps106
 go_wp2_with (go_at_call 127; refine H.out.mono ?_; rintro e w1 ⟨rfl, rfl⟩)
 go_ret2; exact ⟨rfl, rfl⟩
end Num
end Go.Proofs.YtplenoaajokpjaaGreat

namespace Go.Proofs.YtplenoaajokpjaaGreat
open Go.RowKit Ba Tf
namespace Qo
set_option linter.unusedVariables false
theorem ver_iff {v : Ve} : ver v = true ↔ (1 ≤ v.fr ∧ v.fr ≤ 292194) ∧ (0 ≤ v.mn ∧ v.mn ≤ 1000000000000000) ∧ (1 ≤ (v.zn.length : Int) ∧ (v.zn.length : Int) ≤ 100) ∧ v.pe.length = 8 ∧ fac [v.b0, v.b1, v.b2, v.b3] = true ∧ fac v.zn = true ∧ fac v.pe = true ∧ bds v.ag = true := by
 unfold ver; simp only [Bool.and_eq_true, wi_iff, decide_eq_true_eq]
theorem ver_no {v : Ve} (h : ¬ ((1 ≤ v.fr ∧ v.fr ≤ 292194) ∧ (0 ≤ v.mn ∧ v.mn ≤ 1000000000000000) ∧ (1 ≤ (v.zn.length : Int) ∧ (v.zn.length : Int) ≤ 100) ∧ v.pe.length = 8 ∧ fac [v.b0, v.b1, v.b2, v.b3] = true ∧ fac v.zn = true ∧ fac v.pe = true ∧ bds v.ag = true)) : ver v = false := by
 cases e : ver v
 ·rfl
 ·exact absurd (ver_iff.1 e) h
set_option maxRecDepth 100000 in
set_option maxHeartbeats 4000000 in
theorem rversion (r : Rw) (w : World) (M : Mean w (· < w.heap.size) r) (S : Lo r) :
  Calls Tryz.prog 103 #[vg r] w (Yes w (ver r.v)) := by
 have hz1 := M.z.1; have hp1 := M.p.1; have ha1 := M.a.1; have sa := S.a; have sz := S.z; have sp := S.p; have HBx := Lib.hid (Bx.new w 70 (vc r)); have CZ := fun w' (h : Below w.heap.size w w') => Lib.hid (rfactors r.Z r.lz r.cz r.v.zn w' _ (M.z.below h) (by unfold maxLen; omega))
 have CP := fun w' (h : Below w.heap.size w w') => Lib.hid (rfactors r.P r.lp r.cp r.v.pe w' _ (M.p.below h) (by unfold maxLen; omega))
 have CA := Lib.hid (rbands r.A r.la r.ca r.v.ag (w.alloc (.cells (vc r) 70)) (M.a.below (alloc_ _ _)) (by unfold maxLen; omega)); have HA := Lib.hid (alloc_ w (.cells (vc r) 70)); have HL := Lib.hid (show r.v.zn.length = r.lz ∧ r.v.pe.length = r.lp ∧ r.v.ag.length = r.la from ⟨hz1, hp1, ha1⟩); obtain ⟨R, hR⟩ : ∃ R, ver r.v = R := ⟨_, rfl⟩; rw [hR]; have HR := Lib.hid hR; clear hR hz1 hp1 ha1 M S; go_enter Tryz.func103, Tryz.ntmps103; go_wp2; have y0 := HBx.out.c 0; have y1 := HBx.out.c 1; have y2 := HBx.out.c 2; have y3 := HBx.out.c 3; have y4 := HBx.out.c 4; have y5 := HBx.out.c 5; have y6 := HBx.out.c 6; have y7 := HBx.out.c 7; have y8 := HBx.out.c 8; simp at y0 y1 y2 y3 y4 y5 y6 y7 y8
 go_loop [3] (fun i => ∃ (k : Nat), k ≤ 4 ∧ i = .int .i64 (k : Int) ∧ Hid (fac ([r.v.b0, r.v.b1, r.v.b2, r.v.b3].take k) = true)) (fun i => 4 - (intOf i).toNat)
 case atStart => exact ⟨0, Nat.zero_le _, rfl, Lib.hid rfl⟩
 case round =>
  obtain ⟨k, hk, rfl, HF⟩ := hrel
  match k, hk, HF with
  | 0, hk, HF =>
   clear hk; by_cases h1 : r.v.b0 < 0
   ·have t1 : decide (r.v.b0 < 0) = true := decide_eq_true h1; have HN := Lib.hid (show R = false by rw [← HR.out]; exact ver_no (fun q => by have := q.2.2.2.2.1; simp only [fac, Bool.and_eq_true, wi_iff] at this; omega)); clear h1; go_wp2; go_ret; exact ⟨by rw [HN.out]; rfl, HA.out⟩
   ·have t1 : decide (r.v.b0 < 0) = false := decide_eq_false h1; by_cases h2 : 100000 < r.v.b0
    ·have t2 : decide (100000 < r.v.b0) = true := decide_eq_true h2; have HN := Lib.hid (show R = false by rw [← HR.out]; exact ver_no (fun q => by have := q.2.2.2.2.1; simp only [fac, Bool.and_eq_true, wi_iff] at this; omega)); clear h1 h2; go_wp2; go_ret; exact ⟨by rw [HN.out]; rfl, HA.out⟩
    ·have t2 : decide (100000 < r.v.b0) = false := decide_eq_false h2
     have HN := Lib.hid (show fac ([r.v.b0, r.v.b1, r.v.b2, r.v.b3].take 1) = true by
      have := HF.out; simp only [List.take_succ_cons, List.take_zero, fac, Bool.and_eq_true, wi_iff, eq_self, and_true] at this ⊢; omega)
     clear h1 h2; go_wp2
     go_round
     case rel => exact ⟨1, by omega, rfl, HN⟩
     case measure => simp [intOf]
  | 1, hk, HF =>
   clear hk; by_cases h1 : r.v.b1 < 0
   ·have t1 : decide (r.v.b1 < 0) = true := decide_eq_true h1; have HN := Lib.hid (show R = false by rw [← HR.out]; exact ver_no (fun q => by have := q.2.2.2.2.1; simp only [fac, Bool.and_eq_true, wi_iff] at this; omega)); clear h1; go_wp2; go_ret; exact ⟨by rw [HN.out]; rfl, HA.out⟩
   ·have t1 : decide (r.v.b1 < 0) = false := decide_eq_false h1; by_cases h2 : 100000 < r.v.b1
    ·have t2 : decide (100000 < r.v.b1) = true := decide_eq_true h2; have HN := Lib.hid (show R = false by rw [← HR.out]; exact ver_no (fun q => by have := q.2.2.2.2.1; simp only [fac, Bool.and_eq_true, wi_iff] at this; omega)); clear h1 h2; go_wp2; go_ret; exact ⟨by rw [HN.out]; rfl, HA.out⟩
    ·have t2 : decide (100000 < r.v.b1) = false := decide_eq_false h2
     have HN := Lib.hid (show fac ([r.v.b0, r.v.b1, r.v.b2, r.v.b3].take 2) = true by
      have := HF.out; simp only [List.take_succ_cons, List.take_zero, fac, Bool.and_eq_true, wi_iff, eq_self, and_true] at this ⊢; omega)
     clear h1 h2; go_wp2
     go_round
     case rel => exact ⟨2, by omega, rfl, HN⟩
     case measure => simp [intOf]
  | 2, hk, HF =>
   clear hk; by_cases h1 : r.v.b2 < 0
   ·have t1 : decide (r.v.b2 < 0) = true := decide_eq_true h1; have HN := Lib.hid (show R = false by rw [← HR.out]; exact ver_no (fun q => by have := q.2.2.2.2.1; simp only [fac, Bool.and_eq_true, wi_iff] at this; omega)); clear h1; go_wp2; go_ret; exact ⟨by rw [HN.out]; rfl, HA.out⟩
   ·have t1 : decide (r.v.b2 < 0) = false := decide_eq_false h1; by_cases h2 : 100000 < r.v.b2
    ·have t2 : decide (100000 < r.v.b2) = true := decide_eq_true h2; have HN := Lib.hid (show R = false by rw [← HR.out]; exact ver_no (fun q => by have := q.2.2.2.2.1; simp only [fac, Bool.and_eq_true, wi_iff] at this; omega)); clear h1 h2; go_wp2; go_ret; exact ⟨by rw [HN.out]; rfl, HA.out⟩
    ·have t2 : decide (100000 < r.v.b2) = false := decide_eq_false h2
     have HN := Lib.hid (show fac ([r.v.b0, r.v.b1, r.v.b2, r.v.b3].take 3) = true by
      have := HF.out; simp only [List.take_succ_cons, List.take_zero, fac, Bool.and_eq_true, wi_iff, eq_self, and_true] at this ⊢; omega)
     clear h1 h2; go_wp2
     go_round
     case rel => exact ⟨3, by omega, rfl, HN⟩
     case measure => simp [intOf]
  | 3, hk, HF =>
   clear hk; by_cases h1 : r.v.b3 < 0
   ·have t1 : decide (r.v.b3 < 0) = true := decide_eq_true h1; have HN := Lib.hid (show R = false by rw [← HR.out]; exact ver_no (fun q => by have := q.2.2.2.2.1; simp only [fac, Bool.and_eq_true, wi_iff] at this; omega)); clear h1; go_wp2; go_ret; exact ⟨by rw [HN.out]; rfl, HA.out⟩
   ·have t1 : decide (r.v.b3 < 0) = false := decide_eq_false h1; by_cases h2 : 100000 < r.v.b3
    ·have t2 : decide (100000 < r.v.b3) = true := decide_eq_true h2; have HN := Lib.hid (show R = false by rw [← HR.out]; exact ver_no (fun q => by have := q.2.2.2.2.1; simp only [fac, Bool.and_eq_true, wi_iff] at this; omega)); clear h1 h2; go_wp2; go_ret; exact ⟨by rw [HN.out]; rfl, HA.out⟩
    ·have t2 : decide (100000 < r.v.b3) = false := decide_eq_false h2
     have HN := Lib.hid (show fac ([r.v.b0, r.v.b1, r.v.b2, r.v.b3].take 4) = true by
      have := HF.out; simp only [List.take_succ_cons, List.take_zero, fac, Bool.and_eq_true, wi_iff, eq_self, and_true] at this ⊢; omega)
     clear h1 h2; go_wp2
     go_round
     case rel => exact ⟨4, by omega, rfl, HN⟩
     case measure => simp [intOf]
  | 4, hk, HF =>
   clear hk; have HF4 := Lib.hid (show fac [r.v.b0, r.v.b1, r.v.b2, r.v.b3] = true from HF.out); clear HF; by_cases g0 : r.v.fr < 1
   ·have q0 : decide (r.v.fr < 1) = true := decide_eq_true g0; have HN := Lib.hid (show R = false by rw [← HR.out]; exact ver_no (fun q => by have := HL.out; omega)); clear g0; go_wp2; go_ret; exact ⟨by rw [HN.out]; rfl, HA.out⟩
   have q0 : decide (r.v.fr < 1) = false := decide_eq_false g0; by_cases g1 : 292194 < r.v.fr
   ·have q1 : decide (292194 < r.v.fr) = true := decide_eq_true g1; have HN := Lib.hid (show R = false by rw [← HR.out]; exact ver_no (fun q => by have := HL.out; omega)); clear g0 g1; go_wp2; go_ret; exact ⟨by rw [HN.out]; rfl, HA.out⟩
   have q1 : decide (292194 < r.v.fr) = false := decide_eq_false g1; by_cases g2 : r.v.mn < 0
   ·have q2 : decide (r.v.mn < 0) = true := decide_eq_true g2; have HN := Lib.hid (show R = false by rw [← HR.out]; exact ver_no (fun q => by have := HL.out; omega)); clear g0 g1 g2; go_wp2; go_ret; exact ⟨by rw [HN.out]; rfl, HA.out⟩
   have q2 : decide (r.v.mn < 0) = false := decide_eq_false g2; by_cases g3 : 1000000000000000 < r.v.mn
   ·have q3 : decide (1000000000000000 < r.v.mn) = true := decide_eq_true g3; have HN := Lib.hid (show R = false by rw [← HR.out]; exact ver_no (fun q => by have := HL.out; omega)); clear g0 g1 g2 g3; go_wp2; go_ret; exact ⟨by rw [HN.out]; rfl, HA.out⟩
   have q3 : decide (1000000000000000 < r.v.mn) = false := decide_eq_false g3; by_cases g4 : 100 < (r.la : Int)
   ·have q4 : decide (100 < (r.la : Int)) = true := decide_eq_true g4; have q4n : decide (100 < r.la) = true := decide_eq_true (by omega); have HN := Lib.hid (show R = false by rw [← HR.out]; exact ver_no (fun q => by have := HL.out; rw [bds_far (by omega)] at q; exact absurd q.2.2.2.2.2.2.2 (by simp))); clear g0 g1 g2 g3 g4; go_wp2; go_ret; exact ⟨by rw [HN.out]; rfl, HA.out⟩
   have q4 : decide (100 < (r.la : Int)) = false := decide_eq_false g4; have q4n : decide (100 < r.la) = false := decide_eq_false (by omega); by_cases g5 : (r.lz : Int) < 1
   ·have q5 : decide ((r.lz : Int) < 1) = true := decide_eq_true g5; have q5n : decide (r.lz < 1) = true := decide_eq_true (by omega); have HN := Lib.hid (show R = false by rw [← HR.out]; exact ver_no (fun q => by have := HL.out; omega)); clear g0 g1 g2 g3 g4 g5; go_wp2; go_ret; exact ⟨by rw [HN.out]; rfl, HA.out⟩
   have q5 : decide ((r.lz : Int) < 1) = false := decide_eq_false g5; have q5n : decide (r.lz < 1) = false := decide_eq_false (by omega); by_cases g6 : 100 < (r.lz : Int)
   ·have q6 : decide (100 < (r.lz : Int)) = true := decide_eq_true g6; have q6n : decide (100 < r.lz) = true := decide_eq_true (by omega); have HN := Lib.hid (show R = false by rw [← HR.out]; exact ver_no (fun q => by have := HL.out; omega)); clear g0 g1 g2 g3 g4 g5 g6; go_wp2; go_ret; exact ⟨by rw [HN.out]; rfl, HA.out⟩
   have q6 : decide (100 < (r.lz : Int)) = false := decide_eq_false g6; have q6n : decide (100 < r.lz) = false := decide_eq_false (by omega); by_cases g7 : (r.lp : Int) = 8
   rotate_left
   ·have q7 : ((r.lp : Int) == 8) = false := by simpa using g7
    have q7' : decide ((r.lp : Int) = 8) = false := decide_eq_false g7; have q7n : decide (r.lp = 8) = false := decide_eq_false (by omega); have HN := Lib.hid (show R = false by rw [← HR.out]; exact ver_no (fun q => by have := HL.out; omega)); clear g0 g1 g2 g3 g4 g5 g6 g7; go_wp2; go_ret; exact ⟨by rw [HN.out]; rfl, HA.out⟩
   have q7 : ((r.lp : Int) == 8) = true := by simpa using g7
   have q7' : decide ((r.lp : Int) = 8) = true := decide_eq_true g7; have q7n : decide (r.lp = 8) = true := decide_eq_true (by omega)
   have HV := Lib.hid (show R = (bds r.v.ag && (fac r.v.zn && fac r.v.pe)) by
    have hl := HL.out; rw [← HR.out]; unfold ver; rw [wi_iff.2 (by omega : 1 ≤ r.v.fr ∧ r.v.fr ≤ 292194), wi_iff.2 (by omega : 0 ≤ r.v.mn ∧ r.v.mn ≤ 1000000000000000), wi_iff.2 (by omega : (1 : Int) ≤ (r.v.zn.length : Int) ∧ (r.v.zn.length : Int) ≤ 100), decide_eq_true (by omega : r.v.pe.length = 8), HF4.out]; cases bds r.v.ag <;> cases fac r.v.zn <;> cases fac r.v.pe <;> rfl)
   clear g0 g1 g2 g3 g4 g5 g6 g7; generalize fac r.v.zn = fz at CZ HV; generalize fac r.v.pe = fp at CP HV; generalize bds r.v.ag = fa at CA HV; cases fa
   ·skip
    have HN := Lib.hid (show R = false from HV.out)
    go_wp2_with (first
     | (go_at_call 125; (with_reducible refine CA.out.mono ?_); rintro e w1 ⟨rfl, hb1⟩; have HB1 := Lib.hid (HA.out.trans (hb1.mono HA.out.size)); have u6 := (HBx.out.keep hb1).c 6; have u7 := (HBx.out.keep hb1).c 7; simp at u6 u7; clear hb1)
     | (go_at_call 126; (with_reducible refine (CZ _ HB1.out).out.mono ?_); rintro e w' ⟨rfl, rfl⟩)
     | (go_at_call 126; (with_reducible refine (CP _ HB1.out).out.mono ?_); rintro e w' ⟨rfl, rfl⟩)
     | fail)
    go_ret; exact ⟨by rw [HN.out]; rfl, HB1.out⟩
   ·cases fz
    ·skip
     have HN := Lib.hid (show R = false from HV.out)
     go_wp2_with (first
      | (go_at_call 125; (with_reducible refine CA.out.mono ?_); rintro e w1 ⟨rfl, hb1⟩; have HB1 := Lib.hid (HA.out.trans (hb1.mono HA.out.size)); have u6 := (HBx.out.keep hb1).c 6; have u7 := (HBx.out.keep hb1).c 7; simp at u6 u7; clear hb1)
      | (go_at_call 126; (with_reducible refine (CZ _ HB1.out).out.mono ?_); rintro e w' ⟨rfl, rfl⟩)
      | (go_at_call 126; (with_reducible refine (CP _ HB1.out).out.mono ?_); rintro e w' ⟨rfl, rfl⟩)
      | fail)
     go_ret; exact ⟨by rw [HN.out]; rfl, HB1.out⟩
    ·cases fp
     ·skip
      have HN := Lib.hid (show R = false from HV.out)
      go_wp2_with (first
       | (go_at_call 125; (with_reducible refine CA.out.mono ?_); rintro e w1 ⟨rfl, hb1⟩; have HB1 := Lib.hid (HA.out.trans (hb1.mono HA.out.size)); have u6 := (HBx.out.keep hb1).c 6; have u7 := (HBx.out.keep hb1).c 7; simp at u6 u7; clear hb1)
       | (go_at_call 126; (with_reducible refine (CZ _ HB1.out).out.mono ?_); rintro e w' ⟨rfl, rfl⟩)
       | (go_at_call 126; (with_reducible refine (CP _ HB1.out).out.mono ?_); rintro e w' ⟨rfl, rfl⟩)
       | fail)
      go_ret; exact ⟨by rw [HN.out]; rfl, HB1.out⟩
     ·skip
      have HN := Lib.hid (show R = true from HV.out)
      go_wp2_with (first
       | (go_at_call 125; (with_reducible refine CA.out.mono ?_); rintro e w1 ⟨rfl, hb1⟩; have HB1 := Lib.hid (HA.out.trans (hb1.mono HA.out.size)); have u6 := (HBx.out.keep hb1).c 6; have u7 := (HBx.out.keep hb1).c 7; simp at u6 u7; clear hb1)
       | (go_at_call 126; (with_reducible refine (CZ _ HB1.out).out.mono ?_); rintro e w' ⟨rfl, rfl⟩)
       | (go_at_call 126; (with_reducible refine (CP _ HB1.out).out.mono ?_); rintro e w' ⟨rfl, rfl⟩)
       | fail)
      go_ret; exact ⟨by rw [HN.out]; rfl, HB1.out⟩
end Qo
end Go.Proofs.YtplenoaajokpjaaGreat
namespace Go.Proofs.YtplenoaajokpjaaGreat
open Go.RowKit Ba Tf Cv Qm
namespace Qo
set_option linter.unusedVariables false
set_option maxRecDepth 100000 in
set_option maxHeartbeats 2000000 in
theorem rcost_arg1 (r : Rw) (x : Ri) (c : Co) (w : World) (CV : ∀ W : World, Below w.heap.size w W → Hid (Calls Tryz.prog 103 #[vg r] W (Yes W false))) : Calls Tryz.prog 77 #[vg r, rg x, cg c] w (Tells w (0, 1)) := by
 obtain ⟨W, hW⟩ : ∃ W, (((w.alloc (.cells (vc r) 70)).alloc (.cells (rc x) 29)).alloc (.cells (cc c) 41)) = W := ⟨_, rfl⟩; have HB0 := Lib.hid (show B3 w W r x c by rw [← hW]; exact B3.start w r x c); have HW := Lib.hid hW; clear hW; go_enter Tryz.func77, Tryz.ntmps77
 go_wp2_with fail
 rw [HW.out]; refine (CV _ HB0.out.b).out.mono ?_; rintro e w1 ⟨rfl, hb1⟩; have HB1 := Lib.hid (HB0.out.next hb1); clear hb1 HB0 HW CV; have x0 := HB1.out.v.c 0; have x1 := HB1.out.v.c 1; have x2 := HB1.out.v.c 2; have x3 := HB1.out.v.c 3; have x4 := HB1.out.v.c 4; have x5 := HB1.out.v.c 5; have x6 := HB1.out.v.c 6; have x7 := HB1.out.v.c 7; have x8 := HB1.out.v.c 8; have y0 := HB1.out.r.c 0; have y1 := HB1.out.r.c 1; have y2 := HB1.out.r.c 2; have y3 := HB1.out.r.c 3; have z0 := HB1.out.c.c 0; have z1 := HB1.out.c.c 1; have z2 := HB1.out.c.c 2; have z3 := HB1.out.c.c 3; have z4 := HB1.out.c.c 4; simp at x0 x1 x2 x3 x4 x5 x6 x7 x8 y0 y1 y2 y3 z0 z1 z2 z3 z4; go_wp2; go_ret2; exact ⟨rfl, HB1.out.b⟩
set_option maxRecDepth 100000 in
set_option maxHeartbeats 2000000 in
theorem rcost_arg2 (r : Rw) (x : Ri) (c : Co) (w : World) (CV : ∀ W : World, Below w.heap.size w W → Hid (Calls Tryz.prog 103 #[vg r] W (Yes W true))) (CR : ∀ W : World, Hid (Calls Tryz.prog 100 #[rg x] W (Yes W false))) : Calls Tryz.prog 77 #[vg r, rg x, cg c] w (Tells w (0, 1)) := by
 obtain ⟨W, hW⟩ : ∃ W, (((w.alloc (.cells (vc r) 70)).alloc (.cells (rc x) 29)).alloc (.cells (cc c) 41)) = W := ⟨_, rfl⟩; have HB0 := Lib.hid (show B3 w W r x c by rw [← hW]; exact B3.start w r x c); have HW := Lib.hid hW; clear hW; go_enter Tryz.func77, Tryz.ntmps77
 go_wp2_with fail
 rw [HW.out]; refine (CV _ HB0.out.b).out.mono ?_; rintro e w1 ⟨rfl, hb1⟩; have HB1 := Lib.hid (HB0.out.next hb1); clear hb1 HB0 HW CV; have x0 := HB1.out.v.c 0; have x1 := HB1.out.v.c 1; have x2 := HB1.out.v.c 2; have x3 := HB1.out.v.c 3; have x4 := HB1.out.v.c 4; have x5 := HB1.out.v.c 5; have x6 := HB1.out.v.c 6; have x7 := HB1.out.v.c 7; have x8 := HB1.out.v.c 8; have y0 := HB1.out.r.c 0; have y1 := HB1.out.r.c 1; have y2 := HB1.out.r.c 2; have y3 := HB1.out.r.c 3; have z0 := HB1.out.c.c 0; have z1 := HB1.out.c.c 1; have z2 := HB1.out.c.c 2; have z3 := HB1.out.c.c 3; have z4 := HB1.out.c.c 4; simp at x0 x1 x2 x3 x4 x5 x6 x7 x8 y0 y1 y2 y3 z0 z1 z2 z3 z4
 go_wp2_with fail
 refine (CR _).out.mono ?_; rintro e w2 ⟨rfl, hb2⟩; have HB2 := Lib.hid (HB1.out.next hb2); clear hb2 HB1 CR x0 x1 x2 x3 x4 x5 x6 x7 x8 y0 y1 y2 y3 z0 z1 z2 z3 z4; have x0 := HB2.out.v.c 0; have x1 := HB2.out.v.c 1; have x2 := HB2.out.v.c 2; have x3 := HB2.out.v.c 3; have x4 := HB2.out.v.c 4; have x5 := HB2.out.v.c 5; have x6 := HB2.out.v.c 6; have x7 := HB2.out.v.c 7; have x8 := HB2.out.v.c 8; have y0 := HB2.out.r.c 0; have y1 := HB2.out.r.c 1; have y2 := HB2.out.r.c 2; have y3 := HB2.out.r.c 3; have z0 := HB2.out.c.c 0; have z1 := HB2.out.c.c 1; have z2 := HB2.out.c.c 2; have z3 := HB2.out.c.c 3; have z4 := HB2.out.c.c 4; simp at x0 x1 x2 x3 x4 x5 x6 x7 x8 y0 y1 y2 y3 z0 z1 z2 z3 z4; go_wp2; go_ret2; exact ⟨rfl, HB2.out.b⟩
set_option maxRecDepth 100000 in
set_option maxHeartbeats 2000000 in
theorem rcost_arg3 (r : Rw) (x : Ri) (c : Co) (w : World) (CV : ∀ W : World, Below w.heap.size w W → Hid (Calls Tryz.prog 103 #[vg r] W (Yes W true))) (CR : ∀ W : World, Hid (Calls Tryz.prog 100 #[rg x] W (Yes W true))) (CC : ∀ W : World, Hid (Calls Tryz.prog 104 #[cg c] W (Yes W false))) : Calls Tryz.prog 77 #[vg r, rg x, cg c] w (Tells w (0, 1)) := by
 obtain ⟨W, hW⟩ : ∃ W, (((w.alloc (.cells (vc r) 70)).alloc (.cells (rc x) 29)).alloc (.cells (cc c) 41)) = W := ⟨_, rfl⟩; have HB0 := Lib.hid (show B3 w W r x c by rw [← hW]; exact B3.start w r x c); have HW := Lib.hid hW; clear hW; go_enter Tryz.func77, Tryz.ntmps77
 go_wp2_with fail
 rw [HW.out]; refine (CV _ HB0.out.b).out.mono ?_; rintro e w1 ⟨rfl, hb1⟩; have HB1 := Lib.hid (HB0.out.next hb1); clear hb1 HB0 HW CV; have x0 := HB1.out.v.c 0; have x1 := HB1.out.v.c 1; have x2 := HB1.out.v.c 2; have x3 := HB1.out.v.c 3; have x4 := HB1.out.v.c 4; have x5 := HB1.out.v.c 5; have x6 := HB1.out.v.c 6; have x7 := HB1.out.v.c 7; have x8 := HB1.out.v.c 8; have y0 := HB1.out.r.c 0; have y1 := HB1.out.r.c 1; have y2 := HB1.out.r.c 2; have y3 := HB1.out.r.c 3; have z0 := HB1.out.c.c 0; have z1 := HB1.out.c.c 1; have z2 := HB1.out.c.c 2; have z3 := HB1.out.c.c 3; have z4 := HB1.out.c.c 4; simp at x0 x1 x2 x3 x4 x5 x6 x7 x8 y0 y1 y2 y3 z0 z1 z2 z3 z4
 go_wp2_with fail
 refine (CR _).out.mono ?_; rintro e w2 ⟨rfl, hb2⟩; have HB2 := Lib.hid (HB1.out.next hb2); clear hb2 HB1 CR x0 x1 x2 x3 x4 x5 x6 x7 x8 y0 y1 y2 y3 z0 z1 z2 z3 z4; have x0 := HB2.out.v.c 0; have x1 := HB2.out.v.c 1; have x2 := HB2.out.v.c 2; have x3 := HB2.out.v.c 3; have x4 := HB2.out.v.c 4; have x5 := HB2.out.v.c 5; have x6 := HB2.out.v.c 6; have x7 := HB2.out.v.c 7; have x8 := HB2.out.v.c 8; have y0 := HB2.out.r.c 0; have y1 := HB2.out.r.c 1; have y2 := HB2.out.r.c 2; have y3 := HB2.out.r.c 3; have z0 := HB2.out.c.c 0; have z1 := HB2.out.c.c 1; have z2 := HB2.out.c.c 2; have z3 := HB2.out.c.c 3; have z4 := HB2.out.c.c 4; simp at x0 x1 x2 x3 x4 x5 x6 x7 x8 y0 y1 y2 y3 z0 z1 z2 z3 z4
 go_wp2_with fail
 refine (CC _).out.mono ?_; rintro e w3 ⟨rfl, hb3⟩; have HB3 := Lib.hid (HB2.out.next hb3); clear hb3 HB2 CC x0 x1 x2 x3 x4 x5 x6 x7 x8 y0 y1 y2 y3 z0 z1 z2 z3 z4; have x0 := HB3.out.v.c 0; have x1 := HB3.out.v.c 1; have x2 := HB3.out.v.c 2; have x3 := HB3.out.v.c 3; have x4 := HB3.out.v.c 4; have x5 := HB3.out.v.c 5; have x6 := HB3.out.v.c 6; have x7 := HB3.out.v.c 7; have x8 := HB3.out.v.c 8; have y0 := HB3.out.r.c 0; have y1 := HB3.out.r.c 1; have y2 := HB3.out.r.c 2; have y3 := HB3.out.r.c 3; have z0 := HB3.out.c.c 0; have z1 := HB3.out.c.c 1; have z2 := HB3.out.c.c 2; have z3 := HB3.out.c.c 3; have z4 := HB3.out.c.c 4; simp at x0 x1 x2 x3 x4 x5 x6 x7 x8 y0 y1 y2 y3 z0 z1 z2 z3 z4; go_wp2; go_ret2; exact ⟨rfl, HB3.out.b⟩
set_option maxRecDepth 100000 in
set_option maxHeartbeats 2000000 in
theorem rcost_none (r : Rw) (x : Ri) (c : Co) (w : World) (CV : ∀ W : World, Below w.heap.size w W → Hid (Calls Tryz.prog 103 #[vg r] W (Yes W true))) (CR : ∀ W : World, Hid (Calls Tryz.prog 100 #[rg x] W (Yes W true))) (CC : ∀ W : World, Hid (Calls Tryz.prog 104 #[cg c] W (Yes W true))) (t1 : decide ((r.lz : Int) ≤ x.z) = true) : Calls Tryz.prog 77 #[vg r, rg x, cg c] w (Tells w (0, 7)) := by
 obtain ⟨W, hW⟩ : ∃ W, (((w.alloc (.cells (vc r) 70)).alloc (.cells (rc x) 29)).alloc (.cells (cc c) 41)) = W := ⟨_, rfl⟩; have HB0 := Lib.hid (show B3 w W r x c by rw [← hW]; exact B3.start w r x c); have HW := Lib.hid hW; clear hW; go_enter Tryz.func77, Tryz.ntmps77
 go_wp2_with fail
 rw [HW.out]; refine (CV _ HB0.out.b).out.mono ?_; rintro e w1 ⟨rfl, hb1⟩; have HB1 := Lib.hid (HB0.out.next hb1); clear hb1 HB0 HW CV; have x0 := HB1.out.v.c 0; have x1 := HB1.out.v.c 1; have x2 := HB1.out.v.c 2; have x3 := HB1.out.v.c 3; have x4 := HB1.out.v.c 4; have x5 := HB1.out.v.c 5; have x6 := HB1.out.v.c 6; have x7 := HB1.out.v.c 7; have x8 := HB1.out.v.c 8; have y0 := HB1.out.r.c 0; have y1 := HB1.out.r.c 1; have y2 := HB1.out.r.c 2; have y3 := HB1.out.r.c 3; have z0 := HB1.out.c.c 0; have z1 := HB1.out.c.c 1; have z2 := HB1.out.c.c 2; have z3 := HB1.out.c.c 3; have z4 := HB1.out.c.c 4; simp at x0 x1 x2 x3 x4 x5 x6 x7 x8 y0 y1 y2 y3 z0 z1 z2 z3 z4
 go_wp2_with fail
 refine (CR _).out.mono ?_; rintro e w2 ⟨rfl, hb2⟩; have HB2 := Lib.hid (HB1.out.next hb2); clear hb2 HB1 CR x0 x1 x2 x3 x4 x5 x6 x7 x8 y0 y1 y2 y3 z0 z1 z2 z3 z4; have x0 := HB2.out.v.c 0; have x1 := HB2.out.v.c 1; have x2 := HB2.out.v.c 2; have x3 := HB2.out.v.c 3; have x4 := HB2.out.v.c 4; have x5 := HB2.out.v.c 5; have x6 := HB2.out.v.c 6; have x7 := HB2.out.v.c 7; have x8 := HB2.out.v.c 8; have y0 := HB2.out.r.c 0; have y1 := HB2.out.r.c 1; have y2 := HB2.out.r.c 2; have y3 := HB2.out.r.c 3; have z0 := HB2.out.c.c 0; have z1 := HB2.out.c.c 1; have z2 := HB2.out.c.c 2; have z3 := HB2.out.c.c 3; have z4 := HB2.out.c.c 4; simp at x0 x1 x2 x3 x4 x5 x6 x7 x8 y0 y1 y2 y3 z0 z1 z2 z3 z4
 go_wp2_with fail
 refine (CC _).out.mono ?_; rintro e w3 ⟨rfl, hb3⟩; have HB3 := Lib.hid (HB2.out.next hb3); clear hb3 HB2 CC x0 x1 x2 x3 x4 x5 x6 x7 x8 y0 y1 y2 y3 z0 z1 z2 z3 z4; have x0 := HB3.out.v.c 0; have x1 := HB3.out.v.c 1; have x2 := HB3.out.v.c 2; have x3 := HB3.out.v.c 3; have x4 := HB3.out.v.c 4; have x5 := HB3.out.v.c 5; have x6 := HB3.out.v.c 6; have x7 := HB3.out.v.c 7; have x8 := HB3.out.v.c 8; have y0 := HB3.out.r.c 0; have y1 := HB3.out.r.c 1; have y2 := HB3.out.r.c 2; have y3 := HB3.out.r.c 3; have z0 := HB3.out.c.c 0; have z1 := HB3.out.c.c 1; have z2 := HB3.out.c.c 2; have z3 := HB3.out.c.c 3; have z4 := HB3.out.c.c 4; simp at x0 x1 x2 x3 x4 x5 x6 x7 x8 y0 y1 y2 y3 z0 z1 z2 z3 z4; go_wp2; go_ret2; exact ⟨rfl, HB3.out.b⟩
set_option maxRecDepth 100000 in
set_option maxHeartbeats 2000000 in
theorem rcost_ok (r : Rw) (k z p : Nat) (xv xa cl' cg' cd' cs' : Int) (w : World) (M : Mean w (· < w.heap.size) r) (S : Lo r)
  (CV : ∀ W : World, Below w.heap.size w W → Hid (Calls Tryz.prog 103 #[vg r] W (Yes W true))) (CR : ∀ W : World, Hid (Calls Tryz.prog 100 #[rg ⟨k, xv, xa, z⟩] W (Yes W true))) (CC : ∀ W : World, Hid (Calls Tryz.prog 104 #[cg ⟨p, cl', cg', cd', cs'⟩] W (Yes W true)))
  (hk : k ≤ 3) (hz : z < r.lz) (hp : p < r.lp) (hv : 0 ≤ xv ∧ xv ≤ 4000000000000000000) (ps : List Int) (hps : ps = parts r.v ⟨k, xv, xa, z⟩ ⟨p, cl', cg', cd', cs'⟩) (hb : ∀ y ∈ ps, 0 ≤ y ∧ y ≤ 100000) (T : Option Int) (hT : tk xv ps = T) :
  Calls Tryz.prog 77 #[vg r, rg ⟨k, xv, xa, z⟩, cg ⟨p, cl', cg', cd', cs'⟩] w (Tells w (tkN (T.map (max · r.v.mn)), tkE T)) := by
 obtain ⟨W, hW⟩ : ∃ W, (((w.alloc (.cells (vc r) 70)).alloc (.cells (rc ⟨k, xv, xa, z⟩) 29)).alloc (.cells (cc ⟨p, cl', cg', cd', cs'⟩) 41)) = W := ⟨_, rfl⟩; have HB0 := Lib.hid (show B3 w W r ⟨k, xv, xa, z⟩ ⟨p, cl', cg', cd', cs'⟩ by rw [← hW]; exact B3.start w r ⟨k, xv, xa, z⟩ ⟨p, cl', cg', cd', cs'⟩); have HW := Lib.hid hW; clear hW; go_enter Tryz.func77, Tryz.ntmps77
 go_wp2_with fail
 rw [HW.out]; refine (CV _ HB0.out.b).out.mono ?_; rintro e w1 ⟨rfl, hb1⟩; have HB1 := Lib.hid (HB0.out.next hb1); clear hb1 HB0 HW CV; have x0 := HB1.out.v.c 0; have x1 := HB1.out.v.c 1; have x2 := HB1.out.v.c 2; have x3 := HB1.out.v.c 3; have x4 := HB1.out.v.c 4; have x5 := HB1.out.v.c 5; have x6 := HB1.out.v.c 6; have x7 := HB1.out.v.c 7; have x8 := HB1.out.v.c 8; have y0 := HB1.out.r.c 0; have y1 := HB1.out.r.c 1; have y2 := HB1.out.r.c 2; have y3 := HB1.out.r.c 3; have z0 := HB1.out.c.c 0; have z1 := HB1.out.c.c 1; have z2 := HB1.out.c.c 2; have z3 := HB1.out.c.c 3; have z4 := HB1.out.c.c 4; simp at x0 x1 x2 x3 x4 x5 x6 x7 x8 y0 y1 y2 y3 z0 z1 z2 z3 z4
 go_wp2_with fail
 refine (CR _).out.mono ?_; rintro e w2 ⟨rfl, hb2⟩; have HB2 := Lib.hid (HB1.out.next hb2); clear hb2 HB1 CR x0 x1 x2 x3 x4 x5 x6 x7 x8 y0 y1 y2 y3 z0 z1 z2 z3 z4; have x0 := HB2.out.v.c 0; have x1 := HB2.out.v.c 1; have x2 := HB2.out.v.c 2; have x3 := HB2.out.v.c 3; have x4 := HB2.out.v.c 4; have x5 := HB2.out.v.c 5; have x6 := HB2.out.v.c 6; have x7 := HB2.out.v.c 7; have x8 := HB2.out.v.c 8; have y0 := HB2.out.r.c 0; have y1 := HB2.out.r.c 1; have y2 := HB2.out.r.c 2; have y3 := HB2.out.r.c 3; have z0 := HB2.out.c.c 0; have z1 := HB2.out.c.c 1; have z2 := HB2.out.c.c 2; have z3 := HB2.out.c.c 3; have z4 := HB2.out.c.c 4; simp at x0 x1 x2 x3 x4 x5 x6 x7 x8 y0 y1 y2 y3 z0 z1 z2 z3 z4
 go_wp2_with fail
 refine (CC _).out.mono ?_; rintro e w3 ⟨rfl, hb3⟩; have HB3 := Lib.hid (HB2.out.next hb3); clear hb3 HB2 CC x0 x1 x2 x3 x4 x5 x6 x7 x8 y0 y1 y2 y3 z0 z1 z2 z3 z4; have x0 := HB3.out.v.c 0; have x1 := HB3.out.v.c 1; have x2 := HB3.out.v.c 2; have x3 := HB3.out.v.c 3; have x4 := HB3.out.v.c 4; have x5 := HB3.out.v.c 5; have x6 := HB3.out.v.c 6; have x7 := HB3.out.v.c 7; have x8 := HB3.out.v.c 8; have y0 := HB3.out.r.c 0; have y1 := HB3.out.r.c 1; have y2 := HB3.out.r.c 2; have y3 := HB3.out.r.c 3; have z0 := HB3.out.c.c 0; have z1 := HB3.out.c.c 1; have z2 := HB3.out.c.c 2; have z3 := HB3.out.c.c 3; have z4 := HB3.out.c.c 4; simp at x0 x1 x2 x3 x4 x5 x6 x7 x8 y0 y1 y2 y3 z0 z1 z2 z3 z4; have t1 : decide ((r.lz : Int) ≤ (z : Int)) = false := decide_eq_false (by omega); have t1' : decide (r.lz ≤ z) = false := decide_eq_false (by omega); obtain ⟨az, zv, eZ, _, gz, cz⟩ := (M.z.below HB3.out.b).get hz; obtain ⟨ap, pv, eP, _, gp, cp⟩ := (M.p.below HB3.out.b).get hp; have cb := base_cell HB3.out.v hk; have hla := S.a; have CB := fun (W : World) (h : Below w.heap.size w W) => Lib.hid (rband r.A r.la r.ca r.v.ag xa W _ (M.a.below h) (by unfold maxLen; omega))
 have e5 : ps = [bs r.v k, bnd xa r.v.ag, zv, pv, cs'] := by
  rw [hps]; unfold parts; simp only [Int.toNat_natCast, List.getD_eq_getElem?_getD, gz, gp, Option.getD_some]
 rw [eZ] at x6; rw [eP] at x7; generalize bnd xa r.v.ag = bv at CB e5; generalize bs r.v k = sv at cb e5; have HE5 := Lib.hid e5; have kz : (z : Int) < (r.lz : Int) := by omega
 have kp : (p : Int) < (r.lp : Int) := by omega
 have kk : (k : Int) < 4 := by omega
 have HTT := Lib.hid hT; have HPB := Lib.hid hb; clear e5 gz gp hb hps hT eZ eP; go_wp2; refine wp_region_still_tail 24 (by kernel_rfl) (by kernel_rfl) ?_; simp only [List.take_succ_cons, List.take_zero, List.drop_succ_cons, List.drop_zero]
 repeat still_step
 still_call (flip (CB w3.drew (HB3.out.b.trans (B := w.heap.size) ⟨rfl, rfl, rfl, Nat.le_refl _, fun _ _ => rfl⟩)).out)
 repeat still_step
 refine wpStill_nil ?_; have HB4 := Lib.hid (show B3 w w3.drew r ⟨k, xv, xa, z⟩ ⟨p, cl', cg', cd', cs'⟩ from HB3.out.next ⟨rfl, rfl, rfl, Nat.le_refl _, fun _ _ => rfl⟩); change wpList _ _ _ _ _ w3.drew; generalize w3.drew = w4 at HB4 ⊢; have HL := Lib.hid (Bx.new w4 3 #[.int .i64 sv, .int .i64 bv, .int .i64 zv, .int .i64 pv, .int .i64 cs']); have HI := Lib.hid (show Ins (w4.alloc (.cells #[.int .i64 sv, .int .i64 bv, .int .i64 zv, .int .i64 pv, .int .i64 cs'] 3)) (· < (w4.alloc (.cells #[.int .i64 sv, .int .i64 bv, .int .i64 zv, .int .i64 pv, .int .i64 cs'] 3)).heap.size) (some ⟨w4.heap.size, 0, none⟩) 5 ps by rw [HE5.out]; exact ins_box (xs := [sv, bv, zv, pv, cs']) HL.out _ HL.out.lt); have HB5 := Lib.hid (HB4.out.next (alloc_ w4 (.cells #[.int .i64 sv, .int .i64 bv, .int .i64 zv, .int .i64 pv, .int .i64 cs'] 3))); clear CB HB3 HL x0 x1 x2 x3 x4 x5 x6 x7 x8 y0 y1 y2 y3 z0 z1 z2 z3 z4 cb cz cp M S HB4 HE5; have x0 := HB5.out.v.c 0; have x1 := HB5.out.v.c 1; have x2 := HB5.out.v.c 2; have x3 := HB5.out.v.c 3; have x4 := HB5.out.v.c 4; have x5 := HB5.out.v.c 5; have x6 := HB5.out.v.c 6; have x7 := HB5.out.v.c 7; have x8 := HB5.out.v.c 8; have y0 := HB5.out.r.c 0; have y1 := HB5.out.r.c 1; have y2 := HB5.out.r.c 2; have y3 := HB5.out.r.c 3; have z0 := HB5.out.c.c 0; have z1 := HB5.out.c.c 1; have z2 := HB5.out.c.c 2; have z3 := HB5.out.c.c 3; have z4 := HB5.out.c.c 4; simp at x0 x1 x2 x3 x4 x5 x6 x7 x8 y0 y1 y2 y3 z0 z1 z2 z3 z4; go_wp2; clear x0 x1 x2 x3 x4 x5 x6 x7 x8 y0 y1 y2 y3 z0 z1 z2 z3 z4; generalize (w4.alloc (.cells #[.int .i64 sv, .int .i64 bv, .int .i64 zv, .int .i64 pv, .int .i64 cs'] 3)) = w5 at HI HB5 ⊢; generalize ({ block := w4.heap.size, off := 0 } : Addr) = la at HI ⊢; have x8 := HB5.out.v.c 8; simp at x8
 go_loop [9, 10] (fun s0 i => ∃ (j : Nat) (a : Int), j ≤ 5 ∧ 0 ≤ a ∧ a ≤ 4000000000000000000 ∧ i = .int .i64 (j : Int) ∧ s0 = .int .i64 a ∧ Hid (tk a (ps.drop j) = T)) (fun _ i => 5 - (intOf i).toNat)
 case atStart => exact ⟨0, xv, Nat.zero_le _, hv.1, hv.2, rfl, rfl, HTT⟩
 case round =>
  obtain ⟨j, a, hj, ha0, ha1, rfl, rfl, HN⟩ := hrel; by_cases hlt : j < 5
  ·obtain ⟨ad, y, ela, _, hy, hc0⟩ := HI.out.get hlt; injection ela with ela
   subst ela; have HD := Lib.hid (drop_get hy); have hy2 := HPB.out y (List.mem_of_getElem? hy); have hlt2 : (j : Int) < 5 := by omega
   have C := fun w => Lib.hid (Num.refBp a y w (by omega) (by omega))
   clear hy; by_cases ho : 4000000000000000000 < prt a y
   ·obtain ⟨e1, e2⟩ := ev_over ha0 hy2.1 ho; rw [e1, e2] at C; have HF := Lib.hid (show T = none by rw [← HN.out, HD.out, tk_over ho]); clear e1 e2 ho hy2
    go_wp2_with (go_at_call 106; refine (C _).out.mono ?_; rintro e w6 ⟨rfl, rfl⟩)
    go_ret2; exact ⟨by rw [HF.out]; rfl, HB5.out.b⟩
   ·obtain ⟨e1, e2⟩ := ev_ok ha0 hy2.1 ho; rw [e1, e2] at C; have HN2 := Lib.hid (show tk (prt a y) (ps.drop (j + 1)) = T by rw [← HN.out, HD.out, tk_next ho]); have hn := prt_nn a y; clear e1 e2 hy2; generalize prt a y = b at C HN2 ho hn; have ho2 : b ≤ 4000000000000000000 := by omega
    clear ho
    go_wp2_with (go_at_call 106; refine (C _).out.mono ?_; rintro e w6 ⟨rfl, rfl⟩)
    go_round
    case rel => exact ⟨j + 1, b, by omega, hn, ho2, by go_num, rfl, HN2⟩
    case measure => simp [intOf]; omega
  ·obtain rfl : j = 5 := by omega
   have HF := Lib.hid (show T = some a by rw [← HN.out, List.drop_of_length_le (by rw [HI.out.1]; omega)]; rfl); by_cases hm : a < r.v.mn
   ·have t2 : decide (a < r.v.mn) = true := decide_eq_true hm; have HX := Lib.hid (show tkN (T.map (max · r.v.mn)) = r.v.mn ∧ tkE T = 0 by rw [HF.out]; exact ⟨by simp only [Option.map_some, tkN]; omega, rfl⟩); clear hm; go_wp2; go_ret2; exact ⟨by rw [HX.out.1, HX.out.2]; rfl, HB5.out.b⟩
   ·have t2 : decide (a < r.v.mn) = false := decide_eq_false hm; have HX := Lib.hid (show tkN (T.map (max · r.v.mn)) = a ∧ tkE T = 0 by rw [HF.out]; exact ⟨by simp only [Option.map_some, tkN]; omega, rfl⟩); clear hm; go_wp2; go_ret2; exact ⟨by rw [HX.out.1, HX.out.2]; rfl, HB5.out.b⟩
theorem rcost (r : Rw) (x : Ri) (c : Co) (w : World) (M : Mean w (· < w.heap.size) r) (S : Lo r) : Calls Tryz.prog 77 #[vg r, rg x, cg c] w (Tells w (qd r.v x c)) := by
 have CV := fun (W : World) (h : Below w.heap.size w W) => Lib.hid (rversion r W (M.below h) S)
 have CR := fun W => Lib.hid (rrisk_right x.k x.v x.a x.z W)
 have CC := fun W => Lib.hid (rcov_right c W)
 cases h1 : ver r.v
 ·rw [h1] at CV; rw [qd_arg (by unfold can; rw [h1]; rfl)]; exact rcost_arg1 r x c w CV
 rw [h1] at CV; cases h2 : rk x.k x.v x.a x.z
 ·rw [h2] at CR; rw [qd_arg (by unfold can; rw [h1, h2]; rfl)]; exact rcost_arg2 r x c w CV CR
 rw [h2] at CR; cases h3 : ok c
 ·rw [h3] at CC; rw [qd_arg (by unfold can; rw [h1, h2, h3]; rfl)]; exact rcost_arg3 r x c w CV CR CC
 rw [h3] at CC; have hc : can r.v x c = true := by unfold can; rw [h1, h2, h3]; rfl
 have hl := M.z.1; by_cases hz : (r.v.zn.length : Int) ≤ x.z
 ·rw [qd_none hc hz]; exact rcost_none r x c w CV CR CC (decide_eq_true (by omega))
 have hpl := (vok h1).pl; have hl2 := M.p.1; have hpb := parts_bd hc; obtain ⟨k, xv, xa, z⟩ := x; obtain ⟨p, l, g, d, s⟩ := c; obtain ⟨q1, q2, q3, q4⟩ := rk_iff.1 h2; obtain ⟨o1, o2, _⟩ := ok_iff.1 h3; simp only at q1 q2 q3 q4 o1 o2 hz; obtain ⟨k, rfl⟩ := Int.eq_ofNat_of_zero_le q1.1; obtain ⟨z, rfl⟩ := Int.eq_ofNat_of_zero_le q4.1; obtain ⟨p, rfl⟩ := Int.eq_ofNat_of_zero_le o1; have h := rcost_ok r k z p xv xa l g d s w M S CV CR CC (by omega) (by omega) (by omega) ⟨by omega, by omega⟩ _ rfl hpb _ rfl; cases ht : tk xv (parts r.v ⟨k, xv, xa, z⟩ ⟨p, l, g, d, s⟩) with
 | none =>
  rw [qd_over hc hz ht]; rw [ht] at h; exact h
 | some t =>
  rw [qd_ok hc hz ht]; rw [ht] at h; exact h
end Qo
end Go.Proofs.YtplenoaajokpjaaGreat
namespace Go.Proofs.YtplenoaajokpjaaGreat
open Go.RowKit Ba Tf Cv Qm
namespace Qo
set_option linter.unusedVariables false
def celi (xs : List Int) : List Value := xs.map (Value.int .i64)
theorem celi_length (xs : List Int) : (celi xs).length = xs.length * 1 := by simp [celi]
theorem celi_append (xs ys : List Int) : celi (xs ++ ys) = celi xs ++ celi ys := List.map_append
theorem celi_cell (xs : List Int) : ∀ u ∈ celi xs, u.oneCell' = true := by
 intro u hu; obtain ⟨x, _, rfl⟩ := List.mem_map.1 hu; rfl
theorem i_own_ {w : World} {base n : Nat} {v : Value} {xs : List Int} (h : w.ownsRow base 3 1 v n (celi xs)) : ∃ A c, v = .slice A n c ∧ Ins w (fun b => base ≤ b ∧ b < w.heap.size) A n xs := by
 have hl : xs.length = n := by have := h.1; rw [celi_length] at this; omega
 rcases h.2 with ⟨rfl, hn⟩ | ⟨g, cap, cur, rfl, hb, hh, hnc, hm, hs, ht⟩
 ·subst hn; exact ⟨_, _, rfl, hl, fun h => absurd h (by omega)⟩
 ·refine ⟨_, _, rfl, hl, fun _ => ⟨_, rfl, ⟨hb, ?_⟩, fun j x hx => ?_⟩⟩
  ·rcases Nat.lt_or_ge g w.heap.size with hlt | hge
   ·exact hlt
   ·rw [Array.getElem?_eq_none hge] at hh; cases hh
  ·exact World.ownsRow.cells (g := g) h rfl j _ (by unfold celi; rw [List.getElem?_map, hx]; rfl)
theorem c_own_ {w : World} {base n : Nat} {v : Value} {xs : List Co} (h : w.ownsRow base 41 5 v n (cel5 xs)) : ∃ A c, v = .slice A n c ∧ Cvs w (fun b => base ≤ b ∧ b < w.heap.size) A n xs := by
 have hl : xs.length = n := by have := h.1; rw [cel5_length] at this; omega
 rcases h.2 with ⟨rfl, hn⟩ | ⟨g, cap, cur, rfl, hb, hh, hnc, hm, hs, ht⟩
 ·subst hn; exact ⟨_, _, rfl, hl, fun h => absurd h (by omega)⟩
 ·refine ⟨_, _, rfl, hl, fun _ => ⟨_, rfl, ⟨hb, ?_⟩, fun j x hx => fiv_of fun o u hu => ?_⟩⟩
  ·rcases Nat.lt_or_ge g w.heap.size with hlt | hge
   ·exact hlt
   ·rw [Array.getElem?_eq_none hge] at hh; cases hh
  ·have ho : o < 5 := (List.getElem?_eq_some_iff.1 hu).1; exact World.ownsRow.cells (g := g) h rfl (j * 5 + o) _ ((cel5_get hx ho).trans hu)
theorem info_cover : (Tryz.prog.info? 41).map (fun i => (i.zero, i.size, i.bytes)) = some (some (.agg #[.int .i64 0, .int .i64 0, .int .i64 0, .int .i64 0, .int .i64 0]), 5, 40) := by kernel_rfl
def IOwn (w : World) (base : Nat) (A : Option Addr) (n c : Nat) (xs : List Int) : Prop := w.ownsRow base 3 1 (.slice A n c) n (celi xs)
section
variable {w w' : World} {base n c : Nat} {A : Option Addr} {xs : List Int}
theorem IOwn.nil : IOwn w base none 0 0 [] := World.ownsRow_nil w base _ 1
theorem IOwn.len (h : IOwn w base A n c xs) : xs.length = n := by have := h.1; rw [celi_length] at this; omega
theorem IOwn.lt (h : IOwn w base A n c xs) : ∀ k, (Value.slice A n c).ownBlock = some k → base ≤ k ∧ k < w.heap.size := World.ownsRow.lt h
theorem IOwn.below (h : IOwn w base A n c xs) (hb : Below w.heap.size w w') : IOwn w' base A n c xs := by
 refine World.ownsRow.kept h (grown_of_below hb) ?_; cases A with
 | none => exact .inl rfl
 | some a => exact .inr (by simp [Value.ownBlock])
theorem IOwn.row (h : IOwn w base A n c xs) : Ins w (fun b => base ≤ b ∧ b < w.heap.size) A n xs := by
 obtain ⟨A', c', e, hl⟩ := i_own_ h; injection e with e1 e2 e3
 subst e1; exact hl
theorem IOwn.drew (h : IOwn w base A n c xs) : IOwn w.drew base A n c xs := h
theorem IOwn.made (w : World) : IOwn (w.alloc (.cells #[] 3)) w.heap.size (some ⟨w.heap.size, 0, none⟩) 0 0 [] := World.ownsRow_made w #[] 0 (Nat.le_refl _) (Nat.zero_le _) (by simp)
end
theorem own_of_row_i {w : World} {base k : Nat} {v : Value} {xs : List Int} (h : w.ownsRow base 3 1 v k (celi xs)) : ∃ A c, v = .slice A k c ∧ IOwn w base A k c xs := by
 rcases h.2 with ⟨rfl, hn⟩ | ⟨g, cap, cur, rfl, hr⟩
 ·subst hn; exact ⟨_, _, rfl, h⟩
 ·exact ⟨_, _, rfl, h⟩
theorem run_app_i (w : World) (ty : TypeId) (base : Nat) (A : Option Addr) (n c : Nat) (xs : List Int) (hown : IOwn w base A n c xs)
  (ok : Nat → Prop) (C : Option Addr) (m d : Nat) (ys : List Int) (hr : Ins w ok C m ys) (hnil : C = none → m = 0 ∧ d = 0) (hlen : n + m ≤ 4000000) (hbase : base ≤ w.heap.size) :
  ∃ A' c' w', (Builtin.append_ #[68, 68] ty #[.slice A n c, .slice C m d]).run Tryz.prog w = .ok (.slice A' (n + m) c') w' ∧ IOwn w' base A' (n + m) c' (xs ++ ys) ∧ w.grownBy w' (Value.slice A n c).ownBlock := by
 obtain ⟨i, hi, hz, h1, h2⟩ := info_parts info_int; cases C with
 | none =>
  obtain ⟨rfl, rfl⟩ := hnil rfl; have hy : ys = [] := List.eq_nil_of_length_eq_zero hr.1; subst hy; exact ⟨A, c, w, run_append_owned_none (P := Tryz.prog) (w := w) base _ ty 3 i 1 Tryz.underlying68 hi _ n _ hown, by rw [List.append_nil]; exact hown, World.grownBy.refl w _⟩
 | some ad =>
  obtain ⟨v', w', hrun, hO, hg, _⟩ := run_append_own (P := Tryz.prog) w base 68 ty 3 i _ 1 8 Tryz.underlying68 hi hz h1 h2 rfl (by omega) (.slice A n c) n _ hown ad m d (celi ys) (by rw [celi_length, hr.1]) ((fun j u hu => Ins.cells hr j u (by unfold celi at hu; exact hu))) (celi_cell ys) (by unfold maxLen; omega) (by omega) hbase; rw [← celi_append] at hO; obtain ⟨A', c', rfl, hO'⟩ := own_of_row_i hO; exact ⟨A', c', w', hrun, hO', hg⟩
theorem wpList_app_i (w : World) {ops : Array Oper} {rest : List Oper} {o : Oper} {a : Act} {Q : Exit → Act → World → Prop} (hgd : o.guard = none) (s x : Operand)
  (ho : o.op = .call { callee := .builtin .append, args := #[s, x], argTypes := #[68, 68] })
  (base : Nat) (A : Option Addr) (n c : Nat) (xs : List Int) (hs : a.eval s = .slice A n c) (hown : IOwn w base A n c xs)
  (ok : Nat → Prop) (C : Option Addr) (m d : Nat) (ys : List Int) (hx : a.eval x = .slice C m d) (hr : Ins w ok C m ys) (hnil : C = none → m = 0 ∧ d = 0) (N : Nat) (hN : n + m = N) (hlen : n + m ≤ 4000000) (hbase : base ≤ w.heap.size)
  (h : ∀ A' c' w', IOwn w' base A' N c' (xs ++ ys) → w.grownBy w' (Value.slice A n c).ownBlock → wpList Tryz.prog ops Q rest (a.put o.dst (.slice A' N c')) w') :
  wpList Tryz.prog ops Q (o :: rest) a w := by
 subst hN; refine wpList_plain hgd fun K hK => ?_
 obtain ⟨A', c', w', hrun, hO, hg⟩ := run_app_i w o.type base A n c xs hown ok C m d ys hr hnil hlen hbase; unfold Oper.wp; simp [execOp, ho, resolve, invoke, builtin, hs, hx, hrun, Result.andThen]; exact hK _ _ (h A' c' w' hO hg)
theorem step_app_i (w : World) {ops : Array Oper} {o : Oper} {a : Act} {K : Act → World → Prop} {Q : Exit → Act → World → Prop} {E : Prop} (hgd : o.guard = none) (s x : Operand)
  (ho : o.op = .call { callee := .builtin .append, args := #[s, x], argTypes := #[68, 68] })
  (base : Nat) (A : Option Addr) (n c : Nat) (xs : List Int) (hs : a.eval s = .slice A n c) (hown : IOwn w base A n c xs)
  (ok : Nat → Prop) (C : Option Addr) (m d : Nat) (ys : List Int) (hx : a.eval x = .slice C m d) (hr : Ins w ok C m ys) (hnil : C = none → m = 0 ∧ d = 0) (N : Nat) (hN : n + m = N) (hlen : n + m ≤ 4000000) (hbase : base ≤ w.heap.size)
  (h : ∀ A' c' w', IOwn w' base A' N c' (xs ++ ys) → w.grownBy w' (Value.slice A n c).ownBlock → K (a.put o.dst (.slice A' N c')) w') :
  if Region.wanted o (yielded ops a.tmps) = true then Oper.wp Tryz.prog o a w K Q else E := by
 subst hN; have hw : Region.wanted o (yielded ops a.tmps) = true := by simp [Region.wanted, hgd]
 rw [if_pos hw]; obtain ⟨A', c', w', hrun, hO, hg⟩ := run_app_i w o.type base A n c xs hown ok C m d ys hr hnil hlen hbase; unfold Oper.wp execOp; simp only [ho, resolve, invoke, builtin, Sem.run_bind, Sem.run_pure, Result.andThen_ok, List.map_toArray, List.map_cons, List.map_nil, hs, hx, hrun]; exact h A' c' w' hO hg
def COwn (w : World) (base : Nat) (A : Option Addr) (n c : Nat) (xs : List Co) : Prop := w.ownsRow base 41 5 (.slice A n c) n (cel5 xs)
section
variable {w w' : World} {base n c : Nat} {A : Option Addr} {xs : List Co}
theorem COwn.nil : COwn w base none 0 0 [] := World.ownsRow_nil w base _ 5
theorem COwn.len (h : COwn w base A n c xs) : xs.length = n := by have := h.1; rw [cel5_length] at this; omega
theorem COwn.lt (h : COwn w base A n c xs) : ∀ k, (Value.slice A n c).ownBlock = some k → base ≤ k ∧ k < w.heap.size := World.ownsRow.lt h
theorem COwn.below (h : COwn w base A n c xs) (hb : Below w.heap.size w w') : COwn w' base A n c xs := by
 refine World.ownsRow.kept h (grown_of_below hb) ?_; cases A with
 | none => exact .inl rfl
 | some a => exact .inr (by simp [Value.ownBlock])
theorem COwn.row (h : COwn w base A n c xs) : Cvs w (fun b => base ≤ b ∧ b < w.heap.size) A n xs := by
 obtain ⟨A', c', e, hl⟩ := c_own_ h; injection e with e1 e2 e3
 subst e1; exact hl
theorem COwn.drew (h : COwn w base A n c xs) : COwn w.drew base A n c xs := h
theorem COwn.made (w : World) : COwn (w.alloc (.cells #[] 41)) w.heap.size (some ⟨w.heap.size, 0, none⟩) 0 0 [] := World.ownsRow_made w #[] 0 (Nat.le_refl _) (Nat.zero_le _) (by simp)
end
theorem own_of_row_c {w : World} {base k : Nat} {v : Value} {xs : List Co} (h : w.ownsRow base 41 5 v k (cel5 xs)) : ∃ A c, v = .slice A k c ∧ COwn w base A k c xs := by
 rcases h.2 with ⟨rfl, hn⟩ | ⟨g, cap, cur, rfl, hr⟩
 ·subst hn; exact ⟨_, _, rfl, h⟩
 ·exact ⟨_, _, rfl, h⟩
theorem run_app_c (w : World) (ty : TypeId) (base : Nat) (A : Option Addr) (n c : Nat) (xs : List Co) (hown : COwn w base A n c xs)
  (ok : Nat → Prop) (C : Option Addr) (m d : Nat) (ys : List Co) (hr : Cvs w ok C m ys) (hnil : C = none → m = 0 ∧ d = 0) (hlen : n + m ≤ 4000000) (hbase : base ≤ w.heap.size) :
  ∃ A' c' w', (Builtin.append_ #[30, 30] ty #[.slice A n c, .slice C m d]).run Tryz.prog w = .ok (.slice A' (n + m) c') w' ∧ COwn w' base A' (n + m) c' (xs ++ ys) ∧ w.grownBy w' (Value.slice A n c).ownBlock := by
 obtain ⟨i, hi, hz, h1, h2⟩ := info_parts info_cover; cases C with
 | none =>
  obtain ⟨rfl, rfl⟩ := hnil rfl; have hy : ys = [] := List.eq_nil_of_length_eq_zero hr.1; subst hy; exact ⟨A, c, w, run_append_owned_none (P := Tryz.prog) (w := w) base _ ty 41 i 5 Tryz.underlying30 hi _ n _ hown, by rw [List.append_nil]; exact hown, World.grownBy.refl w _⟩
 | some ad =>
  obtain ⟨v', w', hrun, hO, hg, _⟩ := run_append_own (P := Tryz.prog) w base 30 ty 41 i _ 5 40 Tryz.underlying30 hi hz h1 h2 rfl (by omega) (.slice A n c) n _ hown ad m d (cel5 ys) (by rw [cel5_length, hr.1]) ((Cvs.cells hr)) (cel5_cell ys) (by unfold maxLen; omega) (by omega) hbase; rw [← cel5_append] at hO; obtain ⟨A', c', rfl, hO'⟩ := own_of_row_c hO; exact ⟨A', c', w', hrun, hO', hg⟩
theorem wpList_app_c (w : World) {ops : Array Oper} {rest : List Oper} {o : Oper} {a : Act} {Q : Exit → Act → World → Prop} (hgd : o.guard = none) (s x : Operand)
  (ho : o.op = .call { callee := .builtin .append, args := #[s, x], argTypes := #[30, 30] })
  (base : Nat) (A : Option Addr) (n c : Nat) (xs : List Co) (hs : a.eval s = .slice A n c) (hown : COwn w base A n c xs)
  (ok : Nat → Prop) (C : Option Addr) (m d : Nat) (ys : List Co) (hx : a.eval x = .slice C m d) (hr : Cvs w ok C m ys) (hnil : C = none → m = 0 ∧ d = 0) (N : Nat) (hN : n + m = N) (hlen : n + m ≤ 4000000) (hbase : base ≤ w.heap.size)
  (h : ∀ A' c' w', COwn w' base A' N c' (xs ++ ys) → w.grownBy w' (Value.slice A n c).ownBlock → wpList Tryz.prog ops Q rest (a.put o.dst (.slice A' N c')) w') :
  wpList Tryz.prog ops Q (o :: rest) a w := by
 subst hN; refine wpList_plain hgd fun K hK => ?_
 obtain ⟨A', c', w', hrun, hO, hg⟩ := run_app_c w o.type base A n c xs hown ok C m d ys hr hnil hlen hbase; unfold Oper.wp; simp [execOp, ho, resolve, invoke, builtin, hs, hx, hrun, Result.andThen]; exact hK _ _ (h A' c' w' hO hg)
theorem step_app_c (w : World) {ops : Array Oper} {o : Oper} {a : Act} {K : Act → World → Prop} {Q : Exit → Act → World → Prop} {E : Prop} (hgd : o.guard = none) (s x : Operand)
  (ho : o.op = .call { callee := .builtin .append, args := #[s, x], argTypes := #[30, 30] })
  (base : Nat) (A : Option Addr) (n c : Nat) (xs : List Co) (hs : a.eval s = .slice A n c) (hown : COwn w base A n c xs)
  (ok : Nat → Prop) (C : Option Addr) (m d : Nat) (ys : List Co) (hx : a.eval x = .slice C m d) (hr : Cvs w ok C m ys) (hnil : C = none → m = 0 ∧ d = 0) (N : Nat) (hN : n + m = N) (hlen : n + m ≤ 4000000) (hbase : base ≤ w.heap.size)
  (h : ∀ A' c' w', COwn w' base A' N c' (xs ++ ys) → w.grownBy w' (Value.slice A n c).ownBlock → K (a.put o.dst (.slice A' N c')) w') :
  if Region.wanted o (yielded ops a.tmps) = true then Oper.wp Tryz.prog o a w K Q else E := by
 subst hN; have hw : Region.wanted o (yielded ops a.tmps) = true := by simp [Region.wanted, hgd]
 rw [if_pos hw]; obtain ⟨A', c', w', hrun, hO, hg⟩ := run_app_c w o.type base A n c xs hown ok C m d ys hr hnil hlen hbase; unfold Oper.wp execOp; simp only [ho, resolve, invoke, builtin, Sem.run_bind, Sem.run_pure, Result.andThen_ok, List.map_toArray, List.map_cons, List.map_nil, hs, hx, hrun]; exact h A' c' w' hO hg
end Qo
end Go.Proofs.YtplenoaajokpjaaGreat
namespace Go.Proofs.YtplenoaajokpjaaGreat
open Go.RowKit Ba Tf Cv Qm
namespace Qo
set_option linter.unusedVariables false
def nonneg (xs : List Int) : Prop := ∀ x ∈ xs, 0 ≤ x
def sumL (xs : List Int) : Int := xs.foldl (· + ·) 0
theorem sumL_snoc (xs : List Int) (x : Int) : sumL (xs ++ [x]) = sumL xs + x := by simp [sumL, List.foldl_append]
theorem foldl_add (xs : List Int) (a : Int) : xs.foldl (· + ·) a = a + xs.foldl (· + ·) 0 := by
 induction xs generalizing a with
 | nil => simp
 | cons x xs ih => simp only [List.foldl_cons]; rw [ih (a + x), ih (0 + x)]; omega
theorem sumL_cons (x : Int) (xs : List Int) : sumL (x :: xs) = x + sumL xs := by
 unfold sumL; rw [List.foldl_cons, foldl_add]; omega
theorem sumL_append (xs ys : List Int) : sumL (xs ++ ys) = sumL xs + sumL ys := by
 unfold sumL; rw [List.foldl_append, foldl_add]
theorem sumL_nonneg {xs : List Int} (h : nonneg xs) : 0 ≤ sumL xs := by
 induction xs with
 | nil => simp [sumL]
 | cons x xs ih => rw [sumL_cons]; have := h x (by simp); have := ih (fun y hy => h y (by simp [hy])); omega
theorem nonneg_take {xs : List Int} (h : nonneg xs) (k : Nat) : nonneg (xs.take k) := fun x hx => h x (List.mem_of_mem_take hx)
theorem sumL_take_le {xs : List Int} (h : nonneg xs) (k : Nat) : sumL (xs.take k) ≤ sumL xs := by
 have e : sumL xs = sumL (xs.take k) + sumL (xs.drop k) := by rw [← sumL_append, List.take_append_drop]
 have := sumL_nonneg (xs := xs.drop k) (fun x hx => h x (List.mem_of_mem_drop hx)); omega
theorem take_more {xs : List Int} {k : Nat} {x : Int} (h : xs[k]? = some x) : xs.take (k + 1) = xs.take k ++ [x] := take_get h
def sumVal (xs : List Int) : Value := if sumL xs ≤ 4000000000000000000 then .tuple #[.int .i64 (sumL xs), .bool true] else .tuple #[.int .i64 0, .bool false]
theorem sumVal_ok {xs : List Int} (h : sumL xs ≤ 4000000000000000000) : Ending.returned (.tuple #[.int .i64 (sumL xs), .bool true]) = .returned (sumVal xs) := by rw [sumVal, if_pos h]
theorem sumVal_no {xs : List Int} {k : Nat} {x : Int} (hp : nonneg xs) (hx : xs[k]? = some x) (h : 4000000000000000000 - sumL (xs.take k) < x) : Ending.returned (.tuple #[.int .i64 0, .bool false]) = .returned (sumVal xs) := by
 have := sumL_take_le hp (k + 1); rw [take_more hx, sumL_snoc] at this; rw [sumVal, if_neg (by omega)]
set_option maxRecDepth 100000 in
set_option maxHeartbeats 1000000 in
theorem rsum (A : Option Addr) (n c : Nat) (ok : Nat → Prop) (xs : List Int) (w : World) (h : Ins w ok A n xs) (hn : n ≤ maxLen) (hp : nonneg xs) :
  Calls Tryz.prog 78 #[.slice A n c] w fun e w' => e = .returned (sumVal xs) ∧ w = w' := by
 unfold maxLen at hn; have H := Lib.hid h; have HP := Lib.hid hp; clear h hp; go_enter Tryz.func78, Tryz.ntmps78; go_wp2
 go_loop [4, 5] (fun s i => ∃ (k : Nat) (t : Int), k ≤ n ∧ i = .int .i64 (k : Int) ∧ s = .int .i64 t ∧ 0 ≤ t ∧ t ≤ 4000000000000000000 ∧ Hid (t = sumL (xs.take k))) (fun _ i => n - (intOf i).toNat)
 case atStart => exact ⟨0, 0, Nat.zero_le _, rfl, rfl, by omega, by omega, Lib.hid (by simp [sumL])⟩
 case round =>
  obtain ⟨k, t, hk, rfl, rfl, ht0, ht1, HT⟩ := hrel; by_cases hlt : k < n
  ·obtain ⟨ad, x, rfl, hb, hx, hc⟩ := H.out.get hlt; have hx0 : 0 ≤ x := HP.out x (List.mem_of_getElem? hx); have HX := Lib.hid hx; clear hx; obtain ⟨d, hd⟩ : ∃ d : Int, d = 4000000000000000000 - t := ⟨_, rfl⟩; have ed : 4000000000000000000 - t = d := hd.symm; have HD := Lib.hid hd; clear hd; by_cases ho : d < x
   ·have tt : decide (d < x) = true := by simpa using ho
    go_wp2; go_ret2; refine ⟨sumVal_no HP.out HX.out ?_, rfl⟩; rw [← HT.out, ← HD.out]; exact ho
   ·have tt : decide (d < x) = false := by simpa using ho
    have hs : t + x ≤ 4000000000000000000 := by have := HD.out; omega
    go_wp2
    go_round
    case rel =>
     refine ⟨k + 1, t + x, by omega, by go_num, rfl, by omega, by omega, Lib.hid ?_⟩; rw [take_more HX.out, sumL_snoc, ← HT.out]
    case measure => simp [intOf]; omega
  ·go_wp2; go_ret2; have e : xs.take k = xs := List.take_of_length_le (by have := H.out.1; omega); have ht := HT.out; rw [e] at ht; subst ht; exact ⟨sumVal_ok ht1, rfl⟩
structure RY (w W : World) (r : Rw) (x : Ri) (A : Option Addr) (k d : Nat) (zs : List Int) : Prop where
 b : Below w.heap.size w W
 v : Bx W w.heap.size 70 (vc r)
 r : Bx W (w.heap.size + 1) 29 (rc x)
 o : IOwn W (w.heap.size + 1 + 1) A k d zs
section
variable {w W W' : World} {r : Rw} {x : Ri} {A A' : Option Addr} {k d k' d' : Nat} {zs zs' : List Int}
theorem RY.next (h : RY w W r x A k d zs) (hb : Below W.heap.size W W') : RY w W' r x A k d zs := ⟨h.b.trans (hb.mono h.b.size), h.v.keep hb, h.r.keep hb, h.o.below hb⟩
theorem RY.grow (h : RY w W r x A k d zs) (hO : IOwn W' (w.heap.size + 1 + 1) A' k' d' zs') (hg : W.grownBy W' (Value.slice A k d).ownBlock) : RY w W' r x A' k' d' zs' := by
 have hl := h.r.lt; have hb : Below (w.heap.size + 1 + 1) W W' := (Below.refl _ W).grown hg (by omega) fun j hj => (h.o.lt j hj).1
 exact ⟨h.b.trans (hb.mono (by omega)), h.v.below hb (by omega), h.r.below hb (by omega), hO⟩
theorem RY.start (w : World) (r : Rw) (x : Ri) : RY w ((w.alloc (.cells (vc r) 70)).alloc (.cells (rc x) 29)) r x none 0 0 [] := by
 refine ⟨(alloc_ _ _).alloc (by simp) _, (Bx.new _ _ _).alloc _, ?_, IOwn.nil⟩; have := Bx.new (w.alloc (.cells (vc r) 70)) 29 (rc x); rw [World.size_alloc] at this; exact this
end
theorem below_drew (w : World) : Below w.heap.size w w.drew := ⟨rfl, rfl, rfl, Nat.le_refl _, fun _ _ => rfl⟩
set_option maxRecDepth 100000 in
set_option maxHeartbeats 4000000 in
theorem ryear (r : Rw) (x : Ri) (A : Option Addr) (n d : Nat) (cs : List Co) (w : World) (M : Mean w (· < w.heap.size) r) (S : Lo r) (hC : Cvs w (· < w.heap.size) A n cs) (hn : n ≤ 1000) :
  Calls Tryz.prog 56 #[vg r, rg x, .slice A n d] w (Tells w (yr (qd r.v x) 0 cs)) := by
 have HC := Lib.hid hC; have C := fun (c : Co) (W : World) (h : Below w.heap.size w W) => Lib.hid (rcost r x c W (M.below h) S)
 have HQ := Lib.hid (qd_bd r.v x); generalize qd r.v x = f at C HQ ⊢; obtain ⟨R, hR⟩ : ∃ R, yr f 0 cs = R := ⟨_, rfl⟩; rw [hR]; have HR := Lib.hid hR; clear M S hC hR; obtain ⟨W0, hW⟩ : ∃ W0, ((w.alloc (.cells (vc r) 70)).alloc (.cells (rc x) 29)) = W0 := ⟨_, rfl⟩; have HY := Lib.hid (show RY w W0 r x none 0 0 [] by rw [← hW]; exact RY.start w r x); have HW := Lib.hid hW; clear hW; go_enter Tryz.func56, Tryz.ntmps56; go_wp2; rw [HW.out]; clear HW
 go_loopw [8, 9] (fun s8 i w' => ∃ (k : Nat) (A1 : Option Addr) (d1 : Nat) (zs : List Int) (W : World), k ≤ n ∧ i = .int .i64 (k : Int) ∧ s8 = .slice A1 k d1 ∧ W = w' ∧ Hid (RY w W r x A1 k d1 zs) ∧ Hid (yr f (sumL zs) (cs.drop k) = R) ∧ Hid (nonneg zs)) (fun _ i _ => n - (intOf i).toNat)
 case atStart => exact ⟨0, none, 0, [], _, Nat.zero_le _, rfl, rfl, rfl, HY, HR, Lib.hid (fun x hx => by cases hx)⟩
 case round =>
  obtain ⟨k, A1, d1, zs, W, hk, rfl, rfl, rfl, HB, HT, HZ⟩ := hrel; clear HY; by_cases hlt : k < n
  ·obtain ⟨ad, c, rfl, hb, hc, hN⟩ := (HC.out.below HB.out.b).get hlt; have HD := Lib.hid (drop_get hc); obtain ⟨c0, c1, c2, c3, c4⟩ := hN; have hlt2 : (k : Int) < (n : Int) := by omega
   obtain ⟨q1, q2, q3, q4, q5⟩ := HQ.out c; have C1 := fun (p : Ext W) => C c p.W (HB.out.b.trans (p.b.mono HB.out.b.size))
   obtain ⟨⟨m, cd⟩, hp⟩ : ∃ p, f c = p := ⟨_, rfl⟩; rw [hp] at C1 q1 q2 q3 q4 q5; simp only at q1 q2 q3 q4 q5; have HE := Lib.hid (fun h : cd ≠ 0 => show R = (0, cd) by rw [← HT.out, HD.out, yr_err (by rw [hp]; exact h), hp]); have HO := Lib.hid (fun h : cd = 0 => show yr f (sumL zs + m) (cs.drop (k + 1)) = R by rw [← HT.out, HD.out, yr_step (by rw [hp]; exact h), hp]); clear hc C HT HD hp; have x0 : ∀ p : Ext W, p.W.cell? ⟨w.heap.size, 0, none⟩ = some (.int .i64 r.v.fr) := fun p => HB.out.v.ext p 0
   have x1 : ∀ p : Ext W, p.W.cell? ⟨w.heap.size, 1, none⟩ = some (.int .i64 r.v.b0) := fun p => HB.out.v.ext p 1
   have x2 : ∀ p : Ext W, p.W.cell? ⟨w.heap.size, 2, none⟩ = some (.int .i64 r.v.b1) := fun p => HB.out.v.ext p 2
   have x3 : ∀ p : Ext W, p.W.cell? ⟨w.heap.size, 3, none⟩ = some (.int .i64 r.v.b2) := fun p => HB.out.v.ext p 3
   have x4 : ∀ p : Ext W, p.W.cell? ⟨w.heap.size, 4, none⟩ = some (.int .i64 r.v.b3) := fun p => HB.out.v.ext p 4
   have x5 : ∀ p : Ext W, p.W.cell? ⟨w.heap.size, 5, none⟩ = some (.slice r.A r.la r.ca) := fun p => HB.out.v.ext p 5
   have x6 : ∀ p : Ext W, p.W.cell? ⟨w.heap.size, 6, none⟩ = some (.slice r.Z r.lz r.cz) := fun p => HB.out.v.ext p 6
   have x7 : ∀ p : Ext W, p.W.cell? ⟨w.heap.size, 7, none⟩ = some (.slice r.P r.lp r.cp) := fun p => HB.out.v.ext p 7
   have x8 : ∀ p : Ext W, p.W.cell? ⟨w.heap.size, 8, none⟩ = some (.int .i64 r.v.mn) := fun p => HB.out.v.ext p 8
   have y0 : ∀ p : Ext W, p.W.cell? ⟨w.heap.size + 1, 0, none⟩ = some (.int .i64 x.k) := fun p => HB.out.r.ext p 0
   have y1 : ∀ p : Ext W, p.W.cell? ⟨w.heap.size + 1, 1, none⟩ = some (.int .i64 x.v) := fun p => HB.out.r.ext p 1
   have y2 : ∀ p : Ext W, p.W.cell? ⟨w.heap.size + 1, 2, none⟩ = some (.int .i64 x.a) := fun p => HB.out.r.ext p 2
   have y3 : ∀ p : Ext W, p.W.cell? ⟨w.heap.size + 1, 3, none⟩ = some (.int .i64 x.z) := fun p => HB.out.r.ext p 3
   have hb5 : (ad.add (k * 5)).block < W.heap.size := by rw [add_block]; exact hb
   have e0 : ∀ p : Ext W, p.W.cell? (ad.add (k * 5)) = some (.int .i64 c.p) := fun p => (p.b.cell hb5).trans c0
   have e1 : ∀ p : Ext W, p.W.cell? ⟨(ad.add (k * 5)).block, (ad.add (k * 5)).off + 1, none⟩ = some (.int .i64 c.l) := fun p => (p.b.cell (p := ⟨(ad.add (k * 5)).block, (ad.add (k * 5)).off + 1, none⟩) hb5).trans c1
   have e2 : ∀ p : Ext W, p.W.cell? ⟨(ad.add (k * 5)).block, (ad.add (k * 5)).off + 2, none⟩ = some (.int .i64 c.g) := fun p => (p.b.cell (p := ⟨(ad.add (k * 5)).block, (ad.add (k * 5)).off + 2, none⟩) hb5).trans c2
   have e3 : ∀ p : Ext W, p.W.cell? ⟨(ad.add (k * 5)).block, (ad.add (k * 5)).off + 3, none⟩ = some (.int .i64 c.d) := fun p => (p.b.cell (p := ⟨(ad.add (k * 5)).block, (ad.add (k * 5)).off + 3, none⟩) hb5).trans c3
   have e4 : ∀ p : Ext W, p.W.cell? ⟨(ad.add (k * 5)).block, (ad.add (k * 5)).off + 4, none⟩ = some (.int .i64 c.s) := fun p => (p.b.cell (p := ⟨(ad.add (k * 5)).block, (ad.add (k * 5)).off + 4, none⟩) hb5).trans c4
   clear c0 c1 c2 c3 c4 hb5 hb; go_wp2; have ne : Nonempty (Ext W) := ⟨⟨W, Below.refl _ _⟩⟩; refine quietE (by kernel_rfl) (by kernel_rfl) ?_
   repeat (quiet_step (first
    | (go_at_call 77; with_reducible exact ext_of (C1 _).out)
    | fail))
   refine wpQuiet_nil ?_; rintro _ ⟨p, rfl⟩; have HB2 := Lib.hid (HB.out.next p.b); generalize p.W = w2 at HB2 ⊢; clear C1 HB ne e0 e1 e2 e3 e4 x0 x1 x2 x3 x4 x5 x6 x7 x8 y0 y1 y2 y3; by_cases hcd : cd = 0
   ·subst hcd; have HO2 := Lib.hid (HO.out rfl); have HZ2 := Lib.hid (show nonneg (zs ++ [m]) from fun y hy => by rcases List.mem_append.1 hy with h | h; exact HZ.out y h; simp at h; omega); have HB3 := Lib.hid (HB2.out.next (alloc_ w2 (.cells #[.int .i64 m] 3))); have HI := Lib.hid (ins_box (xs := [m]) (Bx.new w2 3 #[.int .i64 m]) (fun _ => True) trivial); have hk2 : k + 1 ≤ 4000000 := by omega
    have hbase : w.heap.size + 1 + 1 ≤ (w2.alloc (.cells #[.int .i64 m] 3)).heap.size := by have := HB3.out.r.lt; omega
    clear HE HO q5 HB2
    go_wp2_with (at_builtin; refine wpList_app_i (w2.alloc (.cells #[.int .i64 m] 3)) (by rfl) (.tmp 33) (.tmp 35) (by rfl) (w.heap.size + 1 + 1) A1 k d1 zs (by rfl) HB3.out.o _ (some ⟨w2.heap.size, 0, none⟩) 1 1 [m] (by rfl) HI.out (fun h => by cases h) (k + 1) rfl hk2 hbase ?_; intro A4 c4 W4 hO4 hg4; have HB4 := Lib.hid (HB3.out.grow hO4 hg4); clear hO4 hg4)
    go_roundw
    case rel => exact ⟨k + 1, A4, c4, zs ++ [m], _, by omega, by go_num, rfl, rfl, HB4, Lib.hid (by rw [sumL_snoc]; exact HO2.out), HZ2⟩
    case measure => simp [intOf]; omega
   ·have t1 : (cd == 0) = false := by rw [beq_eq_false_iff_ne]; exact hcd
    have HE2 := Lib.hid (HE.out hcd); clear HO HE hcd; go_wp2; go_ret2; exact ⟨by rw [HE2.out]; rfl, HB2.out.b⟩
  ·have HE := Lib.hid (show yr f (sumL zs) [] = R by have := HT.out; rwa [List.drop_of_length_le (by rw [HC.out.1]; omega)] at this); have CS := Lib.hid (rsum A1 k d1 _ zs W HB.out.o.row (by unfold maxLen; omega) HZ.out); by_cases hs : sumL zs ≤ 4000000000000000000
   ·rw [sumVal, if_pos hs] at CS; have HF := Lib.hid (show R = (sumL zs, 0) by rw [← HE.out, yr_done (by omega)]); generalize sumL zs = s at CS HF; clear hs HE HT
    go_wp2_with (go_at_call 78; refine CS.out.mono ?_; rintro e w2 ⟨rfl, rfl⟩)
    go_ret2; exact ⟨by rw [HF.out]; rfl, HB.out.b⟩
   ·rw [sumVal, if_neg hs] at CS; have HF := Lib.hid (show R = (0, 5) by rw [← HE.out, yr_over (by omega)]); clear hs HE HT
    go_wp2_with (go_at_call 78; refine CS.out.mono ?_; rintro e w2 ⟨rfl, rfl⟩)
    go_ret2; exact ⟨by rw [HF.out]; rfl, HB.out.b⟩
end Qo
end Go.Proofs.YtplenoaajokpjaaGreat
