/-
  Even of package num and what it stands on. Conditions: those of each theorem.
-/
import Derived.Test.YtplenoaajokpjaaGreatRows
import Derived.WalkKit
import Derived.WalkSpells
import Derived.WalkLawsBesides
import Derived.Lib.Mul64
import Derived.Laws.Bits64b
import Derived.Lib.Hide
import Derived.Test.YtplenoaajokpjaaGreatKLen
import Derived.Deep.QuietTactic
import Derived.BigQuiet
import Derived.Deep.DeepCutAuto
import Derived.Deep.CutBlock
import Derived.WalkSmall
namespace Go.Proofs.YtplenoaajokpjaaGreat.NumMath
theorem digit_lt {B Y u d : Nat} (hu : u < Y) (hd : d < B) : (u * B + d) / Y < B := by
 have hY : 0 < Y := by omega
 rw [Nat.div_lt_iff_lt_mul hY]; have h1 : (u + 1) * B ≤ Y * B := Nat.mul_le_mul_right B hu; rw [Nat.add_mul, Nat.one_mul] at h1; rw [Nat.mul_comm B Y]; omega
theorem digit_start {B y1 y0 u d : Nat} (h1 : 0 < y1) (hB : B ≤ 2 * y1) (h0 : y0 < B) (hu : u < y1 * B + y0) (hd : d < B) :
  (u * B + d) / (y1 * B + y0) ≤ u / y1 ∧ u / y1 ≤ B + 1 := by
 have hY : 0 < y1 * B + y0 := by omega
 constructor
 ·rw [Nat.le_div_iff_mul_le h1]; have h := Nat.div_mul_le_self (u * B + d) (y1 * B + y0); generalize (u * B + d) / (y1 * B + y0) = t at h; rw [Nat.mul_add, ← Nat.mul_assoc] at h; have h2 : t * y1 * B < (u + 1) * B := by rw [Nat.add_mul, Nat.one_mul]; omega
  have := Nat.lt_of_mul_lt_mul_right h2; omega
 ·have h2 : u < (B + 2) * y1 := by
   have : (B + 2) * y1 = y1 * B + 2 * y1 := by rw [Nat.add_mul, Nat.mul_comm B y1]
   omega
  have := (Nat.div_lt_iff_lt_mul h1).2 h2; omega
theorem digit_yes {B y1 y0 u d q r : Nat} (hu : u < y1 * B + y0) (hd : d < B) (hI : q * y1 + r = u)
  (ht : B ≤ q ∨ B * r + d < q * y0) : (u * B + d) / (y1 * B + y0) < q := by
 rcases ht with h | h
 ·exact Nat.lt_of_lt_of_le (digit_lt hu hd) h
 ·have hY : 0 < y1 * B + y0 := by omega
  rw [Nat.div_lt_iff_lt_mul hY, ← hI, Nat.add_mul, Nat.mul_add, ← Nat.mul_assoc, Nat.mul_comm r B]; omega
theorem digit_no {B y1 y0 u d q r : Nat} (hu : u < y1 * B + y0) (hI : q * y1 + r = u)
  (ht : q * y0 ≤ B * r + d) : q ≤ (u * B + d) / (y1 * B + y0) := by
 have hY : 0 < y1 * B + y0 := by omega
 rw [Nat.le_div_iff_mul_le hY, ← hI, Nat.add_mul, Nat.mul_add, ← Nat.mul_assoc, Nat.mul_comm r B]; omega
theorem digit_out {B y1 y0 u d q r : Nat} (h0 : y0 < B) (hu : u < y1 * B + y0) (hI : q * y1 + r = u)
  (hq : q ≤ B) (hr : B ≤ r) : q ≤ (u * B + d) / (y1 * B + y0) := by
 refine digit_no hu hI ?_; have h1 : q * y0 ≤ B * r := Nat.mul_le_mul hq (by omega); omega
theorem digit_less {y1 q r u : Nat} (h : 0 < q) (hI : q * y1 + r = u) : (q - 1) * y1 + (r + y1) = u := by
 obtain ⟨k, rfl⟩ : ∃ k, q = k + 1 := ⟨q - 1, by omega⟩; rw [Nat.add_mul, Nat.one_mul] at hI; simp only [Nat.add_sub_cancel]; omega
theorem two_digits {B Y u d1 d0 : Nat} (hY : 0 < Y) :
  ((u * B + d1) / Y) * B + ((u * B + d1) % Y * B + d0) / Y = (u * (B * B) + (d1 * B + d0)) / Y ∧
  ((u * B + d1) % Y * B + d0) % Y = (u * (B * B) + (d1 * B + d0)) % Y := by
 have h := Nat.div_add_mod (u * B + d1) Y; have e : u * (B * B) + (d1 * B + d0) = (u * B + d1) * B + d0 := by rw [Nat.add_mul, Nat.mul_assoc]; omega
 rw [e]; generalize (u * B + d1) / Y = q at *; generalize (u * B + d1) % Y = r at *; rw [← h, Nat.add_mul, Nat.mul_assoc, Nat.add_assoc]; exact ⟨(Nat.mul_add_div hY _ _).symm, (Nat.mul_add_mod _ _ _).symm⟩
theorem scaled {s N y : Nat} : (N * 2 ^ s) / (y * 2 ^ s) = N / y ∧ (N * 2 ^ s) % (y * 2 ^ s) = N % y * 2 ^ s :=
 ⟨Nat.mul_div_mul_right _ _ (Nat.two_pow_pos s), Nat.mul_mod_mul_right _ _ _⟩
theorem shifted {s hi lo : Nat} (hs : s ≤ 64) (_hlo : lo < 18446744073709551616) :
  (hi * 2 ^ s + lo / 2 ^ (64 - s)) * 18446744073709551616 + lo * 2 ^ s % 18446744073709551616 = (hi * 18446744073709551616 + lo) * 2 ^ s := by
 have e : (18446744073709551616 : Nat) = 2 ^ (64 - s) * 2 ^ s := by
  rw [← Nat.pow_add, Nat.sub_add_cancel hs]
 have h1 : lo * 2 ^ s % 18446744073709551616 = (lo % 2 ^ (64 - s)) * 2 ^ s := by
  rw [e, Nat.mul_mod_mul_right]
 rw [h1, Nat.add_mul]; have h2 := Nat.div_add_mod lo (2 ^ (64 - s))
 have h3 : lo / 2 ^ (64 - s) * 18446744073709551616 = 2 ^ (64 - s) * (lo / 2 ^ (64 - s)) * 2 ^ s := by
  rw [e, ← Nat.mul_assoc, Nat.mul_comm (lo / _)]
 rw [h3, Nat.add_assoc, ← Nat.add_mul, h2, Nat.add_mul, Nat.mul_right_comm]
theorem top_set {y n : Nat} (h1 : y < 2 ^ n) (h2 : 2 ^ n ≤ 2 * y) (hn : n ≤ 64) :
  9223372036854775808 ≤ y * 2 ^ (64 - n) ∧ y * 2 ^ (64 - n) < 18446744073709551616 := by
 have e : (18446744073709551616 : Nat) = 2 ^ n * 2 ^ (64 - n) := by
  rw [← Nat.pow_add, Nat.add_sub_cancel' hn]
 have a := Nat.mul_lt_mul_of_pos_right h1 (Nat.two_pow_pos (64 - n)); have b := Nat.mul_le_mul_right (2 ^ (64 - n)) h2; rw [← e] at a b; rw [Nat.mul_assoc] at b; omega
def DigI (y1 u Q q r : Nat) : Prop := q * y1 + r = u ∧ Q ≤ q ∧ q ≤ 4294967297 ∧ r < 4294967296
structure Dig (y1 y0 u d Q : Nat) : Prop where
 h1 : 2147483648 ≤ y1
 h1' : y1 < 4294967296
 h0 : y0 < 4294967296
 hu : u < y1 * 4294967296 + y0
 hd : d < 4294967296
 hQ : Q = (u * 4294967296 + d) / (y1 * 4294967296 + y0)
section
variable {y1 y0 u d Q q r : Nat}
theorem Dig.lt (D : Dig y1 y0 u d Q) : Q < 4294967296 := by rw [D.hQ]; exact digit_lt D.hu D.hd
theorem Dig.start (D : Dig y1 y0 u d Q) : DigI y1 u Q (u / y1) (u - u / y1 * y1) ∧ u / y1 * y1 ≤ u := by
 have h1 := D.h1; have h1' := D.h1'; have a := digit_start (B := 4294967296) (by omega) (by omega) D.h0 D.hu D.hd; rw [← D.hQ] at a; have b := Nat.div_mul_le_self u y1; have c := Nat.mod_lt u (show 0 < y1 by omega); have e := Nat.div_add_mod u y1; rw [Nat.mul_comm] at e; exact ⟨⟨by omega, a.1, by omega, by omega⟩, b⟩
theorem Dig.pos (D : Dig y1 y0 u d Q) (I : DigI y1 u Q q r) (ht : 4294967296 ≤ q ∨ 4294967296 * r + d < q * y0) : Q < q := by
 rw [D.hQ]; exact digit_yes D.hu D.hd I.1 ht
theorem Dig.next (D : Dig y1 y0 u d Q) (I : DigI y1 u Q q r) (ht : 4294967296 ≤ q ∨ 4294967296 * r + d < q * y0) (hr : r + y1 < 4294967296) : DigI y1 u Q (q - 1) (r + y1) := by
 have h := D.pos I ht; obtain ⟨a, b, c, e⟩ := I; exact ⟨digit_less (by omega) a, by omega, by omega, hr⟩
theorem Dig.out (D : Dig y1 y0 u d Q) (I : DigI y1 u Q q r) (ht : 4294967296 ≤ q ∨ 4294967296 * r + d < q * y0) (hr : 4294967296 ≤ r + y1) : q - 1 = Q := by
 have h := D.pos I ht; obtain ⟨a, b, c, e⟩ := I; have o := digit_out (d := d) D.h0 D.hu (digit_less (by omega) a) (by omega) hr; rw [← D.hQ] at o; omega
theorem Dig.stop (D : Dig y1 y0 u d Q) (I : DigI y1 u Q q r) (ht : q * y0 ≤ 4294967296 * r + d) : q = Q := by
 have o := digit_no (d := d) D.hu I.1 ht; rw [← D.hQ] at o; have := I.2.1; omega
end
end Go.Proofs.YtplenoaajokpjaaGreat.NumMath
namespace Go.Proofs.YtplenoaajokpjaaGreat
open Go.RowKit Go.Lib
namespace NumBits
theorem maskN (a : Nat) (ha : a < 18446744073709551616) : bits .and .u64 (a : Int) 4294967295 = ((a % 4294967296 : Nat) : Int) := by
 have h := bits_and_u64_nat a 4294967295 ha (by omega); have e : a &&& 4294967295 = a % 4294967296 := Nat.and_two_pow_sub_one_eq_mod a 32; rw [e] at h; exact h
theorem divN (a : Nat) : (a : Int) / 4294967296 = ((a / 4294967296 : Nat) : Int) := by omega
theorem mulN (a b : Nat) : (a : Int) * (b : Int) = ((a * b : Nat) : Int) := (Int.natCast_mul a b).symm
theorem addN (a b : Nat) : (a : Int) + (b : Int) = ((a + b : Nat) : Int) := (Int.natCast_add a b).symm
theorem wrapN (a : Nat) (ha : a < 18446744073709551616) : IntKind.u64.wrap (a : Int) = (a : Int) := by rw [IntKind.wrap_u64]; omega
theorem wrapM (a : Nat) : IntKind.u64.wrap (a : Int) = ((a % 18446744073709551616 : Nat) : Int) := by rw [IntKind.wrap_u64]; omega
set_option maxHeartbeats 1000000 in
theorem mul64 (x y : Nat) (hx : x < 18446744073709551616) (hy : y < 18446744073709551616) (w : World) :
  Calls Tryz.prog 159 #[.int .u64 x, .int .u64 y] w fun e w' => e = .returned (.tuple #[.int .u64 ((x * y / 18446744073709551616 : Nat) : Int), .int .u64 ((x * y % 18446744073709551616 : Nat) : Int)]) ∧ w = w' := by
 obtain ⟨bd, bt, bw, hhi⟩ := Lib.mul64_hi x y hx hy; have ba := Lib.half_mul_le (a := x / 4294967296) (b := y / 4294967296) (by omega) (by omega); have bb := Lib.half_mul_le (a := x / 4294967296) (b := y % 4294967296) (by omega) (by omega); have bc := Lib.half_mul_le (a := x % 4294967296) (b := y / 4294967296) (by omega) (by omega); have ba' : x / 4294967296 * (y / 4294967296) < 18446744073709551616 := by omega
 have bb' : x / 4294967296 * (y % 4294967296) < 18446744073709551616 := by omega
 have bc' : x % 4294967296 * (y / 4294967296) < 18446744073709551616 := by omega
 have bh1 : x / 4294967296 * (y / 4294967296) + (x / 4294967296 * (y % 4294967296) + x % 4294967296 * (y % 4294967296) / 4294967296) / 4294967296 < 18446744073709551616 := by omega
 have bh : x / 4294967296 * (y / 4294967296) + (x / 4294967296 * (y % 4294967296) + x % 4294967296 * (y % 4294967296) / 4294967296) / 4294967296 + ((x / 4294967296 * (y % 4294967296) + x % 4294967296 * (y % 4294967296) / 4294967296) % 4294967296 + x % 4294967296 * (y / 4294967296)) / 4294967296 < 18446744073709551616 := by omega
 go_enter Tryz.func159, Tryz.ntmps159; go_wp2; simp only [maskN x hx, maskN y hy, divN, mulN, addN, wrapN _ bd, wrapN _ bb', wrapN _ bt, maskN _ bt, wrapN _ bc', wrapN _ bw, wrapN _ ba', wrapN _ bh1, wrapN _ bh, wrapM (x * y)]; rw [hhi]; go_ret2; exact ⟨rfl, rfl⟩
end NumBits
end Go.Proofs.YtplenoaajokpjaaGreat
namespace Go.Proofs.YtplenoaajokpjaaGreat
open Go.RowKit NumMath
namespace NumBits
theorem ret2 {k l : IntKind} {a b c d : Int} (h1 : a = b) (h2 : c = d) : Ending.returned (.tuple #[.int k a, .int l c]) = .returned (.tuple #[.int k b, .int l d]) := by rw [h1, h2]
set_option maxRecDepth 100000 in
set_option maxHeartbeats 1000000 in
theorem div64_low (lo y : Nat) (h0 : 0 < y) (hlo : lo < 18446744073709551616) (hy : y < 9223372036854775808) (w : World) :
  Calls Tryz.prog 160 #[.int .u64 0, .int .u64 lo, .int .u64 y] w fun e w' => e = .returned (.tuple #[.int .u64 ((lo / y : Nat) : Int), .int .u64 ((lo % y : Nat) : Int)]) ∧ Below w.heap.size w w' := by
 have hz : ((y : Int) == 0) = false := by simp; omega
 have e1 : IntKind.u64.wrap ((lo : Int) / (y : Int)) = ((lo / y : Nat) : Int) := by
  rw [← Int.natCast_ediv, wrapN _ (Nat.lt_of_le_of_lt (Nat.div_le_self _ _) hlo)]
 have H1 := Lib.hid e1; clear e1; go_enter Tryz.func160, Tryz.ntmps160; go_wp2
 go_quiet (fail)
 go_wp2; go_ret2; exact ⟨ret2 H1.out (Int.natCast_emod _ _).symm, below_drewN (Below.refl _ _) _⟩
set_option maxRecDepth 100000 in
set_option maxHeartbeats 2000000 in
theorem div64_walk (hi lo y s Y y1 y0 H u L d1 d0 q p r Q a1 a2 a3 v q2 p2 r2 Q2 b1 b2 b3 b4 : Nat) (A B : Int) (hh : 0 < hi) (h0 : hi < y) (_hlo : lo < 18446744073709551616) (_hy : y < 9223372036854775808) (w : World)
  (hs : ∀ w : World, Hid (Calls Tryz.prog 161 #[.int .u64 y] w fun e w' => e = .returned (.int .i64 (s : Int)) ∧ w = w'))
  (hs1 : 1 ≤ s) (hs2 : s ≤ 63)
  (eY : IntKind.u64.wrap ((y : Int) * 2 ^ s) = Y) (ey1 : (Y : Int) / 4294967296 = y1) (ey0 : bits .and .u64 (Y : Int) 4294967295 = y0)
  (eH : IntKind.u64.wrap ((hi : Int) * 2 ^ s) = H) (eu : bits .or .u64 (H : Int) ((lo : Int) / 2 ^ (64 - s)) = u)
  (eL : IntKind.u64.wrap ((lo : Int) * 2 ^ s) = L) (ed1 : (L : Int) / 4294967296 = d1) (ed0 : bits .and .u64 (L : Int) 4294967295 = d0)
  (eq : IntKind.u64.wrap ((u : Int) / (y1 : Int)) = q) (ep : IntKind.u64.wrap ((q : Int) * (y1 : Int)) = p) (hp : p ≤ u) (er : (u : Int) - (p : Int) = r)
  (hu : u < 18446744073709551616)
  (D : Dig y1 y0 u d1 Q) (I : DigI y1 u Q q r)
  (ea1 : IntKind.u64.wrap ((u : Int) * 4294967296) = a1) (ea2 : IntKind.u64.wrap ((a1 : Int) + (d1 : Int)) = a2) (ea3 : IntKind.u64.wrap ((Q : Int) * (Y : Int)) = a3) (ea4 : IntKind.u64.wrap ((a2 : Int) - (a3 : Int)) = v)
  (hv : v < 18446744073709551616)
  (eq2 : IntKind.u64.wrap ((v : Int) / (y1 : Int)) = q2) (ep2 : IntKind.u64.wrap ((q2 : Int) * (y1 : Int)) = p2) (hp2 : p2 ≤ v) (er2 : (v : Int) - (p2 : Int) = r2)
  (D2 : Dig y1 y0 v d0 Q2) (I2 : DigI y1 v Q2 q2 r2)
  (eb1 : IntKind.u64.wrap ((v : Int) * 4294967296) = b1) (eb2 : IntKind.u64.wrap ((b1 : Int) + (d0 : Int)) = b2) (eb3 : IntKind.u64.wrap ((Q2 : Int) * (Y : Int)) = b3) (eb4 : IntKind.u64.wrap ((b2 : Int) - (b3 : Int)) = b4)
  (hA : Hid ((Q : Int) * 4294967296 + (Q2 : Int) = A)) (hB : Hid ((b4 : Int) / 2 ^ s = B)) :
  Calls Tryz.prog 160 #[.int .u64 hi, .int .u64 lo, .int .u64 y] w fun e w' => e = .returned (.tuple #[.int .u64 A, .int .u64 B]) ∧ w = w' := by
 have hz : ((y : Int) == 0) = false := by simp; omega
 have hz2 : ((hi : Int) == 0) = false := by simp; omega
 have hyh : decide ((y : Int) ≤ (hi : Int)) = false := by simp; omega
 have hyh2 : decide (y ≤ hi) = false := by simp; omega
 have by1 := D.h1; have by1' := D.h1'; have by0 := D.h0; have bd1 := D.hd; have bd0 := D2.hd; have bQ := D.lt; have bQ2 := D2.lt; have hz3 : ((y1 : Int) == 0) = false := by simp; omega
 have HD := Lib.hid D; clear D; have HD2 := Lib.hid D2; clear D2; have HI := Lib.hid I; clear I; have HI2 := Lib.hid I2; clear I2; go_enter Tryz.func160, Tryz.ntmps160
 go_upto_block 0 with (go_at_call 161; refine (hs _).mono ?_; rintro e w' ⟨rfl, rfl⟩)
 go_cut [15, 16] (fun a b wx => a = .int .u64 (Q : Int) ∧ (∃ k : Int, b = .int .u64 k) ∧ wx = w)
 case first =>
  clear ea1 ea2 ea3 ea4 eq2 ep2 er2 eb1 eb2 eb3 eb4 hA hB HD2 HI2 hp2 hv bQ2 eY ey1 ey0 eH eu eL ed1 ed0 eq ep er
  go_wp2_with fail
  go_loop [15, 16] (fun a b => ∃ q r : Nat, a = .int .u64 (q : Int) ∧ b = .int .u64 (r : Int) ∧ Hid (DigI y1 u Q q r)) (fun a _ => (intOf a).toNat)
  case atStart => exact ⟨q, r, rfl, rfl, HI⟩
  case round =>
   clear HI; obtain ⟨q, r, rfl, rfl, HI⟩ := hrel; have bq : (q : Int) ≤ 4294967297 := by have := HI.out.2.2.1; omega
   have br : (r : Int) < 4294967296 := by have := HI.out.2.2.2; omega
   obtain ⟨t, ht⟩ : ∃ t, t = q * y0 := ⟨_, rfl⟩; obtain ⟨m, hm⟩ : ∃ m, m = r + y1 := ⟨_, rfl⟩; have em : (r : Int) + (y1 : Int) = (m : Int) := by omega
   have HM := Lib.hid hm; clear hm; by_cases hq : (4294967296 : Int) ≤ (q : Int)
   ·have HT := Lib.hid (p := 4294967296 ≤ q ∨ 4294967296 * r + d1 < q * y0) (Or.inl (by omega)); have hpos := HD.out.pos HI.out HT.out; by_cases hr : (m : Int) < 4294967296
    ·have hb1 : decide ((4294967296 : Int) ≤ (m : Int)) = false := by simp; omega
     go_wp2
     go_round
     case rel => exact ⟨q - 1, m, by go_num, rfl, Lib.hid (by rw [HM.out]; exact HD.out.next HI.out HT.out (by have := HM.out; omega))⟩
     case measure => simp [intOf]; omega
    ·have hb1 : decide ((4294967296 : Int) ≤ (m : Int)) = true := by simp; omega
     go_wp2; go_meet; exact ⟨by rw [← HD.out.out HI.out HT.out (by have := HM.out; omega)]; go_num, ⟨_, rfl⟩, rfl⟩
   ·have bt : t < 18446744073709551616 := by
     have := Nat.mul_le_mul (show q ≤ 4294967295 by omega) (show y0 ≤ 4294967295 by omega); omega
    have et : IntKind.u64.wrap ((q : Int) * (y0 : Int)) = (t : Int) := by rw [mulN, ← ht, wrapN _ bt]
    have HT := Lib.hid ht; clear ht; by_cases hc : 4294967296 * (r : Int) + (d1 : Int) < (t : Int)
    ·have HS := Lib.hid (p := 4294967296 ≤ q ∨ 4294967296 * r + d1 < q * y0) (Or.inr (by rw [← HT.out]; omega)); have hpos := HD.out.pos HI.out HS.out; by_cases hr : (m : Int) < 4294967296
     ·have hb1 : decide ((4294967296 : Int) ≤ (m : Int)) = false := by simp; omega
      go_wp2
      go_round
      case rel => exact ⟨q - 1, m, by go_num, rfl, Lib.hid (by rw [HM.out]; exact HD.out.next HI.out HS.out (by have := HM.out; omega))⟩
      case measure => simp [intOf]; omega
     ·have hb1 : decide ((4294967296 : Int) ≤ (m : Int)) = true := by simp; omega
      go_wp2; go_meet; exact ⟨by rw [← HD.out.out HI.out HS.out (by have := HM.out; omega)]; go_num, ⟨_, rfl⟩, rfl⟩
    ·go_wp2; go_meet; exact ⟨by rw [← HD.out.stop HI.out (by rw [← HT.out]; omega)], ⟨_, rfl⟩, rfl⟩
 case rest =>
  obtain ⟨rfl, ⟨k, rfl⟩, rfl⟩ := hcut
  go_upto_block 2 with fail
  go_cut [18, 16] (fun a b wx => a = .int .u64 (Q2 : Int) ∧ (∃ k : Int, b = .int .u64 k) ∧ wx = wc)
  case first =>
   clear ea1 ea2 ea3 ea4 eq2 ep2 er2 eb1 eb2 eb3 eb4 hA hB HD HI hp2 bQ eY ey1 ey0 eH eu eL ed1 ed0 eq ep er
   go_wp2_with fail
   go_loop [18, 16] (fun a b => ∃ q r : Nat, a = .int .u64 (q : Int) ∧ b = .int .u64 (r : Int) ∧ Hid (DigI y1 v Q2 q r)) (fun a _ => (intOf a).toNat)
   case atStart => exact ⟨q2, r2, rfl, rfl, HI2⟩
   case round =>
    clear HI2; obtain ⟨q, r, rfl, rfl, HI⟩ := hrel; have bq : (q : Int) ≤ 4294967297 := by have := HI.out.2.2.1; omega
    have br : (r : Int) < 4294967296 := by have := HI.out.2.2.2; omega
    obtain ⟨t, ht⟩ : ∃ t, t = q * y0 := ⟨_, rfl⟩; obtain ⟨m, hm⟩ : ∃ m, m = r + y1 := ⟨_, rfl⟩; have em : (r : Int) + (y1 : Int) = (m : Int) := by omega
    have HM := Lib.hid hm; clear hm; by_cases hq : (4294967296 : Int) ≤ (q : Int)
    ·have HT := Lib.hid (p := 4294967296 ≤ q ∨ 4294967296 * r + d0 < q * y0) (Or.inl (by omega)); have hpos := HD2.out.pos HI.out HT.out; by_cases hr : (m : Int) < 4294967296
     ·have hb1 : decide ((4294967296 : Int) ≤ (m : Int)) = false := by simp; omega
      go_wp2
      go_round
      case rel => exact ⟨q - 1, m, by go_num, rfl, Lib.hid (by rw [HM.out]; exact HD2.out.next HI.out HT.out (by have := HM.out; omega))⟩
      case measure => simp [intOf]; omega
     ·have hb1 : decide ((4294967296 : Int) ≤ (m : Int)) = true := by simp; omega
      go_wp2; go_meet; exact ⟨by rw [← HD2.out.out HI.out HT.out (by have := HM.out; omega)]; go_num, ⟨_, rfl⟩, rfl⟩
    ·have bt : t < 18446744073709551616 := by
      have := Nat.mul_le_mul (show q ≤ 4294967295 by omega) (show y0 ≤ 4294967295 by omega); omega
     have et : IntKind.u64.wrap ((q : Int) * (y0 : Int)) = (t : Int) := by rw [mulN, ← ht, wrapN _ bt]
     have HT := Lib.hid ht; clear ht; by_cases hc : 4294967296 * (r : Int) + (d0 : Int) < (t : Int)
     ·have HS := Lib.hid (p := 4294967296 ≤ q ∨ 4294967296 * r + d0 < q * y0) (Or.inr (by rw [← HT.out]; omega)); have hpos := HD2.out.pos HI.out HS.out; by_cases hr : (m : Int) < 4294967296
      ·have hb1 : decide ((4294967296 : Int) ≤ (m : Int)) = false := by simp; omega
       go_wp2
       go_round
       case rel => exact ⟨q - 1, m, by go_num, rfl, Lib.hid (by rw [HM.out]; exact HD2.out.next HI.out HS.out (by have := HM.out; omega))⟩
       case measure => simp [intOf]; omega
      ·have hb1 : decide ((4294967296 : Int) ≤ (m : Int)) = true := by simp; omega
       go_wp2; go_meet; exact ⟨by rw [← HD2.out.out HI.out HS.out (by have := HM.out; omega)]; go_num, ⟨_, rfl⟩, rfl⟩
     ·go_wp2; go_meet; exact ⟨by rw [← HD2.out.stop HI.out (by rw [← HT.out]; omega)], ⟨_, rfl⟩, rfl⟩
  case rest =>
   obtain ⟨rfl, ⟨k, rfl⟩, rfl⟩ := hcut; go_wp2; go_ret2; exact ⟨ret2 hA.out hB.out, rfl⟩
theorem pow_cast (s : Nat) : ((2 : Int) ^ s) = ((2 ^ s : Nat) : Int) := by rw [Int.natCast_pow]; rfl
theorem two32 : (4294967296 : Nat) * 4294967296 = 18446744073709551616 := by omega
theorem or_add (hi x s : Nat) (hx : x < 2 ^ s) : hi * 2 ^ s ||| x = hi * 2 ^ s + x := by
 rw [Nat.mul_comm, ← Nat.two_pow_add_eq_or_of_lt hx]
theorem wrap_sub (X P V : Nat) (h : X = P + V) (hV : V < 18446744073709551616) (a3 : Nat) (h3 : a3 = P % 18446744073709551616) (a2 : Nat) (h2 : a2 = X % 18446744073709551616) : IntKind.u64.wrap ((a2 : Int) - (a3 : Int)) = (V : Int) := by
 rw [IntKind.wrap_u64]; omega
theorem div64 (hi lo y : Nat) (h0 : hi < y) (hlo : lo < 18446744073709551616) (hy : y < 9223372036854775808) (w : World) :
  Calls Tryz.prog 160 #[.int .u64 hi, .int .u64 lo, .int .u64 y] w fun e w' => e = .returned (.tuple #[.int .u64 (((hi * 18446744073709551616 + lo) / y : Nat) : Int), .int .u64 (((hi * 18446744073709551616 + lo) % y : Nat) : Int)]) ∧ Below w.heap.size w w' := by
 by_cases hh : hi = 0
 ·subst hh; have h := div64_low lo y h0 hlo hy w; rw [Nat.zero_mul, Nat.zero_add]; exact h
 ·obtain ⟨tl, tu, t64⟩ := bitLen_top y (by omega) (by omega); have t63 : Lib.bitLen y ≤ 63 := Lib.bitLen_le y 63 (by omega) hy
  have t1 : 1 ≤ Lib.bitLen y := by
   rcases Nat.eq_zero_or_pos (Lib.bitLen y) with h | h
   ·rw [h] at tl; omega
   ·exact h
  have hzs := fun w => zeros64 y (by omega) (by omega) w
  obtain ⟨top1, top2⟩ := top_set tl tu t64; generalize hs : 64 - Lib.bitLen y = s at *; have hs1 : 1 ≤ s := by omega
  have hs2 : s ≤ 63 := by omega
  have sc := scaled (s := s) (N := hi * 18446744073709551616 + lo) (y := y); have sh := shifted (s := s) (hi := hi) (lo := lo) (by omega) hlo
  have hx : lo / 2 ^ (64 - s) < 2 ^ s := by
   rw [Nat.div_lt_iff_lt_mul (Nat.two_pow_pos _), ← Nat.pow_add]; have : s + (64 - s) = 64 := by omega
   rw [this]; exact hlo
  have hH : hi * 2 ^ s < y * 2 ^ s := Nat.mul_lt_mul_of_pos_right h0 (Nat.two_pow_pos s); have hor := or_add hi (lo / 2 ^ (64 - s)) s hx
  have hu1 : (hi * 2 ^ s + lo / 2 ^ (64 - s)) < y * 2 ^ s := by
   have h1 : (hi + 1) * 2 ^ s ≤ y * 2 ^ s := Nat.mul_le_mul_right _ h0; rw [Nat.add_mul, Nat.one_mul] at h1; omega
  have hp2 : 0 < 2 ^ s := Nat.two_pow_pos s; have eY : IntKind.u64.wrap ((y : Int) * 2 ^ s) = ((y * 2 ^ s : Nat) : Int) := by rw [pow_cast, mulN, wrapN _ top2]
  have eH : IntKind.u64.wrap ((hi : Int) * 2 ^ s) = ((hi * 2 ^ s : Nat) : Int) := by rw [pow_cast, mulN, wrapN _ (by omega)]
  have eL : IntKind.u64.wrap ((lo : Int) * 2 ^ s) = ((lo * 2 ^ s % 18446744073709551616 : Nat) : Int) := by rw [pow_cast, mulN, wrapM]
  have eX : (lo : Int) / 2 ^ (64 - s) = ((lo / 2 ^ (64 - s) : Nat) : Int) := by rw [pow_cast, Int.natCast_ediv]
  generalize hxx : lo / 2 ^ (64 - s) = X at *; generalize hHH : hi * 2 ^ s = H at *; generalize hLL : lo * 2 ^ s % 18446744073709551616 = L at *; have hL : L < 18446744073709551616 := by omega
  have eu : bits .or .u64 (H : Int) ((lo : Int) / 2 ^ (64 - s)) = ((H + X : Nat) : Int) := by
   rw [eX, bits_or_u64_nat H X (by omega) (by omega), hor]
  generalize huu : H + X = u at *; generalize hYY : y * 2 ^ s = Y at *; have e32 := Nat.div_add_mod' Y 4294967296; obtain ⟨y1, hy1⟩ : ∃ y1, y1 = Y / 4294967296 := ⟨_, rfl⟩; obtain ⟨y0, hy0⟩ : ∃ y0, y0 = Y % 4294967296 := ⟨_, rfl⟩; rw [← hy1, ← hy0] at e32; obtain ⟨Q, hQ⟩ : ∃ Q, Q = (u * 4294967296 + L / 4294967296) / Y := ⟨_, rfl⟩; obtain ⟨v, hv⟩ : ∃ v, v = (u * 4294967296 + L / 4294967296) % Y := ⟨_, rfl⟩; obtain ⟨Q2, hQ2⟩ : ∃ Q2, Q2 = (v * 4294967296 + L % 4294967296) / Y := ⟨_, rfl⟩; obtain ⟨b, hb⟩ : ∃ b, b = (v * 4294967296 + L % 4294967296) % Y := ⟨_, rfl⟩; have hY : 0 < Y := by omega
  have vY : v < Y := by rw [hv]; exact Nat.mod_lt _ hY
  have bY : b < Y := by rw [hb]; exact Nat.mod_lt _ hY
  have dm1 : u * 4294967296 + L / 4294967296 = Q * Y + v := by rw [hQ, hv, Nat.div_add_mod']
  have dm2 : v * 4294967296 + L % 4294967296 = Q2 * Y + b := by rw [hQ2, hb, Nat.div_add_mod']
  have td := two_digits (B := 4294967296) (Y := Y) (u := u) (d1 := L / 4294967296) (d0 := L % 4294967296) hY; rw [← hv, ← hQ, ← hQ2, ← hb, two32, Nat.div_add_mod' L 4294967296, sh, sc.1, sc.2] at td; have D : Dig y1 y0 u (L / 4294967296) Q := ⟨by omega, by omega, by omega, by rw [e32]; exact hu1, by omega, by rw [e32]; exact hQ⟩; have D2 : Dig y1 y0 v (L % 4294967296) Q2 := ⟨by omega, by omega, by omega, by rw [e32]; exact vY, by omega, by rw [e32]; exact hQ2⟩; obtain ⟨I, Ip⟩ := D.start; obtain ⟨I2, Ip2⟩ := D2.start; have ul : u / y1 ≤ u := Nat.div_le_self _ _; have vl : v / y1 ≤ v := Nat.div_le_self _ _
  refine (div64_walk hi lo y s Y y1 y0 H u L (L / 4294967296) (L % 4294967296) (u / y1) (u / y1 * y1) (u - u / y1 * y1) Q
   (u * 4294967296 % 18446744073709551616) ((u * 4294967296 % 18446744073709551616 + L / 4294967296) % 18446744073709551616) (Q * Y % 18446744073709551616) v
   (v / y1) (v / y1 * y1) (v - v / y1 * y1) Q2
   (v * 4294967296 % 18446744073709551616) ((v * 4294967296 % 18446744073709551616 + L % 4294967296) % 18446744073709551616) (Q2 * Y % 18446744073709551616) b
   (((hi * 18446744073709551616 + lo) / y : Nat) : Int) (((hi * 18446744073709551616 + lo) % y : Nat) : Int)
   (by omega) h0 hlo hy w (fun w => Lib.hid (hzs w)) hs1 hs2 eY (by rw [hy1]; omega) (by rw [hy0]; exact maskN _ top2)
   eH eu eL (by omega) (maskN _ hL) (by rw [← Int.natCast_ediv, wrapN _ (by omega)]) (by rw [mulN, wrapN _ (by omega)]) Ip (by omega) (by omega) D I
   (by rw [IntKind.wrap_u64]; omega) (by rw [IntKind.wrap_u64]; omega) (by rw [mulN, wrapM]) (wrap_sub _ _ _ dm1 (by omega) _ rfl _ (by omega)) (by omega)
   (by rw [← Int.natCast_ediv, wrapN _ (by omega)]) (by rw [mulN, wrapN _ (by omega)]) Ip2 (by omega) D2 I2
   (by rw [IntKind.wrap_u64]; omega) (by rw [IntKind.wrap_u64]; omega) (by rw [mulN, wrapM]) (wrap_sub _ _ _ dm2 (by omega) _ rfl _ (by omega))
   (Lib.hid (by rw [← td.1]; omega)) (Lib.hid (by rw [pow_cast, ← Int.natCast_ediv, td.2, Nat.mul_div_cancel _ hp2]))).mono ?_
  rintro e w' ⟨rfl, rfl⟩; exact ⟨rfl, Below.refl _ _⟩
end NumBits
end Go.Proofs.YtplenoaajokpjaaGreat
namespace Go.Proofs.YtplenoaajokpjaaGreat
open Go.RowKit NumMath NumBits
namespace Num
def nearB (q r d : Nat) : Bool := decide (d < 2 * r) || (decide (d = 2 * r) && decide (q % 2 = 1))
set_option maxHeartbeats 1000000 in
theorem nearer (q r d : Nat) (hr : r < d) (hd : d < 9223372036854775808) (hq : q < 18446744073709551616) (w : World) :
  Calls Tryz.prog 156 #[.int .u64 q, .int .u64 r, .int .u64 d] w fun e w' => e = .returned (.bool (nearB q r d)) ∧ w = w' := by
 by_cases h1 : d < 2 * r
 ·have e : nearB q r d = true := by simp [nearB, h1]
  rw [e]; have t1 : decide ((d : Int) - (r : Int) < (r : Int)) = true := by simp; omega
  go_enter Tryz.func156, Tryz.ntmps156; go_wp2; go_ret; exact ⟨rfl, rfl⟩
 ·have t1 : decide ((d : Int) - (r : Int) < (r : Int)) = false := by simp; omega
  by_cases h2 : d = 2 * r
  ·have t2 : ((r : Int) == (d : Int) - (r : Int)) = true := by rw [beq_iff_eq]; omega
   by_cases h3 : q % 2 = 1
   ·have e : nearB q r d = true := by simp [nearB, h2, h3]
    rw [e]; have t3 : ((q : Int) % 2 == 1) = true := by rw [beq_iff_eq]; omega
    clear h1 h2 h3; go_enter Tryz.func156, Tryz.ntmps156; go_wp2; go_ret; exact ⟨rfl, rfl⟩
   ·have e : nearB q r d = false := by simp [nearB, h2, h3]
    rw [e]; have t3 : ((q : Int) % 2 == 1) = false := by rw [beq_eq_false_iff_ne]; omega
    clear h1 h2 h3; go_enter Tryz.func156, Tryz.ntmps156; go_wp2; go_ret; exact ⟨rfl, rfl⟩
  ·have t2 : ((r : Int) == (d : Int) - (r : Int)) = false := by rw [beq_eq_false_iff_ne]; omega
   have e : nearB q r d = false := by simp [nearB, h1, h2]
   rw [e]; clear h1 h2; go_enter Tryz.func156, Tryz.ntmps156; go_wp2; go_ret; exact ⟨rfl, rfl⟩
theorem bcell {W w1 : World} (hb : Below W.heap.size W w1) : (∀ b o, b < W.heap.size → w1.cell? ⟨b, o, none⟩ = W.cell? ⟨b, o, none⟩) ∧ (∀ b o, b < W.heap.size → w1.frozen? ⟨b, o, none⟩ = W.frozen? ⟨b, o, none⟩) :=
 ⟨fun b o h => hb.cell (p := ⟨b, o, none⟩) h, fun b o h => hb.frozen (p := ⟨b, o, none⟩) h⟩
-- DIVIDE
set_option maxRecDepth 100000 in
set_option maxHeartbeats 1000000 in
theorem divE_over1 (a b c hi lo : Nat) (w : World) (ha : a < 9223372036854775808) (hb : b < 9223372036854775808) (hc : c < 9223372036854775808) (hc0 : 0 < c)
  (hmul : ∀ w : World, Hid (Calls Tryz.prog 159 #[.int .u64 (a : Int), .int .u64 (b : Int)] w fun e w' => e = .returned (.tuple #[.int .u64 (hi : Int), .int .u64 (lo : Int)]) ∧ w = w'))
  (hh : c ≤ hi) :
  Calls Tryz.prog 155 #[.int .i64 (a : Int), .int .i64 (b : Int), .int .i64 (c : Int), .agg #[.func (.func 156) #[] #[]]] w fun e w' => e = .returned (.tuple #[.int .i64 0, .int .i64 5]) ∧ Below w.heap.size w w' := by
 have hc1 : ((c : Int) == 0) = false := by simp; omega
 have t1 : decide (c ≤ hi) = true := by simpa using hh
 go_enter Tryz.func155, Tryz.ntmps155
 go_wp2_with (go_at_call 159; refine (hmul _).mono ?_; rintro e w' ⟨rfl, rfl⟩)
 go_ret2; exact ⟨rfl, (Below.refl _ _).alloc (Nat.le_refl _) _⟩
set_option maxRecDepth 100000 in
set_option maxHeartbeats 1000000 in
theorem divE_over2 (a b c hi lo q r : Nat) (w : World) (ha : a < 9223372036854775808) (hb : b < 9223372036854775808) (hc : c < 9223372036854775808) (hc0 : 0 < c)
  (hmul : ∀ w : World, Hid (Calls Tryz.prog 159 #[.int .u64 (a : Int), .int .u64 (b : Int)] w fun e w' => e = .returned (.tuple #[.int .u64 (hi : Int), .int .u64 (lo : Int)]) ∧ w = w'))
  (hdiv : ∀ w : World, Hid (Calls Tryz.prog 160 #[.int .u64 (hi : Int), .int .u64 (lo : Int), .int .u64 (c : Int)] w fun e w' => e = .returned (.tuple #[.int .u64 (q : Int), .int .u64 (r : Int)]) ∧ Below w.heap.size w w'))
  (hh : hi < c) (hq : (4000000000000000000 : Int) < (q : Int)) :
  Calls Tryz.prog 155 #[.int .i64 (a : Int), .int .i64 (b : Int), .int .i64 (c : Int), .agg #[.func (.func 156) #[] #[]]] w fun e w' => e = .returned (.tuple #[.int .i64 0, .int .i64 5]) ∧ Below w.heap.size w w' := by
 have hc1 : ((c : Int) == 0) = false := by simp; omega
 have t1 : decide (c ≤ hi) = false := by simpa using hh
 have t2 : decide ((4000000000000000000 : Int) < (q : Int)) = true := by simpa using hq
 go_enter Tryz.func155, Tryz.ntmps155
 go_wp2_with (first | (go_at_call 159; refine (hmul _).mono ?_; rintro e w' ⟨rfl, rfl⟩) | (go_at_call 160; refine (hdiv _).mono ?_; rintro e w1 ⟨rfl, hbw⟩))
 go_ret2; exact ⟨rfl, ((Below.refl _ _).alloc (Nat.le_refl _) _).trans (hbw.mono (by simp))⟩
set_option maxRecDepth 100000 in
set_option maxHeartbeats 1000000 in
theorem divE_no (a b c hi lo q r : Nat) (w : World) (ha : a < 9223372036854775808) (hb : b < 9223372036854775808) (hc : c < 9223372036854775808) (hc0 : 0 < c)
  (hmul : ∀ w : World, Hid (Calls Tryz.prog 159 #[.int .u64 (a : Int), .int .u64 (b : Int)] w fun e w' => e = .returned (.tuple #[.int .u64 (hi : Int), .int .u64 (lo : Int)]) ∧ w = w'))
  (hdiv : ∀ w : World, Hid (Calls Tryz.prog 160 #[.int .u64 (hi : Int), .int .u64 (lo : Int), .int .u64 (c : Int)] w fun e w' => e = .returned (.tuple #[.int .u64 (q : Int), .int .u64 (r : Int)]) ∧ Below w.heap.size w w'))
  (hup : ∀ w : World, Hid (Calls Tryz.prog 156 #[.int .u64 (q : Int), .int .u64 (r : Int), .int .u64 (c : Int)] w fun e w' => e = .returned (.bool false) ∧ w = w'))
  (hh : hi < c) (hq : (q : Int) ≤ 4000000000000000000) :
  Calls Tryz.prog 155 #[.int .i64 (a : Int), .int .i64 (b : Int), .int .i64 (c : Int), .agg #[.func (.func 156) #[] #[]]] w fun e w' => e = .returned (.tuple #[.int .i64 (q : Int), .int .i64 0]) ∧ Below w.heap.size w w' := by
 have hc1 : ((c : Int) == 0) = false := by simp; omega
 have t1 : decide (c ≤ hi) = false := by simpa using hh
 have t2 : decide ((4000000000000000000 : Int) < (q : Int)) = false := by simpa using hq
 go_enter Tryz.func155, Tryz.ntmps155
 go_wp2_with (first | (go_at_call 159; refine (hmul _).mono ?_; rintro e w' ⟨rfl, rfl⟩) | fail)
 refine (hdiv _).mono ?_; rintro e w1 ⟨rfl, hbw⟩; obtain ⟨hcc, hff⟩ := bcell hbw; have h0 := hcc w.heap.size 0 (by simp); simp at h0
 go_wp2_with (go_at_call 156; refine (hup _).mono ?_; rintro e w2 ⟨rfl, rfl⟩)
 go_ret2; exact ⟨rfl, ((Below.refl _ _).alloc (Nat.le_refl _) _).trans (hbw.mono (by simp))⟩
set_option maxRecDepth 100000 in
set_option maxHeartbeats 1000000 in
theorem divE_zero (a b : Int) (w : World) (ha : 0 ≤ a) (hb : 0 ≤ b) :
  Calls Tryz.prog 155 #[.int .i64 a, .int .i64 b, .int .i64 0, .agg #[.func (.func 156) #[] #[]]] w fun e w' => e = .returned (.tuple #[.int .i64 0, .int .i64 6]) ∧ Below w.heap.size w w' := by
 have t1 : decide (a < 0) = false := by simpa using ha
 have t2 : decide (b < 0) = false := by simpa using hb
 go_enter Tryz.func155, Tryz.ntmps155; go_wp2; go_ret2; exact ⟨rfl, (Below.refl _ _).alloc (Nat.le_refl _) _⟩
set_option maxRecDepth 100000 in
set_option maxHeartbeats 1000000 in
theorem divE_arg (a b c : Int) (w : World) (h : a < 0 ∨ b < 0 ∨ c < 0) :
  Calls Tryz.prog 155 #[.int .i64 a, .int .i64 b, .int .i64 c, .agg #[.func (.func 156) #[] #[]]] w fun e w' => e = .returned (.tuple #[.int .i64 0, .int .i64 1]) ∧ Below w.heap.size w w' := by
 by_cases h1 : a < 0
 ·have t1 : decide (a < 0) = true := by simpa using h1
  clear h; go_enter Tryz.func155, Tryz.ntmps155; go_wp2; go_ret2; exact ⟨rfl, (Below.refl _ _).alloc (Nat.le_refl _) _⟩
 ·have t1 : decide (a < 0) = false := by simpa using h1
  by_cases h2 : b < 0
  ·have t2 : decide (b < 0) = true := by simpa using h2
   clear h; go_enter Tryz.func155, Tryz.ntmps155; go_wp2; go_ret2; exact ⟨rfl, (Below.refl _ _).alloc (Nat.le_refl _) _⟩
  ·have t2 : decide (b < 0) = false := by simpa using h2
   have h3 : c < 0 := by omega
   have t3 : decide (c < 0) = true := by simpa using h3
   clear h; go_enter Tryz.func155, Tryz.ntmps155; go_wp2; go_ret2; exact ⟨rfl, (Below.refl _ _).alloc (Nat.le_refl _) _⟩
set_option maxRecDepth 100000 in
set_option maxHeartbeats 1000000 in
theorem divE_yes (a b c hi lo q r : Nat) (w : World) (ha : a < 9223372036854775808) (hb : b < 9223372036854775808) (hc : c < 9223372036854775808) (hc0 : 0 < c)
  (hmul : ∀ w : World, Hid (Calls Tryz.prog 159 #[.int .u64 (a : Int), .int .u64 (b : Int)] w fun e w' => e = .returned (.tuple #[.int .u64 (hi : Int), .int .u64 (lo : Int)]) ∧ w = w'))
  (hdiv : ∀ w : World, Hid (Calls Tryz.prog 160 #[.int .u64 (hi : Int), .int .u64 (lo : Int), .int .u64 (c : Int)] w fun e w' => e = .returned (.tuple #[.int .u64 (q : Int), .int .u64 (r : Int)]) ∧ Below w.heap.size w w'))
  (hup : ∀ w : World, Hid (Calls Tryz.prog 156 #[.int .u64 (q : Int), .int .u64 (r : Int), .int .u64 (c : Int)] w fun e w' => e = .returned (.bool true) ∧ w = w'))
  (hh : hi < c) (hq : (q : Int) ≤ 3999999999999999999) :
  Calls Tryz.prog 155 #[.int .i64 (a : Int), .int .i64 (b : Int), .int .i64 (c : Int), .agg #[.func (.func 156) #[] #[]]] w fun e w' => e = .returned (.tuple #[.int .i64 ((q + 1 : Nat) : Int), .int .i64 0]) ∧ Below w.heap.size w w' := by
 have hc1 : ((c : Int) == 0) = false := by simp; omega
 have t1 : decide (c ≤ hi) = false := by simpa using hh
 have t2 : decide ((4000000000000000000 : Int) < (q : Int)) = false := by simp; omega
 obtain ⟨m, hm⟩ : ∃ m : Nat, m = q + 1 := ⟨_, rfl⟩; have em : (q : Int) + 1 = (m : Int) := by omega
 have t3 : decide ((4000000000000000000 : Int) < (m : Int)) = false := by simp; omega
 rw [← hm]; clear hm; go_enter Tryz.func155, Tryz.ntmps155
 go_wp2_with (first | (go_at_call 159; refine (hmul _).mono ?_; rintro e w' ⟨rfl, rfl⟩) | fail)
 refine (hdiv _).mono ?_; rintro e w1 ⟨rfl, hbw⟩; obtain ⟨hcc, hff⟩ := bcell hbw; have h0 := hcc w.heap.size 0 (by simp); simp at h0
 go_wp2_with (go_at_call 156; refine (hup _).mono ?_; rintro e w2 ⟨rfl, rfl⟩)
 go_ret2; exact ⟨rfl, ((Below.refl _ _).alloc (Nat.le_refl _) _).trans (hbw.mono (by simp))⟩
set_option maxRecDepth 100000 in
set_option maxHeartbeats 1000000 in
theorem divE_yesover (a b c hi lo q r : Nat) (w : World) (ha : a < 9223372036854775808) (hb : b < 9223372036854775808) (hc : c < 9223372036854775808) (hc0 : 0 < c)
  (hmul : ∀ w : World, Hid (Calls Tryz.prog 159 #[.int .u64 (a : Int), .int .u64 (b : Int)] w fun e w' => e = .returned (.tuple #[.int .u64 (hi : Int), .int .u64 (lo : Int)]) ∧ w = w'))
  (hdiv : ∀ w : World, Hid (Calls Tryz.prog 160 #[.int .u64 (hi : Int), .int .u64 (lo : Int), .int .u64 (c : Int)] w fun e w' => e = .returned (.tuple #[.int .u64 (q : Int), .int .u64 (r : Int)]) ∧ Below w.heap.size w w'))
  (hup : ∀ w : World, Hid (Calls Tryz.prog 156 #[.int .u64 (q : Int), .int .u64 (r : Int), .int .u64 (c : Int)] w fun e w' => e = .returned (.bool true) ∧ w = w'))
  (hh : hi < c) (hq1 : Hid ((4000000000000000000 : Int) ≤ (q : Int))) (hq2 : (q : Int) ≤ 4000000000000000000) :
  Calls Tryz.prog 155 #[.int .i64 (a : Int), .int .i64 (b : Int), .int .i64 (c : Int), .agg #[.func (.func 156) #[] #[]]] w fun e w' => e = .returned (.tuple #[.int .i64 0, .int .i64 5]) ∧ Below w.heap.size w w' := by
 have hc1 : ((c : Int) == 0) = false := by simp; omega
 have t1 : decide (c ≤ hi) = false := by simpa using hh
 have t2 : decide ((4000000000000000000 : Int) < (q : Int)) = false := by simp; omega
 obtain ⟨m, hm⟩ : ∃ m : Nat, m = q + 1 := ⟨_, rfl⟩; have em : (q : Int) + 1 = (m : Int) := by omega
 have t3 : decide ((4000000000000000000 : Int) < (m : Int)) = true := by have := hq1.out; simp; omega
 clear hm; go_enter Tryz.func155, Tryz.ntmps155
 go_wp2_with (first | (go_at_call 159; refine (hmul _).mono ?_; rintro e w' ⟨rfl, rfl⟩) | fail)
 refine (hdiv _).mono ?_; rintro e w1 ⟨rfl, hbw⟩; obtain ⟨hcc, hff⟩ := bcell hbw; have h0 := hcc w.heap.size 0 (by simp); simp at h0
 go_wp2_with (go_at_call 156; refine (hup _).mono ?_; rintro e w2 ⟨rfl, rfl⟩)
 go_ret2; exact ⟨rfl, ((Below.refl _ _).alloc (Nat.le_refl _) _).trans (hbw.mono (by simp))⟩
end Num
end Go.Proofs.YtplenoaajokpjaaGreat
namespace Go.Proofs.YtplenoaajokpjaaGreat
open Go.RowKit NumMath NumBits
namespace Num
def quo (up : Nat → Nat → Nat → Bool) (a b c : Nat) : Nat := if up (a * b / c) (a * b % c) c then a * b / c + 1 else a * b / c
def nums (up : Nat → Nat → Nat → Bool) (a b c : Int) : Int × Int :=
 if a < 0 ∨ b < 0 ∨ c < 0 then (0, 1) else if c = 0 then (0, 6)
 else if 4000000000000000000 < quo up a.toNat b.toNat c.toNat then (0, 5) else (((quo up a.toNat b.toNat c.toNat : Nat) : Int), 0)
abbrev evV (a b c : Int) : Int := (nums nearB a b c).1
abbrev evE (a b c : Int) : Int := (nums nearB a b c).2
theorem nums_arg {up a b c} (h : a < 0 ∨ b < 0 ∨ c < 0) : nums up a b c = (0, 1) := by rw [nums, if_pos h]
theorem nums_zero {up a b} (ha : 0 ≤ a) (hb : 0 ≤ b) : nums up a b 0 = (0, 6) := by rw [nums, if_neg (by omega), if_pos rfl]
theorem nums_over {up} {a b c : Nat} (hc : 0 < c) (h : 4000000000000000000 < quo up a b c) : nums up a b c = (0, 5) := by
 rw [nums, if_neg (by omega), if_neg (by omega), if_pos (by simpa using h)]
theorem nums_ok {up} {a b c : Nat} (hc : 0 < c) (h : quo up a b c ≤ 4000000000000000000) : nums up a b c = (((quo up a b c : Nat) : Int), 0) := by
 rw [nums, if_neg (by omega), if_neg (by omega), if_neg (by simpa using h)]; simp
theorem halves (n : Nat) : n / 18446744073709551616 * 18446744073709551616 + n % 18446744073709551616 = n := Nat.div_add_mod' n _
theorem great {a b c : Nat} (hc : 0 < c) (h : c ≤ a * b / 18446744073709551616) : 18446744073709551616 ≤ a * b / c := by
 rw [Nat.le_div_iff_mul_le hc]; have := halves (a * b); generalize a * b = n at *; have h2 : 18446744073709551616 * c ≤ 18446744073709551616 * (n / 18446744073709551616) := Nat.mul_le_mul_left _ h; omega
theorem quo_ge {up a b c} : a * b / c ≤ quo up a b c := by
 unfold quo; split <;> omega
theorem divE_any (a b c : Int) (w : World) (ha : -9223372036854775808 ≤ a ∧ a ≤ 9223372036854775807) (hb : -9223372036854775808 ≤ b ∧ b ≤ 9223372036854775807) (hc : -9223372036854775808 ≤ c ∧ c ≤ 9223372036854775807) :
  Calls Tryz.prog 155 #[.int .i64 a, .int .i64 b, .int .i64 c, .agg #[.func (.func 156) #[] #[]]] w fun e w' => e = .returned (.tuple #[.int .i64 (nums nearB a b c).1, .int .i64 (nums nearB a b c).2]) ∧ Below w.heap.size w w' := by
 by_cases h1 : a < 0 ∨ b < 0 ∨ c < 0
 ·rw [nums_arg h1]; exact divE_arg a b c w h1
 ·by_cases h2 : c = 0
  ·subst h2; rw [nums_zero (by omega) (by omega)]; exact divE_zero a b w (by omega) (by omega)
  ·obtain ⟨a, rfl⟩ := Int.eq_ofNat_of_zero_le (a := a) (by omega); obtain ⟨b, rfl⟩ := Int.eq_ofNat_of_zero_le (a := b) (by omega); obtain ⟨c, rfl⟩ := Int.eq_ofNat_of_zero_le (a := c) (by omega); have hmul := fun w => Lib.hid (mul64 a b (by omega) (by omega) w)
   have hq := quo_ge (up := nearB) (a := a) (b := b) (c := c); by_cases h3 : c ≤ a * b / 18446744073709551616
   ·have hg := great (by omega) h3; rw [nums_over (by omega) (by omega)]; exact divE_over1 a b c _ _ w (by omega) (by omega) (by omega) (by omega) hmul h3
   ·have hdiv := fun w => Lib.hid (div64 (a * b / 18446744073709551616) (a * b % 18446744073709551616) c (by omega) (Nat.mod_lt _ (by omega)) (by omega) w)
    rw [halves] at hdiv; by_cases h4 : 4000000000000000000 < a * b / c
    ·rw [nums_over (by omega) (by omega)]; exact divE_over2 a b c _ _ _ _ w (by omega) (by omega) (by omega) (by omega) hmul hdiv (by omega) (by omega)
    ·clear hq; have hup := fun w => Lib.hid (nearer (a * b / c) (a * b % c) c (Nat.mod_lt _ (by omega)) (by omega) (by omega) w)
     cases hn : nearB (a * b / c) (a * b % c) c with
     | false =>
      rw [hn] at hup; have hu : quo nearB a b c = a * b / c := by simp [quo, hn]
      have h := divE_no a b c _ _ _ _ w (by omega) (by omega) (by omega) (by omega) hmul hdiv hup (by omega) (by omega); rw [nums_ok (by omega) (by rw [hu]; omega), hu]; exact h
     | true =>
      rw [hn] at hup; have hu : quo nearB a b c = a * b / c + 1 := by simp [quo, hn]
      by_cases hb2 : a * b / c ≤ 3999999999999999999
      ·have h := divE_yes a b c _ _ _ _ w (by omega) (by omega) (by omega) (by omega) hmul hdiv hup (by omega) (by omega); rw [nums_ok (by omega) (by rw [hu]; omega), hu]; exact h
      ·have h := divE_yesover a b c _ _ _ _ w (by omega) (by omega) (by omega) (by omega) hmul hdiv hup (by omega) (Lib.hid (by omega)) (by omega); rw [nums_over (by omega) (by rw [hu]; omega)]; exact h
set_option maxHeartbeats 1000000 in
theorem even (a b c : Int) (w : World) (ha : -9223372036854775808 ≤ a ∧ a ≤ 9223372036854775807) (hb : -9223372036854775808 ≤ b ∧ b ≤ 9223372036854775807) (hc : -9223372036854775808 ≤ c ∧ c ≤ 9223372036854775807) :
  Calls Tryz.prog 148 #[.int .i64 a, .int .i64 b, .int .i64 c] w fun e w' => e = .returned (.tuple #[.int .i64 (evV a b c), .int .i64 (evE a b c)]) ∧ Below w.heap.size w w' := by
 have H := Lib.hid (divE_any a b c w ha hb hc); go_enter Tryz.func148, Tryz.ntmps148
 go_wp2_with (go_at_call 155; refine H.out.mono ?_; rintro e w1 ⟨rfl, hbw⟩)
 go_ret2; exact ⟨rfl, hbw⟩
set_option maxHeartbeats 1000000 in
theorem bp (a b : Int) (w : World) (ha : -9223372036854775808 ≤ a ∧ a ≤ 9223372036854775807) (hb : -9223372036854775808 ≤ b ∧ b ≤ 9223372036854775807) :
  Calls Tryz.prog 131 #[.int .i64 a, .int .i64 b] w fun e w' => e = .returned (.tuple #[.int .i64 (evV a b 10000), .int .i64 (evE a b 10000)]) ∧ Below w.heap.size w w' := by
 have H := Lib.hid (even a b 10000 w ha hb (by omega)); go_enter Tryz.func131, Tryz.ntmps131
 go_wp2_with (go_at_call 148; refine H.out.mono ?_; rintro e w1 ⟨rfl, hbw⟩)
 go_ret2; exact ⟨rfl, hbw⟩
end Num
end Go.Proofs.YtplenoaajokpjaaGreat
