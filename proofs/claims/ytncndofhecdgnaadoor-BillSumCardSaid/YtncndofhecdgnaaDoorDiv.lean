/-
  math/bits.Div64 as this translation has it: quotient and remainder of 128 bits by 64. Conditions: the high half is below the divisor, and the divisor is below 2 ^ 63.
-/
import Derived.Test.YtncndofhecdgnaaDoorRows
import Derived.Test.YtncndofhecdgnaaDoorMath
import Derived.Test.YtncndofhecdgnaaDoorBits
import Derived.Test.YtncndofhecdgnaaDoorLen
import Derived.WalkKit
import Derived.WalkSpells
import Derived.WalkLawsBesides
import Derived.Lib.Hide
import Derived.Deep.QuietTactic
import Derived.BigQuiet
import Derived.Deep.DeepCutAuto
import Derived.Deep.CutBlock
import Derived.WalkSmall
namespace Go.Proofs.YtncndofhecdgnaaDoor
open Go.RowKit NumMath
namespace NumBits

theorem ret2 {k l : IntKind} {a b c d : Int} (h1 : a = b) (h2 : c = d) : Ending.returned (.tuple #[.int k a, .int l c]) = .returned (.tuple #[.int k b, .int l d]) := by rw [h1, h2]

set_option maxRecDepth 100000 in
set_option maxHeartbeats 1000000 in
theorem div64_low (lo y : Nat) (h0 : 0 < y) (hlo : lo < 18446744073709551616) (hy : y < 9223372036854775808) (w : World) :
    Calls Tryd.prog 62 #[.int .u64 0, .int .u64 lo, .int .u64 y] w fun e w' => e = .returned (.tuple #[.int .u64 ((lo / y : Nat) : Int), .int .u64 ((lo % y : Nat) : Int)]) ∧ Below w.heap.size w w' := by
  have hz : ((y : Int) == 0) = false := by simp; omega
  have e1 : IntKind.u64.wrap ((lo : Int) / (y : Int)) = ((lo / y : Nat) : Int) := by
    rw [← Int.natCast_ediv, wrapN _ (Nat.lt_of_le_of_lt (Nat.div_le_self _ _) hlo)]
  have H1 := Lib.hid e1
  clear e1
  go_enter Tryd.func62, Tryd.ntmps62
  go_wp2
  go_quiet (fail)
  go_wp2
  go_ret2
  exact ⟨ret2 H1.out (Int.natCast_emod _ _).symm, below_drewN (Below.refl _ _) _⟩

set_option maxRecDepth 100000 in
set_option maxHeartbeats 2000000 in
theorem div64_walk (hi lo y s Y y1 y0 H u L d1 d0 q p r Q a1 a2 a3 v q2 p2 r2 Q2 b1 b2 b3 b4 : Nat) (A B : Int) (hh : 0 < hi) (h0 : hi < y) (_hlo : lo < 18446744073709551616) (_hy : y < 9223372036854775808) (w : World)
    (hs : ∀ w : World, Hid (Calls Tryd.prog 63 #[.int .u64 y] w fun e w' => e = .returned (.int .i64 (s : Int)) ∧ w = w'))
    (hs1 : 1 ≤ s) (hs2 : s ≤ 63)
    (eY : IntKind.u64.wrap ((y : Int) * 2 ^ s) = Y) (ey1 : (Y : Int) / 4294967296 = y1) (ey0 : bits .and .u64 (Y : Int) 4294967295 = y0)
    (eH : IntKind.u64.wrap ((hi : Int) * 2 ^ s) = H) (eu : bits .or .u64 (H : Int) ((lo : Int) / 2 ^ (64 - s)) = u)
    (eL : IntKind.u64.wrap ((lo : Int) * 2 ^ s) = L) (ed1 : (L : Int) / 4294967296 = d1) (ed0 : bits .and .u64 (L : Int) 4294967295 = d0)
    (eq : IntKind.u64.wrap ((u : Int) / (y1 : Int)) = q) (ep : IntKind.u64.wrap ((q : Int) * (y1 : Int)) = p) (hp : p ≤ u) (er : (u : Int) - (p : Int) = r)
    (hu : u < 18446744073709551616)
    (D : Dig y1 y0 u d1 Q) (I : DigI y1 u Q q r)
    (ea1 : IntKind.u64.wrap ((u : Int) * 4294967296) = a1) (ea2 : IntKind.u64.wrap ((a1 : Int) + (d1 : Int)) = a2) (ea3 : IntKind.u64.wrap ((Q : Int) * (Y : Int)) = a3) (ea4 : IntKind.u64.wrap ((a2 : Int) - (a3 : Int)) = v)
    (hv : v < 18446744073709551616)
    (eq2 : IntKind.u64.wrap ((v : Int) / (y1 : Int)) = q2) (ep2 : IntKind.u64.wrap ((q2 : Int) * (y1 : Int)) = p2) (hp2 : p2 ≤ v) (er2 : (v : Int) - (p2 : Int) = r2)
    (D2 : Dig y1 y0 v d0 Q2) (I2 : DigI y1 v Q2 q2 r2)
    (eb1 : IntKind.u64.wrap ((v : Int) * 4294967296) = b1) (eb2 : IntKind.u64.wrap ((b1 : Int) + (d0 : Int)) = b2) (eb3 : IntKind.u64.wrap ((Q2 : Int) * (Y : Int)) = b3) (eb4 : IntKind.u64.wrap ((b2 : Int) - (b3 : Int)) = b4)
    (hA : Hid ((Q : Int) * 4294967296 + (Q2 : Int) = A)) (hB : Hid ((b4 : Int) / 2 ^ s = B)) :
    Calls Tryd.prog 62 #[.int .u64 hi, .int .u64 lo, .int .u64 y] w fun e w' => e = .returned (.tuple #[.int .u64 A, .int .u64 B]) ∧ w = w' := by
  have hz : ((y : Int) == 0) = false := by simp; omega
  have hz2 : ((hi : Int) == 0) = false := by simp; omega
  have hyh : decide ((y : Int) ≤ (hi : Int)) = false := by simp; omega
  have hyh2 : decide (y ≤ hi) = false := by simp; omega
  have by1 := D.h1
  have by1' := D.h1'
  have by0 := D.h0
  have bd1 := D.hd
  have bd0 := D2.hd
  have bQ := D.lt
  have bQ2 := D2.lt
  have hz3 : ((y1 : Int) == 0) = false := by simp; omega
  have HD := Lib.hid D
  clear D
  have HD2 := Lib.hid D2
  clear D2
  have HI := Lib.hid I
  clear I
  have HI2 := Lib.hid I2
  clear I2
  go_enter Tryd.func62, Tryd.ntmps62
  go_upto_block 0 with (go_at_call 63; refine (hs _).mono ?_; rintro e w' ⟨rfl, rfl⟩)
  go_cut [15, 16] (fun a b wx => a = .int .u64 (Q : Int) ∧ (∃ k : Int, b = .int .u64 k) ∧ wx = w)
  case first =>
    clear ea1 ea2 ea3 ea4 eq2 ep2 er2 eb1 eb2 eb3 eb4 hA hB HD2 HI2 hp2 hv bQ2 eY ey1 ey0 eH eu eL ed1 ed0 eq ep er
    go_wp2_with fail
    go_loop [15, 16] (fun a b => ∃ q r : Nat, a = .int .u64 (q : Int) ∧ b = .int .u64 (r : Int) ∧ Hid (DigI y1 u Q q r)) (fun a _ => (intOf a).toNat)
    case atStart => exact ⟨q, r, rfl, rfl, HI⟩
    case round =>
      clear HI
      obtain ⟨q, r, rfl, rfl, HI⟩ := hrel
      have bq : (q : Int) ≤ 4294967297 := by have := HI.out.2.2.1; omega
      have br : (r : Int) < 4294967296 := by have := HI.out.2.2.2; omega
      obtain ⟨t, ht⟩ : ∃ t, t = q * y0 := ⟨_, rfl⟩
      obtain ⟨m, hm⟩ : ∃ m, m = r + y1 := ⟨_, rfl⟩
      have em : (r : Int) + (y1 : Int) = (m : Int) := by omega
      have HM := Lib.hid hm
      clear hm
      by_cases hq : (4294967296 : Int) ≤ (q : Int)
      · have HT := Lib.hid (p := 4294967296 ≤ q ∨ 4294967296 * r + d1 < q * y0) (Or.inl (by omega))
        have hpos := HD.out.pos HI.out HT.out
        by_cases hr : (m : Int) < 4294967296
        · have hb1 : decide ((4294967296 : Int) ≤ (m : Int)) = false := by simp; omega
          go_wp2
          go_round
          case rel => exact ⟨q - 1, m, by go_num, rfl, Lib.hid (by rw [HM.out]; exact HD.out.next HI.out HT.out (by have := HM.out; omega))⟩
          case measure => simp [intOf]; omega
        · have hb1 : decide ((4294967296 : Int) ≤ (m : Int)) = true := by simp; omega
          go_wp2
          go_meet
          exact ⟨by rw [← HD.out.out HI.out HT.out (by have := HM.out; omega)]; go_num, ⟨_, rfl⟩, rfl⟩
      · have bt : t < 18446744073709551616 := by
          have := Nat.mul_le_mul (show q ≤ 4294967295 by omega) (show y0 ≤ 4294967295 by omega)
          omega
        have et : IntKind.u64.wrap ((q : Int) * (y0 : Int)) = (t : Int) := by rw [mulN, ← ht, wrapN _ bt]
        have HT := Lib.hid ht
        clear ht
        by_cases hc : 4294967296 * (r : Int) + (d1 : Int) < (t : Int)
        · have HS := Lib.hid (p := 4294967296 ≤ q ∨ 4294967296 * r + d1 < q * y0) (Or.inr (by rw [← HT.out]; omega))
          have hpos := HD.out.pos HI.out HS.out
          by_cases hr : (m : Int) < 4294967296
          · have hb1 : decide ((4294967296 : Int) ≤ (m : Int)) = false := by simp; omega
            go_wp2
            go_round
            case rel => exact ⟨q - 1, m, by go_num, rfl, Lib.hid (by rw [HM.out]; exact HD.out.next HI.out HS.out (by have := HM.out; omega))⟩
            case measure => simp [intOf]; omega
          · have hb1 : decide ((4294967296 : Int) ≤ (m : Int)) = true := by simp; omega
            go_wp2
            go_meet
            exact ⟨by rw [← HD.out.out HI.out HS.out (by have := HM.out; omega)]; go_num, ⟨_, rfl⟩, rfl⟩
        · go_wp2
          go_meet
          exact ⟨by rw [← HD.out.stop HI.out (by rw [← HT.out]; omega)], ⟨_, rfl⟩, rfl⟩
  case rest =>
    obtain ⟨rfl, ⟨k, rfl⟩, rfl⟩ := hcut
    go_upto_block 2 with fail
    go_cut [18, 16] (fun a b wx => a = .int .u64 (Q2 : Int) ∧ (∃ k : Int, b = .int .u64 k) ∧ wx = wc)
    case first =>
      clear ea1 ea2 ea3 ea4 eq2 ep2 er2 eb1 eb2 eb3 eb4 hA hB HD HI hp2 bQ eY ey1 ey0 eH eu eL ed1 ed0 eq ep er
      go_wp2_with fail
      go_loop [18, 16] (fun a b => ∃ q r : Nat, a = .int .u64 (q : Int) ∧ b = .int .u64 (r : Int) ∧ Hid (DigI y1 v Q2 q r)) (fun a _ => (intOf a).toNat)
      case atStart => exact ⟨q2, r2, rfl, rfl, HI2⟩
      case round =>
        clear HI2
        obtain ⟨q, r, rfl, rfl, HI⟩ := hrel
        have bq : (q : Int) ≤ 4294967297 := by have := HI.out.2.2.1; omega
        have br : (r : Int) < 4294967296 := by have := HI.out.2.2.2; omega
        obtain ⟨t, ht⟩ : ∃ t, t = q * y0 := ⟨_, rfl⟩
        obtain ⟨m, hm⟩ : ∃ m, m = r + y1 := ⟨_, rfl⟩
        have em : (r : Int) + (y1 : Int) = (m : Int) := by omega
        have HM := Lib.hid hm
        clear hm
        by_cases hq : (4294967296 : Int) ≤ (q : Int)
        · have HT := Lib.hid (p := 4294967296 ≤ q ∨ 4294967296 * r + d0 < q * y0) (Or.inl (by omega))
          have hpos := HD2.out.pos HI.out HT.out
          by_cases hr : (m : Int) < 4294967296
          · have hb1 : decide ((4294967296 : Int) ≤ (m : Int)) = false := by simp; omega
            go_wp2
            go_round
            case rel => exact ⟨q - 1, m, by go_num, rfl, Lib.hid (by rw [HM.out]; exact HD2.out.next HI.out HT.out (by have := HM.out; omega))⟩
            case measure => simp [intOf]; omega
          · have hb1 : decide ((4294967296 : Int) ≤ (m : Int)) = true := by simp; omega
            go_wp2
            go_meet
            exact ⟨by rw [← HD2.out.out HI.out HT.out (by have := HM.out; omega)]; go_num, ⟨_, rfl⟩, rfl⟩
        · have bt : t < 18446744073709551616 := by
            have := Nat.mul_le_mul (show q ≤ 4294967295 by omega) (show y0 ≤ 4294967295 by omega)
            omega
          have et : IntKind.u64.wrap ((q : Int) * (y0 : Int)) = (t : Int) := by rw [mulN, ← ht, wrapN _ bt]
          have HT := Lib.hid ht
          clear ht
          by_cases hc : 4294967296 * (r : Int) + (d0 : Int) < (t : Int)
          · have HS := Lib.hid (p := 4294967296 ≤ q ∨ 4294967296 * r + d0 < q * y0) (Or.inr (by rw [← HT.out]; omega))
            have hpos := HD2.out.pos HI.out HS.out
            by_cases hr : (m : Int) < 4294967296
            · have hb1 : decide ((4294967296 : Int) ≤ (m : Int)) = false := by simp; omega
              go_wp2
              go_round
              case rel => exact ⟨q - 1, m, by go_num, rfl, Lib.hid (by rw [HM.out]; exact HD2.out.next HI.out HS.out (by have := HM.out; omega))⟩
              case measure => simp [intOf]; omega
            · have hb1 : decide ((4294967296 : Int) ≤ (m : Int)) = true := by simp; omega
              go_wp2
              go_meet
              exact ⟨by rw [← HD2.out.out HI.out HS.out (by have := HM.out; omega)]; go_num, ⟨_, rfl⟩, rfl⟩
          · go_wp2
            go_meet
            exact ⟨by rw [← HD2.out.stop HI.out (by rw [← HT.out]; omega)], ⟨_, rfl⟩, rfl⟩
    case rest =>
      obtain ⟨rfl, ⟨k, rfl⟩, rfl⟩ := hcut
      go_wp2
      go_ret2
      exact ⟨ret2 hA.out hB.out, rfl⟩

theorem pow_cast (s : Nat) : ((2 : Int) ^ s) = ((2 ^ s : Nat) : Int) := by rw [Int.natCast_pow]; rfl
theorem two32 : (4294967296 : Nat) * 4294967296 = 18446744073709551616 := by omega
theorem or_add (hi x s : Nat) (hx : x < 2 ^ s) : hi * 2 ^ s ||| x = hi * 2 ^ s + x := by
  rw [Nat.mul_comm, ← Nat.two_pow_add_eq_or_of_lt hx]
theorem wrap_sub (X P V : Nat) (h : X = P + V) (hV : V < 18446744073709551616) (a3 : Nat) (h3 : a3 = P % 18446744073709551616) (a2 : Nat) (h2 : a2 = X % 18446744073709551616) : IntKind.u64.wrap ((a2 : Int) - (a3 : Int)) = (V : Int) := by
  rw [IntKind.wrap_u64]
  omega

theorem div64 (hi lo y : Nat) (h0 : hi < y) (hlo : lo < 18446744073709551616) (hy : y < 9223372036854775808) (w : World) :
    Calls Tryd.prog 62 #[.int .u64 hi, .int .u64 lo, .int .u64 y] w fun e w' => e = .returned (.tuple #[.int .u64 (((hi * 18446744073709551616 + lo) / y : Nat) : Int), .int .u64 (((hi * 18446744073709551616 + lo) % y : Nat) : Int)]) ∧ Below w.heap.size w w' := by
  by_cases hh : hi = 0
  · subst hh
    have h := div64_low lo y h0 hlo hy w
    rw [Nat.zero_mul, Nat.zero_add]
    exact h
  · obtain ⟨tl, tu, t64⟩ := bitLen_top y (by omega) (by omega)
    have t63 : Lib.bitLen y ≤ 63 := Lib.bitLen_le y 63 (by omega) hy
    have t1 : 1 ≤ Lib.bitLen y := by
      rcases Nat.eq_zero_or_pos (Lib.bitLen y) with h | h
      · rw [h] at tl; omega
      · exact h
    have hzs := fun w => zeros64 y (by omega) (by omega) w
    obtain ⟨top1, top2⟩ := top_set tl tu t64
    generalize hs : 64 - Lib.bitLen y = s at *
    have hs1 : 1 ≤ s := by omega
    have hs2 : s ≤ 63 := by omega
    have sc := scaled (s := s) (N := hi * 18446744073709551616 + lo) (y := y)
    have sh := shifted (s := s) (hi := hi) (lo := lo) (by omega) hlo
    have hx : lo / 2 ^ (64 - s) < 2 ^ s := by
      rw [Nat.div_lt_iff_lt_mul (Nat.two_pow_pos _), ← Nat.pow_add]
      have : s + (64 - s) = 64 := by omega
      rw [this]; exact hlo
    have hH : hi * 2 ^ s < y * 2 ^ s := Nat.mul_lt_mul_of_pos_right h0 (Nat.two_pow_pos s)
    have hor := or_add hi (lo / 2 ^ (64 - s)) s hx
    have hu1 : (hi * 2 ^ s + lo / 2 ^ (64 - s)) < y * 2 ^ s := by
      have h1 : (hi + 1) * 2 ^ s ≤ y * 2 ^ s := Nat.mul_le_mul_right _ h0
      rw [Nat.add_mul, Nat.one_mul] at h1
      omega
    have hp2 : 0 < 2 ^ s := Nat.two_pow_pos s
    have eY : IntKind.u64.wrap ((y : Int) * 2 ^ s) = ((y * 2 ^ s : Nat) : Int) := by rw [pow_cast, mulN, wrapN _ top2]
    have eH : IntKind.u64.wrap ((hi : Int) * 2 ^ s) = ((hi * 2 ^ s : Nat) : Int) := by rw [pow_cast, mulN, wrapN _ (by omega)]
    have eL : IntKind.u64.wrap ((lo : Int) * 2 ^ s) = ((lo * 2 ^ s % 18446744073709551616 : Nat) : Int) := by rw [pow_cast, mulN, wrapM]
    have eX : (lo : Int) / 2 ^ (64 - s) = ((lo / 2 ^ (64 - s) : Nat) : Int) := by rw [pow_cast, Int.natCast_ediv]
    generalize hxx : lo / 2 ^ (64 - s) = X at *
    generalize hHH : hi * 2 ^ s = H at *
    generalize hLL : lo * 2 ^ s % 18446744073709551616 = L at *
    have hL : L < 18446744073709551616 := by omega
    have eu : bits .or .u64 (H : Int) ((lo : Int) / 2 ^ (64 - s)) = ((H + X : Nat) : Int) := by
      rw [eX, bits_or_u64_nat H X (by omega) (by omega), hor]
    generalize huu : H + X = u at *
    generalize hYY : y * 2 ^ s = Y at *
    have e32 := Nat.div_add_mod' Y 4294967296
    obtain ⟨y1, hy1⟩ : ∃ y1, y1 = Y / 4294967296 := ⟨_, rfl⟩
    obtain ⟨y0, hy0⟩ : ∃ y0, y0 = Y % 4294967296 := ⟨_, rfl⟩
    rw [← hy1, ← hy0] at e32
    obtain ⟨Q, hQ⟩ : ∃ Q, Q = (u * 4294967296 + L / 4294967296) / Y := ⟨_, rfl⟩
    obtain ⟨v, hv⟩ : ∃ v, v = (u * 4294967296 + L / 4294967296) % Y := ⟨_, rfl⟩
    obtain ⟨Q2, hQ2⟩ : ∃ Q2, Q2 = (v * 4294967296 + L % 4294967296) / Y := ⟨_, rfl⟩
    obtain ⟨b, hb⟩ : ∃ b, b = (v * 4294967296 + L % 4294967296) % Y := ⟨_, rfl⟩
    have hY : 0 < Y := by omega
    have vY : v < Y := by rw [hv]; exact Nat.mod_lt _ hY
    have bY : b < Y := by rw [hb]; exact Nat.mod_lt _ hY
    have dm1 : u * 4294967296 + L / 4294967296 = Q * Y + v := by rw [hQ, hv, Nat.div_add_mod']
    have dm2 : v * 4294967296 + L % 4294967296 = Q2 * Y + b := by rw [hQ2, hb, Nat.div_add_mod']
    have td := two_digits (B := 4294967296) (Y := Y) (u := u) (d1 := L / 4294967296) (d0 := L % 4294967296) hY
    rw [← hv, ← hQ, ← hQ2, ← hb, two32, Nat.div_add_mod' L 4294967296, sh, sc.1, sc.2] at td
    have D : Dig y1 y0 u (L / 4294967296) Q := ⟨by omega, by omega, by omega, by rw [e32]; exact hu1, by omega, by rw [e32]; exact hQ⟩
    have D2 : Dig y1 y0 v (L % 4294967296) Q2 := ⟨by omega, by omega, by omega, by rw [e32]; exact vY, by omega, by rw [e32]; exact hQ2⟩
    obtain ⟨I, Ip⟩ := D.start
    obtain ⟨I2, Ip2⟩ := D2.start
    have ul : u / y1 ≤ u := Nat.div_le_self _ _
    have vl : v / y1 ≤ v := Nat.div_le_self _ _
    refine (div64_walk hi lo y s Y y1 y0 H u L (L / 4294967296) (L % 4294967296) (u / y1) (u / y1 * y1) (u - u / y1 * y1) Q
      (u * 4294967296 % 18446744073709551616) ((u * 4294967296 % 18446744073709551616 + L / 4294967296) % 18446744073709551616) (Q * Y % 18446744073709551616) v
      (v / y1) (v / y1 * y1) (v - v / y1 * y1) Q2
      (v * 4294967296 % 18446744073709551616) ((v * 4294967296 % 18446744073709551616 + L % 4294967296) % 18446744073709551616) (Q2 * Y % 18446744073709551616) b
      (((hi * 18446744073709551616 + lo) / y : Nat) : Int) (((hi * 18446744073709551616 + lo) % y : Nat) : Int)
      (by omega) h0 hlo hy w (fun w => Lib.hid (hzs w)) hs1 hs2 eY (by rw [hy1]; omega) (by rw [hy0]; exact maskN _ top2)
      eH eu eL (by omega) (maskN _ hL) (by rw [← Int.natCast_ediv, wrapN _ (by omega)]) (by rw [mulN, wrapN _ (by omega)]) Ip (by omega) (by omega) D I
      (by rw [IntKind.wrap_u64]; omega) (by rw [IntKind.wrap_u64]; omega) (by rw [mulN, wrapM]) (wrap_sub _ _ _ dm1 (by omega) _ rfl _ (by omega)) (by omega)
      (by rw [← Int.natCast_ediv, wrapN _ (by omega)]) (by rw [mulN, wrapN _ (by omega)]) Ip2 (by omega) D2 I2
      (by rw [IntKind.wrap_u64]; omega) (by rw [IntKind.wrap_u64]; omega) (by rw [mulN, wrapM]) (wrap_sub _ _ _ dm2 (by omega) _ rfl _ (by omega))
      (Lib.hid (by rw [← td.1]; omega)) (Lib.hid (by rw [pow_cast, ← Int.natCast_ediv, td.2, Nat.mul_div_cancel _ hp2]))).mono ?_
    rintro e w' ⟨rfl, rfl⟩
    exact ⟨rfl, Below.refl _ _⟩

end NumBits
end Go.Proofs.YtncndofhecdgnaaDoor
