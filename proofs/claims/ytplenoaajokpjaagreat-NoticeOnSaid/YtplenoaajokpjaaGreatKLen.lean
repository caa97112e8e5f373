/-
  How many bits a number has. Conditions: those of each theorem.
-/
import Derived.Test.YtplenoaajokpjaaGreatRows
import Derived.Lib.Strings
import Derived.Lib.Slices
import Derived.Lib.Small
import Derived.Lib.Walk
import Derived.Lib.BitFns
namespace Go.Proofs.YtplenoaajokpjaaGreat
open Go.Lib
namespace NumBits
theorem lenAt (x k : Nat) (b : Int) (hb : b = ((x / 2 ^ k : Nat) : Int)) (hk : 2 ^ k ≤ x) (hx : x < 2 ^ 64) (h8 : x / 2 ^ k < 256) : len8 b + (k : Int) = (Lib.bitLen x : Int) ∧ len8 b ≤ 8 ∧ 0 ≤ len8 b := by
 have h1 := Lib.bitLen_shift k x hk hx; generalize x / 2 ^ k = q at *; subst hb; rw [len8_of _ (by omega) (by omega), Int.toNat_natCast]; have h2 := Lib.bitLen_le8 ⟨q, h8⟩; simp only at h2; omega
theorem bitLen_up : ∀ (f x : Nat), x < 2 ^ f → x < 2 ^ bitLenAux f x ∧ (0 < x → 2 ^ bitLenAux f x ≤ 2 * x)
 | 0, x, h => by simp at h; subst h; simp [bitLenAux]
 | f + 1, x, h => by
  by_cases h0 : x = 0
  ·subst h0; simp [bitLenAux]
  ·have hh : x / 2 < 2 ^ f := by rw [Nat.pow_succ] at h; omega
   obtain ⟨a, b⟩ := bitLen_up f (x / 2) hh; simp only [bitLenAux, h0, if_false]; rw [Nat.add_comm 1, Nat.pow_succ]; refine ⟨by omega, fun _ => ?_⟩; by_cases h1 : x / 2 = 0
   ·have e : bitLenAux f (x / 2) = 0 := by rw [h1]; cases f <;> simp [bitLenAux]
    rw [e]; omega
   ·have := b (by omega); omega
theorem bitLen_top (x : Nat) (h0 : 0 < x) (hx : x < 18446744073709551616) : x < 2 ^ Lib.bitLen x ∧ 2 ^ Lib.bitLen x ≤ 2 * x ∧ Lib.bitLen x ≤ 64 := by
 have h := bitLen_up 64 x hx; exact ⟨h.1, h.2 h0, Lib.bitLen_le x 64 (Nat.le_refl _) hx⟩
set_option maxRecDepth 100000 in
set_option maxHeartbeats 1000000 in
theorem len64 (x : Nat) (h1 : 0 < x) (hx : x < 18446744073709551616) (w : World) :
  Calls Tryz.prog 144 #[.int .u64 x] w fun e w' => e = .returned (.int .i64 (Lib.bitLen x)) ∧ w = w' := by
 go_enter Tryz.func144, Tryz.ntmps144; go_wp2
 all_goals (go_ret; refine ⟨congrArg Ending.returned (congrArg (Value.int IntKind.i64) ?_), rfl⟩)
 ·have h := lenAt x 56 ((x : Int) / 4294967296 / 65536 / 256 % 256) (by simp only [Nat.reducePow]; omega) (by simp only [Nat.reducePow]; omega) hx (by simp only [Nat.reducePow]; omega); omega
 ·have h := lenAt x 48 ((x : Int) / 4294967296 / 65536 % 256) (by simp only [Nat.reducePow]; omega) (by simp only [Nat.reducePow]; omega) hx (by simp only [Nat.reducePow]; omega); omega
 ·have h := lenAt x 40 ((x : Int) / 4294967296 / 256 % 256) (by simp only [Nat.reducePow]; omega) (by simp only [Nat.reducePow]; omega) hx (by simp only [Nat.reducePow]; omega); omega
 ·have h := lenAt x 32 ((x : Int) / 4294967296 % 256) (by simp only [Nat.reducePow]; omega) (by simp only [Nat.reducePow]; omega) hx (by simp only [Nat.reducePow]; omega); omega
 ·have h := lenAt x 24 ((x : Int) / 65536 / 256 % 256) (by simp only [Nat.reducePow]; omega) (by simp only [Nat.reducePow]; omega) hx (by simp only [Nat.reducePow]; omega); omega
 ·have h := lenAt x 16 ((x : Int) / 65536 % 256) (by simp only [Nat.reducePow]; omega) (by simp only [Nat.reducePow]; omega) hx (by simp only [Nat.reducePow]; omega); omega
 ·have h := lenAt x 8 ((x : Int) / 256 % 256) (by simp only [Nat.reducePow]; omega) (by simp only [Nat.reducePow]; omega) hx (by simp only [Nat.reducePow]; omega); omega
 ·have h := lenAt x 0 ((x : Int) % 256) (by simp only [Nat.reducePow]; omega) (by simp only [Nat.reducePow]; omega) hx (by simp only [Nat.reducePow]; omega); omega
set_option maxHeartbeats 1000000 in
theorem zeros64 (x : Nat) (h1 : 0 < x) (hx : x < 18446744073709551616) (w : World) :
  Calls Tryz.prog 161 #[.int .u64 x] w fun e w' => e = .returned (.int .i64 ((64 - Lib.bitLen x : Nat) : Int)) ∧ w = w' := by
 have hb := (bitLen_top x h1 hx).2.2; go_enter Tryz.func161, Tryz.ntmps161
 go_wp2_with (go_at_call 144; refine (len64 x h1 hx _).mono ?_; rintro e w' ⟨rfl, rfl⟩)
 go_ret; refine ⟨congrArg Ending.returned (congrArg (Value.int IntKind.i64) ?_), rfl⟩; omega
end NumBits
end Go.Proofs.YtplenoaajokpjaaGreat
