/-
  within, factors, Bands of package risk and the document's. Conditions: the rows read as lists.
-/
import Derived.Test.YtinhhphnbbdoeaaBase
import Derived.Deep.LoopGhost
namespace Go.Proofs.Ytinhhphnbbdoeaa
open Go.RowKit Ba Tf
namespace Qo
set_option linter.unusedVariables false

set_option maxHeartbeats 1000000 in
theorem within (n lo hi : Int) (w : World) : Calls Try.prog 34 #[.int .i64 n, .int .i64 lo, .int .i64 hi] w fun e w' => e = .returned (.bool (wi n lo hi)) ∧ w = w' := by
  by_cases h1 : lo ≤ n
  · have t1 : decide (lo ≤ n) = true := by simpa using h1
    by_cases h2 : n ≤ hi
    · have t2 : decide (n ≤ hi) = true := by simpa using h2
      rw [wi_iff.2 ⟨h1, h2⟩]
      clear h1 h2
      go_enter Try.func34, Try.ntmps34
      go_wp2
      go_ret
      exact ⟨rfl, rfl⟩
    · have t2 : decide (n ≤ hi) = false := by simpa using h2
      rw [wi_no (by omega)]
      clear h1 h2
      go_enter Try.func34, Try.ntmps34
      go_wp2
      go_ret
      exact ⟨rfl, rfl⟩
  · have t1 : decide (lo ≤ n) = false := by simpa using h1
    rw [wi_no (by omega)]
    clear h1
    go_enter Try.func34, Try.ntmps34
    go_wp2
    go_ret
    exact ⟨rfl, rfl⟩

set_option maxHeartbeats 1000000 in
theorem twithin (n lo hi : Int) (w : World) : Calls Try.prog 31 #[.int .i64 n, .int .i64 lo, .int .i64 hi] w fun e w' => e = .returned (.bool (wi n lo hi)) ∧ w = w' := by
  by_cases h1 : lo ≤ n
  · have t1 : decide (lo ≤ n) = true := by simpa using h1
    by_cases h2 : n ≤ hi
    · have t2 : decide (n ≤ hi) = true := by simpa using h2
      rw [wi_iff.2 ⟨h1, h2⟩]
      clear h1 h2
      go_enter Try.func31, Try.ntmps31
      go_wp2
      go_ret
      exact ⟨rfl, rfl⟩
    · have t2 : decide (n ≤ hi) = false := by simpa using h2
      rw [wi_no (by omega)]
      clear h1 h2
      go_enter Try.func31, Try.ntmps31
      go_wp2
      go_ret
      exact ⟨rfl, rfl⟩
  · have t1 : decide (lo ≤ n) = false := by simpa using h1
    rw [wi_no (by omega)]
    clear h1
    go_enter Try.func31, Try.ntmps31
    go_wp2
    go_ret
    exact ⟨rfl, rfl⟩

set_option maxRecDepth 100000 in
set_option maxHeartbeats 2000000 in
theorem bands_ (L : Option Addr) (m c : Nat) (ls : List Pr) (w : World) (hS : Lns w (· < w.heap.size) L m ls) (hm : m ≤ maxLen) :
    Calls Try.prog 33 #[.slice L m c] w (Yes w (bds ls)) := by
  have hl := hS.1
  unfold maxLen at hm
  by_cases hf : 100 < m
  · rw [bds_far (by omega)]
    have t1 : decide (100 < (m : Int)) = true := by simpa using (show 100 < (m : Int) by omega)
    have t1' : decide (100 < m) = true := by simpa using hf
    clear hS hl hf
    go_enter Try.func33, Try.ntmps33
    go_wp2
    go_ret
    exact ⟨rfl, Below.refl _ _⟩
  rw [bds_near (by omega)]
  have t1 : decide (100 < (m : Int)) = false := by simpa using (show ¬ 100 < (m : Int) by omega)
  have t1' : decide (100 < m) = false := by simpa using hf
  have hm2 : m ≤ 100 := by omega
  have HS := Lib.hid hS
  have HL := Lib.hid hl
  have C := fun n lo hi w => Lib.hid (within n lo hi w)
  obtain ⟨R, hR⟩ : ∃ R, okL 0 ls = R := ⟨_, rfl⟩
  rw [hR]
  have HR := Lib.hid hR
  clear hS hl hR hf hm
  go_enter Try.func33, Try.ntmps33
  go_wp2
  go_loopw [3, 5, 11] (fun sl s5 i w' => ∃ (k : Nat) (least : Int) (w1 : World), k ≤ m ∧ 0 ≤ least ∧ least ≤ 201 ∧ i = .int .i64 (k : Int) ∧ sl = .int .i64 least ∧ w1 = w' ∧ Hid (okL least (ls.drop k) = R) ∧ Hid (Below w.heap.size w w1)) (fun _ _ i _ => m - (intOf i).toNat)
  case atStart => exact ⟨0, 0, _, Nat.zero_le _, by omega, by omega, rfl, rfl, rfl, HR, Lib.hid (Below.refl _ _)⟩
  case round =>
    obtain ⟨k, least, w1, hk, hl0, hl1, rfl, rfl, rfl, HB, HW⟩ := hrel
    by_cases hlt : k < m
    · obtain ⟨ad, x, y, rfl, hb, hx, hc0, hc1⟩ := (HS.out.keep (ok' := (· < w.heap.size)) (fun p hp => HW.out.cell hp) fun _ h => h).get hlt
      have HD := Lib.hid (drop_get hx)
      have hlt2 : (k : Int) < (m : Int) := by omega
      have hxl : ad.block < w1.heap.size := by have := HW.out.size; omega
      clear hx hb
      cases t7 : wi x least 200
      · have HF := Lib.hid (show R = false by rw [← HB.out, HD.out]; exact okL_no1 t7)
        go_wp2_with (go_at_call 34; refine (C _ _ _ _).out.mono ?_; rintro e w' ⟨rfl, rfl⟩)
        go_ret
        exact ⟨by rw [HF.out]; rfl, HW.out.alloc HW.out.size _⟩
      · cases t8 : wi y 0 100000
        · have HF := Lib.hid (show R = false by rw [← HB.out, HD.out]; exact okL_no2 t7 t8)
          go_wp2_with (go_at_call 34; refine (C _ _ _ _).out.mono ?_; rintro e w' ⟨rfl, rfl⟩)
          go_ret
          exact ⟨by rw [HF.out]; rfl, HW.out.alloc HW.out.size _⟩
        · have HN := Lib.hid (show okL (x + 1) (ls.drop (k + 1)) = R by rw [← HB.out, HD.out]; exact (okL_yes (x := (x, y)) t7 t8).symm)
          obtain ⟨q1, q2⟩ := wi_iff.1 t7
          go_wp2_with (go_at_call 34; refine (C _ _ _ _).out.mono ?_; rintro e w' ⟨rfl, rfl⟩)
          go_roundw
          case rel => exact ⟨k + 1, x + 1, _, by omega, by omega, by omega, by go_num, rfl, rfl, HN, Lib.hid (HW.out.alloc HW.out.size _)⟩
          case measure => simp [intOf]; omega
    · have HF := Lib.hid (show R = true by rw [← HB.out, List.drop_of_length_le (by rw [HL.out]; omega)]; rfl)
      go_wp2
      go_ret
      exact ⟨by rw [HF.out]; rfl, HW.out⟩

/-- All of a row's numbers within, and its ages rise behind the one ahead: told by index, as the document does. -/
theorem okL_ref {least : Int} {x y : Int} {xs : List Pr} (h1 : ¬ x < 0) (h2 : ¬ 200 < x) (h3 : ¬ y < 0) (h4 : ¬ 100000 < y) (h5 : least ≤ x) : okL least ((x, y) :: xs) = okL (x + 1) xs :=
  okL_yes (x := (x, y)) (wi_iff.2 (by simp only; omega)) (wi_iff.2 (by simp only; omega))
theorem okL_bad {least : Int} {x y : Int} {xs : List Pr} (h : x < 0 ∨ 200 < x ∨ y < 0 ∨ 100000 < y ∨ x < least) (h0 : 0 ≤ least) : okL least ((x, y) :: xs) = false := by
  cases t : wi x least 200
  · exact okL_no1 (x := (x, y)) t
  · refine okL_no2 (x := (x, y)) t (wi_no ?_)
    have := wi_iff.1 t
    simp only
    omega

set_option maxRecDepth 100000 in
set_option maxHeartbeats 2000000 in
theorem rbands (L : Option Addr) (m c : Nat) (ls : List Pr) (w : World) (hS : Lns w (· < w.heap.size) L m ls) (hm : m ≤ maxLen) :
    Calls Try.prog 29 #[.slice L m c] w (Yes w (bds ls)) := by
  have hl := hS.1
  unfold maxLen at hm
  by_cases hf : 100 < m
  · rw [bds_far (by omega)]
    have t1 : decide (100 < (m : Int)) = true := by simpa using (show 100 < (m : Int) by omega)
    have t1' : decide (100 < m) = true := by simpa using hf
    clear hS hl hf
    go_enter Try.func29, Try.ntmps29
    go_wp2
    go_ret
    exact ⟨rfl, Below.refl _ _⟩
  rw [bds_near (by omega)]
  have t1 : decide (100 < (m : Int)) = false := by simpa using (show ¬ 100 < (m : Int) by omega)
  have t1' : decide (100 < m) = false := by simpa using hf
  have hm2 : m ≤ 100 := by omega
  have HS := Lib.hid hS
  have HL := Lib.hid hl
  obtain ⟨R, hR⟩ : ∃ R, okL 0 ls = R := ⟨_, rfl⟩
  rw [hR]
  have HR := Lib.hid hR
  clear hS hl hR hf hm
  go_enter Try.func29, Try.ntmps29
  go_wp2
  go_loopw [3] (fun i w' => ∃ (k : Nat) (least : Int) (w1 : World), k ≤ m ∧ 0 ≤ least ∧ least ≤ 201 ∧ i = .int .i64 (k : Int) ∧ w1 = w' ∧ Hid (okL least (ls.drop k) = R) ∧ Hid (Below w.heap.size w w1) ∧ Hid ((k = 0 ∧ least = 0) ∨ ∃ j z, k = j + 1 ∧ ls[j]? = some z ∧ least = z.1 + 1)) (fun i _ => m - (intOf i).toNat)
  case atStart => exact ⟨0, 0, _, Nat.zero_le _, by omega, by omega, rfl, rfl, HR, Lib.hid (Below.refl _ _), Lib.hid (.inl ⟨rfl, rfl⟩)⟩
  case round =>
    obtain ⟨k, least, w1, hk, hl0, hl1, rfl, rfl, HB, HW, HP⟩ := hrel
    have HK := Lib.hid (HS.out.keep (w' := w1) (ok' := (· < w.heap.size)) (fun p hp => HW.out.cell hp) fun _ h => h)
    by_cases hlt : k < m
    · obtain ⟨ad, x, y, rfl, hb, hx, hc0, hc1⟩ := HK.out.get hlt
      have HD := Lib.hid (drop_get hx)
      have hlt2 : (k : Int) < (m : Int) := by omega
      have HX := Lib.hid hx
      clear hx hb
      by_cases h0 : x < 0
      · have t0' : decide (x < 0) = true := by simpa using h0
        have HF := Lib.hid (show R = false by rw [← HB.out, HD.out]; exact okL_bad (by omega) hl0)
        clear h0
        go_wp2
        go_ret
        exact ⟨by rw [HF.out]; rfl, HW.out⟩
      have t0' : decide (x < 0) = false := by simpa using h0
      by_cases h1 : 200 < x
      · have t1' : decide (200 < x) = true := by simpa using h1
        have HF := Lib.hid (show R = false by rw [← HB.out, HD.out]; exact okL_bad (by omega) hl0)
        clear h0 h1
        go_wp2
        go_ret
        exact ⟨by rw [HF.out]; rfl, HW.out⟩
      have t1' : decide (200 < x) = false := by simpa using h1
      by_cases h2 : y < 0
      · have t2' : decide (y < 0) = true := by simpa using h2
        have HF := Lib.hid (show R = false by rw [← HB.out, HD.out]; exact okL_bad (by omega) hl0)
        clear h0 h1 h2
        go_wp2
        go_ret
        exact ⟨by rw [HF.out]; rfl, HW.out⟩
      have t2' : decide (y < 0) = false := by simpa using h2
      by_cases h3 : 100000 < y
      · have t3' : decide (100000 < y) = true := by simpa using h3
        have HF := Lib.hid (show R = false by rw [← HB.out, HD.out]; exact okL_bad (by omega) hl0)
        clear h0 h1 h2 h3
        go_wp2
        go_ret
        exact ⟨by rw [HF.out]; rfl, HW.out⟩
      have t3' : decide (100000 < y) = false := by simpa using h3
      rcases HP.out with ⟨hk0, hl00⟩ | ⟨j, ⟨z1, z2⟩, hkj, hz, hlz⟩
      · have HN := Lib.hid (show okL (x + 1) (ls.drop (k + 1)) = R by rw [← HB.out, HD.out]; exact (okL_ref h0 h1 h2 h3 (by omega)).symm)
        have t4 : decide (0 < (k : Int)) = false := by simpa using (show ¬ 0 < (k : Int) by omega)
        have t4' : decide (0 < k) = false := by simpa using (show ¬ 0 < k by omega)
        have HE := Lib.hid hk0
        have hx1 : x + 1 ≤ 201 := by omega
        have hx0 : 0 ≤ x + 1 := by omega
        clear h0 h1 h2 h3 hk0 hl00
        go_wp2
        go_roundw
        case rel => exact ⟨k + 1, x + 1, _, by omega, hx0, hx1, by go_num, rfl, HN, HW, Lib.hid (.inr ⟨k, (x, y), rfl, HX.out, rfl⟩)⟩
        case measure => simp [intOf]; omega
      · have t4 : decide (0 < (k : Int)) = true := by simpa using (show 0 < (k : Int) by omega)
        have t4' : decide (0 < k) = true := by simpa using (show 0 < k by omega)
        obtain ⟨ad', z1', z2', ead, _, hzz, hd0, hd1⟩ := HK.out.get (show j < m by omega)
        injection ead with ead
        subst ead
        rw [hz] at hzz
        simp only [Option.some.injEq, Prod.mk.injEq] at hzz
        obtain ⟨rfl, rfl⟩ := hzz
        simp only at hlz
        have e1 : (k : Int) - 1 = (j : Int) := by omega
        have hj2 : (j : Int) < (m : Int) := by omega
        have hj1 : 0 ≤ (j : Int) := by omega
        have hk1 : 0 ≤ (k : Int) := by omega
        by_cases h5 : x ≤ z1
        · have t5 : decide (x ≤ z1) = true := by simpa using h5
          have HF := Lib.hid (show R = false by rw [← HB.out, HD.out]; exact okL_bad (by omega) hl0)
          clear h0 h1 h2 h3 h5 hkj hz hlz hd1
          go_wp2
          go_quiet (fail)
          go_wp2
          go_ret
          exact ⟨by rw [HF.out]; rfl, below_drewN HW.out _⟩
        · have t5 : decide (x ≤ z1) = false := by simpa using h5
          have HN := Lib.hid (show okL (x + 1) (ls.drop (k + 1)) = R by rw [← HB.out, HD.out]; exact (okL_ref h0 h1 h2 h3 (by omega)).symm)
          have hx1 : x + 1 ≤ 201 := by omega
          have hx0 : 0 ≤ x + 1 := by omega
          clear h0 h1 h2 h3 h5 hkj hz hlz hd1
          go_wp2
          go_quiet (fail)
          go_wp2
          go_roundw
          case rel => exact ⟨k + 1, x + 1, _, by omega, hx0, hx1, by go_num, rfl, HN, Lib.hid (below_drewN HW.out _), Lib.hid (.inr ⟨k, (x, y), rfl, HX.out, rfl⟩)⟩
          case measure => simp [intOf]; omega
    · have HF := Lib.hid (show R = true by rw [← HB.out, List.drop_of_length_le (by rw [HL.out]; omega)]; rfl)
      go_wp2
      go_ret
      exact ⟨by rw [HF.out]; rfl, HW.out⟩


set_option maxRecDepth 100000 in
set_option maxHeartbeats 2000000 in
theorem factors (L : Option Addr) (m c : Nat) (xs : List Int) (w : World) (ok : Nat → Prop) (hS : Ins w ok L m xs) (hm : m ≤ maxLen) :
    Calls Try.prog 32 #[.slice L m c] w fun e w' => e = .returned (.bool (fac xs)) ∧ w = w' := by
  have hl := hS.1
  unfold maxLen at hm
  have HS := Lib.hid hS
  have HL := Lib.hid hl
  have C := fun n lo hi w => Lib.hid (twithin n lo hi w)
  obtain ⟨R, hR⟩ : ∃ R, fac xs = R := ⟨_, rfl⟩
  rw [hR]
  have HR := Lib.hid hR
  clear hS hl hR
  go_enter Try.func32, Try.ntmps32
  go_wp2
  go_loop [4, 7] (fun s4 i => ∃ (k : Nat), k ≤ m ∧ i = .int .i64 (k : Int) ∧ Hid (fac (xs.drop k) = R)) (fun _ i => m - (intOf i).toNat)
  case atStart => exact ⟨0, Nat.zero_le _, rfl, HR⟩
  case round =>
    obtain ⟨k, hk, rfl, HB⟩ := hrel
    by_cases hlt : k < m
    · obtain ⟨ad, x, rfl, hb, hx, hc0⟩ := HS.out.get hlt
      have HD := Lib.hid (drop_get hx)
      have hlt2 : (k : Int) < (m : Int) := by omega
      clear hx hb
      cases t7 : wi x 0 100000
      · have HF := Lib.hid (show R = false by rw [← HB.out, HD.out]; exact fac_no t7)
        go_wp2_with (go_at_call 31; refine (C _ _ _ _).out.mono ?_; rintro e w' ⟨rfl, rfl⟩)
        go_ret
        exact ⟨by rw [HF.out]; rfl, rfl⟩
      · have HN := Lib.hid (show fac (xs.drop (k + 1)) = R by rw [← HB.out, HD.out]; exact (fac_yes t7).symm)
        go_wp2_with (go_at_call 31; refine (C _ _ _ _).out.mono ?_; rintro e w' ⟨rfl, rfl⟩)
        go_round
        case rel => exact ⟨k + 1, by omega, by go_num, HN⟩
        case measure => simp [intOf]; omega
    · have HF := Lib.hid (show R = true by rw [← HB.out, List.drop_of_length_le (by rw [HL.out]; omega)]; rfl)
      go_wp2
      go_ret
      exact ⟨by rw [HF.out]; rfl, rfl⟩

set_option maxRecDepth 100000 in
set_option maxHeartbeats 2000000 in
theorem rfactors (L : Option Addr) (m c : Nat) (xs : List Int) (w : World) (ok : Nat → Prop) (hS : Ins w ok L m xs) (hm : m ≤ maxLen) :
    Calls Try.prog 30 #[.slice L m c] w fun e w' => e = .returned (.bool (fac xs)) ∧ w = w' := by
  have hl := hS.1
  unfold maxLen at hm
  have HS := Lib.hid hS
  have HL := Lib.hid hl
  obtain ⟨R, hR⟩ : ∃ R, fac xs = R := ⟨_, rfl⟩
  rw [hR]
  have HR := Lib.hid hR
  clear hS hl hR
  go_enter Try.func30, Try.ntmps30
  go_wp2
  go_loop [3] (fun i => ∃ (k : Nat), k ≤ m ∧ i = .int .i64 (k : Int) ∧ Hid (fac (xs.drop k) = R)) (fun i => m - (intOf i).toNat)
  case atStart => exact ⟨0, Nat.zero_le _, rfl, HR⟩
  case round =>
    obtain ⟨k, hk, rfl, HB⟩ := hrel
    by_cases hlt : k < m
    · obtain ⟨ad, x, rfl, hb, hx, hc0⟩ := HS.out.get hlt
      have HD := Lib.hid (drop_get hx)
      have hlt2 : (k : Int) < (m : Int) := by omega
      clear hx hb
      by_cases h1 : x < 0
      · have t1 : decide (x < 0) = true := decide_eq_true h1
        have HF := Lib.hid (show R = false by rw [← HB.out, HD.out]; exact fac_no (wi_no (by omega)))
        clear h1
        go_wp2
        go_ret
        exact ⟨by rw [HF.out]; rfl, rfl⟩
      · have t1 : decide (x < 0) = false := decide_eq_false h1
        by_cases h2 : 100000 < x
        · have t2 : decide (100000 < x) = true := decide_eq_true h2
          have HF := Lib.hid (show R = false by rw [← HB.out, HD.out]; exact fac_no (wi_no (by omega)))
          clear h1 h2
          go_wp2
          go_ret
          exact ⟨by rw [HF.out]; rfl, rfl⟩
        · have t2 : decide (100000 < x) = false := decide_eq_false h2
          have HN := Lib.hid (show fac (xs.drop (k + 1)) = R by rw [← HB.out, HD.out]; exact (fac_yes (wi_iff.2 (by omega))).symm)
          clear h1 h2
          go_wp2
          go_round
          case rel => exact ⟨k + 1, by omega, by go_num, HN⟩
          case measure => simp [intOf]; omega
    · have HF := Lib.hid (show R = true by rw [← HB.out, List.drop_of_length_le (by rw [HL.out]; omega)]; rfl)
      go_wp2
      go_ret
      exact ⟨by rw [HF.out]; rfl, rfl⟩

end Qo
end Go.Proofs.Ytinhhphnbbdoeaa
