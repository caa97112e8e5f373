/-
  num.Down, num.Even, num.Bp: what each call gives for any three numbers. Conditions: the arguments are numbers of 64 bits.
-/
import Derived.Test.YtinhhphnbbdoeaaDiv
namespace Go.Proofs.Ytinhhphnbbdoeaa
open Go.RowKit NumMath NumBits
namespace Num

def nearB (q r d : Nat) : Bool := decide (d < 2 * r) || (decide (d = 2 * r) && decide (q % 2 = 1))

set_option maxHeartbeats 1000000 in
theorem nearer (q r d : Nat) (hr : r < d) (hd : d < 9223372036854775808) (hq : q < 18446744073709551616) (w : World) :
    Calls Try.prog 42 #[.int .u64 q, .int .u64 r, .int .u64 d] w fun e w' => e = .returned (.bool (nearB q r d)) ∧ w = w' := by
  by_cases h1 : d < 2 * r
  · have e : nearB q r d = true := by simp [nearB, h1]
    rw [e]
    have t1 : decide ((d : Int) - (r : Int) < (r : Int)) = true := by simp; omega
    go_enter Try.func42, Try.ntmps42
    go_wp2
    go_ret
    exact ⟨rfl, rfl⟩
  · have t1 : decide ((d : Int) - (r : Int) < (r : Int)) = false := by simp; omega
    by_cases h2 : d = 2 * r
    · have t2 : ((r : Int) == (d : Int) - (r : Int)) = true := by rw [beq_iff_eq]; omega
      by_cases h3 : q % 2 = 1
      · have e : nearB q r d = true := by simp [nearB, h2, h3]
        rw [e]
        have t3 : ((q : Int) % 2 == 1) = true := by rw [beq_iff_eq]; omega
        clear h1 h2 h3
        go_enter Try.func42, Try.ntmps42
        go_wp2
        go_ret
        exact ⟨rfl, rfl⟩
      · have e : nearB q r d = false := by simp [nearB, h2, h3]
        rw [e]
        have t3 : ((q : Int) % 2 == 1) = false := by rw [beq_eq_false_iff_ne]; omega
        clear h1 h2 h3
        go_enter Try.func42, Try.ntmps42
        go_wp2
        go_ret
        exact ⟨rfl, rfl⟩
    · have t2 : ((r : Int) == (d : Int) - (r : Int)) = false := by rw [beq_eq_false_iff_ne]; omega
      have e : nearB q r d = false := by simp [nearB, h1, h2]
      rw [e]
      clear h1 h2
      go_enter Try.func42, Try.ntmps42
      go_wp2
      go_ret
      exact ⟨rfl, rfl⟩

theorem bcell {W w1 : World} (hb : Below W.heap.size W w1) : (∀ b o, b < W.heap.size → w1.cell? ⟨b, o, none⟩ = W.cell? ⟨b, o, none⟩) ∧ (∀ b o, b < W.heap.size → w1.frozen? ⟨b, o, none⟩ = W.frozen? ⟨b, o, none⟩) :=
  ⟨fun b o h => hb.cell (p := ⟨b, o, none⟩) h, fun b o h => hb.frozen (p := ⟨b, o, none⟩) h⟩

-- DIVIDE
set_option maxRecDepth 100000 in
set_option maxHeartbeats 1000000 in
theorem divE_over1 (a b c hi lo : Nat) (w : World) (ha : a < 9223372036854775808) (hb : b < 9223372036854775808) (hc : c < 9223372036854775808) (hc0 : 0 < c)
    (hmul : ∀ w : World, Hid (Calls Try.prog 43 #[.int .u64 (a : Int), .int .u64 (b : Int)] w fun e w' => e = .returned (.tuple #[.int .u64 (hi : Int), .int .u64 (lo : Int)]) ∧ w = w'))
    (hh : c ≤ hi) :
    Calls Try.prog 41 #[.int .i64 (a : Int), .int .i64 (b : Int), .int .i64 (c : Int), .agg #[.func (.func 42) #[] #[]]] w fun e w' => e = .returned (.tuple #[.int .i64 0, .int .i64 5]) ∧ Below w.heap.size w w' := by
  have hc1 : ((c : Int) == 0) = false := by simp; omega
  have t1 : decide (c ≤ hi) = true := by simpa using hh
  go_enter Try.func41, Try.ntmps41
  go_wp2_with (go_at_call 43; refine (hmul _).mono ?_; rintro e w' ⟨rfl, rfl⟩)
  go_ret2
  exact ⟨rfl, (Below.refl _ _).alloc (Nat.le_refl _) _⟩

set_option maxRecDepth 100000 in
set_option maxHeartbeats 1000000 in
theorem divE_over2 (a b c hi lo q r : Nat) (w : World) (ha : a < 9223372036854775808) (hb : b < 9223372036854775808) (hc : c < 9223372036854775808) (hc0 : 0 < c)
    (hmul : ∀ w : World, Hid (Calls Try.prog 43 #[.int .u64 (a : Int), .int .u64 (b : Int)] w fun e w' => e = .returned (.tuple #[.int .u64 (hi : Int), .int .u64 (lo : Int)]) ∧ w = w'))
    (hdiv : ∀ w : World, Hid (Calls Try.prog 44 #[.int .u64 (hi : Int), .int .u64 (lo : Int), .int .u64 (c : Int)] w fun e w' => e = .returned (.tuple #[.int .u64 (q : Int), .int .u64 (r : Int)]) ∧ Below w.heap.size w w'))
    (hh : hi < c) (hq : (4000000000000000000 : Int) < (q : Int)) :
    Calls Try.prog 41 #[.int .i64 (a : Int), .int .i64 (b : Int), .int .i64 (c : Int), .agg #[.func (.func 42) #[] #[]]] w fun e w' => e = .returned (.tuple #[.int .i64 0, .int .i64 5]) ∧ Below w.heap.size w w' := by
  have hc1 : ((c : Int) == 0) = false := by simp; omega
  have t1 : decide (c ≤ hi) = false := by simpa using hh
  have t2 : decide ((4000000000000000000 : Int) < (q : Int)) = true := by simpa using hq
  go_enter Try.func41, Try.ntmps41
  go_wp2_with (first | (go_at_call 43; refine (hmul _).mono ?_; rintro e w' ⟨rfl, rfl⟩) | (go_at_call 44; refine (hdiv _).mono ?_; rintro e w1 ⟨rfl, hbw⟩))
  go_ret2
  exact ⟨rfl, ((Below.refl _ _).alloc (Nat.le_refl _) _).trans (hbw.mono (by simp))⟩

set_option maxRecDepth 100000 in
set_option maxHeartbeats 1000000 in
theorem divE_no (a b c hi lo q r : Nat) (w : World) (ha : a < 9223372036854775808) (hb : b < 9223372036854775808) (hc : c < 9223372036854775808) (hc0 : 0 < c)
    (hmul : ∀ w : World, Hid (Calls Try.prog 43 #[.int .u64 (a : Int), .int .u64 (b : Int)] w fun e w' => e = .returned (.tuple #[.int .u64 (hi : Int), .int .u64 (lo : Int)]) ∧ w = w'))
    (hdiv : ∀ w : World, Hid (Calls Try.prog 44 #[.int .u64 (hi : Int), .int .u64 (lo : Int), .int .u64 (c : Int)] w fun e w' => e = .returned (.tuple #[.int .u64 (q : Int), .int .u64 (r : Int)]) ∧ Below w.heap.size w w'))
    (hup : ∀ w : World, Hid (Calls Try.prog 42 #[.int .u64 (q : Int), .int .u64 (r : Int), .int .u64 (c : Int)] w fun e w' => e = .returned (.bool false) ∧ w = w'))
    (hh : hi < c) (hq : (q : Int) ≤ 4000000000000000000) :
    Calls Try.prog 41 #[.int .i64 (a : Int), .int .i64 (b : Int), .int .i64 (c : Int), .agg #[.func (.func 42) #[] #[]]] w fun e w' => e = .returned (.tuple #[.int .i64 (q : Int), .int .i64 0]) ∧ Below w.heap.size w w' := by
  have hc1 : ((c : Int) == 0) = false := by simp; omega
  have t1 : decide (c ≤ hi) = false := by simpa using hh
  have t2 : decide ((4000000000000000000 : Int) < (q : Int)) = false := by simpa using hq
  go_enter Try.func41, Try.ntmps41
  go_wp2_with (first | (go_at_call 43; refine (hmul _).mono ?_; rintro e w' ⟨rfl, rfl⟩) | fail)
  refine (hdiv _).mono ?_
  rintro e w1 ⟨rfl, hbw⟩
  obtain ⟨hcc, hff⟩ := bcell hbw
  have h0 := hcc w.heap.size 0 (by simp)
  simp at h0
  go_wp2_with (go_at_call 42; refine (hup _).mono ?_; rintro e w2 ⟨rfl, rfl⟩)
  go_ret2
  exact ⟨rfl, ((Below.refl _ _).alloc (Nat.le_refl _) _).trans (hbw.mono (by simp))⟩

set_option maxRecDepth 100000 in
set_option maxHeartbeats 1000000 in
theorem divE_zero (a b : Int) (w : World) (ha : 0 ≤ a) (hb : 0 ≤ b) :
    Calls Try.prog 41 #[.int .i64 a, .int .i64 b, .int .i64 0, .agg #[.func (.func 42) #[] #[]]] w fun e w' => e = .returned (.tuple #[.int .i64 0, .int .i64 6]) ∧ Below w.heap.size w w' := by
  have t1 : decide (a < 0) = false := by simpa using ha
  have t2 : decide (b < 0) = false := by simpa using hb
  go_enter Try.func41, Try.ntmps41
  go_wp2
  go_ret2
  exact ⟨rfl, (Below.refl _ _).alloc (Nat.le_refl _) _⟩

set_option maxRecDepth 100000 in
set_option maxHeartbeats 1000000 in
theorem divE_arg (a b c : Int) (w : World) (h : a < 0 ∨ b < 0 ∨ c < 0) :
    Calls Try.prog 41 #[.int .i64 a, .int .i64 b, .int .i64 c, .agg #[.func (.func 42) #[] #[]]] w fun e w' => e = .returned (.tuple #[.int .i64 0, .int .i64 1]) ∧ Below w.heap.size w w' := by
  by_cases h1 : a < 0
  · have t1 : decide (a < 0) = true := by simpa using h1
    clear h
    go_enter Try.func41, Try.ntmps41
    go_wp2
    go_ret2
    exact ⟨rfl, (Below.refl _ _).alloc (Nat.le_refl _) _⟩
  · have t1 : decide (a < 0) = false := by simpa using h1
    by_cases h2 : b < 0
    · have t2 : decide (b < 0) = true := by simpa using h2
      clear h
      go_enter Try.func41, Try.ntmps41
      go_wp2
      go_ret2
      exact ⟨rfl, (Below.refl _ _).alloc (Nat.le_refl _) _⟩
    · have t2 : decide (b < 0) = false := by simpa using h2
      have h3 : c < 0 := by omega
      have t3 : decide (c < 0) = true := by simpa using h3
      clear h
      go_enter Try.func41, Try.ntmps41
      go_wp2
      go_ret2
      exact ⟨rfl, (Below.refl _ _).alloc (Nat.le_refl _) _⟩

set_option maxRecDepth 100000 in
set_option maxHeartbeats 1000000 in
theorem divE_yes (a b c hi lo q r : Nat) (w : World) (ha : a < 9223372036854775808) (hb : b < 9223372036854775808) (hc : c < 9223372036854775808) (hc0 : 0 < c)
    (hmul : ∀ w : World, Hid (Calls Try.prog 43 #[.int .u64 (a : Int), .int .u64 (b : Int)] w fun e w' => e = .returned (.tuple #[.int .u64 (hi : Int), .int .u64 (lo : Int)]) ∧ w = w'))
    (hdiv : ∀ w : World, Hid (Calls Try.prog 44 #[.int .u64 (hi : Int), .int .u64 (lo : Int), .int .u64 (c : Int)] w fun e w' => e = .returned (.tuple #[.int .u64 (q : Int), .int .u64 (r : Int)]) ∧ Below w.heap.size w w'))
    (hup : ∀ w : World, Hid (Calls Try.prog 42 #[.int .u64 (q : Int), .int .u64 (r : Int), .int .u64 (c : Int)] w fun e w' => e = .returned (.bool true) ∧ w = w'))
    (hh : hi < c) (hq : (q : Int) ≤ 3999999999999999999) :
    Calls Try.prog 41 #[.int .i64 (a : Int), .int .i64 (b : Int), .int .i64 (c : Int), .agg #[.func (.func 42) #[] #[]]] w fun e w' => e = .returned (.tuple #[.int .i64 ((q + 1 : Nat) : Int), .int .i64 0]) ∧ Below w.heap.size w w' := by
  have hc1 : ((c : Int) == 0) = false := by simp; omega
  have t1 : decide (c ≤ hi) = false := by simpa using hh
  have t2 : decide ((4000000000000000000 : Int) < (q : Int)) = false := by simp; omega
  obtain ⟨m, hm⟩ : ∃ m : Nat, m = q + 1 := ⟨_, rfl⟩
  have em : (q : Int) + 1 = (m : Int) := by omega
  have t3 : decide ((4000000000000000000 : Int) < (m : Int)) = false := by simp; omega
  rw [← hm]
  clear hm
  go_enter Try.func41, Try.ntmps41
  go_wp2_with (first | (go_at_call 43; refine (hmul _).mono ?_; rintro e w' ⟨rfl, rfl⟩) | fail)
  refine (hdiv _).mono ?_
  rintro e w1 ⟨rfl, hbw⟩
  obtain ⟨hcc, hff⟩ := bcell hbw
  have h0 := hcc w.heap.size 0 (by simp)
  simp at h0
  go_wp2_with (go_at_call 42; refine (hup _).mono ?_; rintro e w2 ⟨rfl, rfl⟩)
  go_ret2
  exact ⟨rfl, ((Below.refl _ _).alloc (Nat.le_refl _) _).trans (hbw.mono (by simp))⟩

set_option maxRecDepth 100000 in
set_option maxHeartbeats 1000000 in
theorem divE_yesover (a b c hi lo q r : Nat) (w : World) (ha : a < 9223372036854775808) (hb : b < 9223372036854775808) (hc : c < 9223372036854775808) (hc0 : 0 < c)
    (hmul : ∀ w : World, Hid (Calls Try.prog 43 #[.int .u64 (a : Int), .int .u64 (b : Int)] w fun e w' => e = .returned (.tuple #[.int .u64 (hi : Int), .int .u64 (lo : Int)]) ∧ w = w'))
    (hdiv : ∀ w : World, Hid (Calls Try.prog 44 #[.int .u64 (hi : Int), .int .u64 (lo : Int), .int .u64 (c : Int)] w fun e w' => e = .returned (.tuple #[.int .u64 (q : Int), .int .u64 (r : Int)]) ∧ Below w.heap.size w w'))
    (hup : ∀ w : World, Hid (Calls Try.prog 42 #[.int .u64 (q : Int), .int .u64 (r : Int), .int .u64 (c : Int)] w fun e w' => e = .returned (.bool true) ∧ w = w'))
    (hh : hi < c) (hq1 : Hid ((4000000000000000000 : Int) ≤ (q : Int))) (hq2 : (q : Int) ≤ 4000000000000000000) :
    Calls Try.prog 41 #[.int .i64 (a : Int), .int .i64 (b : Int), .int .i64 (c : Int), .agg #[.func (.func 42) #[] #[]]] w fun e w' => e = .returned (.tuple #[.int .i64 0, .int .i64 5]) ∧ Below w.heap.size w w' := by
  have hc1 : ((c : Int) == 0) = false := by simp; omega
  have t1 : decide (c ≤ hi) = false := by simpa using hh
  have t2 : decide ((4000000000000000000 : Int) < (q : Int)) = false := by simp; omega
  obtain ⟨m, hm⟩ : ∃ m : Nat, m = q + 1 := ⟨_, rfl⟩
  have em : (q : Int) + 1 = (m : Int) := by omega
  have t3 : decide ((4000000000000000000 : Int) < (m : Int)) = true := by have := hq1.out; simp; omega
  clear hm
  go_enter Try.func41, Try.ntmps41
  go_wp2_with (first | (go_at_call 43; refine (hmul _).mono ?_; rintro e w' ⟨rfl, rfl⟩) | fail)
  refine (hdiv _).mono ?_
  rintro e w1 ⟨rfl, hbw⟩
  obtain ⟨hcc, hff⟩ := bcell hbw
  have h0 := hcc w.heap.size 0 (by simp)
  simp at h0
  go_wp2_with (go_at_call 42; refine (hup _).mono ?_; rintro e w2 ⟨rfl, rfl⟩)
  go_ret2
  exact ⟨rfl, ((Below.refl _ _).alloc (Nat.le_refl _) _).trans (hbw.mono (by simp))⟩

end Num
end Go.Proofs.Ytinhhphnbbdoeaa
