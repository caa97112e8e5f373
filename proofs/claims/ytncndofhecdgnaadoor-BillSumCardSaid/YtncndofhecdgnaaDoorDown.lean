/-
  num.Down, num.Even, num.Bp: what each call gives for any three numbers. Conditions: the arguments are numbers of 64 bits.
-/
import Derived.Test.YtncndofhecdgnaaDoorDiv
namespace Go.Proofs.YtncndofhecdgnaaDoor
open Go.RowKit NumMath NumBits
namespace Num

theorem never (q r d : Int) (w : World) : Calls Tryd.prog 61 #[.int .u64 q, .int .u64 r, .int .u64 d] w fun e w' => e = .returned (.bool false) ∧ w = w' := by
  go_enter Tryd.func61, Tryd.ntmps61
  go_wp2
  go_ret
  exact ⟨rfl, rfl⟩

def nearB (q r d : Nat) : Bool := decide (d < 2 * r) || (decide (d = 2 * r) && decide (q % 2 = 1))

theorem bcell {W w1 : World} (hb : Below W.heap.size W w1) : (∀ b o, b < W.heap.size → w1.cell? ⟨b, o, none⟩ = W.cell? ⟨b, o, none⟩) ∧ (∀ b o, b < W.heap.size → w1.frozen? ⟨b, o, none⟩ = W.frozen? ⟨b, o, none⟩) :=
  ⟨fun b o h => hb.cell (p := ⟨b, o, none⟩) h, fun b o h => hb.frozen (p := ⟨b, o, none⟩) h⟩

-- DIVIDE
set_option maxRecDepth 100000 in
set_option maxHeartbeats 1000000 in
theorem divN_over1 (a b c hi lo : Nat) (w : World) (ha : a < 9223372036854775808) (hb : b < 9223372036854775808) (hc : c < 9223372036854775808) (hc0 : 0 < c)
    (hmul : ∀ w : World, Hid (Calls Tryd.prog 59 #[.int .u64 (a : Int), .int .u64 (b : Int)] w fun e w' => e = .returned (.tuple #[.int .u64 (hi : Int), .int .u64 (lo : Int)]) ∧ w = w'))
    (hh : c ≤ hi) :
    Calls Tryd.prog 60 #[.int .i64 (a : Int), .int .i64 (b : Int), .int .i64 (c : Int), .agg #[.func (.func 61) #[] #[]]] w fun e w' => e = .returned (.tuple #[.int .i64 0, .int .i64 5]) ∧ Below w.heap.size w w' := by
  have hc1 : ((c : Int) == 0) = false := by simp; omega
  have t1 : decide (c ≤ hi) = true := by simpa using hh
  go_enter Tryd.func60, Tryd.ntmps60
  go_wp2_with (go_at_call 59; refine (hmul _).mono ?_; rintro e w' ⟨rfl, rfl⟩)
  go_ret2
  exact ⟨rfl, (Below.refl _ _).alloc (Nat.le_refl _) _⟩

set_option maxRecDepth 100000 in
set_option maxHeartbeats 1000000 in
theorem divN_over2 (a b c hi lo q r : Nat) (w : World) (ha : a < 9223372036854775808) (hb : b < 9223372036854775808) (hc : c < 9223372036854775808) (hc0 : 0 < c)
    (hmul : ∀ w : World, Hid (Calls Tryd.prog 59 #[.int .u64 (a : Int), .int .u64 (b : Int)] w fun e w' => e = .returned (.tuple #[.int .u64 (hi : Int), .int .u64 (lo : Int)]) ∧ w = w'))
    (hdiv : ∀ w : World, Hid (Calls Tryd.prog 62 #[.int .u64 (hi : Int), .int .u64 (lo : Int), .int .u64 (c : Int)] w fun e w' => e = .returned (.tuple #[.int .u64 (q : Int), .int .u64 (r : Int)]) ∧ Below w.heap.size w w'))
    (hh : hi < c) (hq : (4000000000000000000 : Int) < (q : Int)) :
    Calls Tryd.prog 60 #[.int .i64 (a : Int), .int .i64 (b : Int), .int .i64 (c : Int), .agg #[.func (.func 61) #[] #[]]] w fun e w' => e = .returned (.tuple #[.int .i64 0, .int .i64 5]) ∧ Below w.heap.size w w' := by
  have hc1 : ((c : Int) == 0) = false := by simp; omega
  have t1 : decide (c ≤ hi) = false := by simpa using hh
  have t2 : decide ((4000000000000000000 : Int) < (q : Int)) = true := by simpa using hq
  go_enter Tryd.func60, Tryd.ntmps60
  go_wp2_with (first | (go_at_call 59; refine (hmul _).mono ?_; rintro e w' ⟨rfl, rfl⟩) | (go_at_call 62; refine (hdiv _).mono ?_; rintro e w1 ⟨rfl, hbw⟩))
  go_ret2
  exact ⟨rfl, ((Below.refl _ _).alloc (Nat.le_refl _) _).trans (hbw.mono (by simp))⟩

set_option maxRecDepth 100000 in
set_option maxHeartbeats 1000000 in
theorem divN_no (a b c hi lo q r : Nat) (w : World) (ha : a < 9223372036854775808) (hb : b < 9223372036854775808) (hc : c < 9223372036854775808) (hc0 : 0 < c)
    (hmul : ∀ w : World, Hid (Calls Tryd.prog 59 #[.int .u64 (a : Int), .int .u64 (b : Int)] w fun e w' => e = .returned (.tuple #[.int .u64 (hi : Int), .int .u64 (lo : Int)]) ∧ w = w'))
    (hdiv : ∀ w : World, Hid (Calls Tryd.prog 62 #[.int .u64 (hi : Int), .int .u64 (lo : Int), .int .u64 (c : Int)] w fun e w' => e = .returned (.tuple #[.int .u64 (q : Int), .int .u64 (r : Int)]) ∧ Below w.heap.size w w'))
    (hup : ∀ w : World, Hid (Calls Tryd.prog 61 #[.int .u64 (q : Int), .int .u64 (r : Int), .int .u64 (c : Int)] w fun e w' => e = .returned (.bool false) ∧ w = w'))
    (hh : hi < c) (hq : (q : Int) ≤ 4000000000000000000) :
    Calls Tryd.prog 60 #[.int .i64 (a : Int), .int .i64 (b : Int), .int .i64 (c : Int), .agg #[.func (.func 61) #[] #[]]] w fun e w' => e = .returned (.tuple #[.int .i64 (q : Int), .int .i64 0]) ∧ Below w.heap.size w w' := by
  have hc1 : ((c : Int) == 0) = false := by simp; omega
  have t1 : decide (c ≤ hi) = false := by simpa using hh
  have t2 : decide ((4000000000000000000 : Int) < (q : Int)) = false := by simpa using hq
  go_enter Tryd.func60, Tryd.ntmps60
  go_wp2_with (first | (go_at_call 59; refine (hmul _).mono ?_; rintro e w' ⟨rfl, rfl⟩) | fail)
  refine (hdiv _).mono ?_
  rintro e w1 ⟨rfl, hbw⟩
  obtain ⟨hcc, hff⟩ := bcell hbw
  have h0 := hcc w.heap.size 0 (by simp)
  simp at h0
  go_wp2_with (go_at_call 61; refine (hup _).mono ?_; rintro e w2 ⟨rfl, rfl⟩)
  go_ret2
  exact ⟨rfl, ((Below.refl _ _).alloc (Nat.le_refl _) _).trans (hbw.mono (by simp))⟩

set_option maxRecDepth 100000 in
set_option maxHeartbeats 1000000 in
theorem divN_zero (a b : Int) (w : World) (ha : 0 ≤ a) (hb : 0 ≤ b) :
    Calls Tryd.prog 60 #[.int .i64 a, .int .i64 b, .int .i64 0, .agg #[.func (.func 61) #[] #[]]] w fun e w' => e = .returned (.tuple #[.int .i64 0, .int .i64 6]) ∧ Below w.heap.size w w' := by
  have t1 : decide (a < 0) = false := by simpa using ha
  have t2 : decide (b < 0) = false := by simpa using hb
  go_enter Tryd.func60, Tryd.ntmps60
  go_wp2
  go_ret2
  exact ⟨rfl, (Below.refl _ _).alloc (Nat.le_refl _) _⟩

set_option maxRecDepth 100000 in
set_option maxHeartbeats 1000000 in
theorem divN_arg (a b c : Int) (w : World) (h : a < 0 ∨ b < 0 ∨ c < 0) :
    Calls Tryd.prog 60 #[.int .i64 a, .int .i64 b, .int .i64 c, .agg #[.func (.func 61) #[] #[]]] w fun e w' => e = .returned (.tuple #[.int .i64 0, .int .i64 1]) ∧ Below w.heap.size w w' := by
  by_cases h1 : a < 0
  · have t1 : decide (a < 0) = true := by simpa using h1
    clear h
    go_enter Tryd.func60, Tryd.ntmps60
    go_wp2
    go_ret2
    exact ⟨rfl, (Below.refl _ _).alloc (Nat.le_refl _) _⟩
  · have t1 : decide (a < 0) = false := by simpa using h1
    by_cases h2 : b < 0
    · have t2 : decide (b < 0) = true := by simpa using h2
      clear h
      go_enter Tryd.func60, Tryd.ntmps60
      go_wp2
      go_ret2
      exact ⟨rfl, (Below.refl _ _).alloc (Nat.le_refl _) _⟩
    · have t2 : decide (b < 0) = false := by simpa using h2
      have h3 : c < 0 := by omega
      have t3 : decide (c < 0) = true := by simpa using h3
      clear h
      go_enter Tryd.func60, Tryd.ntmps60
      go_wp2
      go_ret2
      exact ⟨rfl, (Below.refl _ _).alloc (Nat.le_refl _) _⟩

end Num
end Go.Proofs.YtncndofhecdgnaaDoor
