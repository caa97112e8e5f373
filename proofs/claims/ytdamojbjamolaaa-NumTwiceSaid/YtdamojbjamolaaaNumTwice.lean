/-
  The statement NumTwice holds: for every input the call returns true, and each argument reads afterwards as it read before. Conditions: none beside those that the row itself bears.
-/
import Derived.Test.YtdamojbjamolaaaGiven
import Derived.Test.YtdamojbjamolaaaTimes
namespace Go.Proofs.Ytdamojbjamolaaa.numTwice
open Go.ChangeShapes Go.WideShapes Go.ChangeAt Go.RowKit
set_option linter.unusedVariables false

theorem own : ownKnob Try.prog.godebug = none := by kernel_rfl
theorem laidOut : laidOutB Try.prog = true := by kernel_rfl

set_option maxRecDepth 100000 in
set_option maxHeartbeats 2000000 in
theorem out (w : World) (m q : Int) (A : Option Addr) (n c : Nat) (hn : n ≤ 9223372036854775807) (h : 300 < n ∨ q < 1 ∨ 1000 < q) :
    Calls Try.prog 10 #[.int .i64 m, .slice A n c, .int .i64 q] w fun e w' => e = .returned (.bool true) ∧ Below w.heap.size w w' := by
  by_cases h1 : 300 < n
  · have t1 : decide (300 < n) = true := by simpa using h1
    clear h
    go_enter Try.func10, Try.ntmps10
    go_wp2_with (go_at_call 14; refine (Num.alive _).mono ?_; rintro e w1 ⟨rfl, hb1⟩)
    go_ret
    exact ⟨rfl, hb1⟩
  · have t1 : decide (300 < n) = false := by simpa using h1
    by_cases h2 : q < 1
    · have t2 : decide (q < 1) = true := by simpa using h2
      clear h
      go_enter Try.func10, Try.ntmps10
      go_wp2_with (go_at_call 14; refine (Num.alive _).mono ?_; rintro e w1 ⟨rfl, hb1⟩)
      go_ret
      exact ⟨rfl, hb1⟩
    · have t2 : decide (q < 1) = false := by simpa using h2
      have h3 : 1000 < q := by omega
      have t3 : decide (1000 < q) = true := by simpa using h3
      clear h
      go_enter Try.func10, Try.ntmps10
      go_wp2_with (go_at_call 14; refine (Num.alive _).mono ?_; rintro e w1 ⟨rfl, hb1⟩)
      go_ret
      exact ⟨rfl, hb1⟩

/-- What holds at the head of each round: the parts so far, each so many times as great. -/
structure TwI (w w' : World) (A' : Option Addr) (c' k : Nat) (xs : List Int) (q : Int) : Prop where
  own : Num.Own w' w.heap.size A' k c' (Num.times q (xs.take k))
  below : Below w.heap.size w w'
  small : ∀ x ∈ xs.take k, 0 ≤ x ∧ x ≤ 1099511627776

theorem mul_bd {q p : Int} (h1 : 1 ≤ q) (h2 : q ≤ 1000) (h3 : 0 ≤ p) (h4 : p ≤ 1099511627776) : 0 ≤ q * p ∧ q * p ≤ 1099511627776000 := by
  have a : q * p ≤ 1000 * p := Int.mul_le_mul_of_nonneg_right h2 h3
  have b : 0 ≤ q * p := Int.mul_nonneg (by omega) h3
  omega

set_option maxRecDepth 100000 in
set_option maxHeartbeats 2000000 in
theorem twice_ok (w : World) (m q : Int) (A : Option Addr) (n c : Nat) (xs : List Int) (G : Num.GivenN w A n c xs) (hn : n ≤ 300) (hq : 1 ≤ q) (hq1 : q ≤ 1000) (hm : 0 ≤ m) (hm1 : m ≤ 4000000000000000000) :
    Calls Try.prog 10 #[.int .i64 m, .slice A n c, .int .i64 q] w fun e w' => e = .returned (.bool true) ∧ Below w.heap.size w w' := by
  have t1 : decide (300 < n) = false := by simpa using hn
  have t1' : decide ((300 : Int) < (n : Int)) = false := by simp; omega
  have t2 : decide (q < 1) = false := by simp; omega
  have t3 : decide (1000 < q) = false := by simp; omega
  have t4 : decide (0 ≤ m) = true := by simpa using hm
  have t5 : decide (m ≤ 4000000000000000000) = true := by simpa using hm1
  obtain ⟨one1, one2⟩ := Num.one_ok (m := m) hq hq1 hm hm1
  have one := fun (w : World) (g : Nat) (h : Num.Row w g [q]) => Lib.hid (Num.split (some ⟨g, 0, none⟩) 1 1 [q] m w (h.ints h.lt) (by unfold maxLen; omega))
  rw [one1, one2] at one
  clear one1 one2
  have HG := Lib.hid G
  clear G
  go_enter Try.func10, Try.ntmps10
  go_wp2
  go_loopw [7, 30] (fun o i w' => ∃ (k : Nat) (A' : Option Addr) (c' : Nat), k ≤ n ∧ o = .slice A' k c' ∧ i = .int .i64 (k : Int) ∧ Hid (TwI w w' A' c' k xs q)) (fun _ i _ => n - (intOf i).toNat)
  case atStart => exact ⟨0, none, 0, Nat.zero_le _, rfl, rfl, Lib.hid ⟨Num.Own.nil, Below.refl _ _, by simp⟩⟩
  case round =>
    obtain ⟨k, A', c', hk, rfl, rfl, HR⟩ := hrel
    by_cases hlt : k < n
    · obtain ⟨ad, x, rfl, hb, hx, hc⟩ := (HG.out.given.ints.below HR.out.below (Nat.le_refl _)).get hlt
      have HX := Lib.hid hx
      clear hx
      by_cases hx0 : x < 0
      · have tx : decide (x < 0) = true := by simpa using hx0
        go_wp2_with (go_at_call 14; refine (Num.alive _).mono ?_; rintro e w1 ⟨rfl, hb1⟩; have B1 := Lib.hid hb1; clear hb1)
        go_ret
        exact ⟨rfl, HR.out.below.trans (B1.out.mono HR.out.below.size)⟩
      · have tx : decide (x < 0) = false := by simpa using hx0
        by_cases hx1 : 1099511627776 < x
        · have tx1 : decide (1099511627776 < x) = true := by simpa using hx1
          go_wp2_with (go_at_call 14; refine (Num.alive _).mono ?_; rintro e w1 ⟨rfl, hb1⟩; have B1 := Lib.hid hb1; clear hb1)
          go_ret
          exact ⟨rfl, HR.out.below.trans (B1.out.mono HR.out.below.size)⟩
        · have tx1 : decide (1099511627776 < x) = false := by simpa using hx1
          have hb2 := mul_bd hq hq1 (by omega : 0 ≤ x) (by omega)
          obtain ⟨r, hr⟩ : ∃ r, r = q * x := ⟨_, rfl⟩
          have er : wrap64 (q * x) = r := by rw [IntWalk.wrap64_in _ ⟨by omega, by omega⟩, hr]
          have HRR := Lib.hid hr
          clear hr hb2
          go_wp2_with (at_builtin
                       refine Num.wpList_app _ rfl (.tmp 41) (.tmp 45) rfl w.heap.size A' k c' (Num.times q (xs.take k)) rfl (HR.out.own.alloc _) (wr.heap.size + 1) (some ⟨wr.heap.size, 0, none⟩) 1 1 [r] rfl (Num.Row.ints (xs := [r]) (Num.alloc_at _ _ _ rfl) (by omega)) (fun h => by cases h) (by omega) (by have := HR.out.below.size; simp; omega) ?_
                       intro A2 c2 w2 hown2 hg2
                       have HO2 := Lib.hid hown2
                       have HG2 := Lib.hid hg2
                       clear hown2 hg2)
          go_roundw
          case rel =>
            refine ⟨k + 1, A2, c2, by omega, rfl, by go_num, Lib.hid ⟨?_, ?_, ?_⟩⟩
            · have e : Num.times q (xs.take (k + 1)) = Num.times q (xs.take k) ++ [r] := by rw [Num.take_more HX.out, HRR.out]; simp [Num.times]
              rw [e]; exact HO2.out
            · exact (HR.out.below.alloc HR.out.below.size _).grown HG2.out (by have := HR.out.below.size; simp; omega) (fun j hj => (HR.out.own.lt j hj).1)
            · intro y hy
              rw [Num.take_more HX.out] at hy
              rcases List.mem_append.1 hy with h | h
              · exact HR.out.small y h
              · simp at h; omega
          case measure => simp [intOf]; omega
    · obtain rfl : n = k := by omega
      go_wp2_with fail
      refine (Num.split A n c xs m wr ((HG.out.given.ints.below HR.out.below (Nat.le_refl _)).wide HR.out.below.size) HG.out.given.len).mono ?_
      rintro e w2 ⟨X, kx, cx, rfl, hix, hkx, hb2⟩
      have X2 := Lib.hid hix
      have O2 := Lib.hid (HR.out.own.below hb2)
      have P2 := Lib.hid (HR.out.below.trans (hb2.mono HR.out.below.size))
      have HS := Lib.hid HR.out.small
      clear hb2 hix HR
      go_wp2_with fail
      refine (Num.split A' n c' _ m w2 O2.out.ints.1 HG.out.given.len).mono ?_
      rintro e w3 ⟨Y, ky, cy, rfl, hiy, hky, hb3⟩
      have HT : Hid (xs.take n = xs) := Lib.hid (List.take_of_length_le (by rw [HG.out.given.ints.1]; exact Nat.le_refl _))
      rw [HT.out] at hiy
      have HS2 := HS.out
      rw [HT.out] at HS2
      have hl3 : xs.length ≤ 300 := by rw [HG.out.given.ints.1]; exact hn
      rw [HT.out, Num.times_code hq hq1 hl3 HS2]
      rw [Num.times_list hq hq1 hl3 HS2] at hiy
      have X3 := Lib.hid ((X2.out.below hb3 (Nat.le_refl _)).wide hb3.size)
      have Y3 := Lib.hid hiy
      have P3 := Lib.hid (P2.out.trans (hb3.mono P2.out.size))
      clear hb3 hiy P2 X2 O2 HS HS2 hl3
      obtain rfl : kx = ky := by rw [← X3.out.1, ← Y3.out.1]
      have hkb : kx ≤ maxLen := by
        rw [← X3.out.1]
        unfold Num.splitL
        split
        · rw [Num.shares_len, HG.out.given.ints.1]; exact HG.out.given.len
        · unfold maxLen; simp
      generalize Num.splitE m xs = ec at *
      generalize Num.splitL m xs = l at *
      go_wp2_with fail
      refine (one _ w3.heap.size (Num.alloc_at _ _ _ rfl)).out.mono ?_
      rintro e w4 ⟨Z, kz, cz, rfl, hiz, hkz, hb4⟩
      have Z4 := Lib.hid hiz
      have X4 := Lib.hid (((X3.out.keep (w' := w3.alloc _) fun p hp => World.cell?_alloc_lt _ _ _ hp).below hb4 (by simp)))
      have Y4 := Lib.hid (((Y3.out.keep (w' := w3.alloc _) fun p hp => World.cell?_alloc_lt _ _ _ hp).below hb4 (by simp)))
      have P4 := Lib.hid ((P3.out.alloc P3.out.size _).trans (hb4.mono (by have := P3.out.size; simp; omega)))
      have S4 := Lib.hid (Nat.le_trans (by simp : w3.heap.size ≤ (w3.alloc (.cells #[.int .i64 q] 3)).heap.size) hb4.size)
      clear hb4 hiz P3 X3 Y3 one
      obtain rfl : kz = 1 := Z4.out.1.symm
      go_wp2_with fail
      refine (Num.alive _).mono ?_
      rintro e w5 ⟨rfl, hb5⟩
      have X5 := Lib.hid (X4.out.below hb5 S4.out)
      have Y5 := Lib.hid (Y4.out.below hb5 S4.out)
      have Z5 := Lib.hid (Z4.out.below hb5 (Nat.le_refl _))
      have P5 := Lib.hid (P4.out.trans (hb5.mono P4.out.size))
      have S5 := Lib.hid hb5.size
      clear hb5 X4 Y4 Z4 P4
      go_wp2_with fail
      refine (Num.same X Y kx cx cy _ _ _ w5 X5.out Y5.out hkb).mono ?_
      rintro e w6 ⟨rfl, hb6⟩
      have Z6 := Lib.hid ((Z5.out.below hb6 S5.out).wide (Nat.le_trans S5.out hb6.size))
      have P6 := Lib.hid (P5.out.trans (hb6.mono P5.out.size))
      clear hb6 X5 Y5 Z5 P5
      go_wp2_with fail
      refine (Num.same Z (some ⟨w6.heap.size, 0, none⟩) 1 cz 1 w6.heap.size (w6.heap.size + 1) [m] _ ?_ ?_ (by unfold maxLen; omega)).mono ?_
      · exact Z6.out.keep fun p hp => World.cell?_alloc_lt _ _ _ hp
      · exact Num.Row.ints (xs := [m]) (Num.alloc_at _ _ _ rfl) (by omega)
      · rintro e w7 ⟨rfl, hb7⟩
        go_wp2
        go_ret
        exact ⟨rfl, (P6.out.alloc P6.out.size _).trans (hb7.mono (by have := P6.out.size; simp; omega))⟩

set_option maxRecDepth 100000 in
set_option maxHeartbeats 2000000 in
theorem twice_neg (w : World) (m q : Int) (A : Option Addr) (n c : Nat) (xs : List Int) (G : Num.GivenN w A n c xs) (hn : n ≤ 300) (hq : 1 ≤ q) (hq1 : q ≤ 1000) (hm : m < 0) :
    Calls Try.prog 10 #[.int .i64 m, .slice A n c, .int .i64 q] w fun e w' => e = .returned (.bool true) ∧ Below w.heap.size w w' := by
  have t1 : decide (300 < n) = false := by simpa using hn
  have t1' : decide ((300 : Int) < (n : Int)) = false := by simp; omega
  have t2 : decide (q < 1) = false := by simp; omega
  have t3 : decide (1000 < q) = false := by simp; omega
  have t4 : decide (0 ≤ m) = false := by simpa using hm
  have one1 := Num.one_no (m := m) (q := q) (by omega)
  have t6 : (Num.splitE m [q] == 0) = false := by simpa using one1
  have t7 : (Num.splitE m [q] != 0) = true := by simpa using one1
  have one := fun (w : World) (g : Nat) (h : Num.Row w g [q]) => Lib.hid (Num.split (some ⟨g, 0, none⟩) 1 1 [q] m w (h.ints h.lt) (by unfold maxLen; omega))
  generalize Num.splitE m [q] = gc at *
  clear one1
  have HG := Lib.hid G
  clear G
  go_enter Try.func10, Try.ntmps10
  go_wp2
  go_loopw [7, 30] (fun o i w' => ∃ (k : Nat) (A' : Option Addr) (c' : Nat), k ≤ n ∧ o = .slice A' k c' ∧ i = .int .i64 (k : Int) ∧ Hid (TwI w w' A' c' k xs q)) (fun _ i _ => n - (intOf i).toNat)
  case atStart => exact ⟨0, none, 0, Nat.zero_le _, rfl, rfl, Lib.hid ⟨Num.Own.nil, Below.refl _ _, by simp⟩⟩
  case round =>
    obtain ⟨k, A', c', hk, rfl, rfl, HR⟩ := hrel
    by_cases hlt : k < n
    · obtain ⟨ad, x, rfl, hb, hx, hc⟩ := (HG.out.given.ints.below HR.out.below (Nat.le_refl _)).get hlt
      have HX := Lib.hid hx
      clear hx
      by_cases hx0 : x < 0
      · have tx : decide (x < 0) = true := by simpa using hx0
        go_wp2_with (go_at_call 14; refine (Num.alive _).mono ?_; rintro e w1 ⟨rfl, hb1⟩; have B1 := Lib.hid hb1; clear hb1)
        go_ret
        exact ⟨rfl, HR.out.below.trans (B1.out.mono HR.out.below.size)⟩
      · have tx : decide (x < 0) = false := by simpa using hx0
        by_cases hx1 : 1099511627776 < x
        · have tx1 : decide (1099511627776 < x) = true := by simpa using hx1
          go_wp2_with (go_at_call 14; refine (Num.alive _).mono ?_; rintro e w1 ⟨rfl, hb1⟩; have B1 := Lib.hid hb1; clear hb1)
          go_ret
          exact ⟨rfl, HR.out.below.trans (B1.out.mono HR.out.below.size)⟩
        · have tx1 : decide (1099511627776 < x) = false := by simpa using hx1
          have hb2 := mul_bd hq hq1 (by omega : 0 ≤ x) (by omega)
          obtain ⟨r, hr⟩ : ∃ r, r = q * x := ⟨_, rfl⟩
          have er : wrap64 (q * x) = r := by rw [IntWalk.wrap64_in _ ⟨by omega, by omega⟩, hr]
          have HRR := Lib.hid hr
          clear hr hb2
          go_wp2_with (at_builtin
                       refine Num.wpList_app _ rfl (.tmp 41) (.tmp 45) rfl w.heap.size A' k c' (Num.times q (xs.take k)) rfl (HR.out.own.alloc _) (wr.heap.size + 1) (some ⟨wr.heap.size, 0, none⟩) 1 1 [r] rfl (Num.Row.ints (xs := [r]) (Num.alloc_at _ _ _ rfl) (by omega)) (fun h => by cases h) (by omega) (by have := HR.out.below.size; simp; omega) ?_
                       intro A2 c2 w2 hown2 hg2
                       have HO2 := Lib.hid hown2
                       have HG2 := Lib.hid hg2
                       clear hown2 hg2)
          go_roundw
          case rel =>
            refine ⟨k + 1, A2, c2, by omega, rfl, by go_num, Lib.hid ⟨?_, ?_, ?_⟩⟩
            · have e : Num.times q (xs.take (k + 1)) = Num.times q (xs.take k) ++ [r] := by rw [Num.take_more HX.out, HRR.out]; simp [Num.times]
              rw [e]; exact HO2.out
            · exact (HR.out.below.alloc HR.out.below.size _).grown HG2.out (by have := HR.out.below.size; simp; omega) (fun j hj => (HR.out.own.lt j hj).1)
            · intro y hy
              rw [Num.take_more HX.out] at hy
              rcases List.mem_append.1 hy with h | h
              · exact HR.out.small y h
              · simp at h; omega
          case measure => simp [intOf]; omega
    · obtain rfl : n = k := by omega
      go_wp2_with fail
      refine (Num.split A n c xs m wr ((HG.out.given.ints.below HR.out.below (Nat.le_refl _)).wide HR.out.below.size) HG.out.given.len).mono ?_
      rintro e w2 ⟨X, kx, cx, rfl, hix, hkx, hb2⟩
      have X2 := Lib.hid hix
      have O2 := Lib.hid (HR.out.own.below hb2)
      have P2 := Lib.hid (HR.out.below.trans (hb2.mono HR.out.below.size))
      have HS := Lib.hid HR.out.small
      clear hb2 hix HR
      go_wp2_with fail
      refine (Num.split A' n c' _ m w2 O2.out.ints.1 HG.out.given.len).mono ?_
      rintro e w3 ⟨Y, ky, cy, rfl, hiy, hky, hb3⟩
      have HT : Hid (xs.take n = xs) := Lib.hid (List.take_of_length_le (by rw [HG.out.given.ints.1]; exact Nat.le_refl _))
      rw [HT.out] at hiy
      have HS2 := HS.out
      rw [HT.out] at HS2
      have hl3 : xs.length ≤ 300 := by rw [HG.out.given.ints.1]; exact hn
      rw [HT.out, Num.times_code hq hq1 hl3 HS2]
      rw [Num.times_list hq hq1 hl3 HS2] at hiy
      have X3 := Lib.hid ((X2.out.below hb3 (Nat.le_refl _)).wide hb3.size)
      have Y3 := Lib.hid hiy
      have P3 := Lib.hid (P2.out.trans (hb3.mono P2.out.size))
      clear hb3 hiy P2 X2 O2 HS HS2 hl3
      obtain rfl : kx = ky := by rw [← X3.out.1, ← Y3.out.1]
      have hkb : kx ≤ maxLen := by
        rw [← X3.out.1]
        unfold Num.splitL
        split
        · rw [Num.shares_len, HG.out.given.ints.1]; exact HG.out.given.len
        · unfold maxLen; simp
      generalize Num.splitE m xs = ec at *
      generalize Num.splitL m xs = l at *
      go_wp2_with fail
      refine (one _ w3.heap.size (Num.alloc_at _ _ _ rfl)).out.mono ?_
      rintro e w4 ⟨Z, kz, cz, rfl, hiz, hkz, hb4⟩
      have Z4 := Lib.hid hiz
      have X4 := Lib.hid (((X3.out.keep (w' := w3.alloc _) fun p hp => World.cell?_alloc_lt _ _ _ hp).below hb4 (by simp)))
      have Y4 := Lib.hid (((Y3.out.keep (w' := w3.alloc _) fun p hp => World.cell?_alloc_lt _ _ _ hp).below hb4 (by simp)))
      have P4 := Lib.hid ((P3.out.alloc P3.out.size _).trans (hb4.mono (by have := P3.out.size; simp; omega)))
      have S4 := Lib.hid (Nat.le_trans (by simp : w3.heap.size ≤ (w3.alloc (.cells #[.int .i64 q] 3)).heap.size) hb4.size)
      clear hb4 hiz P3 X3 Y3 one
      go_wp2_with fail
      refine (Num.alive _).mono ?_
      rintro e w5 ⟨rfl, hb5⟩
      have X5 := Lib.hid (X4.out.below hb5 S4.out)
      have Y5 := Lib.hid (Y4.out.below hb5 S4.out)
      have Z5 := Lib.hid (Z4.out.below hb5 (Nat.le_refl _))
      have P5 := Lib.hid (P4.out.trans (hb5.mono P4.out.size))
      have S5 := Lib.hid hb5.size
      clear hb5 X4 Y4 Z4 P4
      go_wp2_with fail
      refine (Num.same X Y kx cx cy _ _ _ w5 X5.out Y5.out hkb).mono ?_
      rintro e w6 ⟨rfl, hb6⟩
      have Z6 := Lib.hid ((Z5.out.below hb6 S5.out).wide (Nat.le_trans S5.out hb6.size))
      have P6 := Lib.hid (P5.out.trans (hb6.mono P5.out.size))
      clear hb6 X5 Y5 Z5 P5
      go_wp2
      go_ret
      exact ⟨rfl, P6.out⟩

set_option maxRecDepth 100000 in
set_option maxHeartbeats 2000000 in
theorem twice_big (w : World) (m q : Int) (A : Option Addr) (n c : Nat) (xs : List Int) (G : Num.GivenN w A n c xs) (hn : n ≤ 300) (hq : 1 ≤ q) (hq1 : q ≤ 1000) (hm : 0 ≤ m) (hm1 : 4000000000000000000 < m) :
    Calls Try.prog 10 #[.int .i64 m, .slice A n c, .int .i64 q] w fun e w' => e = .returned (.bool true) ∧ Below w.heap.size w w' := by
  have t1 : decide (300 < n) = false := by simpa using hn
  have t1' : decide ((300 : Int) < (n : Int)) = false := by simp; omega
  have t2 : decide (q < 1) = false := by simp; omega
  have t3 : decide (1000 < q) = false := by simp; omega
  have t4 : decide (0 ≤ m) = true := by simpa using hm
  have t5 : decide (m ≤ 4000000000000000000) = false := by simpa using hm1
  have one1 := Num.one_no (m := m) (q := q) (by omega)
  have t6 : (Num.splitE m [q] == 0) = false := by simpa using one1
  have t7 : (Num.splitE m [q] != 0) = true := by simpa using one1
  have one := fun (w : World) (g : Nat) (h : Num.Row w g [q]) => Lib.hid (Num.split (some ⟨g, 0, none⟩) 1 1 [q] m w (h.ints h.lt) (by unfold maxLen; omega))
  generalize Num.splitE m [q] = gc at *
  clear one1
  have HG := Lib.hid G
  clear G
  go_enter Try.func10, Try.ntmps10
  go_wp2
  go_loopw [7, 30] (fun o i w' => ∃ (k : Nat) (A' : Option Addr) (c' : Nat), k ≤ n ∧ o = .slice A' k c' ∧ i = .int .i64 (k : Int) ∧ Hid (TwI w w' A' c' k xs q)) (fun _ i _ => n - (intOf i).toNat)
  case atStart => exact ⟨0, none, 0, Nat.zero_le _, rfl, rfl, Lib.hid ⟨Num.Own.nil, Below.refl _ _, by simp⟩⟩
  case round =>
    obtain ⟨k, A', c', hk, rfl, rfl, HR⟩ := hrel
    by_cases hlt : k < n
    · obtain ⟨ad, x, rfl, hb, hx, hc⟩ := (HG.out.given.ints.below HR.out.below (Nat.le_refl _)).get hlt
      have HX := Lib.hid hx
      clear hx
      by_cases hx0 : x < 0
      · have tx : decide (x < 0) = true := by simpa using hx0
        go_wp2_with (go_at_call 14; refine (Num.alive _).mono ?_; rintro e w1 ⟨rfl, hb1⟩; have B1 := Lib.hid hb1; clear hb1)
        go_ret
        exact ⟨rfl, HR.out.below.trans (B1.out.mono HR.out.below.size)⟩
      · have tx : decide (x < 0) = false := by simpa using hx0
        by_cases hx1 : 1099511627776 < x
        · have tx1 : decide (1099511627776 < x) = true := by simpa using hx1
          go_wp2_with (go_at_call 14; refine (Num.alive _).mono ?_; rintro e w1 ⟨rfl, hb1⟩; have B1 := Lib.hid hb1; clear hb1)
          go_ret
          exact ⟨rfl, HR.out.below.trans (B1.out.mono HR.out.below.size)⟩
        · have tx1 : decide (1099511627776 < x) = false := by simpa using hx1
          have hb2 := mul_bd hq hq1 (by omega : 0 ≤ x) (by omega)
          obtain ⟨r, hr⟩ : ∃ r, r = q * x := ⟨_, rfl⟩
          have er : wrap64 (q * x) = r := by rw [IntWalk.wrap64_in _ ⟨by omega, by omega⟩, hr]
          have HRR := Lib.hid hr
          clear hr hb2
          go_wp2_with (at_builtin
                       refine Num.wpList_app _ rfl (.tmp 41) (.tmp 45) rfl w.heap.size A' k c' (Num.times q (xs.take k)) rfl (HR.out.own.alloc _) (wr.heap.size + 1) (some ⟨wr.heap.size, 0, none⟩) 1 1 [r] rfl (Num.Row.ints (xs := [r]) (Num.alloc_at _ _ _ rfl) (by omega)) (fun h => by cases h) (by omega) (by have := HR.out.below.size; simp; omega) ?_
                       intro A2 c2 w2 hown2 hg2
                       have HO2 := Lib.hid hown2
                       have HG2 := Lib.hid hg2
                       clear hown2 hg2)
          go_roundw
          case rel =>
            refine ⟨k + 1, A2, c2, by omega, rfl, by go_num, Lib.hid ⟨?_, ?_, ?_⟩⟩
            · have e : Num.times q (xs.take (k + 1)) = Num.times q (xs.take k) ++ [r] := by rw [Num.take_more HX.out, HRR.out]; simp [Num.times]
              rw [e]; exact HO2.out
            · exact (HR.out.below.alloc HR.out.below.size _).grown HG2.out (by have := HR.out.below.size; simp; omega) (fun j hj => (HR.out.own.lt j hj).1)
            · intro y hy
              rw [Num.take_more HX.out] at hy
              rcases List.mem_append.1 hy with h | h
              · exact HR.out.small y h
              · simp at h; omega
          case measure => simp [intOf]; omega
    · obtain rfl : n = k := by omega
      go_wp2_with fail
      refine (Num.split A n c xs m wr ((HG.out.given.ints.below HR.out.below (Nat.le_refl _)).wide HR.out.below.size) HG.out.given.len).mono ?_
      rintro e w2 ⟨X, kx, cx, rfl, hix, hkx, hb2⟩
      have X2 := Lib.hid hix
      have O2 := Lib.hid (HR.out.own.below hb2)
      have P2 := Lib.hid (HR.out.below.trans (hb2.mono HR.out.below.size))
      have HS := Lib.hid HR.out.small
      clear hb2 hix HR
      go_wp2_with fail
      refine (Num.split A' n c' _ m w2 O2.out.ints.1 HG.out.given.len).mono ?_
      rintro e w3 ⟨Y, ky, cy, rfl, hiy, hky, hb3⟩
      have HT : Hid (xs.take n = xs) := Lib.hid (List.take_of_length_le (by rw [HG.out.given.ints.1]; exact Nat.le_refl _))
      rw [HT.out] at hiy
      have HS2 := HS.out
      rw [HT.out] at HS2
      have hl3 : xs.length ≤ 300 := by rw [HG.out.given.ints.1]; exact hn
      rw [HT.out, Num.times_code hq hq1 hl3 HS2]
      rw [Num.times_list hq hq1 hl3 HS2] at hiy
      have X3 := Lib.hid ((X2.out.below hb3 (Nat.le_refl _)).wide hb3.size)
      have Y3 := Lib.hid hiy
      have P3 := Lib.hid (P2.out.trans (hb3.mono P2.out.size))
      clear hb3 hiy P2 X2 O2 HS HS2 hl3
      obtain rfl : kx = ky := by rw [← X3.out.1, ← Y3.out.1]
      have hkb : kx ≤ maxLen := by
        rw [← X3.out.1]
        unfold Num.splitL
        split
        · rw [Num.shares_len, HG.out.given.ints.1]; exact HG.out.given.len
        · unfold maxLen; simp
      generalize Num.splitE m xs = ec at *
      generalize Num.splitL m xs = l at *
      go_wp2_with fail
      refine (one _ w3.heap.size (Num.alloc_at _ _ _ rfl)).out.mono ?_
      rintro e w4 ⟨Z, kz, cz, rfl, hiz, hkz, hb4⟩
      have Z4 := Lib.hid hiz
      have X4 := Lib.hid (((X3.out.keep (w' := w3.alloc _) fun p hp => World.cell?_alloc_lt _ _ _ hp).below hb4 (by simp)))
      have Y4 := Lib.hid (((Y3.out.keep (w' := w3.alloc _) fun p hp => World.cell?_alloc_lt _ _ _ hp).below hb4 (by simp)))
      have P4 := Lib.hid ((P3.out.alloc P3.out.size _).trans (hb4.mono (by have := P3.out.size; simp; omega)))
      have S4 := Lib.hid (Nat.le_trans (by simp : w3.heap.size ≤ (w3.alloc (.cells #[.int .i64 q] 3)).heap.size) hb4.size)
      clear hb4 hiz P3 X3 Y3 one
      go_wp2_with fail
      refine (Num.alive _).mono ?_
      rintro e w5 ⟨rfl, hb5⟩
      have X5 := Lib.hid (X4.out.below hb5 S4.out)
      have Y5 := Lib.hid (Y4.out.below hb5 S4.out)
      have Z5 := Lib.hid (Z4.out.below hb5 (Nat.le_refl _))
      have P5 := Lib.hid (P4.out.trans (hb5.mono P4.out.size))
      have S5 := Lib.hid hb5.size
      clear hb5 X4 Y4 Z4 P4
      go_wp2_with fail
      refine (Num.same X Y kx cx cy _ _ _ w5 X5.out Y5.out hkb).mono ?_
      rintro e w6 ⟨rfl, hb6⟩
      have Z6 := Lib.hid ((Z5.out.below hb6 S5.out).wide (Nat.le_trans S5.out hb6.size))
      have P6 := Lib.hid (P5.out.trans (hb6.mono P5.out.size))
      clear hb6 X5 Y5 Z5 P5
      go_wp2
      go_ret
      exact ⟨rfl, P6.out⟩

theorem walk (m : Int) (_hm : -9223372036854775808 ≤ m ∧ m ≤ 9223372036854775807) (A : Option Addr) (n c : Nat) (xs : List Int) {w : World} (G : Num.GivenN w A n c xs) (q : Int) (_hq : -9223372036854775808 ≤ q ∧ q ≤ 9223372036854775807) (w0 : World) (hw : w = w0) :
    Calls Try.prog 10 #[.int .i64 m, .slice A n c, .int .i64 q] w0 fun e w' => e = .returned (.bool true) ∧ Below w0.heap.size w0 w' := by
  subst hw
  by_cases h : 300 < n ∨ q < 1 ∨ 1000 < q
  · exact out w m q A n c (by have := G.given.len; unfold maxLen at this; omega) h
  · by_cases h1 : m < 0
    · exact twice_neg w m q A n c xs G (by omega) (by omega) (by omega) h1
    · by_cases h2 : 4000000000000000000 < m
      · exact twice_big w m q A n c xs G (by omega) (by omega) (by omega) (by omega) h2
      · exact twice_ok w m q A n c xs G (by omega) (by omega) (by omega) (by omega) (by omega)


set_option maxRecDepth 100000 in
theorem lifted (os : Os) (started : os.Started) (H : Type) (enc : TypeId × Value → H) :
    ReturnsInHanded {} Try.checked os 10 .any (Rows.numTwiceSpec.pre6 enc Try.prog Try.f10 Rows.numTwiceRow.domain false) (Rows.numTwiceSpec.post enc Try.prog Try.f10 false true false false) := by
  refine returnsInHanded_of_change (C := Try.checked) own started (by kernel_rfl) Try.func10
    (ChangeSpec.witness6 (enc := enc) (C := Try.checked) false ⟨#[], #[.int .i64 0, .slice none 0 0, .int .i64 0], []⟩ 8 (by kernel_rfl) (by kernel_rfl) (by kernel_rfl) (by kernel_rfl)) ?_
  intro W base args ds gs before hval0 hW hcnd _
  have hval : ∀ (j : Nat) t v, Try.f10.params[j]? = some t → args[j]? = some v → Value.okWide Try.prog W .any base t v := hval0
  have hW' := hW
  obtain ⟨p, q, hA0, hV, rfl, hfz, hnd⟩ := hW
  have hA : DataW.TrodAll enc Try.prog W 0 (fun _ => true) true Try.f10.params.toList args.toList ds p := hA0
  rw [Try.params10] at hA hval
  obtain ⟨v0, vs0, d0, ds0, p0, q0, hargs, rfl, rfl, h0, r0⟩ := trodAll_cons hA
  obtain ⟨v1, vs1, d1, ds1, p1, q1, rfl, rfl, rfl, h1, r1⟩ := trodAll_cons r0
  obtain ⟨v2, vs2, d2, ds2, p2, q2, rfl, rfl, rfl, h2, r2⟩ := trodAll_cons r1
  obtain ⟨rfl, rfl, rfl⟩ := trodAll_nil r2
  obtain rfl : args = #[v0, v1, v2] := by cases args; simp_all
  obtain ⟨rfl, rfl⟩ := trodVars_none hV
  obtain ⟨a0, rfl, rfl, rfl, w0⟩ := open_int Try.underlying3 (hval 0 3 v0 rfl rfl) h0
  obtain ⟨a1, len1, cap1, rfl⟩ := okWide_slice Try.underlying28 (hval 1 28 v1 rfl rfl)
  have k1 := h1
  have lt1 : ∀ x ∈ p1, x.block < W.heap.size := by obtain ⟨m, hm⟩ := k1; exact DataW.trod_lt m _ _ _ hm
  obtain ⟨z1, w1⟩ : ∃ zs, Num.GivenN W a1 len1 cap1 zs := by
    obtain ⟨fuel, hf⟩ := h1
    rcases open_ints Try.underlying28 Try.underlying3 (by kernel_rfl) hf with ⟨hcs, _⟩ | ⟨x, l, c, zs, hcs, _, hl, hm, hz, _, hcell, hwz⟩
    · simp [Value.cells] at hcs
      obtain ⟨rfl, rfl, rfl⟩ := hcs
      exact ⟨[], Num.GivenN.nil⟩
    · simp [Value.cells] at hcs
      obtain ⟨rfl, rfl, rfl⟩ := hcs
      exact ⟨zs.take len1, Num.GivenN.of hl hm (by simpa using hz) hcell hwz⟩
  obtain ⟨a2, rfl, rfl, rfl, w2⟩ := open_int Try.underlying3 (hval 2 3 v2 rfl rfl) h2
  clear hA0 hval0
  refine (walk a0 (Num.i64_of w0) a1 len1 cap1 z1 w1 a2 (Num.i64_of w2) W rfl).mono fun e W' ⟨he, bel⟩ => ?_
  subst he
  exact ⟨_, rfl, _, _, _, [], _, [], hW', trodAll_mk1 (shut_bool Try.underlying4 _), (trodAll_cons_mk (shut_int Try.underlying3 w0) (trodAll_cons_mk (Below.trod laidOut (by kernel_rfl) (of_decide_eq_true (by kernel_rfl)) k1 bel lt1) (trodAll_cons_mk (shut_int Try.underlying3 w2) trodAll_mk0))), rfl, bel.frame _, fun h => by cases h⟩

theorem over : Rows.numTwiceRow.holds Try.pinned (OpenSpec.ofChange Rows.numTwiceSpec) :=
  OpenClaim.holds_of_wide 10 Try.f10 rfl rfl rfl rfl rfl rfl rfl ⟨rfl, rfl, rfl, rfl, rfl⟩ rfl rfl rfl rfl rfl (by kernel_rfl) Try.func10 (by kernel_rfl)
    (of_decide_eq_true (by kernel_rfl)) (by unfold Func.isWrapper; first | (rw [if_pos (by decide +kernel)]; kernel_rfl) | (rw [if_neg (by decide +kernel)]; exact ⟨rfl, rfl⟩))
    (fun os started H enc _ => lifted os started H enc)

theorem proved : Rows.NumTwiceSaid := over
end Go.Proofs.Ytdamojbjamolaaa.numTwice
