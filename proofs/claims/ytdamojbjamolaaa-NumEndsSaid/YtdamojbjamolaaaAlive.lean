/-
  The statements' own look at a few known answers: it is true in every world. No conditions.
-/
import Derived.Test.YtdamojbjamolaaaSplit
namespace Go.Proofs.Ytdamojbjamolaaa
open Go.RowKit NumMath NumBits
namespace Num

theorem al_down (a b c x y : Int) (h : nums downB a b c = (x, y)) (ha : -9223372036854775808 ≤ a ∧ a ≤ 9223372036854775807) (hb : -9223372036854775808 ≤ b ∧ b ≤ 9223372036854775807) (hc : -9223372036854775808 ≤ c ∧ c ≤ 9223372036854775807) (w : World) :
    Calls Try.prog 12 #[.int .i64 a, .int .i64 b, .int .i64 c] w fun e w' => e = .returned (.tuple #[.int .i64 x, .int .i64 y]) ∧ Below w.heap.size w w' := by
  have hh := down a b c w ha hb hc
  rw [dnV, dnE, h] at hh
  exact hh
theorem al_even (a b c x y : Int) (h : nums nearB a b c = (x, y)) (ha : -9223372036854775808 ≤ a ∧ a ≤ 9223372036854775807) (hb : -9223372036854775808 ≤ b ∧ b ≤ 9223372036854775807) (hc : -9223372036854775808 ≤ c ∧ c ≤ 9223372036854775807) (w : World) :
    Calls Try.prog 15 #[.int .i64 a, .int .i64 b, .int .i64 c] w fun e w' => e = .returned (.tuple #[.int .i64 x, .int .i64 y]) ∧ Below w.heap.size w w' := by
  have hh := even a b c w ha hb hc
  rw [evV, evE, h] at hh
  exact hh
theorem al_bp (a b x y : Int) (h : nums nearB a b 10000 = (x, y)) (ha : -9223372036854775808 ≤ a ∧ a ≤ 9223372036854775807) (hb : -9223372036854775808 ≤ b ∧ b ≤ 9223372036854775807) (w : World) :
    Calls Try.prog 17 #[.int .i64 a, .int .i64 b] w fun e w' => e = .returned (.tuple #[.int .i64 x, .int .i64 y]) ∧ Below w.heap.size w w' := by
  have hh := bp a b w ha hb
  rw [evV, evE, h] at hh
  exact hh

theorem al1 : nums downB 7 5 2 = (17, 0) := by decide +kernel
theorem al2 : nums nearB 7 5 2 = (18, 0) := by decide +kernel
theorem al3 : nums nearB 5 5 2 = (12, 0) := by decide +kernel
theorem al4 : nums downB 1 1 0 = (0, 6) := by decide +kernel
theorem al5 : nums nearB (-1) 1 1 = (0, 1) := by decide +kernel
theorem al6 : nums downB 4611686018427387904 4611686018427387904 1 = (0, 5) := by decide +kernel
theorem al7 : nums nearB 1234 2500 10000 = (308, 0) := by decide +kernel
theorem al8 : splitE 100 [1, 1, 1] = 0 ∧ splitL 100 [1, 1, 1] = [33, 33, 34] := by decide +kernel
theorem al9 : splitE 5 [] = 6 ∧ splitL 5 [] = [] := by decide +kernel

theorem al_split8 (w : World) (g : Nat) (h : Row w g [1, 1, 1]) : Calls Try.prog 19 #[.int .i64 100, .slice (some ⟨g, 0, none⟩) 3 3] w (SplitPost w [33, 33, 34] 0) := by
  have hh := split (some ⟨g, 0, none⟩) 3 3 [1, 1, 1] 100 w (h.ints h.lt) (by unfold maxLen; omega)
  rw [al8.1, al8.2] at hh
  exact hh
theorem al_split9 (w : World) : Calls Try.prog 19 #[.int .i64 5, .slice none 0 0] w (SplitPost w [] 6) := by
  have hh := split none 0 0 [] 5 w Ints.nil (by unfold maxLen; omega)
  rw [al9.1, al9.2] at hh
  exact hh

set_option maxRecDepth 100000 in
set_option maxHeartbeats 2000000 in
theorem alive (w : World) : Calls Try.prog 14 #[] w fun e w' => e = .returned (.bool true) ∧ Below w.heap.size w w' := by
  have c1 := fun w => Lib.hid (al_down 7 5 2 _ _ al1 (by omega) (by omega) (by omega) w)
  have c2 := fun w => Lib.hid (al_even 7 5 2 _ _ al2 (by omega) (by omega) (by omega) w)
  have c3 := fun w => Lib.hid (al_even 5 5 2 _ _ al3 (by omega) (by omega) (by omega) w)
  have c4 := fun w => Lib.hid (al_down 1 1 0 _ _ al4 (by omega) (by omega) (by omega) w)
  have c5 := fun w => Lib.hid (al_even (-1) 1 1 _ _ al5 (by omega) (by omega) (by omega) w)
  have c6 := fun w => Lib.hid (al_down 4611686018427387904 4611686018427387904 1 _ _ al6 (by omega) (by omega) (by omega) w)
  have c7 := fun w => Lib.hid (al_bp 1234 2500 _ _ al7 (by omega) (by omega) w)
  go_enter Try.func14, Try.ntmps14
  go_wp2_with fail
  refine (c1 _).out.mono ?_
  rintro e w1 ⟨rfl, hb1⟩
  have B1 := Lib.hid hb1
  clear hb1
  go_wp2_with fail
  refine (c2 _).out.mono ?_
  rintro e w2 ⟨rfl, hb2⟩
  have B2 := Lib.hid (B1.out.trans (hb2.mono B1.out.size))
  clear hb2 B1
  go_wp2_with fail
  refine (c3 _).out.mono ?_
  rintro e w3 ⟨rfl, hb3⟩
  have B3 := Lib.hid (B2.out.trans (hb3.mono B2.out.size))
  clear hb3 B2
  go_wp2_with fail
  refine (c4 _).out.mono ?_
  rintro e w4 ⟨rfl, hb4⟩
  have B4 := Lib.hid (B3.out.trans (hb4.mono B3.out.size))
  clear hb4 B3
  go_wp2_with fail
  refine (c5 _).out.mono ?_
  rintro e w5 ⟨rfl, hb5⟩
  have B5 := Lib.hid (B4.out.trans (hb5.mono B4.out.size))
  clear hb5 B4
  go_wp2_with fail
  refine (c6 _).out.mono ?_
  rintro e w6 ⟨rfl, hb6⟩
  have B6 := Lib.hid (B5.out.trans (hb6.mono B5.out.size))
  clear hb6 B5
  go_wp2_with fail
  refine (c7 _).out.mono ?_
  rintro e w7 ⟨rfl, hb7⟩
  have B7 := Lib.hid (B6.out.trans (hb7.mono B6.out.size))
  clear hb7 B6
  go_wp2_with fail
  refine (al_split8 _ w7.heap.size (alloc_at _ _ _ rfl)).mono ?_
  rintro e w8 ⟨A8, k8, c8, rfl, hi8, hk8, hb8⟩
  have B8 := Lib.hid ((B7.out.alloc B7.out.size (.cells #[.int .i64 1, .int .i64 1, .int .i64 1] 3)).trans (hb8.mono (by have := B7.out.size; simp; omega)))
  have I8 := Lib.hid hi8
  clear hb8 B7 hi8
  go_wp2_with fail
  refine (al_split9 _).mono ?_
  rintro e w9 ⟨A9, k9, c9, rfl, hi9, hk9, hb9⟩
  have I8b := Lib.hid (I8.out.below hb9 (Nat.le_refl _))
  have S9 := Lib.hid hb9.size
  have B9 := Lib.hid (B8.out.trans (hb9.mono B8.out.size))
  clear hb9 B8 hi9 I8
  obtain rfl : k8 = 3 := I8b.out.1.symm
  go_wp2_with fail
  refine (same A8 (some ⟨w9.heap.size, 0, none⟩) 3 c8 3 w8.heap.size (w9.heap.size + 1) [33, 33, 34] _ ?_ ?_ (by unfold maxLen; omega)).mono ?_
  · exact I8b.out.keep fun p hp => World.cell?_alloc_lt _ _ _ (Nat.lt_of_lt_of_le hp S9.out)
  · exact Row.ints (xs := [33, 33, 34]) (alloc_at _ _ _ rfl) (by omega)
  · rintro e w10 ⟨rfl, hb10⟩
    go_wp2
    go_ret
    exact ⟨rfl, (B9.out.alloc B9.out.size _).trans (hb10.mono (by have := B9.out.size; simp; omega))⟩

end Num
end Go.Proofs.Ytdamojbjamolaaa
