/-
  The value on a day, by a search: slices.BinarySearch at ints, valueOf, its closure, At. Conditions: those of each theorem.
-/
import Derived.Test.YtjmbccdcnmmhgaaZRight
import Derived.Lib.SlicesSearch
import Derived.Deep.LoopGhost
namespace Go.Proofs.Ytjmbccdcnmmhgaa
open Go.RowKit Stm
namespace Stp
set_option linter.unusedVariables false

set_option maxHeartbeats 1000000 in
theorem isNaN (x : Int) (w : World) : Calls Try.prog 49 #[.int .i64 x] w fun e w' => e = .returned (.bool false) ∧ w = w' := by
  go_enter Try.func49, Try.ntmps49
  go_wp2
  go_ret
  exact ⟨rfl, rfl⟩
set_option maxHeartbeats 1000000 in
theorem isNaN2 (x : Int) (w : World) : Calls Try.prog 47 #[.int .i64 x] w fun e w' => e = .returned (.bool false) ∧ w = w' := by
  go_enter Try.func47, Try.ntmps47
  go_wp2
  go_ret
  exact ⟨rfl, rfl⟩
set_option maxHeartbeats 1000000 in
theorem less (x y : Int) (w : World) : Calls Try.prog 46 #[.int .i64 x, .int .i64 y] w fun e w' => e = .returned (.bool (decide (x < y))) ∧ w = w' := by
  have C := fun a w => Lib.hid (isNaN a w)
  go_enter Try.func46, Try.ntmps46
  go_wp2_with (go_at_call 49; refine (C _ _).out.mono ?_; rintro e w' ⟨rfl, rfl⟩)
  go_ret
  exact ⟨rfl, rfl⟩

set_option maxHeartbeats 4000000 in
set_option maxRecDepth 1000000 in
/-- Of a rising row: how many are less, and whether it is there. -/
theorem search (A : Option Addr) (n c B : Nat) (zs : List Int) (x : Int) (w : World) (hS : Ints w B A n zs) (hn : n ≤ 1000000) (hs : zs.Pairwise (· < ·)) :
    Calls Try.prog 41 #[.slice A n c, .int .i64 x] w fun e w' => e = .returned (.tuple #[.int .i64 (zs.countP (· < x) : Nat), .bool (zs.contains x)]) ∧ w = w' := by
  have hl : zs.length = n := hS.1
  have hs' : (zs.take n).Pairwise (· ≤ ·) := by rw [List.take_of_length_le (by omega)]; exact hs.imp (fun h => Int.le_of_lt h)
  have S := Lib.hid (Lib.sorted_at zs n (by omega) hs')
  have HT := Lib.hid (show zs.take n = zs from List.take_of_length_le (by omega))
  have HS := Lib.hid hS
  have HLE := Lib.hid hl
  have CL := fun a b w => Lib.hid (less a b w)
  have CN := fun a w => Lib.hid (isNaN2 a w)
  clear hs hs' hS hl
  go_enter Try.func41, Try.ntmps41
  go_wp2
  go_loopg [7, 8] n (fun g s7 s8 wr => ∃ lo hi : Nat, s7 = .int .i64 lo ∧ s8 = .int .i64 hi ∧ lo ≤ hi ∧ hi ≤ n ∧ hi - lo ≤ g ∧ wr = w ∧ Hid ((∀ t, t < lo → zs.getD t 0 < x) ∧ (∀ t, hi ≤ t → t < n → x ≤ zs.getD t 0)))
  case atStart => exact ⟨0, n, rfl, rfl, Nat.zero_le _, Nat.le_refl _, by omega, rfl, Lib.hid ⟨fun t ht => absurd ht (Nat.not_lt_zero _), fun t h1 h2 => by omega⟩⟩
  case round =>
    obtain ⟨lo, hi, rfl, rfl, hlh, hin, hg, rfl, I⟩ := hrel
    by_cases hlt : lo < hi
    · obtain ⟨ad, y, rfl, hb, hy, cm⟩ := HS.out.get (show (lo + hi) / 2 < n by omega)
      have Y := Lib.hid (show zs.getD ((lo + hi) / 2) 0 = y by rw [List.getD_eq_getElem?_getD, hy]; rfl)
      clear hy
      by_cases hyx : y < x
      · have t1 : decide (y < x) = true := by simpa using hyx
        go_wp2_with (go_at_call 46; refine (CL _ _ _).out.mono ?_; rintro e w' ⟨rfl, rfl⟩)
        go_roundg (hi - ((lo + hi) / 2 + 1))
        case measure => omega
        case rel =>
          refine ⟨(lo + hi) / 2 + 1, hi, by rw [show ((lo : Int) + (hi : Int)) / 2 + 1 = (((lo + hi) / 2 + 1 : Nat) : Int) by omega], rfl, by omega, hin, Nat.le_refl _, rfl, Lib.hid ⟨fun t ht => ?_, I.out.2⟩⟩
          have := S.out t ((lo + hi) / 2) (by omega) (by omega)
          rw [Y.out] at this
          omega
      · have t1 : decide (y < x) = false := by simpa using hyx
        go_wp2_with (go_at_call 46; refine (CL _ _ _).out.mono ?_; rintro e w' ⟨rfl, rfl⟩)
        go_roundg ((lo + hi) / 2 - lo)
        case measure => omega
        case rel =>
          refine ⟨lo, (lo + hi) / 2, rfl, by rw [show ((lo : Int) + (hi : Int)) / 2 = (((lo + hi) / 2 : Nat) : Int) by omega], by omega, by omega, Nat.le_refl _, rfl, Lib.hid ⟨I.out.1, fun t ht htn => ?_⟩⟩
          have := S.out ((lo + hi) / 2) t ht htn
          rw [Y.out] at this
          omega
    · obtain rfl : lo = hi := by omega
      obtain ⟨e1, e2⟩ := Lib.search_end zs n lo x (by rw [HLE.out]; exact Nat.le_refl _) hin I.out.1 I.out.2 S.out
      rw [HT.out] at e1 e2
      have E1 := Lib.hid e1
      have E2 := Lib.hid e2
      clear e1 e2
      by_cases hnn : lo < n
      · obtain ⟨ad, y, rfl, hb, hy, cm⟩ := HS.out.get hnn
        have Y := Lib.hid (show zs.getD lo 0 = y by rw [List.getD_eq_getElem?_getD, hy]; rfl)
        clear hy
        have hlt2 : (lo : Int) < (n : Int) := by omega
        by_cases hyx : y = x
        · have t1 : (y == x) = true := by simpa using hyx
          have E3 := Lib.hid (show zs.contains x = true by rw [E2.out, Y.out]; simp; omega)
          clear hyx
          go_wp2_with (go_at_call 47; refine (CN _ _).out.mono ?_; rintro e w' ⟨rfl, rfl⟩)
          go_ret2
          exact ⟨by rw [E1.out, E3.out]; first | rfl | simp, rfl⟩
        · have t1 : (y == x) = false := by simpa using hyx
          have E3 := Lib.hid (show zs.contains x = false by rw [E2.out, Y.out]; simp; omega)
          clear hyx
          go_wp2_with (go_at_call 47; refine (CN _ _).out.mono ?_; rintro e w' ⟨rfl, rfl⟩)
          go_ret2
          exact ⟨by rw [E1.out, E3.out]; first | rfl | simp, rfl⟩
      · have E3 := Lib.hid (show zs.contains x = false by rw [E2.out]; simp; omega)
        go_wp2_with (go_at_call 47; refine (CN _ _).out.mono ?_; rintro e w' ⟨rfl, rfl⟩)
        go_ret2
        exact ⟨by rw [E1.out, E3.out]; first | rfl | simp, rfl⟩

/-- A right step's two rows. -/
def Sr (w : World) (B : Nat) (A V : Option Addr) (n : Nat) (ps : List Pr) : Prop := Sx w B A n V n (ps.map (·.1)) (ps.map (·.2))
section
variable {w w' : World} {B n : Nat} {A V : Option Addr} {ps : List Pr}
theorem Sr.below {C : Nat} (h : Sr w B A V n ps) (hb : Below C w w') (hC : B ≤ C) : Sr w' B A V n ps := Sx.below h hb hC
theorem Sr.wide {C : Nat} (h : Sr w B A V n ps) (hC : B ≤ C) : Sr w C A V n ps := Sx.wide h hC
theorem Sr.keep_ (h : Sr w w.heap.size A V n ps) (hb : Below w.heap.size w w') : Sr w' w'.heap.size A V n ps := Sx.keep_ h hb
theorem Sr.len (h : Sr w B A V n ps) : ps.length = n := by have := h.a.1; simpa using this
end

set_option maxHeartbeats 1000000 in
/-- valueOf: the step is boxed; the function value captures the box. -/
theorem valueOf (A : Option Addr) (n c : Nat) (V : Option Addr) (m d : Nat) (w : World) :
    Calls Try.prog 35 #[sg A n c V m d] w fun e w' => e = .returned (.func (.func 40) #[] #[.pointer (some ⟨w.heap.size, 0, none⟩)]) ∧ w.alloc (.cells #[.slice A n c, .slice V m d] 38) = w' := by
  go_enter Try.func35, Try.ntmps35
  go_wp2
  go_ret
  exact ⟨rfl, rfl⟩

set_option maxHeartbeats 2000000 in
/-- The closure: the value on the day; nothing is made. -/
theorem valueOf1 (b : Nat) (A : Option Addr) (n c : Nat) (V : Option Addr) (d B : Nat) (ps : List Pr) (x : Int) (w : World) (hb : Bx w b 38 (.slice A n c) (.slice V n d)) (hS : Sr w B A V n ps) (hR : Rt 0 0 ps) (hn : n ≤ 1000000) :
    Calls Try.prog 40 #[.int .i64 x, .pointer (some ⟨b, 0, none⟩)] w fun e w' => e = .returned (.int .i64 (val 0 ps x)) ∧ w = w' := by
  have CS := Lib.hid (search A n c B _ x w hS.a hn hR.sorted)
  obtain ⟨f1, f2, f3⟩ := found hR x
  have c0 := hb.c0
  have c1 := hb.c1
  have HS := Lib.hid hS.v
  have hcl : (ps.map (·.1)).countP (· < x) ≤ n := by have := List.countP_le_length (p := fun a => decide (a < x)) (l := ps.map (·.1)); have := hS.a.1; omega
  clear hS hR hb
  generalize (ps.map (·.1)).countP (· < x) = k at CS f1 f2 f3 hcl
  generalize (ps.map (·.1)).contains x = q at CS f1 f2 f3
  generalize val 0 ps x = r at f1 f2 f3
  cases q
  · have F1 := Lib.hid (f2 rfl)
    have F2 := Lib.hid (f3 rfl)
    clear f1 f2 f3
    cases k with
    | zero =>
      obtain rfl := F1.out rfl
      go_enter Try.func40, Try.ntmps40
      go_wp2_with (go_at_call 41; refine CS.out.mono ?_; rintro e w' ⟨rfl, rfl⟩)
      go_ret
      exact ⟨rfl, rfl⟩
    | succ j =>
      have F3 := Lib.hid (F2.out j rfl)
      obtain ⟨ad, r', rfl, _, hx, hc⟩ := HS.out.get (show j < n by omega)
      obtain rfl : r = r' := by have := F3.out; rw [hx] at this; simpa using this.symm
      obtain ⟨k, hk⟩ : ∃ k, j + 1 = k := ⟨_, rfl⟩
      rw [hk] at CS hcl
      have tk : ((k : Int) == 0) = false := by rw [beq_eq_false_iff_ne]; omega
      have tk2 : (k == 0) = false := by rw [beq_eq_false_iff_ne]; omega
      have e1 : (k : Int) - 1 = (j : Int) := by omega
      have hj : j < n := by omega
      have hj2 : (j : Int) < (n : Int) := by omega
      clear hx hk F1 F2 F3 HS
      go_enter Try.func40, Try.ntmps40
      go_wp2_with (go_at_call 41; refine CS.out.mono ?_; rintro e w' ⟨rfl, rfl⟩)
      go_ret
      exact ⟨rfl, rfl⟩
  · have F1 := Lib.hid (f1 rfl)
    clear f1 f2 f3
    have hkn : k < n := by
      have := (List.getElem?_eq_some_iff.1 F1.out).1
      have := HS.out.1
      omega
    obtain ⟨ad, r', rfl, _, hx, hc⟩ := HS.out.get hkn
    obtain rfl : r = r' := by have := F1.out; rw [hx] at this; simpa using this.symm
    have hj2 : (k : Int) < (n : Int) := by omega
    clear hx F1 HS
    go_enter Try.func40, Try.ntmps40
    go_wp2_with (go_at_call 41; refine CS.out.mono ?_; rintro e w' ⟨rfl, rfl⟩)
    go_ret
    exact ⟨rfl, rfl⟩

end Stp
end Go.Proofs.Ytjmbccdcnmmhgaa
