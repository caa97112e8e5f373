/-
  within, each, perilsRise of package terms. Conditions: the rows read as lists.
-/
import Derived.Test.YtcnlllamldlnmaaOne
import Derived.Test.YtcnlllamldlnmaaCovers
namespace Go.Proofs.Ytcnlllamldlnmaa
open Go.RowKit Ba Cv Sp Te
namespace Tm
set_option linter.unusedVariables false

set_option maxHeartbeats 1000000 in
theorem mwithin (n lo hi : Int) (w : World) : Calls Try.prog 60 #[.int .i64 n, .int .i64 lo, .int .i64 hi] w fun e w' => e = .returned (.bool (wi n lo hi)) ∧ w = w' := by
  by_cases h1 : lo ≤ n
  · have t1 : decide (lo ≤ n) = true := by simpa using h1
    by_cases h2 : n ≤ hi
    · have t2 : decide (n ≤ hi) = true := by simpa using h2
      rw [wi_iff.2 ⟨h1, h2⟩]
      clear h1 h2
      go_enter Try.func60, Try.ntmps60
      go_wp2
      go_ret
      exact ⟨rfl, rfl⟩
    · have t2 : decide (n ≤ hi) = false := by simpa using h2
      rw [wi_no (by omega)]
      clear h1 h2
      go_enter Try.func60, Try.ntmps60
      go_wp2
      go_ret
      exact ⟨rfl, rfl⟩
  · have t1 : decide (lo ≤ n) = false := by simpa using h1
    rw [wi_no (by omega)]
    clear h1
    go_enter Try.func60, Try.ntmps60
    go_wp2
    go_ret
    exact ⟨rfl, rfl⟩

set_option maxRecDepth 100000 in
set_option maxHeartbeats 2000000 in
theorem each (A : Option Addr) (n c : Nat) (cs : List Co) (w : World) (h : Cvs w (· < w.heap.size) A n cs) (hm : n ≤ maxLen) :
    Calls Try.prog 62 #[.slice A n c, .func (.func 63) #[] #[]] w (Yes w (cs.all ok)) := by
  have C := fun c w => Lib.hid (cov_right c w)
  unfold maxLen at hm
  have HS := Lib.hid h
  have HL := Lib.hid h.1
  obtain ⟨R, hR⟩ : ∃ R, cs.all ok = R := ⟨_, rfl⟩
  rw [hR]
  have HR := Lib.hid hR
  clear h hR
  go_enter Try.func62, Try.ntmps62
  go_wp2
  go_loopw [9] (fun i w' => ∃ (k : Nat) (W : World), k ≤ n ∧ i = .int .i64 (k : Int) ∧ W = w' ∧ Hid (Below w.heap.size w W) ∧ Hid ((cs.drop k).all ok = R)) (fun i _ => n - (intOf i).toNat)
  case atStart => exact ⟨0, _, Nat.zero_le _, rfl, rfl, Lib.hid (Below.refl _ _), HR⟩
  case round =>
    obtain ⟨k, W, hk, rfl, rfl, HB, HD⟩ := hrel
    by_cases hlt : k < n
    · obtain ⟨ad, x, rfl, hb, hx, hF⟩ := (HS.out.below HB.out).get hlt
      obtain ⟨c0, c1, c2, c3, c4⟩ := hF
      have HX := Lib.hid (drop_get hx)
      have hlt2 : (k : Int) < (n : Int) := by omega
      have CX := C x
      cases hq : ok x with
      | false =>
        have HF := Lib.hid (show R = false by rw [← HD.out, HX.out, List.all_cons, hq]; rfl)
        rw [hq] at CX
        clear hq hb hx C
        go_wp2_with fail
        refine (CX _).out.mono ?_
        rintro e w1 ⟨rfl, hb1⟩
        have HB1 := Lib.hid (HB.out.trans ((below_alloc hb1).mono HB.out.size))
        clear hb1
        go_wp2
        go_ret
        exact ⟨by rw [HF.out]; rfl, HB1.out⟩
      | true =>
        have HN := Lib.hid (show (cs.drop (k + 1)).all ok = R by rw [← HD.out, HX.out, List.all_cons, hq]; rfl)
        rw [hq] at CX
        clear hq hb hx C
        go_wp2_with fail
        refine (CX _).out.mono ?_
        rintro e w1 ⟨rfl, hb1⟩
        have HB1 := Lib.hid (HB.out.trans ((below_alloc hb1).mono HB.out.size))
        clear hb1
        go_wp2
        go_roundw
        case rel => exact ⟨k + 1, _, by omega, by go_num, rfl, HB1, HN⟩
        case measure => simp [intOf]; omega
    · have HF := Lib.hid (show R = true by rw [← HD.out, List.drop_of_length_le (by rw [HL.out]; omega)]; rfl)
      obtain rfl : k = n := by omega
      go_wp2
      go_ret
      exact ⟨by rw [HF.out]; rfl, HB.out⟩

theorem up_long {j : Nat} {cs : List Co} {a b : Co} (ha : cs[j]? = some a) (hb : cs[j + 1]? = some b) : up (cs.drop j) = (decide (a.p < b.p) && up (cs.drop (j + 1))) := by
  rw [drop_get ha, drop_get hb, up_two]
theorem up_short {j : Nat} {cs : List Co} (h : cs.length ≤ j + 1) : up (cs.drop j) = true := by
  match e : cs.drop j with
  | [] => rfl
  | [a] => rfl
  | a :: b :: l =>
    have := congrArg List.length e
    rw [List.length_drop] at this
    simp at this
    omega

set_option maxRecDepth 100000 in
set_option maxHeartbeats 2000000 in
theorem rises (A : Option Addr) (n c : Nat) (cs : List Co) (w : World) (h : Cvs w (· < w.heap.size) A n cs) (hm : n ≤ maxLen) :
    Calls Try.prog 65 #[.slice A n c] w (Yes w (up cs)) := by
  unfold maxLen at hm
  have HS := Lib.hid h
  have HL := Lib.hid h.1
  obtain ⟨R, hR⟩ : ∃ R, up cs = R := ⟨_, rfl⟩
  rw [hR]
  have HR := Lib.hid hR
  clear h hR
  go_enter Try.func65, Try.ntmps65
  go_wp2
  go_loopw [3] (fun i w' => ∃ (k j : Nat) (W : World), k = j + 1 ∧ j ≤ n ∧ i = .int .i64 (k : Int) ∧ W = w' ∧ Hid (Below w.heap.size w W) ∧ Hid (up (cs.drop j) = R)) (fun i _ => n + 1 - (intOf i).toNat)
  case atStart => exact ⟨1, 0, _, rfl, Nat.zero_le _, rfl, rfl, Lib.hid (Below.refl _ _), HR⟩
  case round =>
    obtain ⟨k, j, W, hkj, hj, rfl, rfl, HB, HD⟩ := hrel
    by_cases hlt : k < n
    · obtain ⟨ad, y, rfl, hb, hy, hF⟩ := (HS.out.below HB.out).get hlt
      obtain ⟨ad', x, ead, _, hx, hG⟩ := (HS.out.below HB.out).get (show j < n by omega)
      injection ead with ead
      subst ead
      have c0 := hF.c0
      have d0 := hG.c0
      have HX := Lib.hid (up_long hx (by rw [← hkj]; exact hy))
      have HKJ := Lib.hid hkj
      have e1 : (k : Int) - 1 = (j : Int) := by omega
      have hk2 : (k : Int) < (n : Int) := by omega
      have hj2 : (j : Int) < (n : Int) := by omega
      by_cases h1 : y.p ≤ x.p
      · have t1 : decide (y.p ≤ x.p) = true := by simpa using h1
        have HF := Lib.hid (show R = false by rw [← HD.out, HX.out, decide_eq_false (by omega)]; rfl)
        clear h1 hF hG hb hy hx hkj hlt
        go_wp2
        go_quiet (fail)
        go_wp2
        go_ret
        exact ⟨by rw [HF.out]; rfl, below_drewN HB.out _⟩
      · have t1 : decide (y.p ≤ x.p) = false := by simpa using h1
        have HN := Lib.hid (show up (cs.drop k) = R by rw [← HD.out, HX.out, decide_eq_true (by omega), hkj]; rfl)
        clear h1 hF hG hb hy hx hkj
        go_wp2
        go_quiet (fail)
        go_wp2
        go_roundw
        case rel => exact ⟨k + 1, k, _, rfl, by omega, by go_num, rfl, Lib.hid (below_drewN HB.out _), HN⟩
        case measure => have := HKJ.out; simp [intOf]; omega
    · have HF := Lib.hid (show R = true by rw [← HD.out]; exact up_short (by rw [HL.out]; omega))
      have hge : ¬ (k : Int) < (n : Int) := by omega
      clear hlt hkj
      go_wp2
      go_ret
      exact ⟨by rw [HF.out]; rfl, HB.out⟩

end Tm
end Go.Proofs.Ytcnlllamldlnmaa
