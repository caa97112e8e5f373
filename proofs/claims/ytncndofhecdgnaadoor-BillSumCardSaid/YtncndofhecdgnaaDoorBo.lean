/-
  The document's Open, Sum and Same. Conditions: the bills read as a list.
-/
import Derived.Test.YtncndofhecdgnaaDoorBf
namespace Go.Proofs.YtncndofhecdgnaaDoor
open Go.RowKit
namespace Bil
set_option linter.unusedVariables false

set_option maxRecDepth 100000 in
set_option maxHeartbeats 4000000 in
theorem rsum (A : Option Addr) (n c : Nat) (l : List Bi) (w : World) (hS : Raws w (· < w.heap.size) A n l) (hn : n ≤ 1000) (hp : Pb l) (ha : am l ≤ 4000000000000000000) : Calls Tryd.prog 23 #[.slice A n c] w fun e w' => e = .returned (.tuple #[.int .i64 (am l), .int .i64 (pd l)]) ∧ Below w.heap.size w w' := by
  have HS := Lib.hid hS
  have HL := Lib.hid hS.1
  have HP := Lib.hid (show ∀ k : Nat, 0 ≤ am (l.take k) ∧ am (l.take k) ≤ 4000000000000000000 ∧ 0 ≤ pd (l.take k) ∧ pd (l.take k) ≤ 4000000000000000000 by
    intro k
    have h1 := am_nonneg (pb_take hp k)
    have h2 := pd_le (pb_take hp k)
    have h3 : am l = am (l.take k) + am (l.drop k) := by rw [← am_append, List.take_append_drop]
    have h4 := am_nonneg (l := l.drop k) fun b hb => hp b (List.mem_of_mem_drop hb)
    omega)
  have HB := Lib.hid hp
  clear hS hp ha
  go_enter Tryd.func23, Tryd.ntmps23
  go_wp2
  go_loopw [4, 5, 6] (fun x y i w' => ∃ (k nd : Nat), k ≤ n ∧ x = .int .i64 (am (l.take k)) ∧ y = .int .i64 (pd (l.take k)) ∧ i = .int .i64 (k : Int) ∧ w' = w.drewN nd) (fun _ _ i _ => n - (intOf i).toNat)
  case atStart => exact ⟨0, 0, Nat.zero_le _, rfl, rfl, rfl, rfl⟩
  case round =>
    obtain ⟨k, nd, hk, rfl, rfl, rfl, rfl⟩ := hrel
    by_cases hlt : k < n
    · obtain ⟨ad, b, rfl, hb, hx, N⟩ := HS.out.get hlt
      obtain ⟨c0, c1, c2⟩ := N
      have hlt2 : (k : Int) < (n : Int) := by omega
      have b1 := HP.out k
      have b2 := HP.out (k + 1)
      have HA := Lib.hid (am_more hx)
      have HD := Lib.hid (pd_more hx)
      rw [am_more hx, pd_more hx] at b2
      obtain ⟨x, hx2⟩ : ∃ x, am (l.take k) = x := ⟨_, rfl⟩
      obtain ⟨y, hy2⟩ : ∃ y, pd (l.take k) = y := ⟨_, rfl⟩
      rw [hx2] at HA b1 b2 ⊢
      rw [hy2] at HD b1 b2 ⊢
      have e1 : wrap64 (x + b.a) = x + b.a := IntWalk.wrap64_in _ ⟨by omega, by omega⟩
      have e2 : wrap64 (y + b.p) = y + b.p := IntWalk.wrap64_in _ ⟨by omega, by omega⟩
      clear hx hb b1 b2 hx2 hy2
      go_wp2
      go_roundw
      case rel => exact ⟨k + 1, _, by omega, by rw [HA.out, e1], by rw [HD.out, e2], by go_num, rfl⟩
      case measure => simp [intOf]; omega
    · have hlt2 : ¬ ((k : Int) < (n : Int)) := by omega
      have HE := Lib.hid (show l.take k = l from List.take_of_length_le (by have := HL.out; omega))
      go_wp2
      go_ret2
      exact ⟨by rw [HE.out]; rfl, ⟨rfl, rfl, rfl, Nat.le_refl _, fun _ _ => rfl⟩⟩
set_option maxRecDepth 100000 in
set_option maxHeartbeats 4000000 in
theorem ropen (A : Option Addr) (n c : Nat) (l : List Bi) (y : Int) (w : World) (hS : Raws w (· < w.heap.size) A n l) (hn : n ≤ 1000) : Calls Tryd.prog 20 #[.slice A n c, .int .i64 y] w fun e w' => e = .returned (.int .i64 (opn l y)) ∧ Below w.heap.size w w' := by
  have HS := Lib.hid hS
  have HL := Lib.hid hS.1
  have C := Lib.hid (rright A n c l w hS hn)
  obtain ⟨R, hR⟩ : ∃ R, rt l = R := ⟨_, rfl⟩
  have HR := Lib.hid hR
  rw [hR] at C
  clear hS hR
  go_enter Tryd.func20, Tryd.ntmps20
  go_wp2_with fail
  refine C.out.mono ?_
  rintro e w1 ⟨rfl, hb1⟩
  have H1 := Lib.hid hb1
  clear C hb1
  cases R
  · have HV := Lib.hid (show opn l y = 0 by unfold opn; rw [HR.out]; rfl)
    go_wp2
    go_loopw [5, 7] (fun x i w' => x = .int .i64 0 ∧ i = .int .i64 0 ∧ w' = w1) (fun _ i _ => 0)
    case atStart => exact ⟨rfl, rfl, rfl⟩
    case round =>
      obtain ⟨rfl, rfl, rfl⟩ := hrel
      rcases Nat.eq_zero_or_pos n with rfl | h0
      · go_wp2
        go_ret
        exact ⟨by rw [HV.out]; rfl, H1.out⟩
      · have t1 : decide ((0 : Int) < (n : Int)) = true := decide_eq_true (by omega)
        have t1n : decide (0 < n) = true := decide_eq_true h0
        go_wp2
        go_ret
        exact ⟨by rw [HV.out]; rfl, H1.out⟩
  · have hr := rt_iff.1 HR.out
    have hp := rg_pb hr.2
    have ha := rg_sum (by omega) hr.2
    have HV := Lib.hid (show opn l y = op y l by unfold opn; rw [if_pos HR.out])
    have HP := Lib.hid (show ∀ k : Nat, 0 ≤ op y (l.take k) ∧ op y (l.take k) ≤ am (l.take k) ∧ am (l.take k) ≤ 4000000000000000000 by
      intro k
      have h2 := pd_le (pb_take hp k)
      have h1 := op_bd (pb_take hp k) y
      have h3 : am l = am (l.take k) + am (l.drop k) := by rw [← am_append, List.take_append_drop]
      have h4 := am_nonneg (l := l.drop k) fun b hb => hp b (List.mem_of_mem_drop hb)
      omega)
    have HPB := Lib.hid hp
    clear hr hp ha
    go_wp2
    go_loopw [5, 7] (fun x i w' => ∃ (k nd : Nat), k ≤ n ∧ x = .int .i64 (op y (l.take k)) ∧ i = .int .i64 (k : Int) ∧ w' = w1.drewN nd) (fun _ i _ => n - (intOf i).toNat)
    case atStart => exact ⟨0, 0, Nat.zero_le _, rfl, rfl, rfl⟩
    case round =>
      obtain ⟨k, nd, hk, rfl, rfl, rfl⟩ := hrel
      by_cases hlt : k < n
      · obtain ⟨ad, b, rfl, hb, hx, N⟩ := (HS.out.below H1.out).get hlt
        obtain ⟨c0, c1, c2⟩ := N
        have hlt2 : (k : Int) < (n : Int) := by omega
        have b1 := HP.out k
        have b2 := HP.out (k + 1)
        have b3 := HPB.out b (List.mem_of_getElem? hx)
        have HA := Lib.hid (op_more (y := y) hx)
        have hm := am_more hx
        rw [hm] at b2
        obtain ⟨x, hx2⟩ : ∃ x, op y (l.take k) = x := ⟨_, rfl⟩
        rw [hx2] at HA b1 ⊢
        by_cases hd : b.d ≤ y
        · have t1 : decide (b.d ≤ y) = true := decide_eq_true hd
          have HA2 := Lib.hid (show op y (l.take (k + 1)) = x + b.a - b.p by rw [HA.out, if_pos hd]; omega)
          have q1 : -9223372036854775808 ≤ x + b.a ∧ x + b.a ≤ 9223372036854775807 := by omega
          have q2 : -9223372036854775808 ≤ x + b.a - b.p ∧ x + b.a - b.p ≤ 9223372036854775807 := by omega
          have e1 : wrap64 (x + b.a) = x + b.a := IntWalk.wrap64_in _ q1
          have e2 : wrap64 (x + b.a - b.p) = x + b.a - b.p := IntWalk.wrap64_in _ q2
          clear hx hb b1 b2 b3 hx2 hm hd HA q1 q2
          go_wp2
          go_quiet (fail)
          go_wp2
          go_roundw
          case rel => exact ⟨k + 1, _, by omega, by rw [HA2.out, e2], by go_num, rfl⟩
          case measure => simp [intOf]; omega
        · have t1 : decide (b.d ≤ y) = false := decide_eq_false hd
          have HA2 := Lib.hid (show op y (l.take (k + 1)) = x by rw [HA.out, if_neg hd]; omega)
          clear hx hb b1 b2 b3 hx2 hm hd HA
          go_wp2
          go_roundw
          case rel => exact ⟨k + 1, _, by omega, by rw [HA2.out], by go_num, rfl⟩
          case measure => simp [intOf]; omega
      · have hlt2 : ¬ ((k : Int) < (n : Int)) := by omega
        have HE := Lib.hid (show l.take k = l from List.take_of_length_le (by have := HL.out; omega))
        go_wp2
        go_ret
        exact ⟨by rw [HV.out, HE.out]; rfl, H1.out.trans ⟨rfl, rfl, rfl, Nat.le_refl _, fun _ _ => rfl⟩⟩
set_option maxRecDepth 100000 in
set_option maxHeartbeats 4000000 in
theorem rsame (A C : Option Addr) (n c n' d : Nat) (l : List Bi) (w : World) (h : Raws w (· < w.heap.size) A n l) (h2 : Raws w (· < w.heap.size) C n' l) (hn : n ≤ 1000) : Calls Tryd.prog 14 #[.slice A n c, .slice C n' d] w (Yes w true) := by
  obtain rfl : n = n' := h.1.symm.trans h2.1
  have H := Lib.hid h
  have H2 := Lib.hid h2
  clear h h2
  go_enter Tryd.func14, Tryd.ntmps14
  go_wp2
  go_loopw [5] (fun i w' => ∃ (k nd : Nat), k ≤ n ∧ i = .int .i64 (k : Int) ∧ w' = w.drewN nd) (fun i _ => n - (intOf i).toNat)
  case atStart => exact ⟨0, 0, Nat.zero_le _, rfl, rfl⟩
  case round =>
    obtain ⟨k, nd, hk, rfl, rfl⟩ := hrel
    by_cases hlt : k < n
    · obtain ⟨ad, b, rfl, hb, hx, N⟩ := H.out.get hlt
      obtain ⟨ad2, b2, rfl, hb2, hx2, N2⟩ := H2.out.get hlt
      obtain rfl : b = b2 := by rw [hx] at hx2; injection hx2
      obtain ⟨c0, c1, c2⟩ := N
      obtain ⟨d0, d1, d2⟩ := N2
      clear hx hx2 hb hb2
      have hlt2 : (k : Int) < (n : Int) := by omega
      go_wp2
      go_quiet (fail)
      go_wp2
      go_roundw
      case rel => exact ⟨k + 1, _, by omega, by go_num, rfl⟩
      case measure => simp [intOf]; omega
    · have hlt2 : ¬ ((k : Int) < (n : Int)) := by omega
      go_wp2
      go_ret
      exact ⟨rfl, ⟨rfl, rfl, rfl, Nat.le_refl _, fun _ _ => rfl⟩⟩

end Bil
end Go.Proofs.YtncndofhecdgnaaDoor
