/-
  The document's Right, Open, Sum and Same. Conditions: the bills read as a list.
-/
import Derived.Test.YtncndofhecdgnaaDoorBc
namespace Go.Proofs.YtncndofhecdgnaaDoor
open Go.RowKit
namespace Bil
set_option linter.unusedVariables false

theorem take_more {α : Type} {xs : List α} {k : Nat} {x : α} (h : xs[k]? = some x) : xs.take (k + 1) = xs.take k ++ [x] := by
  obtain ⟨hk, e⟩ := List.getElem?_eq_some_iff.1 h
  rw [List.take_succ_eq_append_getElem hk, e]
theorem drop_get {α : Type} {xs : List α} {k : Nat} {x : α} (h : xs[k]? = some x) : xs.drop k = x :: xs.drop (k + 1) := by
  obtain ⟨hk, e⟩ := List.getElem?_eq_some_iff.1 h
  rw [← e, List.drop_eq_getElem_cons hk]
theorem am_more {l : List Bi} {k : Nat} {b : Bi} (h : l[k]? = some b) : am (l.take (k + 1)) = am (l.take k) + b.a := by
  rw [take_more h, am_append]; show _ + (b.a + 0) = _; omega
theorem pd_more {l : List Bi} {k : Nat} {b : Bi} (h : l[k]? = some b) : pd (l.take (k + 1)) = pd (l.take k) + b.p := by
  rw [take_more h, pd_append]; show _ + (b.p + 0) = _; omega
theorem op_more {l : List Bi} {k : Nat} {b : Bi} {y : Int} (h : l[k]? = some b) : op y (l.take (k + 1)) = op y (l.take k) + (if b.d ≤ y then b.a - b.p else 0) := by
  rw [take_more h, op_append]; show _ + (_ + 0) = _; omega
/-- The day of the one ahead. -/
def ld (l : List Bi) : Nat → Int
  | 0 => 1
  | k + 1 => match l[k]? with
    | some b => b.d
    | none => 1
theorem ld_more {l : List Bi} {k : Nat} {b : Bi} (h : l[k]? = some b) : ld l (k + 1) = b.d := by
  show (match l[k]? with | some b => b.d | none => 1) = b.d
  rw [h]
/-- What holds ahead of the k-th. -/
structure Rk (l : List Bi) (k : Nat) (R : Bool) : Prop where
  r : rg (am (l.take k)) (ld l k) (l.drop k) = R
  b : 0 ≤ am (l.take k) ∧ am (l.take k) ≤ 4000000000000000000
theorem Rk.start (l : List Bi) : Rk l 0 (rg 0 1 l) := ⟨rfl, by show (0 : Int) ≤ 0 ∧ (0 : Int) ≤ _; omega⟩
theorem Rk.no {l : List Bi} {k : Nat} {R : Bool} {b : Bi} (H : Rk l k R) (h : l[k]? = some b) (hn : ¬ (1 ≤ b.d ∧ b.d ≤ 292194 ∧ 0 ≤ b.p ∧ b.p ≤ b.a ∧ b.a ≤ 4000000000000000000 - am (l.take k) ∧ ld l k ≤ b.d)) : R = false := by
  rw [← H.r, drop_get h]
  cases e : rg (am (l.take k)) (ld l k) (b :: l.drop (k + 1)) with
  | false => rfl
  | true => exact absurd (rg_cons.1 e).1 hn
theorem Rk.next {l : List Bi} {k : Nat} {R : Bool} {b : Bi} (H : Rk l k R) (h : l[k]? = some b) (hy : 1 ≤ b.d ∧ b.d ≤ 292194 ∧ 0 ≤ b.p ∧ b.p ≤ b.a ∧ b.a ≤ 4000000000000000000 - am (l.take k) ∧ ld l k ≤ b.d) : Rk l (k + 1) R := by
  have hb := H.b
  refine ⟨?_, by rw [am_more h]; omega⟩
  rw [am_more h, ld_more h, ← H.r, drop_get h]
  show _ = (decide _ && _)
  rw [decide_eq_true hy, Bool.true_and]
theorem Rk.done {l : List Bi} {k : Nat} {R : Bool} (H : Rk l k R) (h : l.length ≤ k) : R = true := by
  rw [← H.r, List.drop_of_length_le h]; rfl
set_option maxRecDepth 100000 in
set_option maxHeartbeats 4000000 in
theorem rright (A : Option Addr) (n c : Nat) (l : List Bi) (w : World) (hS : Raws w (· < w.heap.size) A n l) (hn : n ≤ 1000) : Calls Tryd.prog 18 #[.slice A n c] w (Yes w (rt l)) := by
  have HS := Lib.hid hS
  have HL := Lib.hid hS.1
  obtain ⟨R, hR⟩ : ∃ R, rg 0 1 l = R := ⟨_, rfl⟩
  have HJ := Lib.hid (show Rk l 0 R by rw [← hR]; exact Rk.start l)
  have HRT := Lib.hid (show rt l = (decide (n ≤ 100) && R) by rw [← hR, ← hS.1]; rfl)
  clear hS hR
  by_cases h0 : n ≤ 100
  case neg =>
    have t1 : decide ((100 : Int) < (n : Int)) = true := decide_eq_true (by omega)
    have HV := Lib.hid (show rt l = false by rw [HRT.out, decide_eq_false h0]; rfl)
    clear h0
    go_enter Tryd.func18, Tryd.ntmps18
    go_wp2
    go_ret
    exact ⟨by rw [HV.out]; rfl, Below.refl _ _⟩
  have t1 : decide ((100 : Int) < (n : Int)) = false := decide_eq_false (by omega)
  have HV := Lib.hid (show rt l = R by rw [HRT.out, decide_eq_true h0]; rfl)
  have HH := Lib.hid h0
  clear h0
  rw [HV.out]
  go_enter Tryd.func18, Tryd.ntmps18
  go_wp2
  go_loopw [3, 4] (fun z i w' => ∃ (k nd : Nat), k ≤ n ∧ z = .int .i64 (am (l.take k)) ∧ i = .int .i64 (k : Int) ∧ w' = w.drewN nd ∧ Hid (Rk l k R)) (fun _ i _ => n - (intOf i).toNat)
  case atStart => exact ⟨0, 0, Nat.zero_le _, rfl, rfl, rfl, HJ⟩
  case round =>
    clear HJ
    obtain ⟨k, nd, hk, rfl, rfl, rfl, HJ⟩ := hrel
    by_cases hlt : k < n
    · obtain ⟨ad, b, rfl, hb, hx, N⟩ := HS.out.get hlt
      obtain ⟨c0, c1, c2⟩ := N
      have hlt2 : (k : Int) < (n : Int) := by omega
      have HX := Lib.hid hx
      have hnn : n ≤ 100 := HH.out
      obtain ⟨z, hz⟩ : ∃ z, am (l.take k) = z := ⟨_, rfl⟩
      have HZ := Lib.hid hz
      have hzb := HJ.out.b
      rw [hz] at hzb
      rw [hz]
      obtain ⟨m, hm⟩ : ∃ m : Int, 4000000000000000000 - z = m := ⟨_, rfl⟩
      have HM := Lib.hid hm
      have bad := Lib.hid (fun (h : ¬ (1 ≤ b.d ∧ b.d ≤ 292194 ∧ 0 ≤ b.p ∧ b.p ≤ b.a ∧ b.a ≤ m ∧ ld l k ≤ b.d)) => HJ.out.no HX.out (by rw [HZ.out, HM.out]; exact h))
      obtain ⟨bd, ba, bp⟩ := b
      simp only at c0 c1 c2 bad
      clear hx hb hz
      by_cases q0 : bd < 1
      · have u1 : decide (bd < 1) = true := decide_eq_true q0
        have HB := Lib.hid (bad.out (by omega))
        clear q0 hm bad
        go_wp2
        go_quiet (fail)
        go_wp2
        go_ret
        exact ⟨by rw [HB.out]; rfl, ⟨rfl, rfl, rfl, Nat.le_refl _, fun _ _ => rfl⟩⟩
      have u1 : decide (bd < 1) = false := decide_eq_false q0
      by_cases q1 : 292194 < bd
      · have u2 : decide (292194 < bd) = true := decide_eq_true q1
        have HB := Lib.hid (bad.out (by omega))
        clear q0 q1 hm bad
        go_wp2
        go_quiet (fail)
        go_wp2
        go_ret
        exact ⟨by rw [HB.out]; rfl, ⟨rfl, rfl, rfl, Nat.le_refl _, fun _ _ => rfl⟩⟩
      have u2 : decide (292194 < bd) = false := decide_eq_false q1
      by_cases q2 : bp < 0
      · have u3 : decide (bp < 0) = true := decide_eq_true q2
        have HB := Lib.hid (bad.out (by omega))
        clear q0 q1 q2 hm bad
        go_wp2
        go_quiet (fail)
        go_wp2
        go_ret
        exact ⟨by rw [HB.out]; rfl, ⟨rfl, rfl, rfl, Nat.le_refl _, fun _ _ => rfl⟩⟩
      have u3 : decide (bp < 0) = false := decide_eq_false q2
      by_cases q3 : ba < bp
      · have u4 : decide (ba < bp) = true := decide_eq_true q3
        have HB := Lib.hid (bad.out (by omega))
        clear q0 q1 q2 q3 hm bad
        go_wp2
        go_quiet (fail)
        go_wp2
        go_ret
        exact ⟨by rw [HB.out]; rfl, ⟨rfl, rfl, rfl, Nat.le_refl _, fun _ _ => rfl⟩⟩
      have u4 : decide (ba < bp) = false := decide_eq_false q3
      by_cases q4 : m < ba
      · have u5 : decide (m < ba) = true := decide_eq_true q4
        have HB := Lib.hid (bad.out (by omega))
        have ew : wrap64 (4000000000000000000 - z) = m := by rw [← hm]; exact IntWalk.wrap64_in _ ⟨by omega, by omega⟩
        have ew2 : IntKind.i64.wrap (4000000000000000000 - z) = m := (IntWalk.i64_left _).trans ew
        clear q0 q1 q2 q3 q4 hm bad
        go_wp2
        go_quiet (fail)
        go_wp2
        go_ret
        exact ⟨by rw [HB.out]; rfl, ⟨rfl, rfl, rfl, Nat.le_refl _, fun _ _ => rfl⟩⟩
      have u5 : decide (m < ba) = false := decide_eq_false q4
      have e0 : z + ba ≤ 4000000000000000000 ∧ 0 ≤ z + ba := by omega
      have HQ := Lib.hid (show 1 ≤ bd ∧ bd ≤ 292194 ∧ 0 ≤ bp ∧ bp ≤ ba ∧ ba ≤ m by omega)
      by_cases h0 : k = 0
      · have HN := Lib.hid (HJ.out.next HX.out (by rw [HZ.out, HM.out]; exact ⟨HQ.out.1, HQ.out.2.1, HQ.out.2.2.1, HQ.out.2.2.2.1, HQ.out.2.2.2.2, by rw [h0]; exact HQ.out.1⟩))
        have HA := Lib.hid (show am (l.take (k + 1)) = z + ba by rw [am_more HX.out, HZ.out])
        have v1 : decide ((0 : Int) < (k : Int)) = false := decide_eq_false (by omega)
        have v1n : decide (0 < k) = false := decide_eq_false (by omega)
        have ew3 : wrap64 (z + ba) = z + ba := IntWalk.wrap64_in _ ⟨by omega, by omega⟩
        have ew4 : IntKind.i64.wrap (z + ba) = z + ba := (IntWalk.i64_left _).trans ew3
        have ew : wrap64 (4000000000000000000 - z) = m := by rw [← hm]; exact IntWalk.wrap64_in _ ⟨by omega, by omega⟩
        have ew2 : IntKind.i64.wrap (4000000000000000000 - z) = m := (IntWalk.i64_left _).trans ew
        clear q0 q1 q2 q3 q4 hm bad e0 hzb h0
        go_wp2
        go_quiet (fail)
        go_wp2
        go_roundw
        case rel => exact ⟨k + 1, _, by omega, by rw [HA.out], by go_num, rfl, HN⟩
        case measure => simp [intOf]; omega
      · obtain ⟨j, rfl⟩ : ∃ j, k = j + 1 := ⟨k - 1, by omega⟩
        obtain ⟨ad2, b2, e2, hb2, hx2, N2⟩ := HS.out.get (k := j) (by omega)
        injection e2 with e2
        subst e2
        have d0 := N2.c0
        have hld : ld l (j + 1) = b2.d := ld_more hx2
        obtain ⟨j1, hj1⟩ : ∃ j1, j + 1 = j1 := ⟨_, rfl⟩
        have hj2 : (j : Int) < (n : Int) := by omega
        have hj3 : j1 ≤ n := by omega
        have v1 : decide ((0 : Int) < (j1 : Int)) = true := decide_eq_true (by omega)
        have v1n : decide (0 < j1) = true := decide_eq_true (by omega)
        have HLD := Lib.hid hld
        have HJ1 := Lib.hid hj1
        rw [hj1] at HJ HX HZ HLD bad c0 c1 c2 hlt hlt2 hk ⊢
        by_cases q5 : bd < b2.d
        · have v2 : decide (bd < b2.d) = true := decide_eq_true q5
          have HB := Lib.hid (bad.out (by rw [HLD.out]; omega))
          have ej : wrap64 ((j1 : Int) - 1) = (j : Int) := by rw [← hj1, IntWalk.wrap64_in _ ⟨by omega, by omega⟩]; omega
          have ej2 : IntKind.i64.wrap ((j1 : Int) - 1) = (j : Int) := (IntWalk.i64_left _).trans ej
          have ew3 : wrap64 (z + ba) = z + ba := IntWalk.wrap64_in _ ⟨by omega, by omega⟩
          have ew4 : IntKind.i64.wrap (z + ba) = z + ba := (IntWalk.i64_left _).trans ew3
          have ew : wrap64 (4000000000000000000 - z) = m := by rw [← hm]; exact IntWalk.wrap64_in _ ⟨by omega, by omega⟩
          have ew2 : IntKind.i64.wrap (4000000000000000000 - z) = m := (IntWalk.i64_left _).trans ew
          clear q0 q1 q2 q3 q4 q5 hm bad e0 hzb hj1 hld hx2
          go_wp2
          go_quiet (fail)
          go_wp2
          go_quiet (fail)
          go_wp2
          go_ret
          exact ⟨by rw [HB.out]; rfl, ⟨rfl, rfl, rfl, Nat.le_refl _, fun _ _ => rfl⟩⟩
        · have v2 : decide (bd < b2.d) = false := decide_eq_false q5
          have HN := Lib.hid (HJ.out.next HX.out (by rw [HZ.out, HM.out, HLD.out]; exact ⟨HQ.out.1, HQ.out.2.1, HQ.out.2.2.1, HQ.out.2.2.2.1, HQ.out.2.2.2.2, by show b2.d ≤ bd; omega⟩))
          have HA := Lib.hid (show am (l.take (j1 + 1)) = z + ba by rw [am_more HX.out, HZ.out])
          have ej : wrap64 ((j1 : Int) - 1) = (j : Int) := by rw [← hj1, IntWalk.wrap64_in _ ⟨by omega, by omega⟩]; omega
          have ej2 : IntKind.i64.wrap ((j1 : Int) - 1) = (j : Int) := (IntWalk.i64_left _).trans ej
          have ew3 : wrap64 (z + ba) = z + ba := IntWalk.wrap64_in _ ⟨by omega, by omega⟩
          have ew4 : IntKind.i64.wrap (z + ba) = z + ba := (IntWalk.i64_left _).trans ew3
          have ew : wrap64 (4000000000000000000 - z) = m := by rw [← hm]; exact IntWalk.wrap64_in _ ⟨by omega, by omega⟩
          have ew2 : IntKind.i64.wrap (4000000000000000000 - z) = m := (IntWalk.i64_left _).trans ew
          clear q0 q1 q2 q3 q4 q5 hm bad e0 hzb hj1 hld hx2
          go_wp2
          go_quiet (fail)
          go_wp2
          go_quiet (fail)
          go_wp2
          go_roundw
          case rel => exact ⟨j1 + 1, _, by omega, by rw [HA.out], by go_num, rfl, HN⟩
          case measure => simp [intOf]; omega
    · have HD := Lib.hid (HJ.out.done (by have := HL.out; omega))
      have hlt2 : ¬ ((k : Int) < (n : Int)) := by omega
      go_wp2
      go_ret
      exact ⟨by rw [HD.out]; rfl, ⟨rfl, rfl, rfl, Nat.le_refl _, fun _ _ => rfl⟩⟩

end Bil
end Go.Proofs.YtncndofhecdgnaaDoor
