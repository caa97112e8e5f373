/-
  The program's small functions: isSum, sharesYear, sums, dueBy, Right. Conditions: those of each theorem.
-/
import Derived.Test.YtncndofhecdgnaaDoorBo
namespace Go.Proofs.YtncndofhecdgnaaDoor
open Go.RowKit
namespace Bil
set_option linter.unusedVariables false

set_option maxHeartbeats 1000000 in
theorem isSum_ (x : Int) (w : World) : Calls Tryd.prog 25 #[.int .i64 x] w fun e w' => e = .returned (.bool (decide (0 ≤ x ∧ x ≤ 4000000000000000000))) ∧ Below w.heap.size w w' := by
  by_cases h1 : 0 ≤ x
  · have t1 : decide (0 ≤ x) = true := decide_eq_true h1
    obtain ⟨q, hq⟩ : ∃ q, decide (x ≤ 4000000000000000000) = q := ⟨_, rfl⟩
    have HV := Lib.hid (show decide (0 ≤ x ∧ x ≤ 4000000000000000000) = q by rw [← hq]; simp [h1])
    rw [HV.out]
    clear h1
    go_enter Tryd.func25, Tryd.ntmps25
    go_wp2
    go_ret
    exact ⟨rfl, Below.refl _ _⟩
  · have t1 : decide (0 ≤ x) = false := decide_eq_false h1
    have HV := Lib.hid (show decide (0 ≤ x ∧ x ≤ 4000000000000000000) = false from decide_eq_false fun h => h1 h.1)
    rw [HV.out]
    clear h1
    go_enter Tryd.func25, Tryd.ntmps25
    go_wp2
    go_ret
    exact ⟨rfl, Below.refl _ _⟩
def shr (m : Int) : Bool := decide (m = 1 ∨ m = 2 ∨ m = 4 ∨ m = 12)
set_option maxHeartbeats 1000000 in
theorem sharesYear_ (m : Int) (w : World) : Calls Tryd.prog 26 #[.int .i64 m] w fun e w' => e = .returned (.bool (shr m)) ∧ Below w.heap.size w w' := by
  by_cases q1 : m = 1
  · subst q1
    go_enter Tryd.func26, Tryd.ntmps26
    go_wp2
    go_ret
    exact ⟨rfl, Below.refl _ _⟩
  by_cases q2 : m = 2
  · subst q2
    go_enter Tryd.func26, Tryd.ntmps26
    go_wp2
    go_ret
    exact ⟨rfl, Below.refl _ _⟩
  by_cases q4 : m = 4
  · subst q4
    go_enter Tryd.func26, Tryd.ntmps26
    go_wp2
    go_ret
    exact ⟨rfl, Below.refl _ _⟩
  by_cases q12 : m = 12
  · subst q12
    go_enter Tryd.func26, Tryd.ntmps26
    go_wp2
    go_ret
    exact ⟨rfl, Below.refl _ _⟩
  have HV := Lib.hid (show shr m = false from decide_eq_false (by omega))
  rw [HV.out]
  have d1 : decide (m = 1) = false := decide_eq_false q1
  have d2 : decide (m = 2) = false := decide_eq_false q2
  have d4 : decide (m = 4) = false := decide_eq_false q4
  have d12 : decide (m = 12) = false := decide_eq_false q12
  have u1 : (m == 1) = false := beq_eq_false_iff_ne.2 q1
  have u2 : (m == 2) = false := beq_eq_false_iff_ne.2 q2
  have u4 : (m == 4) = false := beq_eq_false_iff_ne.2 q4
  have u12 : (m == 12) = false := beq_eq_false_iff_ne.2 q12
  clear q1 q2 q4 q12
  go_enter Tryd.func26, Tryd.ntmps26
  go_wp2
  go_ret
  exact ⟨rfl, Below.refl _ _⟩
set_option maxRecDepth 100000 in
set_option maxHeartbeats 4000000 in
theorem sums_ (A : Option Addr) (n c : Nat) (l : List Bi) (w : World) (hS : Raws w (· < w.heap.size) A n l) (hn : n ≤ 1000) (hp : Pb l) (ha : am l ≤ 4000000000000000000) : Calls Tryd.prog 34 #[.slice A n c] w fun e w' => e = .returned (.tuple #[.int .i64 (am l), .int .i64 (pd l)]) ∧ Below w.heap.size w w' := by
  have HS := Lib.hid hS
  have HL := Lib.hid hS.1
  have HP := Lib.hid (show ∀ k : Nat, 0 ≤ am (l.take k) ∧ am (l.take k) ≤ 4000000000000000000 ∧ 0 ≤ pd (l.take k) ∧ pd (l.take k) ≤ 4000000000000000000 by
    intro k
    have h1 := am_nonneg (pb_take hp k)
    have h2 := pd_le (pb_take hp k)
    have h3 : am l = am (l.take k) + am (l.drop k) := by rw [← am_append, List.take_append_drop]
    have h4 := am_nonneg (l := l.drop k) fun b hb => hp b (List.mem_of_mem_drop hb)
    omega)
  clear hS hp ha
  go_enter Tryd.func34, Tryd.ntmps34
  go_wp2
  go_loopw [2, 3, 7] (fun x y i w' => ∃ (k nd : Nat), k ≤ n ∧ x = .int .i64 (am (l.take k)) ∧ y = .int .i64 (pd (l.take k)) ∧ i = .int .i64 (k : Int) ∧ w' = w.drewN nd) (fun _ _ i _ => n - (intOf i).toNat)
  case atStart => exact ⟨0, 0, Nat.zero_le _, rfl, rfl, rfl, rfl⟩
  case round =>
    obtain ⟨k, nd, hk, rfl, rfl, rfl, rfl⟩ := hrel
    by_cases hlt : k < n
    · obtain ⟨ad, b, rfl, hb, hx, N⟩ := HS.out.get hlt
      obtain ⟨c0, c1, c2⟩ := N
      have hlt2 : (k : Int) < (n : Int) := by omega
      have b1 := HP.out k
      have b2 := HP.out (k + 1)
      have HA := Lib.hid (am_more hx)
      have HD := Lib.hid (pd_more hx)
      rw [am_more hx, pd_more hx] at b2
      obtain ⟨x, hx2⟩ : ∃ x, am (l.take k) = x := ⟨_, rfl⟩
      obtain ⟨y, hy2⟩ : ∃ y, pd (l.take k) = y := ⟨_, rfl⟩
      rw [hx2] at HA b1 b2 ⊢
      rw [hy2] at HD b1 b2 ⊢
      have e1 : wrap64 (x + b.a) = x + b.a := IntWalk.wrap64_in _ ⟨by omega, by omega⟩
      have e2 : wrap64 (y + b.p) = y + b.p := IntWalk.wrap64_in _ ⟨by omega, by omega⟩
      clear hx hb b1 b2 hx2 hy2
      go_wp2
      go_roundw
      case rel => exact ⟨k + 1, _, by omega, by rw [HA.out, e1], by rw [HD.out, e2], by go_num, rfl⟩
      case measure => simp [intOf]; omega
    · have hlt2 : ¬ ((k : Int) < (n : Int)) := by omega
      have HE := Lib.hid (show l.take k = l from List.take_of_length_le (by have := HL.out; omega))
      go_wp2
      go_ret2
      exact ⟨by rw [HE.out]; rfl, ⟨rfl, rfl, rfl, Nat.le_refl _, fun _ _ => rfl⟩⟩
/-- How many are due by a day, of those ahead of the first later one. -/
def db (y : Int) : List Bi → Nat
  | [] => 0
  | b :: t => if y < b.d then 0 else 1 + db y t
theorem db_len (y : Int) (l : List Bi) : db y l ≤ l.length := by
  induction l with
  | nil => exact Nat.le_refl _
  | cons b t ih => unfold db; split <;> simp <;> omega
theorem db_at {y : Int} {l : List Bi} : ∀ {k : Nat} {b : Bi}, (∀ j, j < k → ∀ x, l[j]? = some x → x.d ≤ y) → l[k]? = some b → y < b.d → db y l = k := by
  induction l with
  | nil => intro k b _ h _; simp at h
  | cons x t ih =>
    intro k b h hx hy
    cases k with
    | zero => simp at hx; subst hx; unfold db; rw [if_pos hy]
    | succ k =>
      have h0 := h 0 (by omega) x rfl
      unfold db
      rw [if_neg (by omega), ih (fun j hj z hz => h (j + 1) (by omega) z hz) hx hy, Nat.add_comm]
theorem db_all {y : Int} {l : List Bi} (h : ∀ b ∈ l, b.d ≤ y) : db y l = l.length := by
  induction l with
  | nil => rfl
  | cons x t ih =>
    have h0 := h x List.mem_cons_self
    unfold db
    rw [if_neg (by omega), ih fun b hb => h b (List.mem_cons_of_mem _ hb), List.length_cons, Nat.add_comm]
set_option maxRecDepth 100000 in
set_option maxHeartbeats 4000000 in
theorem dueBy_ (A : Option Addr) (n c : Nat) (l : List Bi) (y : Int) (w : World) (hS : Raws w (· < w.heap.size) A n l) (hn : n ≤ 1000) : Calls Tryd.prog 35 #[.slice A n c, .int .i64 y] w fun e w' => e = .returned (.int .i64 ((db y l : Nat) : Int)) ∧ Below w.heap.size w w' := by
  have HS := Lib.hid hS
  have HL := Lib.hid hS.1
  clear hS
  go_enter Tryd.func35, Tryd.ntmps35
  go_wp2
  go_loopw [8] (fun i w' => ∃ (k nd : Nat), k ≤ n ∧ i = .int .i64 (k : Int) ∧ w' = w.drewN nd ∧ Hid (∀ j, j < k → ∀ x, l[j]? = some x → x.d ≤ y)) (fun i _ => n - (intOf i).toNat)
  case atStart => exact ⟨0, 0, Nat.zero_le _, rfl, rfl, Lib.hid (fun j hj => absurd hj (by omega))⟩
  case round =>
    obtain ⟨k, nd, hk, rfl, rfl, HJ⟩ := hrel
    by_cases hlt : k < n
    · obtain ⟨ad, b, rfl, hb, hx, N⟩ := HS.out.get hlt
      obtain ⟨c0, c1, c2⟩ := N
      have hlt2 : (k : Int) < (n : Int) := by omega
      by_cases hd : y < b.d
      · have t1 : decide (y < b.d) = true := decide_eq_true hd
        have HF := Lib.hid (db_at HJ.out hx hd)
        clear hx hb hd c1 c2
        go_wp2
        go_ret
        exact ⟨by rw [HF.out]; rfl, ⟨rfl, rfl, rfl, Nat.le_refl _, fun _ _ => rfl⟩⟩
      · have t1 : decide (y < b.d) = false := decide_eq_false hd
        have HJ2 := Lib.hid (show ∀ j, j < k + 1 → ∀ x, l[j]? = some x → x.d ≤ y from fun j hj x hx2 => by
          rcases Nat.lt_succ_iff_lt_or_eq.1 hj with h | h
          · exact HJ.out j h x hx2
          · rw [h, hx] at hx2; injection hx2 with e; rw [← e]; omega)
        clear hx hb hd c1 c2
        go_wp2
        go_roundw
        case rel => exact ⟨k + 1, _, by omega, by go_num, rfl, HJ2⟩
        case measure => simp [intOf]; omega
    · have hlt2 : ¬ ((k : Int) < (n : Int)) := by omega
      have HF := Lib.hid (show db y l = n by
        rw [db_all fun b hb => ?_, HL.out]
        obtain ⟨j, hj, e⟩ := List.getElem_of_mem hb
        have h1 := HL.out
        exact HJ.out j (by omega) b (by rw [List.getElem?_eq_getElem hj, e]))
      go_wp2
      go_ret
      exact ⟨by rw [HF.out]; rfl, ⟨rfl, rfl, rfl, Nat.le_refl _, fun _ _ => rfl⟩⟩
set_option maxRecDepth 100000 in
set_option maxHeartbeats 4000000 in
theorem right_ (A : Option Addr) (n c : Nat) (l : List Bi) (w : World) (hS : Raws w (· < w.heap.size) A n l) (hn : n ≤ 1000) : Calls Tryd.prog 17 #[.slice A n c] w (Yes w (rt l)) := by
  have HS := Lib.hid hS
  have HL := Lib.hid hS.1
  obtain ⟨R, hR⟩ : ∃ R, rg 0 1 l = R := ⟨_, rfl⟩
  have HJ := Lib.hid (show Rk l 0 R by rw [← hR]; exact Rk.start l)
  have HRT := Lib.hid (show rt l = (decide (n ≤ 100) && R) by rw [← hR, ← hS.1]; rfl)
  clear hS hR
  by_cases h0 : n ≤ 100
  case neg =>
    have t1 : decide ((100 : Int) < (n : Int)) = true := decide_eq_true (by omega)
    have HV := Lib.hid (show rt l = false by rw [HRT.out, decide_eq_false h0]; rfl)
    clear h0
    go_enter Tryd.func17, Tryd.ntmps17
    go_wp2
    go_ret
    exact ⟨by rw [HV.out]; rfl, Below.refl _ _⟩
  have t1 : decide ((100 : Int) < (n : Int)) = false := decide_eq_false (by omega)
  have HV := Lib.hid (show rt l = R by rw [HRT.out, decide_eq_true h0]; rfl)
  have HH := Lib.hid h0
  clear h0
  rw [HV.out]
  go_enter Tryd.func17, Tryd.ntmps17
  go_wp2
  go_loopw [3, 4, 12] (fun q z i w' => ∃ (k : Nat) (dd : Int) (V : World), k ≤ n ∧ q = .int .i64 dd ∧ z = .int .i64 (am (l.take k)) ∧ i = .int .i64 (k : Int) ∧ V = w' ∧ 1 ≤ dd ∧ Hid (ld l k = dd) ∧ Hid (Below w.heap.size w V) ∧ Hid (Rk l k R)) (fun _ _ i _ => n - (intOf i).toNat)
  case atStart => exact ⟨0, 1, w, Nat.zero_le _, rfl, rfl, rfl, rfl, by omega, Lib.hid rfl, Lib.hid (Below.refl _ _), HJ⟩
  case round =>
    clear HJ
    obtain ⟨k, dd, V, hk, rfl, rfl, rfl, rfl, hd1, HD1, HB, HJ⟩ := hrel
    by_cases hlt : k < n
    · obtain ⟨ad, b, rfl, hb, hx, N⟩ := (HS.out.below HB.out).get hlt
      obtain ⟨c0, c1, c2⟩ := N
      have hlt2 : (k : Int) < (n : Int) := by omega
      have HX := Lib.hid hx
      have hnn : n ≤ 100 := HH.out
      obtain ⟨z, hz⟩ : ∃ z, am (l.take k) = z := ⟨_, rfl⟩
      have HZ := Lib.hid hz
      have hzb := HJ.out.b
      rw [hz] at hzb
      rw [hz]
      obtain ⟨m, hm⟩ : ∃ m : Int, 4000000000000000000 - z = m := ⟨_, rfl⟩
      have HM := Lib.hid hm
      have bad := Lib.hid (fun (h : ¬ (1 ≤ b.d ∧ b.d ≤ 292194 ∧ 0 ≤ b.p ∧ b.p ≤ b.a ∧ b.a ≤ m ∧ dd ≤ b.d)) => HJ.out.no HX.out (by rw [HZ.out, HM.out, HD1.out]; exact h))
      obtain ⟨bd, ba, bp⟩ := b
      simp only at c0 c1 c2 bad
      obtain ⟨W2, hW2⟩ : ∃ W2, V.alloc (.cells #[.int .i64 bd, .int .i64 ba, .int .i64 bp] 42) = W2 := ⟨_, rfl⟩
      have HX2 := Lib.hid (show Bx W2 V.heap.size 42 (bc ⟨bd, ba, bp⟩) from hW2 ▸ Bx.new V _ _)
      have HB2 := Lib.hid (HB.out.trans ((show Below V.heap.size V W2 from hW2 ▸ alloc_ _ _).mono HB.out.size))
      have HW2 := Lib.hid hW2
      clear hx hb hz hW2
      go_upto_region 8 with fail
      rw [HW2.out]
      clear c0 c1 c2 HW2
      have x0 := HX2.out.c 0
      have x1 := HX2.out.c 1
      have x2 := HX2.out.c 2
      simp at x0 x1 x2
      by_cases q0 : bd < dd
      · have u1 : decide (bd < dd) = true := decide_eq_true q0
        have HF := Lib.hid (bad.out (by omega))
        clear q0 hm bad hd1
        go_wp2
        go_ret
        exact ⟨by rw [HF.out]; rfl, HB2.out⟩
      have u1 : decide (bd < dd) = false := decide_eq_false q0
      by_cases q1 : 292194 < bd
      · have u2 : decide (292194 < bd) = true := decide_eq_true q1
        have HF := Lib.hid (bad.out (by omega))
        clear q0 q1 hm bad hd1
        go_wp2
        go_ret
        exact ⟨by rw [HF.out]; rfl, HB2.out⟩
      have u2 : decide (292194 < bd) = false := decide_eq_false q1
      by_cases q2 : bp < 0
      · have u3 : decide (bp < 0) = true := decide_eq_true q2
        have HF := Lib.hid (bad.out (by omega))
        clear q0 q1 q2 hm bad hd1
        go_wp2
        go_ret
        exact ⟨by rw [HF.out]; rfl, HB2.out⟩
      have u3 : decide (bp < 0) = false := decide_eq_false q2
      by_cases q3 : ba < bp
      · have u4 : decide (ba < bp) = true := decide_eq_true q3
        have HF := Lib.hid (bad.out (by omega))
        clear q0 q1 q2 q3 hm bad hd1
        go_wp2
        go_ret
        exact ⟨by rw [HF.out]; rfl, HB2.out⟩
      have u4 : decide (ba < bp) = false := decide_eq_false q3
      by_cases q4 : m < ba
      · have u5 : decide (m < ba) = true := decide_eq_true q4
        have u5b : decide (4000000000000000000 - z < ba) = true := decide_eq_true (by omega)
        have HF := Lib.hid (bad.out (by omega))
        have ew : wrap64 (4000000000000000000 - z) = m := by rw [← hm]; exact IntWalk.wrap64_in _ ⟨by omega, by omega⟩
        clear q0 q1 q2 q3 q4 hm bad hd1
        go_wp2
        go_ret
        exact ⟨by rw [HF.out]; rfl, HB2.out⟩
      have u5 : decide (m < ba) = false := decide_eq_false q4
      have u5b : decide (4000000000000000000 - z < ba) = false := decide_eq_false (by omega)
      have HQ := Lib.hid (show 1 ≤ bd ∧ bd ≤ 292194 ∧ 0 ≤ bp ∧ bp ≤ ba ∧ ba ≤ m ∧ dd ≤ bd by omega)
      have HN := Lib.hid (HJ.out.next HX.out (by rw [HZ.out, HM.out, HD1.out]; exact HQ.out))
      have HA := Lib.hid (show am (l.take (k + 1)) = z + ba by rw [am_more HX.out, HZ.out])
      have HD2 := Lib.hid (show ld l (k + 1) = bd from ld_more HX.out)
      have ew3 : wrap64 (z + ba) = z + ba := IntWalk.wrap64_in _ ⟨by omega, by omega⟩
      have ew4 : IntKind.i64.wrap (z + ba) = z + ba := (IntWalk.i64_left _).trans ew3
      have ew : wrap64 (4000000000000000000 - z) = m := by rw [← hm]; exact IntWalk.wrap64_in _ ⟨by omega, by omega⟩
      clear q0 q1 q2 q3 q4 hm bad hzb hd1
      go_wp2
      go_quiet (fail)
      go_wp2
      go_roundw
      case rel => exact ⟨k + 1, bd, _, by omega, rfl, by rw [HA.out], by go_num, rfl, HQ.out.1, HD2, Lib.hid (HB2.out.trans ⟨rfl, rfl, rfl, Nat.le_refl _, fun _ _ => rfl⟩), HN⟩
      case measure => simp [intOf]; omega
    · have HD := Lib.hid (HJ.out.done (by have := HL.out; omega))
      have hlt2 : ¬ ((k : Int) < (n : Int)) := by omega
      go_wp2
      go_ret
      exact ⟨by rw [HD.out]; rfl, HB.out⟩

end Bil
end Go.Proofs.YtncndofhecdgnaaDoor
