/-
  The document's Turned. Conditions: the bills read as a list.
-/
import Derived.Test.YtncndofhecdgnaaDoorBp
import Derived.Test.YtncndofhecdgnaaDoorInv
namespace Go.Proofs.YtncndofhecdgnaaDoor
open Go.RowKit
namespace Bil
set_option linter.unusedVariables false

theorem lc_more {l : List Bi} {k : Nat} {b : Bi} {y : Int} (h : l[k]? = some b) : lc y (l.take (k + 1)) = lc y (l.take k) + (if b.d ≤ y then 0 else 1) := by
  rw [take_more h, lc_append]; rfl
theorem ea_more {l : List Bi} {k : Nat} {b : Bi} {y : Int} (h : l[k]? = some b) : ea y (l.take (k + 1)) = ea y (l.take k) + (if b.d ≤ y then b.a else 0) := by
  rw [take_more h, ea_append]; show _ + (_ + 0) = _; omega
theorem lp_more {l : List Bi} {k : Nat} {b : Bi} {y : Int} (h : l[k]? = some b) : lp y (l.take (k + 1)) = lp y (l.take k) + (if b.d ≤ y then 0 else b.p) := by
  rw [take_more h, lp_append]; show _ + (_ + 0) = _; omega
theorem tn_more {l : List Bi} {k : Nat} {b : Bi} {y x m : Int} (h : l[k]? = some b) : tn y x m 0 (l.take (k + 1)) = tn y x m 0 (l.take k) ++ [if b.d ≤ y then b else ⟨b.d, b.p + pt x m ((lc y (l.take k) : Nat) : Int), b.p⟩] := by
  rw [take_more h, tn_append, Nat.zero_add, tn_cons]
  split <;> rfl
theorem am_take {l : List Bi} (h : Pb l) (k : Nat) : am (l.take k) ≤ am l := by
  have h3 : am l = am (l.take k) + am (l.drop k) := by rw [← am_append, List.take_append_drop]
  have h4 := am_nonneg (l := l.drop k) fun b hb => h b (List.mem_of_mem_drop hb)
  omega
structure T11 (V : World) (g : Nat) (b : Bi) (rest paid x : Int) (m q : Nat) (P sm : Int) (L : Nat → Bool) (w' : World) (v86 v87 v88 v89 v90 v91 v92 v93 v94 v95 : Value) : Prop where
  bl : Below V.heap.size V w'
  bx : L 10 = false → Bx w' g 42 (bc b)
  f0 : L 0 = true → v86 = .pointer (some ⟨g, 2, none⟩)
  f1 : L 1 = true → v87 = .int .i64 b.p
  f2 : L 2 = true → v88 = .int .i64 rest
  f3 : L 3 = true → v89 = .int .i64 paid
  f4 : L 4 = true → v90 = .int .i64 x
  f5 : L 5 = true → v91 = .int .i64 (m : Int)
  f6 : L 6 = true → v92 = .int .i64 (q : Int)
  f7 : L 7 = true → v93 = .int .i64 P
  f8 : L 8 = true → v94 = .int .i64 sm
  f9 : L 9 = true → v95 = .pointer (some ⟨g, 1, none⟩)
  f10 : L 10 = true → Bx w' g 42 (bc ⟨b.d, sm, b.p⟩)
  d10_1 : L 10 = true → L 1 = true
  d8_1 : L 8 = true → L 1 = true
theorem T11.up {V : World} {g : Nat} {b : Bi} {rest paid x : Int} {m q : Nat} {P sm : Int} {L : Nat → Bool} {w' w2 : World} {v86 v87 v88 v89 v90 v91 v92 v93 v94 v95 : Value} (H : T11 V g b rest paid x m q P sm L w' v86 v87 v88 v89 v90 v91 v92 v93 v94 v95) (hb : Below w'.heap.size w' w2) : T11 V g b rest paid x m q P sm L w2 v86 v87 v88 v89 v90 v91 v92 v93 v94 v95 :=
  ⟨H.bl.trans (hb.mono H.bl.size), (fun l => (H.bx l).keep hb), H.f0, H.f1, H.f2, H.f3, H.f4, H.f5, H.f6, H.f7, H.f8, H.f9, (fun l => (H.f10 l).keep hb), H.d10_1, H.d8_1⟩
theorem T11.s0 {V : World} {g : Nat} {b : Bi} {rest paid x : Int} {m q : Nat} {P sm : Int} {L : Nat → Bool} {w' : World} {v86 v87 v88 v89 v90 v91 v92 v93 v94 v95 : Value} (H : T11 V g b rest paid x m q P sm L w' v86 v87 v88 v89 v90 v91 v92 v93 v94 v95) {z : Value} (k : z = .pointer (some ⟨g, 2, none⟩)) : T11 V g b rest paid x m q P sm (fun j => j == 0 || L j) w' z v87 v88 v89 v90 v91 v92 v93 v94 v95 := ⟨H.bl, H.bx, fun _ => k, H.f1, H.f2, H.f3, H.f4, H.f5, H.f6, H.f7, H.f8, H.f9, H.f10, H.d10_1, H.d8_1⟩
theorem T11.s1 {V : World} {g : Nat} {b : Bi} {rest paid x : Int} {m q : Nat} {P sm : Int} {L : Nat → Bool} {w' : World} {v86 v87 v88 v89 v90 v91 v92 v93 v94 v95 : Value} (H : T11 V g b rest paid x m q P sm L w' v86 v87 v88 v89 v90 v91 v92 v93 v94 v95) {z : Value} (k : z = .int .i64 b.p) : T11 V g b rest paid x m q P sm (fun j => j == 1 || L j) w' v86 z v88 v89 v90 v91 v92 v93 v94 v95 := ⟨H.bl, H.bx, H.f0, fun _ => k, H.f2, H.f3, H.f4, H.f5, H.f6, H.f7, H.f8, H.f9, H.f10, fun _ => rfl, fun _ => rfl⟩
theorem T11.s2 {V : World} {g : Nat} {b : Bi} {rest paid x : Int} {m q : Nat} {P sm : Int} {L : Nat → Bool} {w' : World} {v86 v87 v88 v89 v90 v91 v92 v93 v94 v95 : Value} (H : T11 V g b rest paid x m q P sm L w' v86 v87 v88 v89 v90 v91 v92 v93 v94 v95) {z : Value} (k : z = .int .i64 rest) : T11 V g b rest paid x m q P sm (fun j => j == 2 || L j) w' v86 v87 z v89 v90 v91 v92 v93 v94 v95 := ⟨H.bl, H.bx, H.f0, H.f1, fun _ => k, H.f3, H.f4, H.f5, H.f6, H.f7, H.f8, H.f9, H.f10, H.d10_1, H.d8_1⟩
theorem T11.s3 {V : World} {g : Nat} {b : Bi} {rest paid x : Int} {m q : Nat} {P sm : Int} {L : Nat → Bool} {w' : World} {v86 v87 v88 v89 v90 v91 v92 v93 v94 v95 : Value} (H : T11 V g b rest paid x m q P sm L w' v86 v87 v88 v89 v90 v91 v92 v93 v94 v95) {z : Value} (k : z = .int .i64 paid) : T11 V g b rest paid x m q P sm (fun j => j == 3 || L j) w' v86 v87 v88 z v90 v91 v92 v93 v94 v95 := ⟨H.bl, H.bx, H.f0, H.f1, H.f2, fun _ => k, H.f4, H.f5, H.f6, H.f7, H.f8, H.f9, H.f10, H.d10_1, H.d8_1⟩
theorem T11.s4 {V : World} {g : Nat} {b : Bi} {rest paid x : Int} {m q : Nat} {P sm : Int} {L : Nat → Bool} {w' : World} {v86 v87 v88 v89 v90 v91 v92 v93 v94 v95 : Value} (H : T11 V g b rest paid x m q P sm L w' v86 v87 v88 v89 v90 v91 v92 v93 v94 v95) {z : Value} (k : z = .int .i64 x) : T11 V g b rest paid x m q P sm (fun j => j == 4 || L j) w' v86 v87 v88 v89 z v91 v92 v93 v94 v95 := ⟨H.bl, H.bx, H.f0, H.f1, H.f2, H.f3, fun _ => k, H.f5, H.f6, H.f7, H.f8, H.f9, H.f10, H.d10_1, H.d8_1⟩
theorem T11.s5 {V : World} {g : Nat} {b : Bi} {rest paid x : Int} {m q : Nat} {P sm : Int} {L : Nat → Bool} {w' : World} {v86 v87 v88 v89 v90 v91 v92 v93 v94 v95 : Value} (H : T11 V g b rest paid x m q P sm L w' v86 v87 v88 v89 v90 v91 v92 v93 v94 v95) {z : Value} (k : z = .int .i64 (m : Int)) : T11 V g b rest paid x m q P sm (fun j => j == 5 || L j) w' v86 v87 v88 v89 v90 z v92 v93 v94 v95 := ⟨H.bl, H.bx, H.f0, H.f1, H.f2, H.f3, H.f4, fun _ => k, H.f6, H.f7, H.f8, H.f9, H.f10, H.d10_1, H.d8_1⟩
theorem T11.s6 {V : World} {g : Nat} {b : Bi} {rest paid x : Int} {m q : Nat} {P sm : Int} {L : Nat → Bool} {w' : World} {v86 v87 v88 v89 v90 v91 v92 v93 v94 v95 : Value} (H : T11 V g b rest paid x m q P sm L w' v86 v87 v88 v89 v90 v91 v92 v93 v94 v95) {z : Value} (k : z = .int .i64 (q : Int)) : T11 V g b rest paid x m q P sm (fun j => j == 6 || L j) w' v86 v87 v88 v89 v90 v91 z v93 v94 v95 := ⟨H.bl, H.bx, H.f0, H.f1, H.f2, H.f3, H.f4, H.f5, fun _ => k, H.f7, H.f8, H.f9, H.f10, H.d10_1, H.d8_1⟩
theorem T11.s7 {V : World} {g : Nat} {b : Bi} {rest paid x : Int} {m q : Nat} {P sm : Int} {L : Nat → Bool} {w' : World} {v86 v87 v88 v89 v90 v91 v92 v93 v94 v95 : Value} (H : T11 V g b rest paid x m q P sm L w' v86 v87 v88 v89 v90 v91 v92 v93 v94 v95) {z : Value} (k : z = .int .i64 P) : T11 V g b rest paid x m q P sm (fun j => j == 7 || L j) w' v86 v87 v88 v89 v90 v91 v92 z v94 v95 := ⟨H.bl, H.bx, H.f0, H.f1, H.f2, H.f3, H.f4, H.f5, H.f6, fun _ => k, H.f8, H.f9, H.f10, H.d10_1, H.d8_1⟩
theorem T11.s8 {V : World} {g : Nat} {b : Bi} {rest paid x : Int} {m q : Nat} {P sm : Int} {L : Nat → Bool} {w' : World} {v86 v87 v88 v89 v90 v91 v92 v93 v94 v95 : Value} (H : T11 V g b rest paid x m q P sm L w' v86 v87 v88 v89 v90 v91 v92 v93 v94 v95) {z : Value} (k : z = .int .i64 sm) (d8_18 : L 1 = true) : T11 V g b rest paid x m q P sm (fun j => j == 8 || L j) w' v86 v87 v88 v89 v90 v91 v92 v93 z v95 := ⟨H.bl, H.bx, H.f0, H.f1, H.f2, H.f3, H.f4, H.f5, H.f6, H.f7, fun _ => k, H.f9, H.f10, H.d10_1, fun _ => d8_18⟩
theorem T11.s9 {V : World} {g : Nat} {b : Bi} {rest paid x : Int} {m q : Nat} {P sm : Int} {L : Nat → Bool} {w' : World} {v86 v87 v88 v89 v90 v91 v92 v93 v94 v95 : Value} (H : T11 V g b rest paid x m q P sm L w' v86 v87 v88 v89 v90 v91 v92 v93 v94 v95) {z : Value} (k : z = .pointer (some ⟨g, 1, none⟩)) : T11 V g b rest paid x m q P sm (fun j => j == 9 || L j) w' v86 v87 v88 v89 v90 v91 v92 v93 v94 z := ⟨H.bl, H.bx, H.f0, H.f1, H.f2, H.f3, H.f4, H.f5, H.f6, H.f7, H.f8, fun _ => k, H.f10, H.d10_1, H.d8_1⟩
theorem T11.s10 {V : World} {g : Nat} {b : Bi} {rest paid x : Int} {m q : Nat} {P sm : Int} {L : Nat → Bool} {w' : World} {v86 v87 v88 v89 v90 v91 v92 v93 v94 v95 : Value} (H : T11 V g b rest paid x m q P sm L w' v86 v87 v88 v89 v90 v91 v92 v93 v94 v95) (hg : V.heap.size ≤ g) (h10 : L 10 = false) (h1 : L 1 = true) : T11 V g b rest paid x m q P sm (fun j => j == 10 || L j) (w'.setCell ⟨g, 1, none⟩ (.int .i64 sm)) v86 v87 v88 v89 v90 v91 v92 v93 v94 v95 :=
  ⟨H.bl.setCell (p := ⟨g, 1, none⟩) hg _, (fun l => by cases l), H.f0, H.f1, H.f2, H.f3, H.f4, H.f5, H.f6, H.f7, H.f8, H.f9, fun _ => (H.bx h10).set 1 (.int .i64 sm), fun _ => h1, H.d8_1⟩
set_option maxRecDepth 100000 in
set_option maxHeartbeats 4000000 in
theorem rturned (A : Option Addr) (n c : Nat) (l : List Bi) (amt y : Int) (w : World) (hS : Raws w (· < w.heap.size) A n l) (hn : n ≤ 1000) (ha : In amt) : Calls Tryd.prog 22 #[.slice A n c, .int .i64 amt, .int .i64 y] w (TuTo w l amt y) := by
  have HS := Lib.hid hS
  have HL := Lib.hid hS.1
  have C := Lib.hid (rright A n c l w hS hn)
  obtain ⟨R, hR⟩ : ∃ R, rt l = R := ⟨_, rfl⟩
  have HR := Lib.hid hR
  rw [hR] at C
  have no := Lib.hid (fun (k : Int) (w1 : World) (hk : k ≠ 0) (h : tc l amt y = k) (hb : Below w.heap.size w w1) => (show TuTo w l amt y (.returned (.tuple #[.slice none 0 0, .int .i64 k])) w1 from by
    have e : tl l amt y = [] := by unfold tl; rw [if_neg (by rw [h]; exact hk)]
    exact ⟨_, by rw [h], none, 0, by rw [e]; exact ⟨rfl, Raws.nil, hb⟩⟩))
  clear hS hR
  by_cases h0 : R = true ∧ 0 ≤ amt ∧ amt ≤ 4000000000000000000
  case neg =>
    have HV := Lib.hid (show tc l amt y = 1 by unfold tc; rw [if_neg (by rw [HR.out]; exact h0)])
    have HQ := Lib.hid h0
    go_enter Tryd.func22, Tryd.ntmps22
    go_wp2_with fail
    refine C.out.mono ?_
    rintro e w1 ⟨rfl, hb1⟩
    have HF := Lib.hid (no.out 1 w1 (by decide) HV.out hb1)
    clear C hb1 h0
    cases R
    · go_wp2
      go_ret2
      exact HF.out
    by_cases h1 : amt < 0
    · have t1 : decide (amt < 0) = true := decide_eq_true h1
      clear h1
      go_wp2
      go_ret2
      exact HF.out
    · have t1 : decide (amt < 0) = false := decide_eq_false h1
      have t2 : decide (4000000000000000000 < amt) = true := decide_eq_true (by have := HQ.out; simp at this; omega)
      clear h1
      go_wp2
      go_ret2
      exact HF.out
  obtain ⟨rfl, h0, h1⟩ := h0
  have hr := rt_iff.1 HR.out
  have HP := Lib.hid (rg_pb hr.2)
  have HSM := Lib.hid (rg_sum (by omega) hr.2)
  have HA := Lib.hid (And.intro h0 h1)
  have HTC := Lib.hid (show tc l amt y = if lc y l = 0 then (if amt - ea y l = 0 then 0 else 10) else (if amt - ea y l < lp y l then 2 else 0) by unfold tc; rw [if_pos ⟨HR.out, h0, h1⟩])
  have t1 : decide (amt < 0) = false := decide_eq_false (by omega)
  have t2 : decide (4000000000000000000 < amt) = false := decide_eq_false (by omega)
  have HB := Lib.hid (show ∀ k : Nat, 0 ≤ ea y (l.take k) ∧ ea y (l.take k) ≤ 4000000000000000000 ∧ 0 ≤ lp y (l.take k) ∧ lp y (l.take k) ≤ 4000000000000000000 ∧ lc y (l.take k) ≤ 1000 by
    intro k
    have h1 := lp_bd (y := y) (pb_take HP.out k)
    have h2 := am_take HP.out k
    have h3 := lc_len y (l.take k)
    have h4 : (l.take k).length ≤ l.length := by rw [List.length_take]; omega
    have := HSM.out
    have := HL.out
    omega)
  clear hr h0 h1
  go_enter Tryd.func22, Tryd.ntmps22
  go_wp2_with fail
  refine C.out.mono ?_
  rintro e w1 ⟨rfl, hb1⟩
  have H1 := Lib.hid hb1
  clear C hb1
  go_wp2
  go_loopw [9, 10, 11, 12] (fun vl vr vp vi w' => ∃ (k nd : Nat), k ≤ n ∧ vl = .int .i64 ((lc y (l.take k) : Nat) : Int) ∧ vr = .int .i64 (amt - ea y (l.take k)) ∧ vp = .int .i64 (lp y (l.take k)) ∧ vi = .int .i64 (k : Int) ∧ w' = w1.drewN nd) (fun _ _ _ vi _ => n - (intOf vi).toNat)
  case atStart => exact ⟨0, 0, Nat.zero_le _, rfl, by show Value.int .i64 amt = .int .i64 (amt - 0); rw [Int.sub_zero], rfl, rfl, rfl⟩
  case round =>
    obtain ⟨k, nd, hk, rfl, rfl, rfl, rfl, rfl⟩ := hrel
    by_cases hlt : k < n
    · obtain ⟨ad, b, rfl, hb, hx, N⟩ := (HS.out.below H1.out).get hlt
      obtain ⟨c0, c1, c2⟩ := N
      have hlt2 : (k : Int) < (n : Int) := by omega
      have hc := lc_more (y := y) hx
      have he := ea_more (y := y) hx
      have hp := lp_more (y := y) hx
      have b1 := HB.out k
      have b2 := HB.out (k + 1)
      have hA := HA.out
      obtain ⟨lc0, hlc⟩ : ∃ x, lc y (l.take k) = x := ⟨_, rfl⟩
      obtain ⟨ea0, hea⟩ : ∃ x, ea y (l.take k) = x := ⟨_, rfl⟩
      obtain ⟨lp0, hlp⟩ : ∃ x, lp y (l.take k) = x := ⟨_, rfl⟩
      rw [hlc] at hc b1 ⊢
      rw [hea] at he b1 ⊢
      rw [hlp] at hp b1 ⊢
      obtain ⟨r0, hr0⟩ : ∃ r, amt - ea0 = r := ⟨_, rfl⟩
      rw [hr0]
      by_cases hd : b.d ≤ y
      · have t3 : decide (b.d ≤ y) = true := decide_eq_true hd
        rw [if_pos hd] at hc he hp
        have X := Lib.hid (show ((lc y (l.take (k + 1)) : Nat) : Int) = (lc0 : Int) ∧ amt - ea y (l.take (k + 1)) = r0 - b.a ∧ lp y (l.take (k + 1)) = lp0 by omega)
        have e1 : wrap64 (r0 - b.a) = r0 - b.a := IntWalk.wrap64_in _ ⟨by omega, by omega⟩
        have E1 := Lib.hid e1
        clear hx hb hc he hp b1 b2 hA hlc hea hlp hr0 hd
        go_wp2
        go_roundw
        case rel => exact ⟨k + 1, _, by omega, by rw [X.out.1], by rw [X.out.2.1, E1.out], by rw [X.out.2.2], by go_num, rfl⟩
        case measure => simp [intOf]; omega
      · have t3 : decide (b.d ≤ y) = false := decide_eq_false hd
        rw [if_neg hd] at hc he hp
        have X := Lib.hid (show ((lc y (l.take (k + 1)) : Nat) : Int) = (lc0 : Int) + 1 ∧ amt - ea y (l.take (k + 1)) = r0 ∧ lp y (l.take (k + 1)) = lp0 + b.p by omega)
        have q1 : -9223372036854775808 ≤ (lc0 : Int) + 1 ∧ (lc0 : Int) + 1 ≤ 9223372036854775807 := by omega
        have e1 : wrap64 (lp0 + b.p) = lp0 + b.p := IntWalk.wrap64_in _ ⟨by omega, by omega⟩
        have e2 : wrap64 ((lc0 : Int) + 1) = (lc0 : Int) + 1 := IntWalk.wrap64_in _ q1
        have E1 := Lib.hid e1
        have E2 := Lib.hid e2
        clear hx hb hc he hp b1 b2 hA hlc hea hlp hr0 hd q1
        go_wp2
        go_roundw
        case rel => exact ⟨k + 1, _, by omega, by rw [X.out.1, E2.out], by rw [X.out.2.1], by rw [X.out.2.2, E1.out], by go_num, rfl⟩
        case measure => simp [intOf]; omega
    · have hlt2 : ¬ ((k : Int) < (n : Int)) := by omega
      have HE := Lib.hid (show l.take k = l from List.take_of_length_le (by have := HL.out; omega))
      rw [HE.out]
      have hb0 := HB.out k
      rw [HE.out] at hb0
      have hA0 := HA.out
      obtain ⟨m, hm⟩ : ∃ m, lc y l = m := ⟨_, rfl⟩
      obtain ⟨r, hr⟩ : ∃ r, amt - ea y l = r := ⟨_, rfl⟩
      obtain ⟨pq, hpq⟩ : ∃ p, lp y l = p := ⟨_, rfl⟩
      obtain ⟨x, hx⟩ : ∃ x, r - pq = x := ⟨_, rfl⟩
      have htc := HTC.out
      rw [hm, hr, hpq] at htc
      have HM := Lib.hid hm
      have HTL := Lib.hid (fun (h : tc l amt y = 0) => (show tl l amt y = tn y x (m : Int) 0 l by unfold tl; rw [if_pos h, hm, hr, hpq, hx]))
      have HBD := Lib.hid (show m ≤ 1000 ∧ -4000000000000000000 ≤ r ∧ r ≤ 4000000000000000000 ∧ 0 ≤ pq ∧ pq ≤ 4000000000000000000 by omega)
      have HXX := Lib.hid hx
      rw [hm, hr, hpq]
      obtain ⟨W0, hW0⟩ : ∃ W0, w1.drewN nd = W0 := ⟨_, rfl⟩
      have HW0 := Lib.hid (show Below w.heap.size w W0 from hW0 ▸ H1.out.trans ⟨rfl, rfl, rfl, Nat.le_refl _, fun _ _ => rfl⟩)
      rw [hW0]
      clear hW0 hm hr hpq hx hb0 hA0 hlt
      by_cases m0 : m = 0
      · have t5 : decide (m = 0) = true := decide_eq_true m0
        have t5i : ((m : Int) == 0) = true := by rw [beq_iff_eq]; omega
        have t5j : decide ((m : Int) = 0) = true := decide_eq_true (by omega)
        have t5k : (m == 0) = true := by rw [beq_iff_eq]; exact m0
        have t6 : decide ((0 : Int) < (m : Int)) = false := decide_eq_false (by omega)
        have t6n : decide (0 < m) = false := decide_eq_false (by omega)
        rw [if_pos m0] at htc
        by_cases r0 : r = 0
        · have t7 : (r == 0) = true := by rw [beq_iff_eq]; exact r0
          have t7j : decide (r = 0) = true := decide_eq_true r0
          rw [if_pos r0] at htc
          have HT := Lib.hid htc
          have HM0 := Lib.hid m0
          clear htc m0 r0
          go_wp2
          have HJ := Lib.hid (show Own W0 W0.heap.size none 0 0 (tn y x (m : Int) 0 (l.take 0)) from Own.nil)
          go_loopw [13, 14, 15] (fun vo vn vi w' => ∃ (kk d : Nat) (D : Option Addr) (V : World), kk ≤ n ∧ vo = .slice D kk d ∧ vn = .int .i64 ((lc y (l.take kk) : Nat) : Int) ∧ vi = .int .i64 (kk : Int) ∧ V = w' ∧ Hid (Below W0.heap.size W0 V) ∧ Hid (Own V W0.heap.size D kk d (tn y x (m : Int) 0 (l.take kk)))) (fun _ _ vi _ => n - (intOf vi).toNat)
          case atStart => exact ⟨0, 0, none, W0, Nat.zero_le _, rfl, rfl, rfl, rfl, Lib.hid (Below.refl _ _), HJ⟩
          case round =>
            clear HJ
            obtain ⟨kk, d, D, V, hk, rfl, rfl, rfl, rfl, HBV, HO⟩ := hrel
            by_cases hlt : kk < n
            · obtain ⟨ad, b, rfl, hb, hx, N⟩ := (HS.out.below (HW0.out.trans (HBV.out.mono HW0.out.size))).get hlt
              obtain ⟨c0, c1, c2⟩ := N
              have hlt2 : (kk : Int) < (n : Int) := by omega
              have HX := Lib.hid hx
              have HPB := Lib.hid (HP.out b (List.mem_of_getElem? hx))
              have HLC := Lib.hid (lc_more (y := y) hx)
              have HTN := Lib.hid (tn_more (y := y) (x := x) (m := (m : Int)) hx)
              have HQL := Lib.hid (show lc y (l.take kk) ≤ 1000 from (HB.out kk).2.2.2.2)
              obtain ⟨q, hq⟩ : ∃ q, lc y (l.take kk) = q := ⟨_, rfl⟩
              have HQ := Lib.hid hq
              rw [hq]
              obtain ⟨W2, hW2⟩ : ∃ W2, V.alloc (.cells (bc b) 42) = W2 := ⟨_, rfl⟩
              have HX2 := Lib.hid (show Bx W2 V.heap.size 42 (bc b) from hW2 ▸ Bx.new V _ _)
              have HB2 := Lib.hid (show Below V.heap.size V W2 from hW2 ▸ alloc_ _ _)
              have HW2 := Lib.hid hW2
              have x0 := HX2.out.c 0
              have x1 := HX2.out.c 1
              have x2 := HX2.out.c 2
              simp at x0 x1 x2
              clear hx hb hq hW2
              go_upto_region 24 with fail
              rw [HW2.out]
              by_cases hd : b.d ≤ y
              · have t8 : decide (y < b.d) = false := decide_eq_false (by omega)
                have HN2 := Lib.hid (show tn y x (m : Int) 0 (l.take (kk + 1)) = tn y x (m : Int) 0 (l.take kk) ++ [b] by rw [HTN.out, if_pos hd])
                have HQ2 := Lib.hid (show lc y (l.take (kk + 1)) = q by rw [HLC.out, if_pos hd, HQ.out]; rfl)
                clear hd
                have A2X := HX2
                have A2B := HB2
                go_upto_region 27 with fail
                have hsz := A2X.out.lt
                have z0 := A2X.out.c 0
                have z1 := A2X.out.c 1
                have z2 := A2X.out.c 2
                simp at z0 z1 z2
                go_wp2_with (at_builtin; refine wpList_app _ rfl _ _ rfl W0.heap.size D kk d (tn y x (m : Int) 0 (l.take kk)) rfl ((HO.out.below A2B.out).below (alloc_ _ _)) (· = W2.heap.size) (some ⟨W2.heap.size, 0, none⟩) 1 1 [b] rfl (raws_one (Bx.new W2 42 (bc b))) (fun e => by cases e) (kk + 1) rfl (by omega) (by have := HBV.out.size; have := A2B.out.size; simp; omega) ?_; intro D4 d4 w4 hO4 hg4; have HO4 := Lib.hid hO4; have HG4 := Lib.hid hg4; clear hO4 hg4)
                have HB4 := Lib.hid (show Below W0.heap.size W0 w4 by
                  have h1 := HBV.out.trans (A2B.out.mono HBV.out.size)
                  have h2 := h1.trans ((alloc_ W2 (.cells (bc b) 42)).mono h1.size)
                  exact h2.grown HG4.out h2.size fun j hj => (HO.out.lt j hj).1)
                go_roundw
                case rel => exact ⟨kk + 1, d4, D4, w4, by omega, rfl, by rw [HQ2.out], by go_num, rfl, HB4, by rw [HN2.out]; exact HO4⟩
                case measure => simp [intOf]; omega
              · have t8 : decide (y < b.d) = true := decide_eq_true (by omega)
                exact absurd (lc_zero (HM.out.trans HM0.out) b (List.mem_of_getElem? HX.out)) hd
            · have hlt2 : ¬ ((kk : Int) < (n : Int)) := by omega
              have HE2 := Lib.hid (show l.take kk = l from List.take_of_length_le (by have := HL.out; omega))
              have HK := Lib.hid (show kk = l.length by have := HL.out; omega)
              have HF := Lib.hid (show TuTo w l amt y (.returned (.tuple #[.slice D kk d, .int .i64 0])) V by
                have ho := HO.out
                rw [HE2.out] at ho
                have hk : kk = (tn y x (m : Int) 0 l).length := by rw [tn_len]; exact HK.out
                have hb := HBV.out
                refine ⟨.slice D kk d, by rw [HT.out], D, d, ?_⟩
                rw [HTL.out HT.out, ← hk]
                exact ⟨rfl, ho.raws.keep (fun _ _ => rfl) fun _ h => h.2, HW0.out.trans (hb.mono HW0.out.size)⟩)
              go_wp2
              go_ret2
              exact HF.out
        · have t7 : (r == 0) = false := beq_eq_false_iff_ne.2 r0
          have t7j : decide (r = 0) = false := decide_eq_false r0
          rw [if_neg r0] at htc
          have HF := Lib.hid (no.out 10 W0 (by decide) htc HW0.out)
          clear htc m0 r0
          go_wp2
          go_ret2
          exact HF.out
      · have t5 : decide (m = 0) = false := decide_eq_false m0
        have t5i : ((m : Int) == 0) = false := by rw [beq_eq_false_iff_ne]; omega
        have t5j : decide ((m : Int) = 0) = false := decide_eq_false (by omega)
        have t5k : (m == 0) = false := by rw [beq_eq_false_iff_ne]; exact m0
        have t6 : decide ((0 : Int) < (m : Int)) = true := decide_eq_true (by omega)
        have t6n : decide (0 < m) = true := decide_eq_true (by omega)
        rw [if_neg m0] at htc
        by_cases r0 : r < pq
        · have t7 : decide (r < pq) = true := decide_eq_true r0
          rw [if_pos r0] at htc
          have HF := Lib.hid (no.out 2 W0 (by decide) htc HW0.out)
          clear htc m0 r0
          go_wp2
          go_ret2
          exact HF.out
        · have t7 : decide (r < pq) = false := decide_eq_false r0
          rw [if_neg r0] at htc
          have HT := Lib.hid htc
          have HXM := Lib.hid (show 0 ≤ x ∧ 0 < m by have := HXX.out; omega)
          clear htc m0 r0
          go_wp2
          have HJ := Lib.hid (show Own W0 W0.heap.size none 0 0 (tn y x (m : Int) 0 (l.take 0)) from Own.nil)
          go_loopw [13, 14, 15] (fun vo vn vi w' => ∃ (kk d : Nat) (D : Option Addr) (V : World), kk ≤ n ∧ vo = .slice D kk d ∧ vn = .int .i64 ((lc y (l.take kk) : Nat) : Int) ∧ vi = .int .i64 (kk : Int) ∧ V = w' ∧ Hid (Below W0.heap.size W0 V) ∧ Hid (Own V W0.heap.size D kk d (tn y x (m : Int) 0 (l.take kk)))) (fun _ _ vi _ => n - (intOf vi).toNat)
          case atStart => exact ⟨0, 0, none, W0, Nat.zero_le _, rfl, rfl, rfl, rfl, Lib.hid (Below.refl _ _), HJ⟩
          case round =>
            clear HJ
            obtain ⟨kk, d, D, V, hk, rfl, rfl, rfl, rfl, HBV, HO⟩ := hrel
            by_cases hlt : kk < n
            · obtain ⟨ad, b, rfl, hb, hx, N⟩ := (HS.out.below (HW0.out.trans (HBV.out.mono HW0.out.size))).get hlt
              obtain ⟨c0, c1, c2⟩ := N
              have hlt2 : (kk : Int) < (n : Int) := by omega
              have HX := Lib.hid hx
              have HPB := Lib.hid (HP.out b (List.mem_of_getElem? hx))
              have HLC := Lib.hid (lc_more (y := y) hx)
              have HTN := Lib.hid (tn_more (y := y) (x := x) (m := (m : Int)) hx)
              have HQL := Lib.hid (show lc y (l.take kk) ≤ 1000 from (HB.out kk).2.2.2.2)
              obtain ⟨q, hq⟩ : ∃ q, lc y (l.take kk) = q := ⟨_, rfl⟩
              have HQ := Lib.hid hq
              rw [hq]
              obtain ⟨W2, hW2⟩ : ∃ W2, V.alloc (.cells (bc b) 42) = W2 := ⟨_, rfl⟩
              have HX2 := Lib.hid (show Bx W2 V.heap.size 42 (bc b) from hW2 ▸ Bx.new V _ _)
              have HB2 := Lib.hid (show Below V.heap.size V W2 from hW2 ▸ alloc_ _ _)
              have HW2 := Lib.hid hW2
              have x0 := HX2.out.c 0
              have x1 := HX2.out.c 1
              have x2 := HX2.out.c 2
              simp at x0 x1 x2
              clear hx hb hq hW2
              go_upto_region 24 with fail
              rw [HW2.out]
              by_cases hd : b.d ≤ y
              · have t8 : decide (y < b.d) = false := decide_eq_false (by omega)
                have HN2 := Lib.hid (show tn y x (m : Int) 0 (l.take (kk + 1)) = tn y x (m : Int) 0 (l.take kk) ++ [b] by rw [HTN.out, if_pos hd])
                have HQ2 := Lib.hid (show lc y (l.take (kk + 1)) = q by rw [HLC.out, if_pos hd, HQ.out]; rfl)
                clear hd
                have A2X := HX2
                have A2B := HB2
                go_upto_region 27 with fail
                have hsz := A2X.out.lt
                have z0 := A2X.out.c 0
                have z1 := A2X.out.c 1
                have z2 := A2X.out.c 2
                simp at z0 z1 z2
                go_wp2_with (at_builtin; refine wpList_app _ rfl _ _ rfl W0.heap.size D kk d (tn y x (m : Int) 0 (l.take kk)) rfl ((HO.out.below A2B.out).below (alloc_ _ _)) (· = W2.heap.size) (some ⟨W2.heap.size, 0, none⟩) 1 1 [b] rfl (raws_one (Bx.new W2 42 (bc b))) (fun e => by cases e) (kk + 1) rfl (by omega) (by have := HBV.out.size; have := A2B.out.size; simp; omega) ?_; intro D4 d4 w4 hO4 hg4; have HO4 := Lib.hid hO4; have HG4 := Lib.hid hg4; clear hO4 hg4)
                have HB4 := Lib.hid (show Below W0.heap.size W0 w4 by
                  have h1 := HBV.out.trans (A2B.out.mono HBV.out.size)
                  have h2 := h1.trans ((alloc_ W2 (.cells (bc b) 42)).mono h1.size)
                  exact h2.grown HG4.out h2.size fun j hj => (HO.out.lt j hj).1)
                go_roundw
                case rel => exact ⟨kk + 1, d4, D4, w4, by omega, rfl, by rw [HQ2.out], by go_num, rfl, HB4, by rw [HN2.out]; exact HO4⟩
                case measure => simp [intOf]; omega
              · have t8 : decide (y < b.d) = true := decide_eq_true (by omega)
                have HXR := Lib.hid (show 0 ≤ x ∧ x ≤ 4000000000000000000 by have := HXM.out; have := HXX.out; have := HBD.out; omega)
                have HMR := Lib.hid (show 0 < m ∧ m ≤ 1000 from ⟨HXM.out.2, HBD.out.1⟩)
                have HQL2 := Lib.hid (show q ≤ 1000 by rw [← HQ.out]; exact HQL.out)
                have hpt := pt_nonneg (x := x) (m := (m : Int)) (i := (q : Int)) HXR.out.1 (by have := HMR.out; omega) (by omega)
                obtain ⟨sm, hsm⟩ : ∃ sm, b.p + pt x (m : Int) (q : Int) = sm := ⟨_, rfl⟩
                have hpb : 0 ≤ b.p ∧ b.p ≤ 4000000000000000000 := by
                  have h1 := HPB.out
                  have h2 := am_more HX.out
                  have h3 := am_take HP.out (kk + 1)
                  have h4 := am_nonneg (pb_take HP.out kk)
                  have h5 := HSM.out
                  omega
                have EX := Lib.hid (show Value.int .i64 (IntKind.i64.wrap (r - pq)) = .int .i64 x by rw [IntWalk.i64_left, IntWalk.wrap64_in _ (by have := HBD.out; omega), HXX.out])
                have ES := Lib.hid (show Value.int .i64 (IntKind.i64.wrap (b.p + pt x (m : Int) (q : Int))) = .int .i64 sm by rw [IntWalk.i64_left, IntWalk.wrap64_in _ (by have := HXR.out; omega), hsm])
                have HN2 := Lib.hid (show tn y x (m : Int) 0 (l.take (kk + 1)) = tn y x (m : Int) 0 (l.take kk) ++ [⟨b.d, sm, b.p⟩] by rw [HTN.out, if_neg hd, HQ.out, hsm])
                have HQ2 := Lib.hid (show ((lc y (l.take (kk + 1)) : Nat) : Int) = (q : Int) + 1 by rw [HLC.out, if_neg hd, HQ.out]; omega)
                have EQ := Lib.hid (show wrap64 ((q : Int) + 1) = (q : Int) + 1 from IntWalk.wrap64_in _ (by have := HQL2.out; omega))
                clear hpt hsm hpb hd
                go_upto_region 25 with fail
                clear x0 x1 x2
                refine wp_region_steps (fun L_ a_ w_ => ∃ (v86 v87 v88 v89 v90 v91 v92 v93 v94 v95 : Value), a_ = { tmps := #[.slice (some ad) n c, .int .i64 amt, .int .i64 y, undef, undef, undef, .slice none 0 0, .int .i64 0, .bool true, .int .i64 (m : Int), .int .i64 r, .int .i64 pq, .int .i64 k, .slice D kk d, .int .i64 (q : Int), .int .i64 (kk : Int), .pointer (some ⟨V.heap.size, 0, none⟩), .slice (some ad) n c, .bool true, .bool true, .bool false, .bool false, .int .i64 amt, .bool false, .bool false, .bool false, .int .i64 amt, .bool false, .bool false, .int .i64 amt, .int .i64 k, .slice (some ad) n c, .int .i64 (n : Int), .bool false, u34, u35, u36, u37, u38, u39, u40, u41, u42, u43, u44, u45, u46, u47, u48, u49, u50, u51, u52, u53, u54, u55, u56, u57, u58, .int .i64 (m : Int), .bool false, .bool false, undef, undef, .bool false, .int .i64 (m : Int), .bool true, .bool true, .int .i64 r, .int .i64 pq, .bool false, .bool false, .int .i64 (kk : Int), .slice (some ad) n c, .int .i64 (n : Int), .bool true, u76, u77, .slice (some ad) n c, .int .i64 (kk : Int), .pointer (some (ad.add (kk * 3))), .agg #[.int .i64 b.d, .int .i64 b.a, .int .i64 b.p], .pointer (some ⟨V.heap.size, 0, none⟩), .int .i64 b.d, .int .i64 y, .bool true, v86, v87, v88, v89, v90, v91, v92, v93, v94, v95, u96, u97, u98, u99, u100, u101, undef], defers := [] } ∧ Hid (T11 V V.heap.size b r pq x m q (pt x (m : Int) (q : Int)) sm L_ w_ v86 v87 v88 v89 v90 v91 v92 v93 v94 v95)) (by kernel_rfl) (by kernel_rfl) ?_ (AllSteps.cons ?_ (AllSteps.cons ?_ (AllSteps.cons ?_ (AllSteps.cons ?_ (AllSteps.cons ?_ (AllSteps.cons ?_ (AllSteps.cons ?_ (AllSteps.cons ?_ (AllSteps.cons ?_ (AllSteps.cons ?_ (AllSteps.cons ?_ AllSteps.nil))))))))))) ?_
                · exact ⟨_, _, _, _, _, _, _, _, _, _, rfl, Lib.hid ⟨HB2.out.trans (show Below V.heap.size W2 W2.drew from ⟨rfl, rfl, rfl, Nat.le_refl _, fun _ _ => rfl⟩), (fun _ => HX2.out), (fun h => by cases h), (fun h => by cases h), (fun h => by cases h), (fun h => by cases h), (fun h => by cases h), (fun h => by cases h), (fun h => by cases h), (fun h => by cases h), (fun h => by cases h), (fun h => by cases h), (fun h => by cases h), (fun h => by cases h), (fun h => by cases h)⟩⟩
                · rintro L_ a_ w_ hL hd ⟨v86, v87, v88, v89, v90, v91, v92, v93, v94, v95, rfl, HR⟩ K hK
                  clear hd
                  go_simp
                  exact hK.out _ _ ⟨_, _, _, _, _, _, _, _, _, _, rfl, Lib.hid (HR.out.s0 rfl)⟩
                · rintro L_ a_ w_ hL hd ⟨v86, v87, v88, v89, v90, v91, v92, v93, v94, v95, rfl, HR⟩ K hK
                  have e0 := HR.out.f0 (hd ⟨0, .data⟩ (by simp) rfl)
                  subst e0
                  have h10 : L_ 10 = false := by
                    cases h : L_ 10 with
                    | false => rfl
                    | true => have h1 := HR.out.d10_1 h; rw [hL] at h1; cases h1
                  have x2 := (HR.out.bx h10).c 2
                  simp at x2
                  clear hd h10
                  go_simp
                  exact hK.out _ _ ⟨_, _, _, _, _, _, _, _, _, _, rfl, Lib.hid (HR.out.s1 rfl)⟩
                · rintro L_ a_ w_ hL hd ⟨v86, v87, v88, v89, v90, v91, v92, v93, v94, v95, rfl, HR⟩ K hK
                  clear hd
                  go_simp
                  exact hK.out _ _ ⟨_, _, _, _, _, _, _, _, _, _, rfl, Lib.hid (HR.out.s2 rfl)⟩
                · rintro L_ a_ w_ hL hd ⟨v86, v87, v88, v89, v90, v91, v92, v93, v94, v95, rfl, HR⟩ K hK
                  clear hd
                  go_simp
                  exact hK.out _ _ ⟨_, _, _, _, _, _, _, _, _, _, rfl, Lib.hid (HR.out.s3 rfl)⟩
                · rintro L_ a_ w_ hL hd ⟨v86, v87, v88, v89, v90, v91, v92, v93, v94, v95, rfl, HR⟩ K hK
                  have e2 := HR.out.f2 (hd ⟨2, .data⟩ (by simp) rfl)
                  subst e2
                  have e3 := HR.out.f3 (hd ⟨3, .data⟩ (by simp) rfl)
                  subst e3
                  have ew := EX.out
                  clear hd
                  go_simp
                  exact hK.out _ _ ⟨_, _, _, _, _, _, _, _, _, _, rfl, Lib.hid (HR.out.s4 rfl)⟩
                · rintro L_ a_ w_ hL hd ⟨v86, v87, v88, v89, v90, v91, v92, v93, v94, v95, rfl, HR⟩ K hK
                  clear hd
                  go_simp
                  exact hK.out _ _ ⟨_, _, _, _, _, _, _, _, _, _, rfl, Lib.hid (HR.out.s5 rfl)⟩
                · rintro L_ a_ w_ hL hd ⟨v86, v87, v88, v89, v90, v91, v92, v93, v94, v95, rfl, HR⟩ K hK
                  clear hd
                  go_simp
                  exact hK.out _ _ ⟨_, _, _, _, _, _, _, _, _, _, rfl, Lib.hid (HR.out.s6 rfl)⟩
                · rintro L_ a_ w_ hL hd ⟨v86, v87, v88, v89, v90, v91, v92, v93, v94, v95, rfl, HR⟩ K hK
                  have e4 := HR.out.f4 (hd ⟨4, .data⟩ (by simp) rfl)
                  subst e4
                  have e5 := HR.out.f5 (hd ⟨5, .data⟩ (by simp) rfl)
                  subst e5
                  have e6 := HR.out.f6 (hd ⟨6, .data⟩ (by simp) rfl)
                  subst e6
                  have CP := Lib.hid (rpart x m q w_ HXR.out HMR.out HQL2.out)
                  clear hd
                  go_simp
                  refine CP.out.mono ?_
                  rintro e w5 ⟨rfl, hb5⟩
                  have HR2 := Lib.hid (HR.out.up hb5)
                  clear hb5 CP
                  try go_simp
                  exact hK.out _ _ ⟨_, _, _, _, _, _, _, _, _, _, rfl, Lib.hid (HR2.out.s7 rfl)⟩
                · rintro L_ a_ w_ hL hd ⟨v86, v87, v88, v89, v90, v91, v92, v93, v94, v95, rfl, HR⟩ K hK
                  have l1 := hd ⟨1, .data⟩ (by simp) rfl
                  have e1 := HR.out.f1 (hd ⟨1, .data⟩ (by simp) rfl)
                  subst e1
                  have e7 := HR.out.f7 (hd ⟨7, .data⟩ (by simp) rfl)
                  subst e7
                  have ew := ES.out
                  clear hd
                  go_simp
                  exact hK.out _ _ ⟨_, _, _, _, _, _, _, _, _, _, rfl, Lib.hid (HR.out.s8 rfl l1)⟩
                · rintro L_ a_ w_ hL hd ⟨v86, v87, v88, v89, v90, v91, v92, v93, v94, v95, rfl, HR⟩ K hK
                  clear hd
                  go_simp
                  exact hK.out _ _ ⟨_, _, _, _, _, _, _, _, _, _, rfl, Lib.hid (HR.out.s9 rfl)⟩
                · rintro L_ a_ w_ hL hd ⟨v86, v87, v88, v89, v90, v91, v92, v93, v94, v95, rfl, HR⟩ K hK
                  have e9 := HR.out.f9 (hd ⟨9, .data⟩ (by simp) rfl)
                  subst e9
                  have e8 := HR.out.f8 (hd ⟨8, .data⟩ (by simp) rfl)
                  subst e8
                  have l1 := HR.out
                  have fz := (HR.out.bx hL).f
                  have x1 := (HR.out.bx hL).c 1
                  simp at x1
                  have H10 := Lib.hid hL
                  have H01 := Lib.hid (hd ⟨8, .data⟩ (by simp) rfl)
                  clear hd l1
                  go_simp
                  exact hK.out _ _ ⟨_, _, _, _, _, _, _, _, _, _, rfl, Lib.hid (HR.out.s10 (Nat.le_refl _) H10.out (HR.out.d8_1 H01.out))⟩
                rintro L_ a_ w_ hL ⟨v86, v87, v88, v89, v90, v91, v92, v93, v94, v95, rfl, HR⟩
                obtain rfl := HR.out.f0 (hL 0 (by decide))
                obtain rfl := HR.out.f1 (hL 1 (by decide))
                obtain rfl := HR.out.f2 (hL 2 (by decide))
                obtain rfl := HR.out.f3 (hL 3 (by decide))
                obtain rfl := HR.out.f4 (hL 4 (by decide))
                obtain rfl := HR.out.f5 (hL 5 (by decide))
                obtain rfl := HR.out.f6 (hL 6 (by decide))
                obtain rfl := HR.out.f7 (hL 7 (by decide))
                obtain rfl := HR.out.f8 (hL 8 (by decide))
                obtain rfl := HR.out.f9 (hL 9 (by decide))
                have A3X := Lib.hid (HR.out.f10 (hL 10 (by decide)))
                have A3B := Lib.hid HR.out.bl
                clear HR hL
                dsimp only [Exit.then]
                go_step
                go_upto_region 27 with fail
                have hsz := A3X.out.lt
                have z0 := A3X.out.c 0
                have z1 := A3X.out.c 1
                have z2 := A3X.out.c 2
                simp at z0 z1 z2
                go_wp2_with (at_builtin; refine wpList_app _ rfl _ _ rfl W0.heap.size D kk d (tn y x (m : Int) 0 (l.take kk)) rfl ((HO.out.below A3B.out).below (alloc_ _ _)) (· = w_.heap.size) (some ⟨w_.heap.size, 0, none⟩) 1 1 [⟨b.d, sm, b.p⟩] rfl (raws_one (Bx.new w_ 42 (bc ⟨b.d, sm, b.p⟩))) (fun e => by cases e) (kk + 1) rfl (by omega) (by have := HBV.out.size; have := A3B.out.size; simp; omega) ?_; intro D4 d4 w4 hO4 hg4; have HO4 := Lib.hid hO4; have HG4 := Lib.hid hg4; clear hO4 hg4)
                have HB4 := Lib.hid (show Below W0.heap.size W0 w4 by
                  have h1 := HBV.out.trans (A3B.out.mono HBV.out.size)
                  have h2 := h1.trans ((alloc_ w_ (.cells (bc ⟨b.d, sm, b.p⟩) 42)).mono h1.size)
                  exact h2.grown HG4.out h2.size fun j hj => (HO.out.lt j hj).1)
                go_roundw
                case rel => exact ⟨kk + 1, d4, D4, w4, by omega, rfl, by rw [HQ2.out, EQ.out], by go_num, rfl, HB4, by rw [HN2.out]; exact HO4⟩
                case measure => simp [intOf]; omega
            · have hlt2 : ¬ ((kk : Int) < (n : Int)) := by omega
              have HE2 := Lib.hid (show l.take kk = l from List.take_of_length_le (by have := HL.out; omega))
              have HK := Lib.hid (show kk = l.length by have := HL.out; omega)
              have HF := Lib.hid (show TuTo w l amt y (.returned (.tuple #[.slice D kk d, .int .i64 0])) V by
                have ho := HO.out
                rw [HE2.out] at ho
                have hk : kk = (tn y x (m : Int) 0 l).length := by rw [tn_len]; exact HK.out
                have hb := HBV.out
                refine ⟨.slice D kk d, by rw [HT.out], D, d, ?_⟩
                rw [HTL.out HT.out, ← hk]
                exact ⟨rfl, ho.raws.keep (fun _ _ => rfl) fun _ h => h.2, HW0.out.trans (hb.mono HW0.out.size)⟩)
              go_wp2
              go_ret2
              exact HF.out

end Bil
end Go.Proofs.YtncndofhecdgnaaDoor
