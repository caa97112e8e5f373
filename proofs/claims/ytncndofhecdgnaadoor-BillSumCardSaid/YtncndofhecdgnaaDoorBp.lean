/-
  The document's part and Pay. Conditions: the bills read as a list.
-/
import Derived.Test.YtncndofhecdgnaaDoorBo
namespace Go.Proofs.YtncndofhecdgnaaDoor
open Go.RowKit
namespace Bil
set_option linter.unusedVariables false

set_option maxRecDepth 100000 in
set_option maxHeartbeats 4000000 in
theorem rpart (x : Int) (m i : Nat) (w : World) (hx : 0 ≤ x ∧ x ≤ 4000000000000000000) (hm : 0 < m ∧ m ≤ 1000) (hi : i ≤ 1000) : Calls Tryd.prog 32 #[.int .i64 x, .int .i64 (m : Int), .int .i64 (i : Int)] w (fun e w' => e = .returned (.int .i64 (pt x (m : Int) (i : Int))) ∧ Below w.heap.size w w') := by
  obtain ⟨X, rfl⟩ := Int.eq_ofNat_of_zero_le hx.1
  have hX : X ≤ 4000000000000000000 := by omega
  obtain ⟨a, ha⟩ : ∃ a, X / m = a := ⟨_, rfl⟩
  obtain ⟨r, hr⟩ : ∃ r, X % m = r := ⟨_, rfl⟩
  obtain ⟨j, hj⟩ : ∃ j, i + 1 = j := ⟨_, rfl⟩
  obtain ⟨p1, hp1⟩ : ∃ p, r * j = p := ⟨_, rfl⟩
  obtain ⟨p2, hp2⟩ : ∃ p, r * i = p := ⟨_, rfl⟩
  obtain ⟨q1, hq1⟩ : ∃ q, p1 / m = q := ⟨_, rfl⟩
  obtain ⟨q2, hq2⟩ : ∃ q, p2 / m = q := ⟨_, rfl⟩
  obtain ⟨P, hP⟩ : ∃ P, pt (X : Int) (m : Int) (i : Int) = P := ⟨_, rfl⟩
  have hPe : P = (a : Int) + (q1 : Int) - (q2 : Int) := by
    rw [← hP, ← ha, ← hq1, ← hq2, ← hp1, ← hp2, ← hr, ← hj]
    unfold pt
    simp only [Int.natCast_ediv, Int.natCast_mul, Int.natCast_emod, Int.natCast_add, Int.natCast_one]
  have b1 : r < 1000 := by rw [← hr]; have := Nat.mod_lt X hm.1; omega
  have b2 : a ≤ 4000000000000000000 := by rw [← ha]; exact Nat.le_trans (Nat.div_le_self _ _) hX
  have b3 : p1 ≤ 1000 * 1001 := by rw [← hp1]; exact Nat.mul_le_mul (by omega) (by omega)
  have b4 : p2 ≤ 1000 * 1001 := by rw [← hp2]; exact Nat.mul_le_mul (by omega) (by omega)
  have b5 : q1 ≤ p1 := by rw [← hq1]; exact Nat.div_le_self _ _
  have b6 : q2 ≤ p2 := by rw [← hq2]; exact Nat.div_le_self _ _
  obtain ⟨s, hs⟩ : ∃ s, a + q1 = s := ⟨_, rfl⟩
  have d1 : (X : Int) / (m : Int) = (a : Int) := by rw [← ha, Int.natCast_ediv]
  have d2 : (X : Int) % (m : Int) = (r : Int) := by rw [← hr, Int.natCast_emod]
  have d3 : (r : Int) * (j : Int) = (p1 : Int) := by rw [← hp1, Int.natCast_mul]
  have d4 : (r : Int) * (i : Int) = (p2 : Int) := by rw [← hp2, Int.natCast_mul]
  have d5 : (p1 : Int) / (m : Int) = (q1 : Int) := by rw [← hq1, Int.natCast_ediv]
  have d6 : (p2 : Int) / (m : Int) = (q2 : Int) := by rw [← hq2, Int.natCast_ediv]
  have W := Lib.hid (show wrap64 ((a : Int)) = a ∧ wrap64 ((i : Int) + 1) = (j : Int) ∧ wrap64 (p1 : Int) = p1 ∧ wrap64 (p2 : Int) = p2 ∧ wrap64 (q1 : Int) = q1 ∧ wrap64 (q2 : Int) = q2 ∧ wrap64 ((a : Int) + (q1 : Int)) = (s : Int) ∧ wrap64 ((s : Int) - (q2 : Int)) = P by
    refine ⟨IntWalk.wrap64_in _ ⟨by omega, by omega⟩, ?_, IntWalk.wrap64_in _ ⟨by omega, by omega⟩, IntWalk.wrap64_in _ ⟨by omega, by omega⟩, IntWalk.wrap64_in _ ⟨by omega, by omega⟩, IntWalk.wrap64_in _ ⟨by omega, by omega⟩, ?_, ?_⟩
    · rw [IntWalk.wrap64_in _ ⟨by omega, by omega⟩]; omega
    · rw [IntWalk.wrap64_in _ ⟨by omega, by omega⟩]; omega
    · rw [IntWalk.wrap64_in _ ⟨by omega, by omega⟩]; omega)
  rw [hP]
  have hm1 : 0 < m := hm.1
  obtain ⟨w1, w2, w3, w4, w5, w6, w7, w8⟩ := W.out
  clear hx hm hi hX ha hr hj hp1 hp2 hq1 hq2 hP hPe b1 b2 b3 b4 b5 b6 hs W
  go_enter Tryd.func32, Tryd.ntmps32
  go_wp2
  go_quiet (fail)
  go_wp2
  go_ret
  exact ⟨by show Ending.returned (.int .i64 (wrap64 ((s : Int) - (q2 : Int)))) = _; rw [w8], ⟨rfl, rfl, rfl, Nat.le_refl _, fun _ _ => rfl⟩⟩
theorem py_le {l : List Bi} (h : Pb l) : ∀ {a : Int}, 0 ≤ a → (py l a).2 ≤ a := by
  induction l with
  | nil => intro a _; exact Int.le_refl _
  | cons b t ih =>
    intro a ha
    have hn := pn_bd h.head.2 ha
    have := ih h.tail (a := a - pn b a) (by omega)
    rw [py_cons]
    show (py t (a - pn b a)).2 ≤ a
    omega
theorem raws_one {w : World} {g : Nat} {r : Bi} (hx : Bx w g 42 (bc r)) : Raws w (· = g) (some ⟨g, 0, none⟩) 1 [r] := by
  refine ⟨rfl, fun _ => ⟨_, rfl, rfl, fun j x hj => ?_⟩⟩
  have hj0 : j = 0 := by have := (List.getElem?_eq_some_iff.1 hj).1; simp at this; omega
  subst hj0
  simp at hj
  subst hj
  exact ⟨hx.c 0, hx.c 1, hx.c 2⟩
set_option maxRecDepth 100000 in
set_option maxHeartbeats 4000000 in
theorem rpay (A : Option Addr) (n c : Nat) (l : List Bi) (a : Int) (w : World) (hS : Raws w (· < w.heap.size) A n l) (hn : n ≤ 1000) (ha : In a) : Calls Tryd.prog 16 #[.slice A n c, .int .i64 a] w (PaTo w l a) := by
  have HS := Lib.hid hS
  have HL := Lib.hid hS.1
  have C := Lib.hid (rright A n c l w hS hn)
  obtain ⟨R, hR⟩ : ∃ R, rt l = R := ⟨_, rfl⟩
  have HR := Lib.hid hR
  rw [hR] at C
  clear hS hR
  by_cases h0 : 0 ≤ a ∧ R = true
  case neg =>
    have HV := Lib.hid (show pay l a = (l, a) by unfold pay; rw [if_neg (by rw [HR.out]; exact fun h => h0 ⟨h.2, h.1⟩)])
    have HQ := Lib.hid h0
    go_enter Tryd.func16, Tryd.ntmps16
    go_wp2_with fail
    refine C.out.mono ?_
    rintro e w1 ⟨rfl, hb1⟩
    have H1 := Lib.hid hb1
    have HF := Lib.hid (show PaTo w l a (.returned (.tuple #[.slice A n c, .int .i64 a])) w1 by
      refine ⟨.slice A n c, by rw [HV.out], A, c, ?_⟩
      rw [HV.out]
      exact ⟨by rw [HL.out], by rw [HL.out]; exact HS.out.below H1.out, H1.out⟩)
    clear C hb1 h0
    cases R
    · go_wp2
      go_ret2
      exact HF.out
    · have t1 : decide (a < 0) = true := decide_eq_true (by have := HQ.out; simp at this; omega)
      go_wp2
      go_ret2
      exact HF.out
  obtain ⟨h0, rfl⟩ := h0
  have hr := rt_iff.1 HR.out
  have hp := rg_pb hr.2
  have HV := Lib.hid (show pay l a = py l a by unfold pay; rw [if_pos ⟨HR.out, h0⟩])
  have HP := Lib.hid hp
  have HA := Lib.hid (And.intro h0 ha)
  have HSM := Lib.hid (rg_sum (by omega) hr.2)
  have t1 : decide (a < 0) = false := decide_eq_false (by omega)
  clear hr hp h0 ha
  go_enter Tryd.func16, Tryd.ntmps16
  go_wp2_with fail
  refine C.out.mono ?_
  rintro e w1 ⟨rfl, hb1⟩
  have H1 := Lib.hid hb1
  clear C hb1
  have HJ := Lib.hid (show Own w1 w1.heap.size none 0 0 (py (l.take 0) a).1 from Own.nil)
  go_wp2
  go_loopw [1, 7, 8] (fun va vo vi w' => ∃ (k d : Nat) (D : Option Addr) (V : World), k ≤ n ∧ va = .int .i64 (py (l.take k) a).2 ∧ vo = .slice D k d ∧ vi = .int .i64 (k : Int) ∧ V = w' ∧ Hid (Below w1.heap.size w1 V) ∧ Hid (Own V w1.heap.size D k d (py (l.take k) a).1)) (fun _ _ vi _ => n - (intOf vi).toNat)
  case atStart => exact ⟨0, 0, none, w1, Nat.zero_le _, rfl, rfl, rfl, rfl, Lib.hid (Below.refl _ _), HJ⟩
  case round =>
    clear HJ
    obtain ⟨k, d, D, V, hk, rfl, rfl, rfl, rfl, HB, HO⟩ := hrel
    by_cases hlt : k < n
    · obtain ⟨ad, b, rfl, hb, hx, N⟩ := (HS.out.below (H1.out.trans (HB.out.mono H1.out.size))).get hlt
      obtain ⟨c0, c1, c2⟩ := N
      have hlt2 : (k : Int) < (n : Int) := by omega
      have HX := Lib.hid hx
      have h0 := HP.out b (List.mem_of_getElem? hx)
      have hba : b.a ≤ 4000000000000000000 := by
        have h1 := HSM.out
        have h2 : am l = am (l.take k) + am (l.drop k) := by rw [← am_append, List.take_append_drop]
        have h3 := am_nonneg (pb_take HP.out k)
        rw [drop_get hx, am_cons] at h2
        have h4 := am_nonneg (l := l.drop (k + 1)) fun b hb => HP.out b (List.mem_of_mem_drop hb)
        omega
      obtain ⟨av, hav⟩ : ∃ av, (py (l.take k) a).2 = av := ⟨_, rfl⟩
      have hA0 : 0 ≤ av := by rw [← hav]; exact (py_pb (pb_take HP.out k) HA.out.1).2
      have hA1 : av ≤ 9223372036854775807 := by
        have h1 := py_le (pb_take HP.out k) HA.out.1
        have h5 : a ≤ 9223372036854775807 := HA.out.2.2
        omega
      have HAV := Lib.hid hav
      rw [hav]
      obtain ⟨q, hq⟩ : ∃ q, pn b av = q := ⟨_, rfl⟩
      have hqb := pn_bd h0.2 hA0
      rw [hq] at hqb
      have HQ := Lib.hid hq
      have HM := Lib.hid (show min (b.a - b.p) av = q from hq)
      obtain ⟨W2, hW2⟩ : ∃ W2, V.alloc (.cells (bc b) 42) = W2 := ⟨_, rfl⟩
      have HX2 := Lib.hid (show Bx W2 V.heap.size 42 (bc b) from hW2 ▸ Bx.new V _ _)
      have HB2 := Lib.hid (show Below V.heap.size V W2 from hW2 ▸ alloc_ _ _)
      have HW2 := Lib.hid hW2
      obtain ⟨u, hu⟩ : ∃ u, b.a - b.p = u := ⟨_, rfl⟩
      obtain ⟨p2, hp2⟩ : ∃ p2, b.p + q = p2 := ⟨_, rfl⟩
      obtain ⟨av2, hav2⟩ : ∃ x, av - q = x := ⟨_, rfl⟩
      have hM : (if av < u then av else u) = q := by
        rw [← HM.out, hu]
        by_cases h : av < u
        · rw [if_pos h]; omega
        · rw [if_neg h]; omega
      obtain ⟨W3, hW3⟩ : ∃ W3, W2.setCell ⟨V.heap.size, 2, none⟩ (.int .i64 p2) = W3 := ⟨_, rfl⟩
      have HX3 := Lib.hid (show Bx W3 V.heap.size 42 (bc ⟨b.d, b.a, p2⟩) from hW3 ▸ HX2.out.set 2 (.int .i64 p2))
      have HB3 := Lib.hid (show Below V.heap.size V W3 from hW3 ▸ HB2.out.setCell (p := ⟨V.heap.size, 2, none⟩) (Nat.le_refl _) _)
      have HW3 := Lib.hid hW3
      have HR2 := Lib.hid (show (py (l.take (k + 1)) a).2 = av2 by rw [py_more HX.out, HAV.out, HQ.out]; exact hav2)
      have HN2 := Lib.hid (show (py (l.take (k + 1)) a).1 = (py (l.take k) a).1 ++ [⟨b.d, b.a, p2⟩] by
        rw [take_more HX.out, py_append, HAV.out]
        show _ ++ [(⟨b.d, b.a, b.p + pn b av⟩ : Bi)] = _
        rw [HQ.out, hp2])
      have e1 : wrap64 (b.a - b.p) = u := by rw [← hu]; exact IntWalk.wrap64_in _ ⟨by omega, by omega⟩
      have e2 : wrap64 (b.p + q) = p2 := by rw [← hp2]; exact IntWalk.wrap64_in _ ⟨by omega, by omega⟩
      have e3 : wrap64 (av - q) = av2 := by rw [← hav2]; exact IntWalk.wrap64_in _ ⟨by omega, by omega⟩
      have E3 := Lib.hid e3
      have x0 := HX2.out.c 0
      have x1 := HX2.out.c 1
      have x2 := HX2.out.c 2
      simp at x0 x1 x2
      have fx := HX2.out.f
      clear hx hb hav hq hW2 hu hp2 hav2 hW3 hqb hA0 hA1 hba h0
      go_upto_region 9 with fail
      rw [HW2.out]
      go_upto_region 12 with fail
      rw [HW3.out]
      clear x0 x1 x2 fx e1 e2 e3 hM
      have x0 := HX3.out.c 0
      have x1 := HX3.out.c 1
      have x2 := HX3.out.c 2
      simp at x0 x1 x2
      have hsz := HX3.out.lt
      go_wp2_with (at_builtin; refine wpList_app _ rfl _ _ rfl w1.heap.size D k d (py (l.take k) a).1 rfl ((HO.out.below HB3.out).below (alloc_ _ _)) (· = W3.heap.size) (some ⟨W3.heap.size, 0, none⟩) 1 1 [⟨b.d, b.a, p2⟩] rfl (raws_one (Bx.new W3 42 (bc ⟨b.d, b.a, p2⟩))) (fun e => by cases e) (k + 1) rfl (by omega) (by have := HB.out.size; have := HB3.out.size; simp; omega) ?_; intro D4 d4 w4 hO4 hg4; have HO4 := Lib.hid hO4; have HG4 := Lib.hid hg4; clear hO4 hg4)
      have HB4 := Lib.hid (show Below w1.heap.size w1 w4 by
        have h1 := HB.out.trans (HB3.out.mono HB.out.size)
        have h2 := h1.trans ((alloc_ W3 (.cells (bc ⟨b.d, b.a, p2⟩) 42)).mono h1.size)
        exact h2.grown HG4.out h2.size fun j hj => (HO.out.lt j hj).1)
      go_roundw
      case rel => exact ⟨k + 1, d4, D4, w4, by omega, by rw [HR2.out, E3.out], rfl, by go_num, rfl, HB4, by rw [HN2.out]; exact HO4⟩
      case measure => simp [intOf]; omega
    · have hlt2 : ¬ ((k : Int) < (n : Int)) := by omega
      have HE := Lib.hid (show l.take k = l from List.take_of_length_le (by have := HL.out; omega))
      have HK := Lib.hid (show k = l.length by have := HL.out; omega)
      have HF := Lib.hid (show PaTo w l a (.returned (.tuple #[.slice D k d, .int .i64 (py (l.take k) a).2])) V by
        have ho := HO.out
        rw [HE.out] at ho ⊢
        have hl := py_len l a
        have hk : k = (py l a).1.length := by rw [hl]; exact HK.out
        have hb := HB.out
        refine ⟨.slice D k d, by rw [HV.out], D, d, ?_⟩
        rw [HV.out, ← hk]
        exact ⟨rfl, ho.raws.keep (fun _ _ => rfl) fun _ h => h.2, H1.out.trans (hb.mono H1.out.size)⟩)
      go_wp2
      go_ret2
      exact HF.out

end Bil
end Go.Proofs.YtncndofhecdgnaaDoor
