/-
  The program's Turned. Conditions: the bills read as a list.
-/
import Derived.Test.YtncndofhecdgnaaDoorBn
namespace Go.Proofs.YtncndofhecdgnaaDoor
open Go.RowKit
namespace Bil
set_option linter.unusedVariables false

theorem tc_arg {l : List Bi} {x y : Int} (h : ¬ (rt l = true ∧ 0 ≤ x ∧ x ≤ 4000000000000000000)) : tc l x y = 1 ∧ tl l x y = [] := by
  have e : tc l x y = 1 := by unfold tc; rw [if_neg h]
  exact ⟨e, by unfold tl; rw [e, if_neg (by decide)]⟩
theorem no_bills {w w' : World} {l : List Bi} {x y k : Int} (h : tc l x y = k ∧ tl l x y = []) (hb : Below w.heap.size w w') : TuTo w l x y (.returned (.tuple #[.slice none 0 0, .int .i64 k])) w' := by
  refine ⟨.slice none 0 0, by rw [h.1], none, 0, ?_⟩
  rw [h.2]
  exact ⟨rfl, Raws.nil, hb⟩
set_option maxRecDepth 100000 in
set_option maxHeartbeats 4000000 in
theorem turned_ (A : Option Addr) (n c : Nat) (l : List Bi) (x y : Int) (w : World) (hS : Raws w (· < w.heap.size) A n l) (hn : n ≤ 1000) (hx : In x) (hy : In y) : Calls Tryd.prog 21 #[.slice A n c, .int .i64 x, .int .i64 y] w (TuTo w l x y) := by
  have HS := Lib.hid hS
  have HL := Lib.hid hS.1
  have C := Lib.hid (right_ A n c l w hS hn)
  obtain ⟨R, hR⟩ : ∃ R, rt l = R := ⟨_, rfl⟩
  have HR := Lib.hid hR
  rw [hR] at C
  clear hS hR
  go_enter Tryd.func21, Tryd.ntmps21
  go_wp2_with fail
  refine C.out.mono ?_
  rintro e w1 ⟨rfl, hb1⟩
  have H1 := Lib.hid hb1
  clear C hb1
  cases R
  · have HF := Lib.hid (no_bills (k := 1) (tc_arg (x := x) (y := y) (l := l) fun h => by rw [HR.out] at h; simp at h) H1.out)
    go_wp2
    go_ret2
    exact HF.out
  have C := Lib.hid (isSum_ x w1)
  by_cases h0 : 0 ≤ x ∧ x ≤ 4000000000000000000
  case neg =>
    rw [decide_eq_false h0] at C
    have HF0 := Lib.hid (tc_arg (x := x) (y := y) (l := l) fun h => h0 h.2)
    clear h0
    go_wp2_with fail
    refine C.out.mono ?_
    rintro e w2 ⟨rfl, hb2⟩
    have HF := Lib.hid (no_bills HF0.out (H1.out.trans (hb2.mono H1.out.size)))
    clear C hb2
    go_wp2
    go_ret2
    exact HF.out
  rw [decide_eq_true h0] at C
  have H0 := Lib.hid h0
  clear h0
  go_wp2_with fail
  refine C.out.mono ?_
  rintro e w2 ⟨rfl, hb2⟩
  have H2 := Lib.hid (H1.out.trans (hb2.mono H1.out.size))
  have C := Lib.hid (clone_ A n c l w2 (HS.out.below H2.out) hn)
  clear hb2 H1
  go_wp2_with fail
  refine C.out.mono ?_
  rintro e w3 ⟨A3, c3, rfl, hO, hb3⟩
  have H3 := Lib.hid (H2.out.trans (hb3.mono H2.out.size))
  have HO := Lib.hid hO
  have C := Lib.hid (dueBy_ A n c l y w3 (HS.out.below H3.out) hn)
  have hr := rt_iff.1 HR.out
  have hp := rg_pb hr.2
  have ha := rg_sum (by omega) hr.2
  have hd := db_parts (y := y) (rg_dy hr.2)
  have hk := db_len y l
  have HRZ := Lib.hid (fun z : Int => tn_rz (x := z) (y := y) (rg_dy hr.2))
  obtain ⟨k, hdk⟩ : ∃ k, db y l = k := ⟨_, rfl⟩
  have HDB := Lib.hid hdk
  rw [hdk] at C hd hk HRZ
  have hln : l.length = n := HL.out
  rw [hln] at hd HRZ
  have hkn : k ≤ n := by omega
  have hcap : n ≤ c3 := hO.cap
  have b1 := am_nonneg (pb_take hp k)
  have b3 := am_parts l k
  have b4 := am_nonneg (pb_drop hp k)
  have b5 := pd_le (pb_drop hp k)
  have HPT := Lib.hid (show (Pb (l.take k) ∧ am (l.take k) ≤ 4000000000000000000) ∧ Pb (l.drop k) ∧ am (l.drop k) ≤ 4000000000000000000 from ⟨⟨pb_take hp k, by omega⟩, pb_drop hp k, by omega⟩)
  have HPB := Lib.hid (show ∀ b ∈ l, 0 ≤ b.p ∧ b.p ≤ 4000000000000000000 from fun b hb => by
    have h1 := hp b hb
    have h2 : pd l ≤ am l := (pd_le hp).2
    obtain ⟨j, hj, e⟩ := List.getElem_of_mem hb
    have hx : l[j]? = some b := by rw [List.getElem?_eq_getElem hj, e]
    have h3 := am_parts l (j + 1)
    rw [am_more hx] at h3
    have h4 := am_nonneg (pb_take hp j)
    have h5 := am_nonneg (pb_drop hp (j + 1))
    omega)
  have hkc : k ≤ c3 := by omega
  have HK := Lib.hid (And.intro hkn hcap)
  obtain ⟨st, hst⟩ : ∃ st, am (l.take k) = st := ⟨_, rfl⟩
  obtain ⟨sp, hsp⟩ : ∃ sp, pd (l.take k) = sp := ⟨_, rfl⟩
  obtain ⟨lpd, hlpd⟩ : ∃ z, pd (l.drop k) = z := ⟨_, rfl⟩
  obtain ⟨lam, hlam⟩ : ∃ z, am (l.drop k) = z := ⟨_, rfl⟩
  have HXZ := Lib.hid (And.intro (And.intro hst hsp) (And.intro hlam hlpd))
  rw [hst] at hd b1 b3
  rw [hlpd] at hd b5
  rw [hlam] at b3 b4 b5
  obtain ⟨re, hre⟩ : ∃ re, x - st = re := ⟨_, rfl⟩
  have hx0 := H0.out
  have HT := Lib.hid (show tc l x y = (if n - k = 0 then (if re = 0 then 0 else 10) else (if re < lpd then 2 else 0)) by
    unfold tc
    rw [if_pos ⟨HR.out, hx0⟩, hd.1, hd.2.1, hd.2.2.1, hre])
  have HTL := Lib.hid (show tl l x y = if tc l x y = 0 then tn y (re - lpd) ((n - k : Nat) : Int) 0 l else [] by
    unfold tl
    rw [hd.2.1, hd.2.2.1, hd.1, hre])
  have EW := Lib.hid (show wrap64 (x - st) = re by rw [hre]; exact IntWalk.wrap64_in _ ⟨by omega, by omega⟩)
  have hbd : -4000000000000000000 ≤ re ∧ re ≤ 4000000000000000000 ∧ 0 ≤ lpd ∧ lpd ≤ 4000000000000000000 := by omega
  have HBD := Lib.hid hbd
  have k1 : (0 : Int) ≤ (k : Int) := by omega
  have k2 : (k : Int) ≤ (c3 : Int) := by omega
  have k3 : (k : Int) ≤ (n : Int) := by omega
  clear hr hp ha hd hk hdk b1 b3 b4 b5 hst hsp hlpd hlam hre hx0 hbd hO hb3 hln hcap
  go_wp2_with fail
  refine C.out.mono ?_
  rintro e w4 ⟨rfl, hb4⟩
  have H4 := Lib.hid (H3.out.trans (hb4.mono H3.out.size))
  have HO4 := Lib.hid (HO.out.below hb4)
  clear hb4 H3 HO
  have C := Lib.hid (sums_ A3 k c3 (l.take k) w4 (raws_take (HO4.out.raws.keep (fun _ _ => rfl) fun _ h => h.2) HK.out.1) (by have := HK.out; omega) HPT.out.1.1 HPT.out.1.2)
  rw [HXZ.out.1.1, HXZ.out.1.2] at C
  go_wp2_with fail
  refine C.out.mono ?_
  rintro e w5 ⟨rfl, hb5⟩
  have H5 := Lib.hid (H4.out.trans (hb5.mono H4.out.size))
  have HO5 := Lib.hid (HO4.out.below (hb5.mono (Nat.le_refl _)))
  clear hb5 H4 HO4 C
  by_cases hkn2 : k = n
  · have HF1 := Lib.hid (fun h : re = 0 => (show TuTo w l x y (.returned (.tuple #[.slice A3 n c3, .int .i64 0])) w5 by
      have h1 : tc l x y = 0 := by rw [HT.out, hkn2, Nat.sub_self, if_pos rfl, if_pos h]
      have h2 : tl l x y = l := by
        rw [HTL.out, if_pos h1]
        have h3 := HRZ.out (re - lpd)
        rw [← h3, hkn2, Nat.sub_self, rz_zero, lw_zero]
      refine ⟨.slice A3 n c3, by rw [h1], A3, c3, ?_⟩
      rw [h2]
      exact ⟨by rw [HL.out], by rw [HL.out]; exact HO5.out.raws.keep (fun _ _ => rfl) fun _ h => h.2, H5.out⟩))
    have HF2 := Lib.hid (fun h : re ≠ 0 => no_bills (w := w) (w' := w5) (l := l) (x := x) (y := y) (k := 10) (by
      have h1 : tc l x y = 10 := by rw [HT.out, hkn2, Nat.sub_self, if_pos rfl, if_neg h]
      exact ⟨h1, by rw [HTL.out, h1, if_neg (by decide)]⟩) H5.out)
    subst hkn2
    have ew := EW.out
    by_cases hre : re = 0
    · have HF := Lib.hid (HF1.out hre)
      subst hre
      clear HF1 HF2
      go_wp2
      all_goals
        go_ret2
        first
        | exact HF.out
        | (have hh : c3 = k := by assumption
           rw [hh] at HF
           exact HF.out)
    · have HF := Lib.hid (HF2.out hre)
      have u1 : decide (re = 0) = false := decide_eq_false hre
      have u2 : (re == 0) = false := beq_eq_false_iff_ne.2 hre
      have u3 : (re != 0) = true := bne_iff_ne.2 hre
      clear HF1 HF2 hre
      go_wp2
      all_goals
        go_ret2
        first
        | exact HF.out
        | (have hh : c3 = k := by assumption
           rw [hh] at HF
           exact HF.out)
  obtain ⟨g, rfl, _⟩ : ∃ g, A3 = some ⟨g, 0, none⟩ ∧ True := by
    rcases own_cases HO5.out with h | ⟨g, e, _⟩
    · have := HK.out; omega
    · exact ⟨g, e, trivial⟩
  have HW5 := Lib.hid (show Wr w w5 g l from ⟨HO5.out.blk, Nat.le_trans H2.out.size (HO5.out.lt g rfl).1, H5.out⟩)
  have hn0 : ¬ (n - k = 0) := by have := HK.out; omega
  have hck : ¬ (c3 = k) := by have := HK.out; omega
  obtain ⟨m, hm⟩ : ∃ m, n - k = m := ⟨_, rfl⟩
  have HM := Lib.hid hm
  have hm0 : 0 < m := by omega
  have hm1 : m ≤ 1000 := by omega
  have HMB := Lib.hid (And.intro hm0 hm1)
  have HKM := Lib.hid (show k + m = n by have := HK.out; omega)
  rw [hm] at HT HTL HRZ
  rw [if_neg (by omega)] at HT
  have HSR := Lib.hid (show Raws w5 (· < w5.heap.size) (some ⟨g, k * 3, none⟩) m (l.drop k) by
    have h := (HW5.out.b.drop k).raws
    rw [Nat.zero_add, List.length_drop, HL.out, HM.out] at h
    exact h.keep (fun _ _ => rfl) fun b e => by rw [e]; exact HW5.out.b.lt)
  have C := Lib.hid (sums_ (some ⟨g, k * 3, none⟩) m (c3 - k) (l.drop k) w5 HSR.out hm1 HPT.out.2.1 HPT.out.2.2)
  rw [HXZ.out.2.1, HXZ.out.2.2] at C
  have ew := EW.out
  have m0 : ¬ (m = 0) := by omega
  have m1 : decide (m = 0) = false := decide_eq_false m0
  have m2 : decide ((m : Int) = 0) = false := decide_eq_false (by omega)
  clear hm hn0 HSR
  have hmk : n - k = m := HM.out
  go_wp2_with fail
  refine C.out.mono ?_
  rintro e w6 ⟨rfl, hb6⟩
  have HW6 := Lib.hid (show Wr w w6 g l from ⟨HW5.out.b.below hb6 HW5.out.b.lt, HW5.out.lo, HW5.out.be.trans (hb6.mono HW5.out.be.size)⟩)
  clear hb6 HW5 C HO5 H5
  by_cases hlr : re < lpd
  · have HF := Lib.hid (no_bills (w := w) (w' := w6) (l := l) (x := x) (y := y) (k := 2) (by
      have h1 : tc l x y = 2 := by rw [HT.out, if_pos hlr]
      exact ⟨h1, by rw [HTL.out, h1, if_neg (by decide)]⟩) HW6.out.be)
    have u1 : decide (re < lpd) = true := decide_eq_true hlr
    clear hlr
    go_wp2
    go_ret2
    exact HF.out
  have u1 : decide (re < lpd) = false := decide_eq_false hlr
  obtain ⟨z, hz⟩ : ∃ z, re - lpd = z := ⟨_, rfl⟩
  have HZ := Lib.hid hz
  have EZ := Lib.hid (show wrap64 (re - lpd) = z ∧ 0 ≤ z ∧ z ≤ 4000000000000000000 by
    have := HBD.out
    exact ⟨by rw [hz]; exact IntWalk.wrap64_in _ ⟨by omega, by omega⟩, by omega, by omega⟩)
  have HTC := Lib.hid (show tc l x y = 0 by rw [HT.out, if_neg hlr])
  have HTN := Lib.hid (show tl l x y = rz z (m : Int) k m (lw k m l) by rw [HTL.out, if_pos HTC.out, hz, HRZ.out z])
  have HW0 := Lib.hid (show Wr w w6 g (lw k 0 l) by rw [lw_zero]; exact HW6.out)
  clear hlr hz HW6
  go_wp2
  go_loopw [59] (fun vi w' => ∃ (j : Nat) (V : World), j ≤ m ∧ vi = .int .i64 (j : Int) ∧ V = w' ∧ Hid (Wr w V g (lw k j l))) (fun vi _ => m - (intOf vi).toNat)
  case atStart => exact ⟨0, w6, Nat.zero_le _, rfl, rfl, HW0⟩
  case round =>
    clear HW0
    obtain ⟨j, V, hj, rfl, rfl, HW⟩ := hrel
    by_cases hlt : j < m
    · have hlt2 : (j : Int) < (m : Int) := by omega
      have hm9 : m ≤ 1000 := HMB.out.2
      obtain ⟨b, hx⟩ : ∃ b, l[k + j]? = some b := ⟨_, List.getElem?_eq_getElem (by have := HL.out; have := HKM.out; omega)⟩
      have hg := lw_get (k := k) (j := j) hx
      rw [if_neg (by omega)] at hg
      have cp := HW.out.b.p hg
      have cf := HW.out.b.f (k * 3 + j * 3 + 1)
      rw [show 0 + (k + j) * 3 + 2 = k * 3 + j * 3 + 2 by omega] at cp
      have HW2 := Lib.hid (show Wr w (V.setCell ⟨g, k * 3 + j * 3 + 1, none⟩ (.int .i64 b.p)) g (lw k (j + 1) l) from ⟨by
        have h := HW.out.b.putA hg b.p
        rw [lw_next hx, show 0 + (k + j) * 3 + 1 = k * 3 + j * 3 + 1 by omega] at h
        exact h, HW.out.lo, HW.out.be.setCell (p := ⟨g, k * 3 + j * 3 + 1, none⟩) HW.out.lo _⟩)
      have ca := HW.out.b.a hg
      rw [show 0 + (k + j) * 3 + 1 = k * 3 + j * 3 + 1 by omega] at ca
      clear hx hg
      go_wp2
      go_roundw
      case rel => exact ⟨j + 1, _, by omega, by go_num, rfl, HW2⟩
      case measure => simp [intOf]; omega
    · obtain rfl : j = m := by omega
      have C := Lib.hid (deal_ z j g (k * 3) k (c3 - k) (lw k j l) V EZ.out.2 ⟨HMB.out.1, HMB.out.2⟩ rfl (by rw [lw_len, HL.out]; exact HKM.out) HW.out.b (fun b hb => by
        obtain ⟨i, hi, e⟩ := List.getElem_of_mem hb
        have hi2 : i < l.length := by rw [lw_len] at hi; exact hi
        have hx : l[i]? = some l[i] := List.getElem?_eq_getElem hi2
        have h1 := lw_get (k := k) (j := j) hx
        rw [List.getElem?_eq_getElem hi, e] at h1
        injection h1 with h1
        have h2 := HPB.out l[i] (List.getElem_mem hi2)
        have h3 : l[i].a ≤ 4000000000000000000 ∧ 0 ≤ l[i].a := by
          have hr := rt_iff.1 HR.out
          have hp := rg_pb hr.2
          have ha := rg_sum (by omega) hr.2
          have h4 := am_parts l (i + 1)
          rw [am_more hx] at h4
          have h5 := am_nonneg (pb_take hp i)
          have h6 := am_nonneg (pb_drop hp (i + 1))
          have h7 := hp l[i] (List.getElem_mem hi2)
          omega
        rw [h1]
        split
        · exact h2
        · omega))
      have ez := EZ.out.1
      go_wp2_with fail
      refine C.out.mono ?_
      rintro e w7 ⟨rfl, hD⟩
      have HF := Lib.hid (show TuTo w l x y (.returned (.tuple #[.slice (some ⟨g, 0, none⟩) n c3, .int .i64 0])) w7 by
        refine ⟨.slice (some ⟨g, 0, none⟩) n c3, by rw [HTC.out], some ⟨g, 0, none⟩, c3, ?_⟩
        have hl : (rz z (j : Int) k j (lw k j l)).length = n := by rw [rz_len, lw_len, HL.out]
        rw [HTN.out, hl]
        have h := hD.b.raws
        rw [hl] at h
        exact ⟨rfl, h.keep (fun _ _ => rfl) fun b e => by rw [e]; exact hD.b.lt, HW.out.be.grown hD.gr HW.out.be.size (fun i hi => by injection hi with hi; subst hi; exact HW.out.lo)⟩)
      clear hD
      go_wp2
      go_ret2
      exact HF.out

end Bil
end Go.Proofs.YtncndofhecdgnaaDoor
