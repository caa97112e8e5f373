/-
  The parts R14, R15, R15w, R15k, R15d of this proof. Conditions: those of each theorem.
-/
import Derived.Test.YtfidmphajohljaaGreatHq
import Derived.Test.YtfidmphajohljaaGreatMAcB
import Derived.Test.YtfidmphajohljaaGreatKAcP
import Derived.Test.YtfidmphajohljaaGreatMRda
import Derived.Test.YtfidmphajohljaaGreatMRb
import Derived.Test.YtfidmphajohljaaGreatKChP
import Derived.Test.YtfidmphajohljaaGreatKInv
set_option maxRecDepth 100000
set_option maxHeartbeats 4000000
set_option linter.unusedVariables false
namespace Go.Proofs.YtfidmphajohljaaGreat
open Go.RowKit Ba Cv Sp Te Ag Sl Slc
open Tm hiding Nin Own Raws Rw cel cel_append cel_cell cel_get cel_length cel_one cl nin_back nin_of own_of_row raws_own run_app step_app vc vg wpList_app zc
namespace Acr
theorem right14 (A : Option Addr) (n c : Nat) (rs : List Slc.Rw) (w : World) (S : Raws w (· < w.heap.size) A n rs) (hn : n ≤ 1100) : Calls Tryz.prog 61 #[.slice A n c] w (Yes w (may (rs.map Slc.Rw.v))) := by
 have HS := qh S; have HN := qh hn; have HLe := qh S.1; have t0 : decide ((2000 : Int) < (n : Int)) = false := decide_eq_false (by omega); clear S hn; go_enter Tryz.func61, Tryz.ntmps61; go_wp2
 go_loopw [3, 4] (fun z i w' => ∃ (k : Nat) (e : Int) (W1 : World), k ≤ n ∧ z = .int .i64 e ∧ i = .int .i64 (k : Int) ∧ W1 = w' ∧ 1 ≤ e ∧ Hid (Below w.heap.size w W1) ∧ Hid (rr 1 (rs.map Slc.Rw.v) = rr e ((rs.drop k).map Slc.Rw.v))) (fun _ i _ => n - (intOf i).toNat)
 case atStart => exact ⟨0, 1, _, Nat.zero_le _, rfl, rfl, rfl, Int.le_refl _, qh (Below.refl _ _), qh rfl⟩
 case round =>
  obtain ⟨k, e, W1, hk, rfl, rfl, rfl, he1, HB, HR⟩ := hrel; by_cases hlt : k < n
  ·obtain ⟨ad, r, rfl, hb, hr, N⟩ := (HS.out.below HB.out).get hlt; have hlt2 : (k : Int) < (n : Int) := by omega
   have HR2 := qh (HR.out.trans (by rw [drop_get' hr, List.map_cons])); obtain ⟨⟨⟨s1, s2⟩, hh, y⟩, rA, rn, rc⟩ := r; obtain ⟨c0, c1', c2, c3, c4, c5, c6, c7, c8⟩ := N; simp only at c0 c1' c8; clear c2 c3 c4 c5 c6 c7; obtain ⟨W2, hW2⟩ : ∃ W2, W1.alloc (.cells #[.int .i64 s1, .int .i64 s2] 23) = W2 := ⟨_, rfl⟩; have hb2 : Below W1.heap.size W1 W2 := hW2 ▸ alloc_ _ _; have HB2 := qh (HB.out.trans (hb2.mono HB.out.size)); have HX2 := qh (show Bx W2 W1.heap.size 23 #[.int .i64 s1, .int .i64 s2] from hW2 ▸ Bx.new W1 _ _); have HW2 := qh hW2; have CF := qh (full4 (s1, s2) W2); have hbk : (ad.add (k * 9)).block < W1.heap.size := by rw [add_block]; exact hb
   have d8 := (hb2.cell (p := ⟨(ad.add (k * 9)).block, (ad.add (k * 9)).off + 8, none⟩) hbk).trans c8; have hbk2 : (ad.add (k * 9)).block < W2.heap.size := Nat.lt_of_lt_of_le hbk hb2.size; have x0 := HX2.out.c 0; have x1 := HX2.out.c 1; simp at x0 x1; obtain ⟨g, hg⟩ : ∃ g, W1.heap.size = g := ⟨_, rfl⟩; rw [hg] at HX2 x0 x1; have HGg := qh hg; clear hr hb hb2 hW2 c8 hbk hg
   go_upto_region 8 with fail
   rw [HW2.out, HGg.out]; clear HW2 c0 c1' HGg
   go_wp2_with fail
   refine CF.out.mono ?_; rintro e' w3 ⟨rfl, hb⟩; have HB3 := qh (HB2.out.trans (hb.mono HB2.out.size)); have HX3 := qh (HX2.out.keep hb); have e8 := (hb.cell (p := ⟨(ad.add (k * 9)).block, (ad.add (k * 9)).off + 8, none⟩) hbk2).trans d8; clear hb x0 x1 d8 hbk2 CF; have x0 := HX3.out.c 0; have x1 := HX3.out.c 1; simp at x0 x1; cases hq : ful4 (s1, s2)
   ·have HO := qh (show one ⟨(s1, s2), hh, y⟩ e = false from decide_eq_false (fun h => of_decide_eq_false hq ⟨Int.le_trans he1 h.1, h.2.1, h.2.2.1⟩)); go_wp2; go_ret; exact ⟨by rw [one_false HR2.out HO.out]; rfl, HB3.out⟩
   have hqs := of_decide_eq_true hq; simp only at hqs; by_cases hq2 : e ≤ s1
   case neg =>
    have t2 : decide (s1 < e) = true := decide_eq_true (by omega); have HO := qh (show one ⟨(s1, s2), hh, y⟩ e = false from decide_eq_false (fun h => hq2 h.1)); clear hqs hq2; go_wp2; go_ret; exact ⟨by rw [one_false HR2.out HO.out]; rfl, HB3.out⟩
   have t2 : decide (s1 < e) = false := decide_eq_false (by omega); by_cases hy : 0 ≤ y
   case neg =>
    have t3 : decide (y < 0) = true := decide_eq_true (by omega); have HO := qh (show one ⟨(s1, s2), hh, y⟩ e = false from decide_eq_false (fun h => hy h.2.2.2.1)); clear hqs hq2 hy; go_wp2; go_ret; exact ⟨by rw [one_false HR2.out HO.out]; rfl, HB3.out⟩
   have t3 : decide (y < 0) = false := decide_eq_false (by omega); by_cases hy2 : y ≤ 4000000000000000000
   case neg =>
    have t4 : decide ((4000000000000000000 : Int) < y) = true := decide_eq_true (by omega); have HO := qh (show one ⟨(s1, s2), hh, y⟩ e = false from decide_eq_false (fun h => hy2 h.2.2.2.2)); clear hqs hq2 hy hy2; go_wp2; go_ret; exact ⟨by rw [one_false HR2.out HO.out]; rfl, HB3.out⟩
   have t4 : decide ((4000000000000000000 : Int) < y) = false := decide_eq_false (by omega)
   have HR3 := qh (show rr 1 (rs.map Slc.Rw.v) = rr s2 ((rs.drop (k + 1)).map Slc.Rw.v) by
    rw [HR2.out, rr_cons, show one ⟨(s1, s2), hh, y⟩ e = true from decide_eq_true ⟨hq2, hqs.2.1, hqs.2.2, hy, hy2⟩, Bool.true_and])
   have hs2 : 1 ≤ s2 := by omega
   have hkw : (k : Int) < 1100 := by have := HN.out; omega
   clear hqs hq2 hy hy2 HR HR2; go_wp2; go_roundw
   case rel => exact ⟨k + 1, s2, _, by omega, rfl, by go_num, rfl, hs2, HB3, HR3⟩
   case measure => simp [intOf]; omega
  ·have hlt2 : ¬ ((k : Int) < (n : Int)) := by omega
   have HRn := qh (show may (rs.map Slc.Rw.v) = true by
    have h := HR.out; rw [show k = n by omega, List.drop_of_length_le (by have := HLe.out; omega)] at h; exact may_iff.2 ⟨by have h1 := HLe.out; have h2 := HN.out; simp; omega, rr_iff.1 h⟩)
   go_wp2; go_ret; exact ⟨by rw [HRn.out]; rfl, HB.out⟩
theorem ern_take {l : List Sc} {d : Int} {e : Int} (h : Rr e l) (k : Nat) : ern (l.take k) d ≤ ern l d := by
 have e1 := ern_append (l.take k) (l.drop k) d; rw [List.take_append_drop] at e1; have h2 : Rr e (l.take k ++ l.drop k) := by rw [List.take_append_drop]; exact h
 obtain ⟨_, t, _, _, h3⟩ := Rr.append.1 h2; have := ern_nonneg h3 (d := d); omega
theorem wk_day {x : Sc} {d : Int} (h1 : 1 ≤ x.s.1) : wk x d = max 0 (min x.s.2 (max d 1) - x.s.1) * x.y := by
 unfold wk; by_cases hd : 1 ≤ d
 ·rw [show max d 1 = d by omega]
 ·rw [show max d 1 = 1 by omega, show max 0 (min x.s.2 d - x.s.1) = 0 by omega, show max 0 (min x.s.2 1 - x.s.1) = 0 by omega]
theorem upto14 (A : Option Addr) (n c : Nat) (rs : List Slc.Rw) (d : Int) (w : World) (S : Raws w (· < w.heap.size) A n rs) (hn : n ≤ 1100) : Calls Tryz.prog 63 #[.slice A n c, .int .i64 d] w (UpTo w (rs.map Slc.Rw.v) d) := by
 have CR := qh (right14 A n c rs w S hn); have HS := qh S; have HN := qh hn; have HLe := qh S.1; clear S hn; obtain ⟨l, hl⟩ : ∃ l, rs.map Slc.Rw.v = l := ⟨_, rfl⟩; have HLL := qh hl; rw [hl] at CR ⊢; have HLn := qh (show l.length = n by rw [← hl, List.length_map]; exact HLe.out); clear hl; unfold UpTo; go_enter Tryz.func63, Tryz.ntmps63
 go_wp2_with fail
 refine CR.out.mono ?_; rintro e w1 ⟨rfl, hb⟩; have H1 := qh hb; clear hb CR; cases hm : may l
 ·have hu := up_no (d := d) hm; have hv := upv_no (l := l) (d := d) (by rw [hu]; decide); have HU := qh hu; have HV := qh hv; clear hu hv hm; go_wp2; go_ret2; exact ⟨by rw [HU.out, HV.out]; rfl, H1.out⟩
 have HM := qh hm; clear hm; go_wp2
 go_loopw [7, 8] (fun z i w' => ∃ (k nd : Nat) (s : Int), k ≤ n ∧ z = .int .i64 s ∧ i = .int .i64 (k : Int) ∧ 0 ≤ s ∧ s ≤ 4000000000000000000 ∧ w' = w1.drewN nd ∧ Hid (s = ern (l.take k) d)) (fun _ i _ => n - (intOf i).toNat)
 case atStart => exact ⟨0, 0, 0, Nat.zero_le _, rfl, rfl, Int.le_refl _, by omega, rfl, qh rfl⟩
 case round =>
  obtain ⟨k, nd, s, hk, rfl, rfl, hs0, hs1, rfl, HE⟩ := hrel; by_cases hlt : k < n
  ·obtain ⟨ad, r, rfl, hb, hr, N⟩ := (HS.out.below H1.out).get hlt; have hlt2 : (k : Int) < (n : Int) := by omega
   have hlr : l[k]? = some r.v := by rw [← HLL.out, List.getElem?_map, hr]; rfl
   have hmem := (may_iff.1 HM.out).2.mem r.v (List.mem_of_getElem? hlr)
   have HT := qh (show ern (l.take (k + 1)) d = s + max 0 (min r.v.s.2 (max d 1) - r.v.s.1) * r.v.y by
    rw [Stm.take_more hlr, ern_append, ← HE.out, ern, ern, wk_day hmem.1]; omega)
   have HTL := qh (ern_take (may_iff.1 HM.out).2 (k + 1) (d := d)); obtain ⟨⟨⟨s1, s2⟩, hh, y⟩, rA, rn, rc⟩ := r; obtain ⟨c0, c1', c2, c3, c4, c5, c6, c7, c8⟩ := N; simp only at c0 c1' c8 hmem HT; obtain ⟨D, hD⟩ : ∃ D, max d 1 = D := ⟨_, rfl⟩; rw [hD] at HT; obtain ⟨t, ht⟩ : ∃ t, min s2 D = t := ⟨_, rfl⟩; rw [ht] at HT; obtain ⟨m, hm⟩ : ∃ m, t - s1 = m := ⟨_, rfl⟩; rw [hm] at HT; have hm1 : -292195 ≤ m ∧ m ≤ 292195 := by omega
   have hwm : IntKind.i64.wrap m = m := IntWalk.i64_in _ (by omega); have hwm2 : wrap64 m = m := IntWalk.wrap64_in _ (by omega); have hkw : (k : Int) < 1100 := by have := HN.out; omega
   have HMB := qh hmem; clear c2 c3 c4 c5 c6 c7 hr hlr hb hmem; by_cases hm0 : m ≤ 0
   ·have t1 : decide (m ≤ 0) = true := decide_eq_true hm0; have HE2 := qh (show s = ern (l.take (k + 1)) d by rw [HT.out, show max 0 m = 0 by omega]; omega); clear hm0; go_wp2
    go_quiet (fail)
    go_wp2; go_roundw
    case rel => exact ⟨k + 1, _, s, by omega, rfl, by go_num, hs0, hs1, rfl, HE2⟩
    case measure => simp [intOf]; omega
   ·have t1 : decide (m ≤ 0) = false := decide_eq_false hm0; obtain ⟨R, hR⟩ : ∃ R, 4000000000000000000 - s = R := ⟨_, rfl⟩; obtain ⟨P, hP⟩ : ∃ P, m * y = P := ⟨_, rfl⟩; have hR0 : 0 ≤ R := by omega
    have hdiv := Stm.div_le (R := R) (D := m) (S := y) (P := P) (by omega) hR0 (by rw [Int.mul_comm]; exact hP); have hP0 : 0 ≤ P := by rw [← hP]; exact Int.mul_nonneg (by omega) HMB.out.2.2.2.1
    obtain ⟨q, hq⟩ : ∃ q, R / m = q := ⟨_, rfl⟩; have hqt : R.tdiv m = q := by rw [Int.tdiv_eq_ediv_of_nonneg hR0]; exact hq
    have hq0 : 0 ≤ q := by rw [← hq]; exact Int.ediv_nonneg hR0 (by omega)
    have hq1 : q ≤ R := by rw [← hq]; exact Int.ediv_le_self _ hR0
    rw [hq] at hdiv; have HT2 := qh (show ern (l.take (k + 1)) d = s + P by rw [HT.out, show max 0 m = m by omega, hP]); have hwR : IntKind.i64.wrap R = R := IntWalk.i64_in _ (by omega); have hwq : IntKind.i64.wrap q = q := IntWalk.i64_in _ (by omega); have tm : (m == 0) = false := by rw [beq_eq_false_iff_ne]; omega
    have tm2 : (m == -1) = false := by rw [beq_eq_false_iff_ne]; omega
    have tm3 : ¬ m = 0 := by omega
    by_cases ho : R < P
    ·have tq : decide (q < y) = true := decide_eq_true (hdiv.2 ho); have HO := qh (show 4000000000000000000 < ern l d by have h1 := HT2.out; have h2 := HTL.out; omega); clear ho hdiv hP hq hP0 hm0; go_wp2
     go_quiet (fail)
     go_wp2
     go_quiet (fail)
     go_wp2; go_ret2; exact ⟨by rw [upv_no (by rw [up_over HM.out HO.out]; decide), up_over HM.out HO.out]; rfl, H1.out.trans ⟨rfl, rfl, rfl, Nat.le_refl _, fun _ _ => rfl⟩⟩
    ·have tq : decide (q < y) = false := decide_eq_false (fun h => ho (hdiv.1 h)); obtain ⟨s', hs'⟩ : ∃ s', s + P = s' := ⟨_, rfl⟩; have HE2 := qh (show s' = ern (l.take (k + 1)) d by rw [HT2.out]; exact hs'.symm); have hs2 : 0 ≤ s' ∧ s' ≤ 4000000000000000000 := by omega
     have hwP : wrap64 P = P := IntWalk.wrap64_in _ (by omega); have hws : wrap64 s' = s' := IntWalk.wrap64_in _ (by omega); clear ho hdiv hq hP0 hm0; go_wp2
     go_quiet (fail)
     go_wp2
     go_quiet (fail)
     go_wp2; go_roundw
     case rel => exact ⟨k + 1, _, s', by omega, rfl, by go_num, hs2.1, hs2.2, rfl, HE2⟩
     case measure => simp [intOf]; omega
  ·have hlt2 : ¬ ((k : Int) < (n : Int)) := by omega
   have HE2 := qh (show ern l d = s by rw [HE.out, List.take_of_length_le (by have := HLn.out; omega)]); obtain ⟨q, hq⟩ : ∃ q, Int.tdiv s 365 = q := ⟨_, rfl⟩; obtain ⟨r, hr⟩ : ∃ r, Int.tmod s 365 = r := ⟨_, rfl⟩; have hqe : s / 365 = q := by rw [← hq, Int.tdiv_eq_ediv_of_nonneg hs0]
   have hre : s % 365 = r := by rw [← hr, Int.tmod_eq_emod_of_nonneg hs0]
   have HV := qh (show upc l d = 0 ∧ upv l d = hf s by have h := up_yes (d := d) HM.out (by rw [HE2.out]; exact hs1); rw [HE2.out] at h; exact h); have hwq : wrap64 q = q := IntWalk.wrap64_in _ (by omega); have hwr : wrap64 r = r := IntWalk.wrap64_in _ (by omega); by_cases h2 : 182 < r
   ·have t1 : decide (182 < r) = true := decide_eq_true h2; have HF := qh (show hf s = q + 1 by unfold hf; omega); have hwq1 : wrap64 (q + 1) = q + 1 := IntWalk.wrap64_in _ (by omega); clear hqe hre h2 HE; go_wp2; go_ret2; exact ⟨by rw [HV.out.1, HV.out.2, HF.out]; rfl, H1.out.trans ⟨rfl, rfl, rfl, Nat.le_refl _, fun _ _ => rfl⟩⟩
   ·have t1 : decide (182 < r) = false := decide_eq_false h2; have HF := qh (show hf s = q by unfold hf; omega); clear hqe hre h2 HE; go_wp2; go_ret2; exact ⟨by rw [HV.out.1, HV.out.2, HF.out]; rfl, H1.out.trans ⟨rfl, rfl, rfl, Nat.le_refl _, fun _ _ => rfl⟩⟩
theorem written14 (A : Option Addr) (n c : Nat) (rs : List Slc.Rw) (w : World) (S : Raws w (· < w.heap.size) A n rs) (hn : n ≤ 1100) : Calls Tryz.prog 34 #[.slice A n c] w (UpTo w (rs.map Slc.Rw.v) 292195) := by
 have C := qh (upto14 A n c rs 292195 w S hn); clear S hn; unfold UpTo at C ⊢; obtain ⟨x, hx⟩ : ∃ x, upv (rs.map Slc.Rw.v) 292195 = x := ⟨_, rfl⟩; obtain ⟨y, hy⟩ : ∃ y, upc (rs.map Slc.Rw.v) 292195 = y := ⟨_, rfl⟩; rw [hx, hy] at C ⊢; clear hx hy; go_enter Tryz.func34, Tryz.ntmps34
 go_wp2_with fail
 refine C.out.mono ?_; rintro e w1 ⟨rfl, hb⟩; go_wp2; go_ret2; exact ⟨rfl, hb⟩
theorem right3 (x : Sp) (w : World) : Calls Tryz.prog 62 #[sg x] w fun e w' => e = .returned (.bool (rt x)) ∧ Below w.heap.size w w' := by
 obtain ⟨a, b⟩ := x; by_cases h1 : 1 ≤ a
 ·have t1 : decide (1 ≤ a) = true := by simpa using h1
  by_cases h2 : a ≤ b
  ·have t2 : decide (a ≤ b) = true := by simpa using h2
   by_cases h3 : b ≤ 292195
   ·have t3 : decide (b ≤ 292195) = true := by simpa using h3
    rw [(rt_iff (a, b)).2 ⟨h1, h2, h3⟩]; clear h1 h2 h3; go_enter Tryz.func62, Tryz.ntmps62; go_wp2; go_ret; exact ⟨rfl, (Below.refl _ _).alloc (Nat.le_refl _) _⟩
   ·have t3 : decide (b ≤ 292195) = false := by simpa using h3
    rw [(rt_not (a, b)).2 (by simp only; omega)]; clear h1 h2 h3; go_enter Tryz.func62, Tryz.ntmps62; go_wp2; go_ret; exact ⟨rfl, (Below.refl _ _).alloc (Nat.le_refl _) _⟩
  ·have t2 : decide (a ≤ b) = false := by simpa using h2
   rw [(rt_not (a, b)).2 (by simp only; omega)]; clear h1 h2; go_enter Tryz.func62, Tryz.ntmps62; go_wp2; go_ret; exact ⟨rfl, (Below.refl _ _).alloc (Nat.le_refl _) _⟩
 ·have t1 : decide (1 ≤ a) = false := by simpa using h1
  rw [(rt_not (a, b)).2 (by simp only; omega)]; clear h1; go_enter Tryz.func62, Tryz.ntmps62; go_wp2; go_ret; exact ⟨rfl, (Below.refl _ _).alloc (Nat.le_refl _) _⟩
theorem between14 (A : Option Addr) (n c : Nat) (rs : List Slc.Rw) (s1 s2 : Int) (w : World) (S : Raws w (· < w.heap.size) A n rs) (hn : n ≤ 1100) : Calls Tryz.prog 33 #[.slice A n c, sg (s1, s2)] w (BtTo w (rs.map Slc.Rw.v) (s1, s2)) := by
 obtain ⟨W, hW⟩ : ∃ W, w.alloc (.cells #[.int .i64 s1, .int .i64 s2] 23) = W := ⟨_, rfl⟩; have hb : Below w.heap.size w W := hW ▸ alloc_ _ _; have CR := qh (right14 A n c rs W (S.below hb) hn); have HS := qh S; have HN := qh hn; have HB := qh hb; have HX := qh (show Bx W w.heap.size 23 #[.int .i64 s1, .int .i64 s2] from hW ▸ Bx.new w _ _); have HW := qh hW; clear S hn hb hW; obtain ⟨l, hl⟩ : ∃ l, rs.map Slc.Rw.v = l := ⟨_, rfl⟩; have HLL := qh hl; rw [hl] at CR ⊢; clear hl; unfold BtTo; go_enter Tryz.func33, Tryz.ntmps33
 go_upto_region 1 with fail
 rw [HW.out]; clear HW
 go_wp2_with fail
 refine CR.out.mono ?_; rintro e w1 ⟨rfl, hb⟩; have H1 := qh (HB.out.trans (hb.mono HB.out.size)); have X1 := qh (HX.out.keep hb); clear hb CR; cases hm : may l
 ·have HU := qh (btc_no (z := (s1, s2)) hm); clear hm; go_wp2; go_ret2; exact ⟨by rw [btv_no (by rw [HU.out]; decide), HU.out]; rfl, H1.out⟩
 have HM := qh hm; clear hm; have CS := qh (right3 (s1, s2) w1); have x0 := X1.out.c 0; have x1 := X1.out.c 1; simp at x0 x1
 go_wp2_with fail
 refine CS.out.mono ?_; rintro e w2 ⟨rfl, hb⟩; have H2 := qh (H1.out.trans (hb.mono H1.out.size)); have X2 := qh (X1.out.keep hb); clear hb CS x0 x1; cases hr : rt (s1, s2)
 ·have HU := qh (btc_rt HM.out hr); clear hr; go_wp2; go_ret2; exact ⟨by rw [btv_no (by rw [HU.out]; decide), HU.out]; rfl, H2.out⟩
 have HRT := qh hr; clear hr; have C1 := qh (upto14 A n c rs s2 w2 (HS.out.below H2.out) HN.out); unfold UpTo at C1; rw [HLL.out] at C1; have x0 := X2.out.c 0; have x1 := X2.out.c 1; simp at x0 x1; obtain ⟨v, hv⟩ : ∃ v, upv l s2 = v := ⟨_, rfl⟩; obtain ⟨k, hk⟩ : ∃ k, upc l s2 = k := ⟨_, rfl⟩; rw [hv, hk] at C1; have HV := qh hv; have HK := qh hk; clear hv hk
 go_wp2_with fail
 refine C1.out.mono ?_; rintro e w3 ⟨rfl, hb⟩; have H3 := qh (H2.out.trans (hb.mono H2.out.size)); have X3 := qh (X2.out.keep hb); clear hb C1 x0 x1; by_cases hk0 : k = 0
 case neg =>
  have t1 : decide (k = 0) = false := decide_eq_false hk0; have t2 : (k == 0) = false := beq_eq_false_iff_ne.2 hk0; have t3 : (k != 0) = true := bne_iff_ne.2 hk0; have HU := qh (show btc l (s1, s2) = k by rw [btc_ok HM.out HRT.out]; exact HK.out); have HK0 := qh hk0; clear hk0; go_wp2; go_ret2; exact ⟨by rw [btv_no (by rw [HU.out]; exact HK0.out), HU.out]; rfl, H3.out⟩
 subst hk0; have hle := ern_mono (may_iff.1 HM.out).2 ((rt_iff (s1, s2)).1 HRT.out).2.1; have hup := (upc_may HK.out).2; have HA := qh (up_yes (d := s1) HM.out (by simp only at hle; omega)); have HBV := qh (show v = hf (ern l s2) by rw [← HV.out]; exact upv_ok HK.out); have HY := qh (btc_yes (z := (s1, s2)) HM.out HRT.out hup); have hb1 := hf_inU (ern_nonneg (may_iff.1 HM.out).2 (d := s2)) hup; have hb2 := hf_inU (ern_nonneg (may_iff.1 HM.out).2 (d := s1)) (by simp only at hle; omega); have C1 := qh (upto14 A n c rs s1 w3 (HS.out.below H3.out) HN.out); unfold UpTo at C1; rw [HLL.out, HA.out.1, HA.out.2] at C1; rw [← HBV.out] at hb1; obtain ⟨u, hu⟩ : ∃ u, hf (ern l s1) = u := ⟨_, rfl⟩; rw [hu] at C1 hb2; have HU := qh hu; have hw1 : wrap64 (v - u) = v - u := IntWalk.wrap64_in _ (by omega); clear hle hup hu hb1 hb2; have x0 := X3.out.c 0; have x1 := X3.out.c 1; simp at x0 x1
 go_wp2_with fail
 refine C1.out.mono ?_; rintro e w4 ⟨rfl, hb⟩; have H4 := qh (H3.out.trans (hb.mono H3.out.size)); clear hb C1 x0 x1; go_wp2; go_ret2; exact ⟨by rw [HY.out.1, HY.out.2, show hf (ern l (s1, s2).2) = v from HBV.out.symm, show hf (ern l (s1, s2).1) = u from HU.out]; show Ending.returned (.tuple #[.int .i64 (wrap64 (v - u)), .int .i64 0]) = _; rw [hw1], H4.out⟩
end Acr
end Go.Proofs.YtfidmphajohljaaGreat
namespace Go.Proofs.YtfidmphajohljaaGreat
open Go.RowKit Ba Cv Sp Te Ag Tf Sl Tm
namespace Rfd
def TuTo (w : World) (hs : List Ch) (e : Ending) (w' : World) : Prop := ∃ o, Ag.Ord hs o ∧ e = .returned (.int .i64 (tv (lt hs o))) ∧ Below w.heap.size w w'
theorem rturn (h : Hr) (w : World) (M : HM w (· < w.heap.size) h) (hm : h.m ≤ 2000) : Calls Tryz.prog 25 #[hg h] w (TuTo w h.v.hs) := by
 obtain ⟨W, hW⟩ : ∃ W, w.alloc (.cells (hc h) 31) = W := ⟨_, rfl⟩; have H0 := qh (show HX w W h by rw [← hW]; exact HX.start w h); have HW := qh hW; have HMM := qh M; have HL := qh hm; have C := qh (rorder h W (M.below H0.out.b) (by omega)); clear hW M hm; go_enter Tryz.func25, Tryz.ntmps25
 go_upto_region 1 with fail
 rw [HW.out]; clear HW; obtain ⟨x0, x1, x2, x3, x4, x5, x6, x7, x8, x9⟩ := qc10 H0.out.x
 go_wp2_with fail
 refine C.out.mono ?_; rintro e w1 ⟨v, rfl, ⟨A, c, o, rfl, hi, hg⟩, hb⟩; have H1 := qh (H0.out.next hb); have HI := qh hi; have HO := qh (show Ag.Ord h.v.hs o from hg); clear C hb hi hg H0 x0 x1 x2 x3 x4 x5 x6 x7 x8 x9; have x9 := H1.out.x.c 9; simp at x9; go_wp2
 go_loopw [4, 5] (fun z i w' => ∃ (k nd : Nat), k ≤ h.m ∧ z = .int .i64 (tv (ltk h.v.hs o k)) ∧ i = .int .i64 (k : Int) ∧ w' = w1.drewN nd) (fun _ i _ => h.m - (intOf i).toNat)
 case atStart => exact ⟨0, 0, Nat.zero_le _, rfl, rfl, rfl⟩
 case round =>
  obtain ⟨k, nd, hk, rfl, rfl, rfl⟩ := hrel; have hkw : h.m ≤ 2000 := HL.out; by_cases hlt : k < h.m
  ·obtain ⟨ad, z, rfl, hb, hz, hcz⟩ := HI.out.get hlt; have hat := ord_at HO.out (List.mem_of_getElem? hz); have hlen : h.v.hs.length = h.m := (HMM.out.len); obtain ⟨j, rfl⟩ : ∃ j : Nat, z = (j : Int) := ⟨z.toNat, by omega⟩; obtain ⟨ad2, r, hB, hb2, hr, N, _, hv⟩ := (HMM.out.below H1.out.b).get (k := j) (by omega); have hlt2 : (k : Int) < (h.m : Int) := by omega
   have hj2 : (j : Int) < (h.m : Int) := by omega
   have HS := qh (show ltk h.v.hs o (k + 1) = if tk r.v = true then some (j : Int) else ltk h.v.hs o k by
    rw [ltk_more hz]; unfold chg; rw [Int.toNat_natCast, hv]; rfl)
   obtain ⟨c0, c1, c2, c3, c4, c5, c6, c7, c8⟩ := N; obtain ⟨⟨bk, dy, kd, rr, cs, wy⟩, rA, rn, rc⟩ := r; simp only at c2 HS; rw [hB] at x9; clear c0 c1 c3 c4 c5 c6 c7 c8 hr hv hz hat hlen hb hb2 hB; by_cases e3 : kd = 3
   ·have t1 : (kd == 3) = true := beq_iff_eq.2 e3; have HE := qh (show tv (ltk h.v.hs o (k + 1)) = (j : Int) by rw [HS.out, if_pos (show tk ⟨bk, dy, kd, rr, cs, wy⟩ = true from decide_eq_true (.inl e3))]; rfl); clear e3; go_wp2
    go_quiet (fail)
    go_wp2; go_roundw
    case rel => exact ⟨k + 1, _, by omega, by rw [HE.out], by go_num, rfl⟩
    case measure => simp [intOf]; omega
   have t1 : (kd == 3) = false := beq_eq_false_iff_ne.2 e3; by_cases e4 : kd = 4
   ·have t2 : (kd == 4) = true := beq_iff_eq.2 e4; have HE := qh (show tv (ltk h.v.hs o (k + 1)) = (j : Int) by rw [HS.out, if_pos (show tk ⟨bk, dy, kd, rr, cs, wy⟩ = true from decide_eq_true (.inr e4))]; rfl); clear e3 e4; go_wp2
    go_quiet (fail)
    go_wp2; go_roundw
    case rel => exact ⟨k + 1, _, by omega, by rw [HE.out], by go_num, rfl⟩
    case measure => simp [intOf]; omega
   ·have t2 : (kd == 4) = false := beq_eq_false_iff_ne.2 e4; have HE := qh (show tv (ltk h.v.hs o (k + 1)) = tv (ltk h.v.hs o k) by rw [HS.out, if_neg (show ¬ tk ⟨bk, dy, kd, rr, cs, wy⟩ = true by intro h; have := of_decide_eq_true h; simp only at this; omega)]); clear e3 e4; go_wp2
    go_quiet (fail)
    go_wp2; go_roundw
    case rel => exact ⟨k + 1, _, by omega, by rw [HE.out], by go_num, rfl⟩
    case measure => simp [intOf]; omega
  ·have hlt2 : ¬ ((k : Int) < (h.m : Int)) := by omega
   have HE := qh (show ltk h.v.hs o k = lt h.v.hs o from ltk_all (by have := HI.out.1; omega)); go_wp2; go_ret; exact ⟨o, HO.out, by rw [HE.out]; rfl, H1.out.b.trans ⟨rfl, rfl, rfl, Nat.le_refl _, fun _ _ => rfl⟩⟩
theorem tk_get {α : Type} {l : List α} {k : Nat} {x : α} (h : l[k]? = some x) : l.take (k + 1) = l.take k ++ [x] := by
 have hk := (List.getElem?_eq_some_iff.1 h).1; rw [List.take_add_one, h]; rfl
def er (j : Nat) (l : List Rw) (k : Nat) : List Rw := (l.take k).eraseIdx j
theorem er_on {j : Nat} {l : List Rw} {k : Nat} {x : Rw} (h : l[k]? = some x) (hj : k ≠ j) : er j l (k + 1) = er j l k ++ [x] := by
 have hk := (List.getElem?_eq_some_iff.1 h).1; have hl : (l.take k).length = k := by rw [List.length_take]; omega
 unfold er; rw [tk_get h]; rcases Nat.lt_or_ge j k with hlt | hge
 ·exact List.eraseIdx_append_of_lt_length (by omega) _
 ·rw [List.eraseIdx_eq_self.2 (by rw [List.length_append, hl, List.length_singleton]; omega), List.eraseIdx_eq_self.2 (by omega)]
theorem er_off {j : Nat} {l : List Rw} {k : Nat} {x : Rw} (h : l[k]? = some x) (hj : k = j) : er j l (k + 1) = er j l k := by
 subst hj; have hk := (List.getElem?_eq_some_iff.1 h).1; have hl : (l.take k).length = k := by rw [List.length_take]; omega
 unfold er; rw [tk_get h, List.eraseIdx_append_of_length_le (by omega), hl, Nat.sub_self, show (l.take k).eraseIdx k = l.take k from List.eraseIdx_eq_self.2 (by omega)]; exact List.append_nil _
structure E2 (w W : World) (h : Hr) : Prop where
 b : Below w.heap.size w W
 x : Bx W w.heap.size 31 (hc h)
 y : Bx W (w.heap.size + 1) 31 zhc
theorem E2.start (w : World) (h : Hr) : E2 w ((w.alloc (.cells (hc h) 31)).alloc (.cells zhc 31)) h := by
 refine ⟨(alloc_ _ _).alloc (by simp) _, (Bx.new _ _ _).alloc _, ?_⟩; have := Bx.new (w.alloc (.cells (hc h) 31)) 31 zhc; rw [World.size_alloc] at this; exact this
theorem own_fits {w : World} {base n c : Nat} {A : Option Addr} {xs : List Rw} (h : Tm.Own w base A n c xs) : n ≤ c ∧ (A = none → n = 0 ∧ c = 0) := by
 rcases h.2 with ⟨e, hn⟩ | ⟨g, cap, cur, e, _, _, hnc, _⟩
 ·injection e with e1 e2 e3; exact ⟨by omega, fun _ => ⟨hn, e3⟩⟩
 ·injection e with e1 e2 e3; subst e3; exact ⟨hnc, fun h0 => by rw [e1] at h0; cases h0⟩
theorem own_far {w : World} {base n c : Nat} {A : Option Addr} {rs : List Rw} (h : Tm.Own w base A n c rs) {a : Addr} (hp : a.block < base) (u : Value) : Tm.Own (w.setCell a u) base A n c rs :=
 h.of fun k hk => Below.heap_setCell w a u k (by omega)
structure RJ (w W : World) (h : Hr) (A : Option Addr) (c : Nat) (l : List Rw) : Prop where
 b : Below w.heap.size w W
 x : Bx W w.heap.size 31 (hc h)
 y : Bx W (w.heap.size + 1) 31 zhc
 z : Bx W (w.heap.size + 2) 31 (hc (h.more A l.length c l))
 o : Tm.Own W (w.heap.size + 3) A l.length c l
structure W9 (w : World) (h : Hr) (ad : Addr) (i : Nat) (r : Rw) (A : Option Addr) (m c : Nat) (l : List Rw) (L : Nat → Bool) (w' : World) (v24 v25 v26 v27 v28 v29 v30 v31 v32 v33 : Value) : Prop where
 b : Below w.heap.size w w'
 x : Bx w' w.heap.size 31 (hc h)
 y : Bx w' (w.heap.size + 1) 31 zhc
 q : w.heap.size + 3 ≤ w'.heap.size
 o : L 8 = false → Tm.Own w' (w.heap.size + 3) A m c l
 z : L 10 = false → Bx w' (w.heap.size + 2) 31 (hc (h.more A m c l))
 f0 : L 0 = true → v24 = .pointer (some ⟨w.heap.size + 2, 9, none⟩)
 f1 : L 1 = true → v25 = .slice A m c
 f2 : L 2 = true → v26 = .pointer (some ⟨w.heap.size, 9, none⟩)
 f3 : L 3 = true → v27 = .slice (some ad) h.m h.d
 f4 : L 4 = true → v28 = .int .i64 (i : Int)
 f5 : L 5 = true → v29 = .pointer (some (ad.add (i * 9)))
 f6 : L 6 = true → v30 = Tm.vg r
 f7 : L 7 = true → ∃ g, v31 = .slice (some ⟨g, 0, none⟩) 1 1 ∧ (L 8 = false → Tm.Raws w' (· < w'.heap.size) (some ⟨g, 0, none⟩) 1 [r])
 f8 : L 8 = true → ∃ A' c', v32 = .slice A' (m + 1) c' ∧ Tm.Own w' (w.heap.size + 3) A' (m + 1) c' (l ++ [r]) ∧ (L 10 = true → Bx w' (w.heap.size + 2) 31 (hc (h.more A' (m + 1) c' (l ++ [r]))))
 f9 : L 9 = true → v33 = .pointer (some ⟨w.heap.size + 2, 9, none⟩)
 f10 : L 10 = true → True
 d10_8 : L 10 = true → L 8 = true
 d8_1 : L 8 = true → L 1 = true
section
variable {w : World} {h : Hr} {ad : Addr} {i : Nat} {r : Rw} {A : Option Addr} {m c : Nat} {l : List Rw} {L : Nat → Bool} {w' w2 : World} {v24 v25 v26 v27 v28 v29 v30 v31 v32 v33 : Value}
theorem W9.up (H : W9 w h ad i r A m c l L w' v24 v25 v26 v27 v28 v29 v30 v31 v32 v33) (hb : Below w'.heap.size w' w2) : W9 w h ad i r A m c l L w2 v24 v25 v26 v27 v28 v29 v30 v31 v32 v33 :=
 ⟨H.b.trans (hb.mono H.b.size), H.x.keep hb, H.y.keep hb, Nat.le_trans H.q hb.size, (fun l => (H.o l).below hb), (fun l => (H.z l).keep hb), H.f0, H.f1, H.f2, H.f3, H.f4, H.f5, H.f6, (fun l => by obtain ⟨g, e, h1⟩ := H.f7 l; exact ⟨g, e, fun l3 => (h1 l3).below hb⟩), (fun l => by obtain ⟨A1, c1, e, h1, h2⟩ := H.f8 l; exact ⟨A1, c1, e, h1.below hb, fun l3 => (h2 l3).keep hb⟩), H.f9, H.f10, H.d10_8, H.d8_1⟩
theorem W9.s0 (H : W9 w h ad i r A m c l L w' v24 v25 v26 v27 v28 v29 v30 v31 v32 v33) {z : Value} (k : z = .pointer (some ⟨w.heap.size + 2, 9, none⟩)) : W9 w h ad i r A m c l (fun j => j == 0 || L j) w' z v25 v26 v27 v28 v29 v30 v31 v32 v33 := ⟨H.b, H.x, H.y, H.q, H.o, H.z, fun _ => k, H.f1, H.f2, H.f3, H.f4, H.f5, H.f6, H.f7, H.f8, H.f9, H.f10, H.d10_8, H.d8_1⟩
theorem W9.s1 (H : W9 w h ad i r A m c l L w' v24 v25 v26 v27 v28 v29 v30 v31 v32 v33) {z : Value} (k : z = .slice A m c) : W9 w h ad i r A m c l (fun j => j == 1 || L j) w' v24 z v26 v27 v28 v29 v30 v31 v32 v33 := ⟨H.b, H.x, H.y, H.q, H.o, H.z, H.f0, fun _ => k, H.f2, H.f3, H.f4, H.f5, H.f6, H.f7, H.f8, H.f9, H.f10, H.d10_8, fun _ => rfl⟩
theorem W9.s2 (H : W9 w h ad i r A m c l L w' v24 v25 v26 v27 v28 v29 v30 v31 v32 v33) {z : Value} (k : z = .pointer (some ⟨w.heap.size, 9, none⟩)) : W9 w h ad i r A m c l (fun j => j == 2 || L j) w' v24 v25 z v27 v28 v29 v30 v31 v32 v33 := ⟨H.b, H.x, H.y, H.q, H.o, H.z, H.f0, H.f1, fun _ => k, H.f3, H.f4, H.f5, H.f6, H.f7, H.f8, H.f9, H.f10, H.d10_8, H.d8_1⟩
theorem W9.s3 (H : W9 w h ad i r A m c l L w' v24 v25 v26 v27 v28 v29 v30 v31 v32 v33) {z : Value} (k : z = .slice (some ad) h.m h.d) : W9 w h ad i r A m c l (fun j => j == 3 || L j) w' v24 v25 v26 z v28 v29 v30 v31 v32 v33 := ⟨H.b, H.x, H.y, H.q, H.o, H.z, H.f0, H.f1, H.f2, fun _ => k, H.f4, H.f5, H.f6, H.f7, H.f8, H.f9, H.f10, H.d10_8, H.d8_1⟩
theorem W9.s4 (H : W9 w h ad i r A m c l L w' v24 v25 v26 v27 v28 v29 v30 v31 v32 v33) {z : Value} (k : z = .int .i64 (i : Int)) : W9 w h ad i r A m c l (fun j => j == 4 || L j) w' v24 v25 v26 v27 z v29 v30 v31 v32 v33 := ⟨H.b, H.x, H.y, H.q, H.o, H.z, H.f0, H.f1, H.f2, H.f3, fun _ => k, H.f5, H.f6, H.f7, H.f8, H.f9, H.f10, H.d10_8, H.d8_1⟩
theorem W9.s5 (H : W9 w h ad i r A m c l L w' v24 v25 v26 v27 v28 v29 v30 v31 v32 v33) {z : Value} (k : z = .pointer (some (ad.add (i * 9)))) : W9 w h ad i r A m c l (fun j => j == 5 || L j) w' v24 v25 v26 v27 v28 z v30 v31 v32 v33 := ⟨H.b, H.x, H.y, H.q, H.o, H.z, H.f0, H.f1, H.f2, H.f3, H.f4, fun _ => k, H.f6, H.f7, H.f8, H.f9, H.f10, H.d10_8, H.d8_1⟩
theorem W9.s6 (H : W9 w h ad i r A m c l L w' v24 v25 v26 v27 v28 v29 v30 v31 v32 v33) {z : Value} (k : z = Tm.vg r) : W9 w h ad i r A m c l (fun j => j == 6 || L j) w' v24 v25 v26 v27 v28 v29 z v31 v32 v33 := ⟨H.b, H.x, H.y, H.q, H.o, H.z, H.f0, H.f1, H.f2, H.f3, H.f4, H.f5, fun _ => k, H.f7, H.f8, H.f9, H.f10, H.d10_8, H.d8_1⟩
theorem W9.s7 (H : W9 w h ad i r A m c l L w' v24 v25 v26 v27 v28 v29 v30 v31 v32 v33) {z : Value} (k : ∃ g, z = .slice (some ⟨g, 0, none⟩) 1 1 ∧ (L 8 = false → Tm.Raws w' (· < w'.heap.size) (some ⟨g, 0, none⟩) 1 [r])) : W9 w h ad i r A m c l (fun j => j == 7 || L j) w' v24 v25 v26 v27 v28 v29 v30 z v32 v33 := ⟨H.b, H.x, H.y, H.q, H.o, H.z, H.f0, H.f1, H.f2, H.f3, H.f4, H.f5, H.f6, fun _ => k, H.f8, H.f9, H.f10, H.d10_8, H.d8_1⟩
theorem W9.s8 (H : W9 w h ad i r A m c l L w' v24 v25 v26 v27 v28 v29 v30 v31 v32 v33) (h8 : L 8 = false) (h01 : L 1 = true) {z8 : Value} {A' : Option Addr} {c' : Nat} (e : z8 = .slice A' (m + 1) c') (hO : Tm.Own w2 (w.heap.size + 3) A' (m + 1) c' (l ++ [r])) (hg : w'.grownBy w2 (Value.slice A m c).ownBlock) : W9 w h ad i r A m c l (fun j => j == 8 || L j) w2 v24 v25 v26 v27 v28 v29 v30 v31 z8 v33 := by
 have hq := H.q
 have h10 : L 10 = false := by
  cases h : L 10 with
  | false => rfl
  | true => have := H.d10_8 h; rw [h8] at this; cases this
 have hlow : ∀ k, (Value.slice A m c).ownBlock = some k → w.heap.size + 3 ≤ k := fun k hk => ((H.o h8).lt k hk).1
 have hset : ∀ k, k < w.heap.size + 3 → w2.heap[k]? = w'.heap[k]? := fun k hk => hg.block k (by omega) fun e => by have := hlow k e.symm; omega
 exact ⟨H.b.grown hg H.b.size fun k hk => by have := hlow k hk; omega, (hset _ (by omega)).trans H.x, (hset _ (by omega)).trans H.y, Nat.le_trans hq hg.size, (fun l => by cases l), fun l => (hset _ (by omega)).trans (H.z h10), H.f0, H.f1, H.f2, H.f3, H.f4, H.f5, H.f6, (fun l => by obtain ⟨g, e, h1⟩ := H.f7 l; exact ⟨g, e, fun l3 => by cases l3⟩), fun _ => ⟨A', c', e, hO, fun l => absurd (show L 10 = true from l) (by rw [h10]; decide)⟩, H.f9, fun _ => trivial, fun _ => rfl, fun _ => h01⟩
theorem W9.s9 (H : W9 w h ad i r A m c l L w' v24 v25 v26 v27 v28 v29 v30 v31 v32 v33) {z : Value} (k : z = .pointer (some ⟨w.heap.size + 2, 9, none⟩)) : W9 w h ad i r A m c l (fun j => j == 9 || L j) w' v24 v25 v26 v27 v28 v29 v30 v31 v32 z := ⟨H.b, H.x, H.y, H.q, H.o, H.z, H.f0, H.f1, H.f2, H.f3, H.f4, H.f5, H.f6, H.f7, H.f8, fun _ => k, H.f10, H.d10_8, H.d8_1⟩
theorem W9.s10 (H : W9 w h ad i r A m c l L w' v24 v25 v26 v27 v28 v29 v30 v31 v32 v33) (h10 : L 10 = false) (h8 : L 8 = true) : W9 w h ad i r A m c l (fun j => j == 10 || L j) (w'.setCell ⟨w.heap.size + 2, 9, none⟩ v32) v24 v25 v26 v27 v28 v29 v30 v31 v32 v33 := by
 have hq := H.q; have hset : ∀ k, k ≠ w.heap.size + 2 → (w'.setCell ⟨w.heap.size + 2, 9, none⟩ v32).heap[k]? = w'.heap[k]? := fun k hk => Below.heap_setCell w' _ _ k hk
 refine ⟨H.b.setCell (p := ⟨w.heap.size + 2, 9, none⟩) (by show w.heap.size ≤ w.heap.size + 2; omega) _, (hset _ (by omega)).trans H.x, (hset _ (by omega)).trans H.y, by rw [World.size_setCell]; exact hq, (fun l => absurd (show L 8 = false from l) (by rw [h8]; decide)), (fun l => by cases l), H.f0, H.f1, H.f2, H.f3, H.f4, H.f5, H.f6, (fun l => by obtain ⟨g, e, h1⟩ := H.f7 l; exact ⟨g, e, fun l3 => absurd (show L 8 = false from l3) (by rw [h8]; decide)⟩), fun _ => ?_, H.f9, fun _ => trivial, fun _ => h8, H.d8_1⟩; obtain ⟨A', c', e, hO, _⟩ := H.f8 h8; refine ⟨A', c', e, own_far hO (by show w.heap.size + 2 < _; omega) _, fun _ => ?_⟩; have := (H.z h10).set 9 v32; rw [e] at this ⊢; exact this
end
theorem rwithout (h : Hr) (j : Nat) (w : World) (M : HM w (· < w.heap.size) h) (S : HS h) : Calls Tryz.prog 26 #[hg h, .int .i64 (j : Int)] w (WoTo w h j) := by
 obtain ⟨W, hW⟩ : ∃ W, (w.alloc (.cells (hc h) 31)).alloc (.cells zhc 31) = W := ⟨_, rfl⟩; have H0 := qh (show E2 w W h by rw [← hW]; exact E2.start w h); have HW := qh hW; have esz : W.heap.size = w.heap.size + 2 := by rw [← hW]; simp
 have ESZ := qh esz; have HMM := qh M; have HSS := qh S; obtain ⟨W1, hW1⟩ : ∃ W1, W.alloc (.cells (hc (h.more none 0 0 [])) 31) = W1 := ⟨_, rfl⟩; have hb1 : Below W.heap.size W W1 := hW1 ▸ alloc_ _ _; have HJ := qh (show RJ w W1 h none 0 [] from ⟨H0.out.b.trans (hb1.mono (by omega)), H0.out.x.keep hb1, H0.out.y.keep hb1, by rw [← hW1, ← esz]; exact Bx.new W 31 _, Tm.Own.nil⟩); have HW1 := qh (show W.alloc (.cells #[.int .i64 h.id, .int .i64 h.bk, .int .i64 h.s.1, .int .i64 h.s.2, .int .i64 h.r.k, .int .i64 h.r.v, .int .i64 h.r.a, .int .i64 h.r.z, .slice h.A h.n h.c, .slice none 0 0] 31) = W1 from hW1); obtain ⟨Bv, hBv⟩ : ∃ Bv, h.B = Bv := ⟨_, rfl⟩; have HBv := qh hBv; obtain ⟨x0, x1, x2, x3, x4, x5, x6, x7, x8, x9⟩ := qc10 H0.out.x; obtain ⟨y0, y1, y2, y3, y4, y5, y6, y7, y8, y9⟩ := qc10 HJ.out.z; have fy := HJ.out.z.f; clear hW M S hW1 hb1 esz; go_enter Tryz.func26, Tryz.ntmps26
 go_upto_region 1 with fail
 rw [HW.out]
 go_upto_region 2 with fail
 rw [HW1.out, ESZ.out]; clear x0 x1 x2 x3 x4 x5 x6 x7 x8 x9 y0 y1 y2 y3 y4 y5 y6 y7 y8 y9 fy hBv; go_wp2
 go_loopw [6] (fun vi w' => ∃ (i : Nat) (V : World) (A : Option Addr) (c : Nat), i ≤ h.m ∧ vi = .int .i64 (i : Int) ∧ V = w' ∧ Hid (RJ w V h A c (er j h.rs i))) (fun vi _ => h.m - (intOf vi).toNat)
 case atStart => exact ⟨0, W1, none, 0, Nat.zero_le _, rfl, rfl, HJ⟩
 case round =>
  clear HJ; obtain ⟨i, V, A, c, hi, rfl, rfl, HJ⟩ := hrel; have x9 := HJ.out.x.c 9; simp at x9; rw [HBv.out] at x9; by_cases hlt : i < h.m
  ·obtain ⟨ad, r, hB, hbl, hr, N, hcv, hv⟩ := (HMM.out.below HJ.out.b).get hlt; rw [HBv.out] at hB; subst hB; have hlt2 : (i : Int) < (h.m : Int) := by omega
   have hmb : h.m ≤ 2000 := HSS.out.m; have HR9 := qh hr
   have hN := qh (show ∀ W', Below w.heap.size w W' → Tm.Nin W' (ad.add (i * 9)) r by
    intro W' hW'; obtain ⟨ad', r', hB', _, hr', N', _, _⟩ := (HMM.out.below hW').get hlt; rw [HBv.out] at hB'; injection hB' with hB'
    rw [HR9.out] at hr'; injection hr' with hr'
    subst hB' hr'; exact N')
   clear hr N hcv hv hbl; by_cases hh : i = j
   ·have HH := qh hh; have t1 : ((i : Int) == (j : Int)) = true := beq_iff_eq.2 (by omega); have t2 : decide ((i : Int) ≠ (j : Int)) = false := decide_eq_false (by omega); have t3 : ((i : Int) != (j : Int)) = false := by rw [bne, t1]; rfl
    clear hh; go_wp2; go_roundw
    case rel => exact ⟨i + 1, V, A, c, by omega, by go_num, rfl, qh (by rw [er_off HR9.out HH.out]; exact HJ.out)⟩
    case measure => simp [intOf]; omega
   ·have HH := qh hh; have t1 : ((i : Int) == (j : Int)) = false := beq_eq_false_iff_ne.2 (by omega); have t2 : decide ((i : Int) ≠ (j : Int)) = true := decide_eq_true (by omega); have t3 : ((i : Int) != (j : Int)) = true := by rw [bne, t1]; rfl
    obtain ⟨l, hl⟩ : ∃ l, er j h.rs i = l := ⟨_, rfl⟩; rw [hl] at HJ; obtain ⟨m, hm⟩ : ∃ m, l.length = m := ⟨_, rfl⟩; have HM := qh hm; have HL := qh hl
    have hml : m ≤ 2000 := by
     have h1 : l.length ≤ (h.rs.take i).length := by rw [← hl]; exact List.length_eraseIdx_le _ _
     rw [List.length_take] at h1; have := HMM.out.r.1; omega
    clear hl hm hh
    go_upto_region 6 with fail
    clear x9 t1 t2 t3; refine wp_region_steps (fun L_ a_ w_ => ∃ (v24 v25 v26 v27 v28 v29 v30 v31 v32 v33 : Value), a_ = { tmps := #[hg h, .int .i64 (j : Int), .pointer (some ⟨w.heap.size, 0, none⟩), undef, .pointer (some ⟨w.heap.size + 1, 0, none⟩), .pointer (some ⟨w.heap.size + 2, 0, none⟩), .int .i64 (i : Int), .pointer (some ⟨w.heap.size, 0, none⟩), .int .i64 h.id, .pointer (some ⟨w.heap.size, 1, none⟩), .int .i64 h.bk, .pointer (some ⟨w.heap.size, 2, none⟩), .agg #[.int .i64 h.s.1, .int .i64 h.s.2, .int .i64 h.r.k, .int .i64 h.r.v, .int .i64 h.r.a, .int .i64 h.r.z, .slice h.A h.n h.c], .agg #[.int .i64 h.id, .int .i64 h.bk, .int .i64 h.s.1, .int .i64 h.s.2, .int .i64 h.r.k, .int .i64 h.r.v, .int .i64 h.r.a, .int .i64 h.r.z, .slice h.A h.n h.c, .slice none 0 0], .int .i64 (i : Int), .pointer (some ⟨w.heap.size, 9, none⟩), .slice (some ad) h.m h.d, .int .i64 (h.m : Int), .bool true, u19, u20, .int .i64 (i : Int), .int .i64 (j : Int), .bool true, v24, v25, v26, v27, v28, v29, v30, v31, v32, v33, undef], defers := [] } ∧ Hid (W9 w h ad i r A m c l L_ w_ v24 v25 v26 v27 v28 v29 v30 v31 v32 v33)) (by kernel_rfl) (by kernel_rfl) ?_ (AllSteps.cons ?_ (AllSteps.cons ?_ (AllSteps.cons ?_ (AllSteps.cons ?_ (AllSteps.cons ?_ (AllSteps.cons ?_ (AllSteps.cons ?_ (AllSteps.cons ?_ (AllSteps.cons ?_ (AllSteps.cons ?_ (AllSteps.cons ?_ AllSteps.nil))))))))))) ?_
    ·exact ⟨_, _, _, _, _, _, _, _, _, _, rfl, qh ⟨(HJ.out.b.trans (show Below w.heap.size V V.drew from ⟨rfl, rfl, rfl, Nat.le_refl _, fun _ _ => rfl⟩)), HJ.out.x, HJ.out.y, HJ.out.z.lt, (fun _ => by have := HJ.out.o; rw [HM.out] at this; exact this), (fun _ => by have := HJ.out.z; rw [HM.out] at this; exact this), (fun h => by cases h), (fun h => by cases h), (fun h => by cases h), (fun h => by cases h), (fun h => by cases h), (fun h => by cases h), (fun h => by cases h), (fun h => by cases h), (fun h => by cases h), (fun h => by cases h), (fun h => by cases h), (fun h => by cases h), (fun h => by cases h)⟩⟩
    ·rintro L_ a_ w_ hL hd ⟨v24, v25, v26, v27, v28, v29, v30, v31, v32, v33, rfl, HR⟩ K hK; clear hd; go_simp; exact hK.out _ _ ⟨_, _, _, _, _, _, _, _, _, _, rfl, qh (HR.out.s0 rfl)⟩
    ·rintro L_ a_ w_ hL hd ⟨v24, v25, v26, v27, v28, v29, v30, v31, v32, v33, rfl, HR⟩ K hK; have e0 := HR.out.f0 (hd ⟨0, .data⟩ (by simp) rfl); subst e0
     have h10 : L_ 10 = false := by
      cases h : L_ 10 with
      | false => rfl
      | true =>
       have h1 := HR.out.d8_1 (HR.out.d10_8 h); rw [hL] at h1; cases h1
     have hx := HR.out.z h10; obtain ⟨z0, z1, z2, z3, z4, z5, z6, z7, z8, z9⟩ := qc10 hx; clear hx; clear hd h10; go_simp; exact hK.out _ _ ⟨_, _, _, _, _, _, _, _, _, _, rfl, qh (HR.out.s1 rfl)⟩
    ·rintro L_ a_ w_ hL hd ⟨v24, v25, v26, v27, v28, v29, v30, v31, v32, v33, rfl, HR⟩ K hK; clear hd; go_simp; exact hK.out _ _ ⟨_, _, _, _, _, _, _, _, _, _, rfl, qh (HR.out.s2 rfl)⟩
    ·rintro L_ a_ w_ hL hd ⟨v24, v25, v26, v27, v28, v29, v30, v31, v32, v33, rfl, HR⟩ K hK; have e2 := HR.out.f2 (hd ⟨2, .data⟩ (by simp) rfl); subst e2; have hx := HR.out.x; obtain ⟨x0, x1, x2, x3, x4, x5, x6, x7, x8, x9⟩ := qc10 hx; clear hx; rw [HBv.out] at x9; clear hd; go_simp; exact hK.out _ _ ⟨_, _, _, _, _, _, _, _, _, _, rfl, qh (HR.out.s3 rfl)⟩
    ·rintro L_ a_ w_ hL hd ⟨v24, v25, v26, v27, v28, v29, v30, v31, v32, v33, rfl, HR⟩ K hK; clear hd; go_simp; exact hK.out _ _ ⟨_, _, _, _, _, _, _, _, _, _, rfl, qh (HR.out.s4 rfl)⟩
    ·rintro L_ a_ w_ hL hd ⟨v24, v25, v26, v27, v28, v29, v30, v31, v32, v33, rfl, HR⟩ K hK; have e3 := HR.out.f3 (hd ⟨3, .data⟩ (by simp) rfl); subst e3; have e4 := HR.out.f4 (hd ⟨4, .data⟩ (by simp) rfl); subst e4; clear hd; go_simp; exact hK.out _ _ ⟨_, _, _, _, _, _, _, _, _, _, rfl, qh (HR.out.s5 rfl)⟩
    ·rintro L_ a_ w_ hL hd ⟨v24, v25, v26, v27, v28, v29, v30, v31, v32, v33, rfl, HR⟩ K hK; have e5 := HR.out.f5 (hd ⟨5, .data⟩ (by simp) rfl); subst e5; obtain ⟨q0, q1, q2, q3, q4, q5, q6, q7, q8⟩ := hN.out w_ HR.out.b; clear hd; go_simp; exact hK.out _ _ ⟨_, _, _, _, _, _, _, _, _, _, rfl, qh (HR.out.s6 rfl)⟩
    ·rintro L_ a_ w_ hL hd ⟨v24, v25, v26, v27, v28, v29, v30, v31, v32, v33, rfl, HR⟩ K hK; have e6 := HR.out.f6 (hd ⟨6, .data⟩ (by simp) rfl); subst e6; have HR2 := qh (HR.out.up (alloc_ w_ (.cells (Tm.vc r) 41))); have FF := qh ((Tm.Own.one w_ r).raws.keep (ok' := (· < (w_.alloc (.cells (Tm.vc r) 41)).heap.size)) (fun _ _ => rfl) fun b hb => hb.2); clear hd; go_simp; exact hK.out _ _ ⟨_, _, _, _, _, _, _, _, _, _, rfl, qh (HR2.out.s7 ⟨_, rfl, fun _ => FF.out⟩)⟩
    ·rintro L_ a_ w_ hL hd ⟨v24, v25, v26, v27, v28, v29, v30, v31, v32, v33, rfl, HR⟩ K hK; have e1 := HR.out.f1 (hd ⟨1, .data⟩ (by simp) rfl); subst e1; obtain ⟨g, e7, hsp⟩ := HR.out.f7 (hd ⟨7, .data⟩ (by simp) rfl); subst e7; have h1' := hd ⟨1, .data⟩ (by simp) rfl; have how := HR.out.o hL; have hsz := HR.out.q; have H01 := qh h1'; clear hd h1'; refine Tm.step_app w_ rfl (.tmp 25) (.tmp 31) rfl (w.heap.size + 3) A m c l rfl how (· < w_.heap.size) (some ⟨g, 0, none⟩) 1 1 [r] rfl (hsp hL) (fun e => by cases e) (m + 1) rfl (by omega) hsz ?_; intro A7 c7 w7' hO7 hg7; have HR2 := qh (HR.out.s8 hL H01.out rfl hO7 hg7); clear hO7 hg7 how hsp; exact hK.out _ _ ⟨_, _, _, _, _, _, _, _, _, _, rfl, qh (HR2.out)⟩
    ·rintro L_ a_ w_ hL hd ⟨v24, v25, v26, v27, v28, v29, v30, v31, v32, v33, rfl, HR⟩ K hK; clear hd; go_simp; exact hK.out _ _ ⟨_, _, _, _, _, _, _, _, _, _, rfl, qh (HR.out.s9 rfl)⟩
    ·rintro L_ a_ w_ hL hd ⟨v24, v25, v26, v27, v28, v29, v30, v31, v32, v33, rfl, HR⟩ K hK; have e9 := HR.out.f9 (hd ⟨9, .data⟩ (by simp) rfl); subst e9; have h8 := hd ⟨8, .data⟩ (by simp) rfl; obtain ⟨A7, c7, e8, h7, _⟩ := HR.out.f8 h8; subst e8; have hx := HR.out.z hL; obtain ⟨z0, z1, z2, z3, z4, z5, z6, z7, z8, z9⟩ := qc10 hx; clear hx; have fz := (HR.out.z hL).f; clear hd h7; go_simp; exact hK.out _ _ ⟨_, _, _, _, _, _, _, _, _, _, rfl, qh (HR.out.s10 hL h8)⟩
    ·rintro L_ a_ w_ hL ⟨v24, v25, v26, v27, v28, v29, v30, v31, v32, v33, rfl, HR⟩; obtain ⟨A7, c7, rfl, hO7, hz7⟩ := HR.out.f8 (hL 8 (by decide)); obtain ⟨g9, rfl, _⟩ := HR.out.f7 (hL 7 (by decide)); obtain rfl := HR.out.f0 (hL 0 (by decide)); obtain rfl := HR.out.f1 (hL 1 (by decide)); obtain rfl := HR.out.f2 (hL 2 (by decide)); obtain rfl := HR.out.f3 (hL 3 (by decide)); obtain rfl := HR.out.f4 (hL 4 (by decide)); obtain rfl := HR.out.f5 (hL 5 (by decide)); obtain rfl := HR.out.f6 (hL 6 (by decide)); obtain rfl := HR.out.f9 (hL 9 (by decide)); have hz8 := hz7 (hL 10 (by decide))
     have HJ2 := qh (show RJ w w_ h A7 c7 (er j h.rs (i + 1)) by
      rw [er_on HR9.out HH.out, HL.out]; have e : (l ++ [r]).length = m + 1 := by rw [List.length_append, HM.out]; rfl
      exact ⟨HR.out.b, HR.out.x, HR.out.y, by rw [e]; exact hz8, by rw [e]; exact hO7⟩)
     clear HR hL hz7 hz8 hO7 HJ; dsimp only [Exit.then]; go_step; go_wp2; go_roundw
     case rel => exact ⟨i + 1, w_, A7, c7, by omega, by go_num, rfl, HJ2⟩
     case measure => simp [intOf]; omega
  ·obtain rfl : i = h.m := by omega
   obtain ⟨l, hl2⟩ : ∃ l, h.rs.eraseIdx j = l := ⟨_, rfl⟩; have hl : er j h.rs h.m = l := by unfold er; rw [List.take_of_length_le (Nat.le_of_eq HMM.out.r.1)]; exact hl2
   rw [hl] at HJ; have HL := qh hl2; obtain ⟨m, hm⟩ : ∃ m, l.length = m := ⟨_, rfl⟩; have hz := HJ.out.z; have ho := HJ.out.o; rw [hm] at hz ho; have HMm := qh (show m ≤ h.m by rw [← hm, ← hl2]; exact Nat.le_trans (List.length_eraseIdx_le _ _) (Nat.le_of_eq HMM.out.r.1)); have HO := qh ho; have HZ := qh hz; obtain ⟨z0, z1, z2, z3, z4, z5, z6, z7, z8, z9⟩ := qc10 HZ.out; obtain ⟨y0, y1, y2, y3, y4, y5, y6, y7, y8, y9⟩ := qc10 HJ.out.y; have fy := HJ.out.y.f; clear hl hl2 hm hz ho hlt; go_wp2; clear z0 z1 z2 z3 z4 z5 z6 z7 z8 z9 y0 y1 y2 y3 y4 y5 y6 y7 y8 y9 fy x9; change bodyPost _ _ _ _ _ (puth (w.heap.size + 1) (h.more A m c l) V); have hx := Bx.puth (h' := zhr) HJ.out.y (h.more A m c l); have hset : ∀ k, k ≠ w.heap.size + 1 → (puth (w.heap.size + 1) (h.more A m c l) V).heap[k]? = V.heap[k]? := fun k hk => sets_heap _ hk 0 V
   have hsz : (puth (w.heap.size + 1) (h.more A m c l) V).heap.size = V.heap.size := sets_size _ 0 V; have hbel : Below w.heap.size w (puth (w.heap.size + 1) (h.more A m c l) V) := sets_below _ (by omega) 0 V HJ.out.b; have hO := HO.out.of fun g hg => hset g (by omega)
   have hfit := own_fits hO; have hmem : ∀ r ∈ l, r ∈ h.rs := fun r hr => by rw [← HL.out] at hr; exact List.mem_of_mem_eraseIdx hr
   refine bodyPost_ret (v := hg (h.more A m c l)) ?res rfl ⟨(h.more A m c l), rfl, ?val, ⟨HMM.out.t.keep (fun _ hp => hbel.cell hp) fun k hk => Nat.lt_of_lt_of_le hk hbel.size, hO.raws.keep (fun _ _ => rfl) fun k hk => hk.2, fun r hr => (HMM.out.k r (hmem r hr)).keep (fun _ hp => hbel.cell hp) fun k hk => Nat.lt_of_lt_of_le hk hbel.size⟩, ⟨HSS.out.n, by have h1 := HSS.out.m; have h2 := HMm.out; show m ≤ 2000; omega, fun r hr => HSS.out.k r (hmem r hr), hfit.2, hfit.1⟩, HMm.out, ⟨rfl, hmem⟩, hbel⟩
   case res =>
    obtain ⟨x0, x1, x2, x3, x4, x5, x6, x7, x8, x9⟩ := qc10 hx; simp [results, Tryz.results26, go_sem, x0, x1, x2, x3, x4, x5, x6, x7, x8, x9]
   case val =>
    have e1 : l.map Rw.v = h.v.hs.eraseIdx j := by
     rw [← HL.out]; exact er_map _ _ _
    unfold Hr.v wo; rw [show (h.more A m c l).rs = l from rfl, e1]; rfl
end Rfd
end Go.Proofs.YtfidmphajohljaaGreat
namespace Go.Proofs.YtfidmphajohljaaGreat
open Go.RowKit Ba Cv Sp Te Ag Tf Sl Tm
open Slc (OfIs OfTo Sls O2)
namespace Rfd
theorem rof' {w : World} {h : Hr} {T : Option Addr} {nt : Nat} {vs : List Trf.Rw} (H : Arg w h T nt vs) (ct : Nat) : Calls Tryz.prog 32 #[hg h, Trf.tg T nt ct] w (OfTo w h.v (vs.map Trf.Rw.v)) := Slc.rof h T nt ct vs w H.m H.s H.hm H.hn H.v H.hv
theorem rkept (h : Hr) (T : Option Addr) (nt ct : Nat) (vs : List Trf.Rw) (w : World) (G : Arg w h T nt vs) : Calls Tryz.prog 13 #[hg h, Trf.tg T nt ct] w (KpTo w h.v (vs.map Trf.Rw.v)) := by
 obtain ⟨W, hW⟩ : ∃ W, (w.alloc (.cells (hc h) 31)).alloc (.cells #[.slice T nt ct] 34) = W := ⟨_, rfl⟩; have H0 := qh (show O2 w W h T nt ct by rw [← hW]; exact Slc.O2.start w h T nt ct); have HW := qh hW; have HG := qh G; have C1 := qh (rof' (G.below H0.out.b) ct); obtain ⟨x0, x1, x2, x3, x4, x5, x6, x7, x8, x9⟩ := qc10 H0.out.x; have y0 := H0.out.y.c 0; simp at y0; clear hW G; go_enter Tryz.func13, Tryz.ntmps13
 go_upto_region 1 with fail
 rw [HW.out]; clear HW
 go_wp2_with fail
 refine C1.out.mono ?_; rintro e w1 ⟨A1, n1, c1, rs1, cd1, rfl, hS1, hn1, hc1, hO1, hb1⟩; have H1 := qh (H0.out.next hb1); have HO1 := qh hO1; clear hb1 C1 H0 x0 x1 x2 x3 x4 x5 x6 x7 x8 x9 y0 hS1 hc1 hn1 hO1; by_cases hk : cd1 = 0
 case neg =>
  have t1 : decide (cd1 = 0) = false := decide_eq_false hk; have t2 : (cd1 == 0) = false := beq_eq_false_iff_ne.2 hk; have t3 : (cd1 != 0) = true := bne_iff_ne.2 hk; have HK := qh hk; clear hk; go_wp2; go_ret2; exact ⟨0, cd1, rfl, .bad _ _ HO1.out HK.out rfl rfl, H1.out.b⟩
 subst hk; have C2 := qh (rturn h w1 (HG.out.m.below H1.out.b) HG.out.s.m); obtain ⟨x0, x1, x2, x3, x4, x5, x6, x7, x8, x9⟩ := qc10 H1.out.x; have y0 := H1.out.y.c 0; simp at y0
 go_wp2_with fail
 refine C2.out.mono ?_; rintro e w2 ⟨o, ho, rfl, hb2⟩; have H2 := qh (H1.out.next hb2); have HOO := qh ho; clear hb2 C2 H1 x0 x1 x2 x3 x4 x5 x6 x7 x8 x9 y0 ho; cases hlt : lt h.v.hs o
 ·have HN := qh hlt; clear hlt; unfold tv; simp only [Option.getD_none]; go_wp2; go_ret2; exact ⟨0, 0, rfl, .none _ HO1.out o HOO.out (fun z hz => by rw [HN.out] at hz; cases hz) rfl rfl, H2.out.b⟩
 rename_i z
 have HZ := qh hlt; obtain ⟨hz0, hz1⟩ := lt_at HOO.out hlt; obtain ⟨j, rfl⟩ : ∃ j : Nat, z = (j : Int) := ⟨z.toNat, by omega⟩; have hlen : h.v.hs.length = h.m := HG.out.m.len; have hjm : j < h.m := by omega
 unfold tv; simp only [Option.getD_some]
 have HMN := qh (show ∃ (ad : Addr) (r : Rw), h.B = some ad ∧ h.rs[j]? = some r ∧ chg h.v.hs (j : Int) = r.v ∧ ∀ W', Below w.heap.size w W' → Nin W' (ad.add (j * 9)) r by
  obtain ⟨ad, r, e, hb, hr, N, _, hv⟩ := HG.out.m.get hjm; refine ⟨ad, r, e, hr, by unfold chg; rw [Int.toNat_natCast, hv]; rfl, fun W' hb' => ?_⟩; obtain ⟨ad', r', e', _, hr', N', _, _⟩ := (HG.out.m.below hb').get hjm; rw [e] at e'; injection e' with e'
  rw [hr] at hr'; injection hr' with hr'
  subst e' hr'; exact N')
 obtain ⟨ad, r, hB, hr, hch, hN⟩ := HMN.out; have HN := qh hN; have HC := qh hch; have HBB := qh hB; clear hB hr hch hN HMN hlt; have tz : decide ((j : Int) < 0) = false := decide_eq_false (by omega); have hjZ : (j : Int) < (h.m : Int) := by omega
 obtain ⟨⟨bk, dy, kd, rr, cs, wy⟩, rA, rn, rc⟩ := r; have none0 := qh (fun (hs : sh ⟨bk, dy, kd, rr, cs, wy⟩ = false) => KpIs.none _ HO1.out o HOO.out (fun z hz => by rw [HZ.out] at hz; injection hz with hz; rw [← hz, HC.out]; exact hs) (show (0 : Int) = 0 from rfl) (show (0 : Int) = 0 from rfl)); by_cases e3 : kd = 3
 case neg =>
  have u1 : (kd == 3) = false := beq_eq_false_iff_ne.2 e3; have u2 : (kd != 3) = true := bne_iff_ne.2 e3; have u3 : decide (kd = 3) = false := decide_eq_false e3; have HQ := qh (none0.out (decide_eq_false (by simp only; omega))); obtain ⟨q0, q1, q2, q3, q4, q5, q6, q7, q8⟩ := HN.out w2 H2.out.b; obtain ⟨x0, x1, x2, x3, x4, x5, x6, x7, x8, x9⟩ := qc10 H2.out.x; have y0 := H2.out.y.c 0; simp at y0; rw [HBB.out] at x9; clear e3 none0; go_wp2; go_ret2; exact ⟨0, 0, rfl, HQ.out, H2.out.b⟩
 subst e3; by_cases e1 : wy = 1
 case neg =>
  have u1 : (wy == 1) = false := beq_eq_false_iff_ne.2 e1; have u2 : (wy != 1) = true := bne_iff_ne.2 e1; have u3 : decide (wy = 1) = false := decide_eq_false e1; have HQ := qh (none0.out (decide_eq_false (by simp only; omega))); obtain ⟨q0, q1, q2, q3, q4, q5, q6, q7, q8⟩ := HN.out w2 H2.out.b; obtain ⟨x0, x1, x2, x3, x4, x5, x6, x7, x8, x9⟩ := qc10 H2.out.x; have y0 := H2.out.y.c 0; simp at y0; rw [HBB.out] at x9; clear e1 none0; go_wp2; go_ret2; exact ⟨0, 0, rfl, HQ.out, H2.out.b⟩
 subst e1; clear none0; have CS := qh (fun v k s2 c H2 H3 H4 => KpIs.some (v := v) (k := k) _ HO1.out o HOO.out (j : Int) HZ.out (by rw [HC.out]; rfl) s2 c H2 H3 H4); obtain ⟨q0, q1, q2, q3, q4, q5, q6, q7, q8⟩ := HN.out w2 H2.out.b; obtain ⟨x0, x1, x2, x3, x4, x5, x6, x7, x8, x9⟩ := qc10 H2.out.x; have y0 := H2.out.y.c 0; simp at y0; rw [HBB.out] at x9
 go_upto_region 7 with fail
 clear x0 x1 x2 x3 x4 x5 x6 x7 x8 x9 y0 q0 q1 q2 q3 q4 q5 q6 q7 q8; refine wp_region_steps (fun L_ a_ w_ => ∃ (v45 v46 v47 v48 v49 v44 v50 v51 v9 v10 : Value), a_ = { tmps := #[hg h, Trf.tg T nt ct, .pointer (some ⟨w.heap.size, 0, none⟩), .pointer (some ⟨w.heap.size + 1, 0, none⟩), .int .i64 0, .int .i64 0, .slice A1 n1 c1, .int .i64 0, .int .i64 (j : Int), v9, v10, undef, undef, .tuple #[.slice A1 n1 c1, .int .i64 0], .agg #[.int .i64 h.id, .int .i64 h.bk, .int .i64 h.s.fst, .int .i64 h.s.snd, .int .i64 h.r.k, .int .i64 h.r.v, .int .i64 h.r.a, .int .i64 h.r.z, .slice h.A h.n h.c, .slice h.B h.m h.d], .agg #[.slice T nt ct], .tuple #[.slice A1 n1 c1, .int .i64 0], .slice A1 n1 c1, .int .i64 0, .int .i64 0, .bool false, undef, .agg #[.int .i64 h.id, .int .i64 h.bk, .int .i64 h.s.fst, .int .i64 h.s.snd, .int .i64 h.r.k, .int .i64 h.r.v, .int .i64 h.r.a, .int .i64 h.r.z, .slice h.A h.n h.c, .slice h.B h.m h.d], .int .i64 (j : Int), .int .i64 (j : Int), .bool false, .bool false, .pointer (some ⟨w.heap.size, 9, none⟩), .slice (some ad) h.m h.d, .int .i64 (j : Int), .pointer (some (ad.add (j * 9))), .pointer (some ⟨(ad.add (j * 9)).block, (ad.add (j * 9)).off + 2, none⟩), .int .i64 3, .bool false, .bool false, .bool false, .pointer (some ⟨w.heap.size, 9, none⟩), .slice (some ad) h.m h.d, .int .i64 (j : Int), .pointer (some (ad.add (j * 9))), .pointer (some ⟨(ad.add (j * 9)).block, (ad.add (j * 9)).off + 8, none⟩), .int .i64 1, .bool false, .bool false, v44, v45, v46, v47, v48, v49, v50, v51, undef, undef, undef, undef, undef, undef, undef, undef, undef, undef, undef, undef, undef, undef, undef, undef, undef, undef, undef, undef, undef, undef, undef, undef, undef, undef], defers := [] } ∧ Hid (K7 w h T nt ct j (vs.map Trf.Rw.v) L_ w_ v45 v46 v47 v48 v49 v44 v50 v51 v9 v10)) (by kernel_rfl) (by kernel_rfl) ?_ (AllSteps.cons ?_ (AllSteps.cons ?_ (AllSteps.cons ?_ (AllSteps.cons ?_ (AllSteps.cons ?_ (AllSteps.cons ?_ (AllSteps.cons ?_ (AllSteps.cons ?_ (AllSteps.cons ?_ (AllSteps.cons ?_ AllSteps.nil)))))))))) ?_
 ·exact ⟨_, _, _, _, _, _, _, _, _, _, rfl, qh ⟨H2.out.next (show Below _ _ (World.drew _) from ⟨rfl, rfl, rfl, Nat.le_refl _, fun _ _ => rfl⟩), (fun h => by cases h), (fun h => by cases h), (fun h => by cases h), (fun h => by cases h), (fun h => by cases h), (fun h => by cases h), (fun h => by cases h), (fun h => by cases h), (fun h => by cases h), (fun h => by cases h), (fun h => by cases h), (fun h => by cases h), (fun h => by cases h), (fun h => by cases h), (fun h => by cases h)⟩⟩
 ·rintro L_ a_ w_ hL hd ⟨v45, v46, v47, v48, v49, v44, v50, v51, v9, v10, rfl, HR⟩ K hK; have hx := HR.out.o.x; have hy := HR.out.o.y; obtain ⟨x0, x1, x2, x3, x4, x5, x6, x7, x8, x9⟩ := qc10 hx; have y0 := hy.c 0; simp at y0; clear hx hy; clear hd; go_simp; exact hK.out _ _ ⟨_, _, _, _, _, _, _, _, _, _, rfl, qh (HR.out.s0 rfl)⟩
 ·rintro L_ a_ w_ hL hd ⟨v45, v46, v47, v48, v49, v44, v50, v51, v9, v10, rfl, HR⟩ K hK; clear hd; go_simp; exact hK.out _ _ ⟨_, _, _, _, _, _, _, _, _, _, rfl, qh (HR.out.s1 rfl)⟩
 ·rintro L_ a_ w_ hL hd ⟨v45, v46, v47, v48, v49, v44, v50, v51, v9, v10, rfl, HR⟩ K hK; have e0 := HR.out.f0 (hd ⟨0, .data⟩ (by simp) rfl); subst e0; have e1 := HR.out.f1 (hd ⟨1, .data⟩ (by simp) rfl); subst e1; have CW := qh (rwithout h j w_ (HG.out.m.below HR.out.o.b) HG.out.s); clear hd; go_simp; refine CW.out.mono ?_; rintro e w5 ⟨k, rfl, a1, a2, a3, a4, a5, hb5⟩; have HR2 := qh (HR.out.up hb5); have FF := qh (And.intro a1 (And.intro a2 (And.intro a3 (And.intro a4 a5)))); clear a1 a2 a3 a4 a5 hb5 CW
  try go_simp
  exact hK.out _ _ ⟨_, _, _, _, _, _, _, _, _, _, rfl, qh (HR2.out.s2 ⟨_, rfl, FF.out⟩)⟩
 ·rintro L_ a_ w_ hL hd ⟨v45, v46, v47, v48, v49, v44, v50, v51, v9, v10, rfl, HR⟩ K hK; have hx := HR.out.o.x; have hy := HR.out.o.y; obtain ⟨x0, x1, x2, x3, x4, x5, x6, x7, x8, x9⟩ := qc10 hx; have y0 := hy.c 0; simp at y0; clear hx hy; clear hd; go_simp; exact hK.out _ _ ⟨_, _, _, _, _, _, _, _, _, _, rfl, qh (HR.out.s3 rfl)⟩
 ·rintro L_ a_ w_ hL hd ⟨v45, v46, v47, v48, v49, v44, v50, v51, v9, v10, rfl, HR⟩ K hK; obtain ⟨k, e2, k1, k2, k3, k4, k5, k6⟩ := HR.out.f2 (hd ⟨2, .data⟩ (by simp) rfl); subst e2; have e3 := HR.out.f3 (hd ⟨3, .data⟩ (by simp) rfl); subst e3; have CF := qh (rof' (show Arg w_ k T nt vs from ⟨k2, k3, Nat.le_trans k4 HG.out.hm, ⟨by rw [k5]; exact HG.out.hn.1, fun r hr => HG.out.hn.2 r (k6 r hr)⟩, (HG.out.below HR.out.o.b).v, HG.out.hv⟩) ct); rw [k1] at CF; clear hd; go_simp; refine CF.out.mono ?_; rintro e w5 ⟨A5, n5, c5, rs5, cd5, rfl, a1, a2, a3, a4, hb5⟩; have HR2 := qh (HR.out.up hb5); have FF := qh (And.intro a1 (And.intro a2 (And.intro a3 a4))); clear a1 a2 a3 a4 hb5 CF k1 k2 k3 k4 k5 k6
  try go_simp
  exact hK.out _ _ ⟨_, _, _, _, _, _, _, _, _, _, rfl, qh (HR2.out.s4 ⟨_, _, _, _, _, rfl, FF.out⟩ hL)⟩
 ·rintro L_ a_ w_ hL hd ⟨v45, v46, v47, v48, v49, v44, v50, v51, v9, v10, rfl, HR⟩ K hK; have l4 := hd ⟨4, .data⟩ (by simp) rfl; clear hd; go_simp; exact hK.out _ _ ⟨_, _, _, _, _, _, _, _, _, _, rfl, qh (HR.out.s5 rfl l4)⟩
 ·rintro L_ a_ w_ hL hd ⟨v45, v46, v47, v48, v49, v44, v50, v51, v9, v10, rfl, HR⟩ K hK; have l4 := HR.out.d5_4 (hd ⟨5, .data⟩ (by simp) rfl); obtain ⟨A5, n5, c5, rs5, cd5, e4, h4⟩ := HR.out.f4 l4; have e5 := HR.out.f5 (hd ⟨5, .data⟩ (by simp) rfl); subst e5; subst e4; clear hd h4; go_simp; exact hK.out _ _ ⟨_, _, _, _, _, _, _, _, _, _, rfl, qh (HR.out.s6 rfl l4)⟩
 ·rintro L_ a_ w_ hL hd ⟨v45, v46, v47, v48, v49, v44, v50, v51, v9, v10, rfl, HR⟩ K hK; have l4 := HR.out.d5_4 (hd ⟨5, .data⟩ (by simp) rfl); obtain ⟨A5, n5, c5, rs5, cd5, e4, h4⟩ := HR.out.f4 l4; have e5 := HR.out.f5 (hd ⟨5, .data⟩ (by simp) rfl); subst e5; subst e4; clear hd h4; go_simp; exact hK.out _ _ ⟨_, _, _, _, _, _, _, _, _, _, rfl, qh (HR.out.s7 rfl l4)⟩
 ·rintro L_ a_ w_ hL hd ⟨v45, v46, v47, v48, v49, v44, v50, v51, v9, v10, rfl, HR⟩ K hK; have e6 := HR.out.f6 (hd ⟨6, .data⟩ (by simp) rfl); subst e6; have l4 := HR.out.d6_4 (hd ⟨6, .data⟩ (by simp) rfl); clear hd; go_simp; exact hK.out _ _ ⟨_, _, _, _, _, _, _, _, _, _, rfl, qh (HR.out.s8 rfl l4)⟩
 ·rintro L_ a_ w_ hL hd ⟨v45, v46, v47, v48, v49, v44, v50, v51, v9, v10, rfl, HR⟩ K hK; have e7 := HR.out.f7 (hd ⟨7, .data⟩ (by simp) rfl); subst e7; have l4 := HR.out.d7_4 (hd ⟨7, .data⟩ (by simp) rfl); clear hd; go_simp; exact hK.out _ _ ⟨_, _, _, _, _, _, _, _, _, _, rfl, qh (HR.out.s9 rfl l4)⟩
 rintro L_ a_ w_ hL ⟨v45, v46, v47, v48, v49, v44, v50, v51, v9, v10, rfl, HR⟩; obtain rfl := HR.out.f0 (hL 0 (by decide)); obtain rfl := HR.out.f1 (hL 1 (by decide)); obtain ⟨k, rfl, _⟩ := HR.out.f2 (hL 2 (by decide)); obtain rfl := HR.out.f3 (hL 3 (by decide)); obtain ⟨A5, n5, c5, rs5, cd5, rfl, hS5, hn5, hc5, hO5⟩ := HR.out.f4 (hL 4 (by decide)); obtain rfl := HR.out.f5 (hL 5 (by decide)); obtain rfl := show v50 = .slice A5 n5 c5 from HR.out.f6 (hL 6 (by decide))
 obtain rfl := show v51 = .int .i64 cd5 from HR.out.f7 (hL 7 (by decide))
 obtain rfl := show v9 = .slice A5 n5 c5 from HR.out.f8 (hL 8 (by decide))
 obtain rfl := show v10 = .int .i64 cd5 from HR.out.f9 (hL 9 (by decide))
 have H3 := qh HR.out.o; have HO5 := qh hO5; have HS5 := qh hS5; have HN5 := qh hn5; clear HR hL hO5 hS5 hn5 hc5 H2; dsimp only [Exit.then]; go_step; by_cases hk : cd5 = 0
 case neg =>
  have t1 : decide (cd5 = 0) = false := decide_eq_false hk; have t2 : (cd5 == 0) = false := beq_eq_false_iff_ne.2 hk; have t3 : (cd5 != 0) = true := bne_iff_ne.2 hk; have HK := qh hk; clear hk; go_wp2; go_ret2; exact ⟨0, cd5, rfl, CS.out _ _ _ _ HO5.out (fun _ => ⟨rfl, rfl⟩) (fun h => absurd h HK.out), H3.out.b⟩
 subst hk; obtain ⟨l5, hl5⟩ : ∃ l5, rs5.map Slc.Rw.v = l5 := ⟨_, rfl⟩; have HL5 := qh hl5; rw [hl5] at HO5; clear hl5; obtain ⟨bv, hbv⟩ : ∃ bv, Acr.btv l5 (dy, h.s.2) = bv := ⟨_, rfl⟩; obtain ⟨bc, hbc⟩ : ∃ bc, Acr.btc l5 (dy, h.s.2) = bc := ⟨_, rfl⟩; have HBV := qh hbv; have HBC := qh hbc; have CB := fun (p : Ext w_) => qh (Acr.between14 A5 n5 c5 rs5 dy h.s.2 p.W (HS5.out.r.below p.b) HN5.out)
 unfold Acr.BtTo at CB; rw [HL5.out, hbv, hbc] at CB; clear hbv hbc; have X9 : ∀ p : Ext w_, p.W.cell? ⟨w.heap.size, 9, none⟩ = some (.slice (some ad) h.m h.d) := fun p => by rw [← HBB.out]; exact H3.out.x.ext p 9
 have X3 : ∀ p : Ext w_, p.W.cell? ⟨w.heap.size, 3, none⟩ = some (.int .i64 h.s.2) := fun p => H3.out.x.ext p 3
 have Q1 : ∀ p : Ext w_, p.W.cell? ⟨(ad.add (j * 9)).block, (ad.add (j * 9)).off + 1, none⟩ = some (.int .i64 dy) := fun p => (HN.out p.W (H3.out.b.trans (p.b.mono H3.out.b.size))).c1
 go_upto_region 10 with fail
 have ne : Nonempty (Ext w_) := ⟨⟨w_, Below.refl _ _⟩⟩; refine quietE (by kernel_rfl) (by kernel_rfl) ?_
 repeat (first | go_big_quiet_skip | quiet_step (first
  | (go_at_call 33; with_reducible exact ext_of (CB _).out)
  | fail))
 refine wpQuiet_nil ?_; rintro _ ⟨p, rfl⟩; have H4 := qh (H3.out.next p.b); generalize p.W = w4 at H4 ⊢; clear CB ne X9 X3 Q1; by_cases hk : bc = 0
 case neg =>
  have t1 : decide (bc = 0) = false := decide_eq_false hk; have t2 : (bc == 0) = false := beq_eq_false_iff_ne.2 hk; have t3 : (bc != 0) = true := bne_iff_ne.2 hk; have HK := qh hk; clear hk; go_wp2; go_ret2; exact ⟨0, bc, rfl, CS.out _ _ _ _ HO5.out (fun h => absurd rfl h) (fun _ => by rw [HC.out]; show kq l5 (dy, h.s.2) _ _; unfold kq; rw [if_neg (by rw [HBC.out]; exact HK.out), HBC.out]; exact ⟨rfl, rfl⟩), H4.out.b⟩
 subst hk; have hbb := bt_bd HBC.out; rw [HBV.out] at hbb; have CE := qh (Num.refBp bv 1000 w4 hbb (by omega)); clear hbb
 go_wp2_with fail
 refine CE.out.mono ?_; rintro e w5 ⟨rfl, rfl⟩; go_wp2; go_ret2; exact ⟨_, _, rfl, CS.out _ _ _ _ HO5.out (fun h => absurd rfl h) (fun _ => by rw [HC.out]; show kq l5 (dy, h.s.2) _ _; unfold kq; rw [if_pos HBC.out, HBV.out]; exact ⟨rfl, rfl⟩), H4.out.b⟩
end Rfd
end Go.Proofs.YtfidmphajohljaaGreat
namespace Go.Proofs.YtfidmphajohljaaGreat
open Go.RowKit Ba Cv Sp Te Ag Tf Sl Tm
open Slc (OfIs OfTo Sls O2)
namespace Rfd
theorem rdue (h : Hr) (T : Option Addr) (nt ct : Nat) (vs : List Trf.Rw) (w : World) (G : Arg w h T nt vs) : Calls Tryz.prog 15 #[hg h, Trf.tg T nt ct] w (DuTo w h.v (vs.map Trf.Rw.v)) := by
 obtain ⟨W, hW⟩ : ∃ W, (w.alloc (.cells (hc h) 31)).alloc (.cells #[.slice T nt ct] 34) = W := ⟨_, rfl⟩; have H0 := qh (show O2 w W h T nt ct by rw [← hW]; exact Slc.O2.start w h T nt ct); have HW := qh hW; have HG := qh G; have C1 := qh (rkept h T nt ct vs W (G.below H0.out.b)); obtain ⟨x0, x1, x2, x3, x4, x5, x6, x7, x8, x9⟩ := qc10 H0.out.x; have y0 := H0.out.y.c 0; simp at y0; clear hW G; go_enter Tryz.func15, Tryz.ntmps15
 go_upto_region 1 with fail
 rw [HW.out]; clear HW
 go_wp2_with fail
 refine C1.out.mono ?_; rintro e w1 ⟨a, k, rfl, hK, hb1⟩; have H1 := qh (H0.out.next hb1); have HKp := qh hK; clear hb1 C1 H0 x0 x1 x2 x3 x4 x5 x6 x7 x8 x9 y0 hK; by_cases hk : k = 0
 case neg =>
  have t1 : decide (k = 0) = false := decide_eq_false hk; have t2 : (k == 0) = false := beq_eq_false_iff_ne.2 hk; have t3 : (k != 0) = true := bne_iff_ne.2 hk; have HK := qh hk; clear hk; go_wp2; go_ret2; exact ⟨0, k, rfl, ⟨a, k, HKp.out, fun _ => ⟨rfl, rfl⟩, fun h => absurd h HK.out⟩, H1.out.b⟩
 subst hk; have C2 := qh (rof' (HG.out.below H1.out.b) ct); obtain ⟨x0, x1, x2, x3, x4, x5, x6, x7, x8, x9⟩ := qc10 H1.out.x; have y0 := H1.out.y.c 0; simp at y0
 go_wp2_with fail
 refine C2.out.mono ?_; rintro e w2 ⟨A2, n2, c2, rs2, cd2, rfl, hS2, hn2, hc2, hO2, hb2⟩; have H2 := qh (H1.out.next hb2); obtain ⟨ss, hss⟩ := HKp.out.of; obtain ⟨rfl, rfl⟩ := hss.one hO2; obtain ⟨l, hl⟩ : ∃ l, rs2.map Slc.Rw.v = l := ⟨_, rfl⟩; have C3 := qh (Acr.written14 A2 n2 c2 rs2 w2 hS2.r hn2); unfold Acr.UpTo at C3; rw [hl] at C3 hss; have HS := qh hss; clear hb2 C2 H1 x0 x1 x2 x3 x4 x5 x6 x7 x8 x9 y0 hss hO2 hS2 hn2 hc2 hl; obtain ⟨u, hu⟩ : ∃ u, Acr.upv l 292195 = u := ⟨_, rfl⟩; obtain ⟨c, hc⟩ : ∃ c, Acr.upc l 292195 = c := ⟨_, rfl⟩; have HU := qh hu; have HC := qh hc; rw [hu, hc] at C3; clear hu hc
 go_wp2_with fail
 refine C3.out.mono ?_; rintro e w3 ⟨rfl, hb3⟩; have H3 := qh (H2.out.next hb3); clear hb3 C3 H2; by_cases hk : c = 0
 case neg =>
  have t1 : decide (c = 0) = false := decide_eq_false hk; have t2 : (c == 0) = false := beq_eq_false_iff_ne.2 hk; have t3 : (c != 0) = true := bne_iff_ne.2 hk; have HK := qh hk; clear hk; go_wp2; go_ret2; exact ⟨0, c, rfl, ⟨a, 0, HKp.out, fun h => absurd rfl h, fun _ => ⟨l, HS.out, by unfold dq; rw [if_neg (by rw [HC.out]; exact HK.out), HC.out]; exact ⟨rfl, rfl⟩⟩⟩, H3.out.b⟩
 subst hk; have b1 := HKp.out.bd; have b2 := up_bd HC.out; rw [HU.out] at b2; have hw : wrap64 (u + a) = u + a := IntWalk.wrap64_in _ (by omega); have HLE := qh (show u + a ≤ 4000000000000000000 by omega); have t1 : decide (4000000000000000000 < u + a) = false := decide_eq_false (by omega); clear b1 b2; go_wp2; go_ret2; exact ⟨u + a, 0, by show Ending.returned (.tuple #[.int .i64 (wrap64 (u + a)), .int .i64 0]) = _; rw [hw], ⟨a, 0, HKp.out, fun h => absurd rfl h, fun _ => ⟨l, HS.out, by unfold dq; rw [if_pos HC.out, HU.out, if_pos HLE.out]; exact ⟨rfl, rfl⟩⟩⟩, H3.out.b⟩
end Rfd
end Go.Proofs.YtfidmphajohljaaGreat
