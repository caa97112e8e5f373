/-
  The statement KnownNever holds: for every input the call returns true, and each argument reads afterwards as it read before. Conditions: none beside those that the row itself bears.
-/
import Derived.Test.YtbjnjeidgdmdiaaGreatKLaws13
import Derived.Test.YtbjnjeidgdmdiaaGreatKChP
namespace Go.Proofs.YtbjnjeidgdmdiaaGreat
open Go.RowKit Ba Cv Sp Te Ag Tf Sl Tm
namespace Slc
set_option linter.unusedVariables false
theorem steps_bk {s : Sp} : ∀ {hs : List Ch} {b : Int}, Ag.steps s b hs = true → b ≤ Ag.last b hs ∧ ∀ c ∈ hs, c.bk ≤ Ag.last b hs
 | [], b, _ => ⟨Int.le_refl _, fun c hc => by cases hc⟩
 | x :: l, b, h => by
  rw [Ag.steps, Bool.and_eq_true, Bool.and_eq_true, Bool.and_eq_true, decide_eq_true_iff] at h; have ih := steps_bk h.2.2
  have e : Ag.last b (x :: l) = Ag.last x.bk l := by
   unfold Ag.last; rw [List.getLast?_cons]; cases l.getLast? <;> rfl
  rw [e]; refine ⟨by omega, fun c hc => ?_⟩; rcases List.mem_cons.1 hc with rfl | hc
  ·exact ih.1
  ·exact ih.2 c hc
theorem never_before {h x : Hi} {c : Ch} {vs : List Ve} {code : Int} {ss : List Sc} (hx : x = ⟨h.id, h.bk, h.s, h.r, h.cs, h.hs ++ [c]⟩) (H : SlIs x vs (c.bk - 1) code ss) : SlIs h vs (c.bk - 1) code ss := by
 subst hx
 have e : kn ⟨h.id, h.bk, h.s, h.r, h.cs, h.hs ++ [c]⟩ (c.bk - 1) = kn h (c.bk - 1) := by
  unfold kn; rw [List.filter_append, List.filter_cons_of_neg (by simp; omega), List.filter_nil, List.append_nil]
 cases H with
 | none h0 h1 h2 => exact .none h0 h1 h2
 | known h0 h1 => rw [e] at h1; exact .known h0 h1
theorem never_then {h x : Hi} {c : Ch} {vs : List Ve} {code : Int} {ss : List Sc} (hx : x = ⟨h.id, h.bk, h.s, h.r, h.cs, h.hs ++ [c]⟩) (hh : Ag.hst h = true) (hc : Ag.last h.bk h.hs ≤ c.bk) (H : OfIs x vs code ss) : SlIs x vs c.bk code ss := by
 unfold Ag.hst at hh; rw [Bool.and_eq_true] at hh; have hb := steps_bk hh.2; subst hx; refine .known (by show h.bk ≤ c.bk; omega) ?_; rw [kn_all fun y hy => ?_]
 ·exact H
 ·rcases List.mem_append.1 hy with hy | hy
  ·have := hb.2 y hy; omega
  ·rw [List.mem_singleton] at hy; subst hy; exact Int.le_refl _
set_option maxRecDepth 100000 in
set_option maxHeartbeats 4000000 in
theorem walk_KnownNever {w : World} (h : Hr) (G : GivenH w h) (T : Option Addr) (nt ct : Nat) (vs : List Trf.Rw) (GT : Trf.GivenT w T nt ct vs) (r : Tm.Rw) (GR : GivenR w r) : Calls Tryz.prog 5 #[hg h, Trf.tg T nt ct, Tm.vg r] w (Yes w true) := by
 have HGR := Lib.hid GR; clear GR; obtain ⟨W, hW⟩ : ∃ W, ((w.alloc (.cells (hc h) 31)).alloc (.cells #[.slice T nt ct] 34)).alloc (.cells (Tm.vc r) 50) = W := ⟨_, rfl⟩; have H0 := Lib.hid (show O3 w W h T nt ct 50 (Tm.vc r) by rw [← hW]; exact O3.start w h T nt ct _ _); have HW := Lib.hid hW; have HG := Lib.hid G; have HGT := Lib.hid GT; clear hW G GT; go_enter Tryz.func5, Tryz.ntmps5
 go_upto_region 1 with fail
 rw [HW.out]; clear HW; have x0 := H0.out.o.x.c 0; have x1 := H0.out.o.x.c 1; have x2 := H0.out.o.x.c 2; have x3 := H0.out.o.x.c 3; have x4 := H0.out.o.x.c 4; have x5 := H0.out.o.x.c 5; have x6 := H0.out.o.x.c 6; have x7 := H0.out.o.x.c 7; have x8 := H0.out.o.x.c 8; have x9 := H0.out.o.x.c 9; have y0 := H0.out.o.y.c 0; have c0 := H0.out.z.c 0; have c1 := H0.out.z.c 1; have c2 := H0.out.z.c 2; have c3 := H0.out.z.c 3; have c4 := H0.out.z.c 4; have c5 := H0.out.z.c 5; have c6 := H0.out.z.c 6; have c7 := H0.out.z.c 7; have c8 := H0.out.z.c 8; simp at x0 x1 x2 x3 x4 x5 x6 x7 x8 x9 y0 c0 c1 c2 c3 c4 c5 c6 c7 c8; have C := Lib.hid (few12 h T nt ct vs W (gh_below HG.out H0.out.o.b) (gt_below HGT.out H0.out.o.b))
 go_wp2_with fail
 refine C.out.mono ?_; rintro e w1 ⟨yes, rfl, hb1, hs⟩; have H1 := Lib.hid (H0.out.next hb1); have HS0 := Lib.hid hs; clear hb1 hs C x0 x1 x2 x3 x4 x5 x6 x7 x8 x9 y0 c0 c1 c2 c3 c4 c5 c6 c7 c8 H0; cases yes
 ·go_wp2_with fail
  refine (alive13 _).mono ?_; rintro e w9 ⟨rfl, hb9⟩; have H9 := Lib.hid (H1.out.next hb9); clear hb9; go_wp2; go_ret; exact ⟨rfl, H9.out.o.b⟩
 have HS := Lib.hid (HS0.out rfl); clear HS0; have c7 := H1.out.z.c 7; simp at c7; by_cases hn : 50 < r.n
 ·have t1 : decide ((50 : Int) < (r.n : Int)) = true := decide_eq_true (by omega)
  go_wp2_with fail
  refine (alive13 _).mono ?_; rintro e w9 ⟨rfl, hb9⟩; have H9 := Lib.hid (H1.out.next hb9); clear hb9; go_wp2; go_ret; exact ⟨rfl, H9.out.o.b⟩
 have t1 : decide ((50 : Int) < (r.n : Int)) = false := decide_eq_false (by omega); have HRN := Lib.hid (show r.n ≤ 3000 by omega)
 go_upto_region 3 with fail
 clear t1 hn c7; have x0 := H1.out.o.x.c 0; have x1 := H1.out.o.x.c 1; have x2 := H1.out.o.x.c 2; have x3 := H1.out.o.x.c 3; have x4 := H1.out.o.x.c 4; have x5 := H1.out.o.x.c 5; have x6 := H1.out.o.x.c 6; have x7 := H1.out.o.x.c 7; have x8 := H1.out.o.x.c 8; have x9 := H1.out.o.x.c 9; have y0 := H1.out.o.y.c 0; have c0 := H1.out.z.c 0; have c1 := H1.out.z.c 1; have c2 := H1.out.z.c 2; have c3 := H1.out.z.c 3; have c4 := H1.out.z.c 4; have c5 := H1.out.z.c 5; have c6 := H1.out.z.c 6; have c7 := H1.out.z.c 7; have c8 := H1.out.z.c 8; simp at x0 x1 x2 x3 x4 x5 x6 x7 x8 x9 y0 c0 c1 c2 c3 c4 c5 c6 c7 c8; have C := Lib.hid (Tm.put_ h r w1 (HG.out.M.below H1.out.o.b) (HS.out.hs HG.out) (HGR.out.c.below H1.out.o.b) HRN.out)
 go_wp2_with fail
 refine C.out.mono ?_; rintro e w2 ⟨k, rfl, hR⟩; obtain ⟨cd, hcd⟩ : ∃ cd, Ag.code h.s h.bk h.v.hs r.v = cd := ⟨_, rfl⟩; have HCD := Lib.hid hcd; rw [hcd]; obtain ⟨W3, hW3⟩ : ∃ W3, w2.alloc (.cells (hc k) 31) = W3 := ⟨_, rfl⟩; have hb3 : Below w2.heap.size w2 W3 := hW3 ▸ alloc_ _ _; have HX3 := Lib.hid (show Bx W3 w2.heap.size 31 (hc k) from hW3 ▸ Bx.new w2 31 (hc k)); have H3 := Lib.hid ((H1.out.next hR.b).next hb3); have HKM := Lib.hid ((hR.m.keep (ok' := (· < w2.heap.size)) (fun _ _ => rfl) fun b hb => hb.2).below hb3); have HKS := Lib.hid hR.s; have HKV := Lib.hid hR.v; have HW3 := Lib.hid hW3; clear hR hW3 hb3 hcd C x0 x1 x2 x3 x4 x5 x6 x7 x8 x9 y0 c0 c1 c2 c3 c4 c5 c6 c7 c8 H1
 go_upto_region 4 with fail
 rw [HW3.out]; clear HW3; by_cases h0 : cd = 0
 ·subst h0; obtain ⟨hrc, hlast, hlen⟩ := Ag.code_zero.1 HCD.out
  have hx : k.v = ⟨h.v.id, h.v.bk, h.v.s, h.v.r, h.v.cs, h.v.hs ++ [r.v]⟩ := by
   rw [HKV.out]; unfold Tm.phi; rw [if_pos (show Ag.code h.v.s h.v.bk h.v.hs r.v = 0 from HCD.out)]
  have HX := Lib.hid hx
  have hbd : 1 ≤ r.v.bk ∧ r.v.bk ≤ 292194 := by
   rw [Bool.and_eq_true] at hrc; have h1 := hrc.1; unfold Ag.rch at h1; rw [Bool.and_eq_true] at h1; exact Ag.day_iff.1 h1.1
  have hkm : k.m ≤ 100 := by
   have h1 : (h.v.hs ++ [r.v]).length = k.m := by have h1 := HKM.out.len; rw [hx] at h1; exact h1
   have h2 : (h.v.hs ++ [r.v]).length = h.m + 1 := by rw [List.length_append, HG.out.M.len]; rfl
   have h3 := HS.out.m; omega
  have HKMM := Lib.hid hkm; have HLAST := Lib.hid hlast; obtain ⟨bk, hbk⟩ : ∃ bk, r.v.bk = bk := ⟨_, rfl⟩; rw [hbk] at hbd; have HBK := Lib.hid hbk; obtain ⟨b1, em⟩ : ∃ b1, bk - 1 = b1 := ⟨_, rfl⟩; have ew : wrap64 b1 = b1 := IntWalk.wrap64_in _ ⟨by omega, by omega⟩; have ew2 : IntKind.i64.wrap b1 = b1 := (IntWalk.i64_left _).trans ew; have HEM := Lib.hid em; have CH := Lib.hid (Tm.history_ h W3 (HG.out.M.below H3.out.o.b) (HS.out.hs HG.out)); obtain ⟨q, hq⟩ : ∃ q, Ag.hst h.v = q := ⟨_, rfl⟩; rw [hq] at CH; have HQ := Lib.hid hq; clear hrc hlast hlen hx hkm hbk em hq hbd HCD HKV; have x0 := H3.out.o.x.c 0; have x1 := H3.out.o.x.c 1; have x2 := H3.out.o.x.c 2; have x3 := H3.out.o.x.c 3; have x4 := H3.out.o.x.c 4; have x5 := H3.out.o.x.c 5; have x6 := H3.out.o.x.c 6; have x7 := H3.out.o.x.c 7; have x8 := H3.out.o.x.c 8; have x9 := H3.out.o.x.c 9; have y0 := H3.out.o.y.c 0; have c0 := H3.out.z.c 0; simp at x0 x1 x2 x3 x4 x5 x6 x7 x8 x9 y0 c0; rw [HBK.out] at c0
  go_wp2_with fail
  refine CH.out.mono ?_; rintro e w4 ⟨rfl, hb4⟩; have H4 := Lib.hid (H3.out.next hb4); have HX4 := Lib.hid (HX3.out.keep hb4); have HKM4 := Lib.hid (HKM.out.below hb4); clear hb4 CH x0 x1 x2 x3 x4 x5 x6 x7 x8 x9 y0 c0 H3 HX3 HKM; cases q
  ·go_wp2_with fail
   refine (alive13 _).mono ?_; rintro e w9 ⟨rfl, hb9⟩; have H9 := Lib.hid (H4.out.next hb9); clear hb9; go_wp2; go_ret; exact ⟨rfl, H9.out.o.b⟩
  have x0 := H4.out.o.x.c 0; have x1 := H4.out.o.x.c 1; have x2 := H4.out.o.x.c 2; have x3 := H4.out.o.x.c 3; have x4 := H4.out.o.x.c 4; have x5 := H4.out.o.x.c 5; have x6 := H4.out.o.x.c 6; have x7 := H4.out.o.x.c 7; have x8 := H4.out.o.x.c 8; have x9 := H4.out.o.x.c 9; have y0 := H4.out.o.y.c 0; have c0 := H4.out.z.c 0; simp at x0 x1 x2 x3 x4 x5 x6 x7 x8 x9 y0 c0; rw [HBK.out] at c0; have C := Lib.hid (kslices h T nt ct vs b1 w4 (HG.out.M.below H4.out.o.b) (HS.out.hs HG.out) (Nat.le_trans HS.out.m (by omega)) (HS.out.vers (gt_below HGT.out H4.out.o.b)) (Nat.le_trans HS.out.t (by omega))); have em := HEM.out
  go_wp2_with fail
  clear em; refine C.out.mono ?_; rintro e w5 ⟨A5, n5, c5, rs5, cd5, rfl, hs, hn, _, hi, hb⟩; have H5 := Lib.hid (H4.out.next hb); have HX5 := Lib.hid (HX4.out.keep hb); have HKM5 := Lib.hid (HKM4.out.below hb); have S5 := Lib.hid hs; have I5 := Lib.hid hi; have F5 := Lib.hid hn; clear hs hn hi hb C x0 x1 x2 x3 x4 x5 x6 x7 x8 x9 y0 c0 H4 HX4 HKM4; have x0 := H5.out.o.x.c 0; have x1 := H5.out.o.x.c 1; have x2 := H5.out.o.x.c 2; have x3 := H5.out.o.x.c 3; have x4 := H5.out.o.x.c 4; have x5 := H5.out.o.x.c 5; have x6 := H5.out.o.x.c 6; have x7 := H5.out.o.x.c 7; have x8 := H5.out.o.x.c 8; have x9 := H5.out.o.x.c 9; have y0 := H5.out.o.y.c 0; have c0 := H5.out.z.c 0; simp at x0 x1 x2 x3 x4 x5 x6 x7 x8 x9 y0 c0; rw [HBK.out] at c0; have u0 := HX5.out.c 0; have u1 := HX5.out.c 1; have u2 := HX5.out.c 2; have u3 := HX5.out.c 3; have u4 := HX5.out.c 4; have u5 := HX5.out.c 5; have u6 := HX5.out.c 6; have u7 := HX5.out.c 7; have u8 := HX5.out.c 8; have u9 := HX5.out.c 9; simp at u0 u1 u2 u3 u4 u5 u6 u7 u8 u9; have C := Lib.hid (kslices k T nt ct vs b1 w5 HKM5.out HKS.out HKMM.out (HS.out.vers (gt_below HGT.out H5.out.o.b)) (Nat.le_trans HS.out.t (by omega))); have em := HEM.out
  go_wp2_with fail
  clear em; refine C.out.mono ?_; rintro e w6 ⟨A6, n6, c6, rs6, cd6, rfl, hs, hn, _, hi, hb⟩; have H6 := Lib.hid (H5.out.next hb); have HX6 := Lib.hid (HX5.out.keep hb); have HKM6 := Lib.hid (HKM5.out.below hb); have T5 := Lib.hid (S5.out.below hb); have S6 := Lib.hid hs; have F6 := Lib.hid hn; have EQ1 := Lib.hid (I5.out.one (never_before (c := r.v) HX.out (by rw [HBK.out, HEM.out]; exact hi) |> fun z => by rw [HBK.out, HEM.out] at z; exact z)); clear hs hn hi hb C x0 x1 x2 x3 x4 x5 x6 x7 x8 x9 y0 c0 u0 u1 u2 u3 u4 u5 u6 u7 u8 u9 H5 HX5 HKM5 S5 I5 ew ew2 HEM; have x0 := H6.out.o.x.c 0; have x1 := H6.out.o.x.c 1; have x2 := H6.out.o.x.c 2; have x3 := H6.out.o.x.c 3; have x4 := H6.out.o.x.c 4; have x5 := H6.out.o.x.c 5; have x6 := H6.out.o.x.c 6; have x7 := H6.out.o.x.c 7; have x8 := H6.out.o.x.c 8; have x9 := H6.out.o.x.c 9; have y0 := H6.out.o.y.c 0; have c0 := H6.out.z.c 0; simp at x0 x1 x2 x3 x4 x5 x6 x7 x8 x9 y0 c0; rw [HBK.out] at c0; have u0 := HX6.out.c 0; have u1 := HX6.out.c 1; have u2 := HX6.out.c 2; have u3 := HX6.out.c 3; have u4 := HX6.out.c 4; have u5 := HX6.out.c 5; have u6 := HX6.out.c 6; have u7 := HX6.out.c 7; have u8 := HX6.out.c 8; have u9 := HX6.out.c 9; simp at u0 u1 u2 u3 u4 u5 u6 u7 u8 u9; have C := Lib.hid (kslices k T nt ct vs bk w6 HKM6.out HKS.out HKMM.out (HS.out.vers (gt_below HGT.out H6.out.o.b)) (Nat.le_trans HS.out.t (by omega)))
  go_wp2_with fail
  refine C.out.mono ?_; rintro e w7 ⟨A7, n7, c7, rs7, cd7, rfl, hs, hn, _, hi, hb⟩; have H7 := Lib.hid (H6.out.next hb); have HX7 := Lib.hid (HX6.out.keep hb); have HKM7 := Lib.hid (HKM6.out.below hb); have T5' := Lib.hid (T5.out.below hb); have T6 := Lib.hid (S6.out.below hb); have S7 := Lib.hid hs; have F7 := Lib.hid hn; have I7 := Lib.hid hi; clear hs hn hi hb C x0 x1 x2 x3 x4 x5 x6 x7 x8 x9 y0 c0 u0 u1 u2 u3 u4 u5 u6 u7 u8 u9 H6 HX6 HKM6 T5 S6; have x0 := H7.out.o.x.c 0; have x1 := H7.out.o.x.c 1; have x2 := H7.out.o.x.c 2; have x3 := H7.out.o.x.c 3; have x4 := H7.out.o.x.c 4; have x5 := H7.out.o.x.c 5; have x6 := H7.out.o.x.c 6; have x7 := H7.out.o.x.c 7; have x8 := H7.out.o.x.c 8; have x9 := H7.out.o.x.c 9; have y0 := H7.out.o.y.c 0; have c0 := H7.out.z.c 0; simp at x0 x1 x2 x3 x4 x5 x6 x7 x8 x9 y0 c0; rw [HBK.out] at c0; have u0 := HX7.out.c 0; have u1 := HX7.out.c 1; have u2 := HX7.out.c 2; have u3 := HX7.out.c 3; have u4 := HX7.out.c 4; have u5 := HX7.out.c 5; have u6 := HX7.out.c 6; have u7 := HX7.out.c 7; have u8 := HX7.out.c 8; have u9 := HX7.out.c 9; simp at u0 u1 u2 u3 u4 u5 u6 u7 u8 u9; have C := Lib.hid (of_ k T nt ct vs w7 HKM7.out HKS.out HKMM.out (HS.out.vers (gt_below HGT.out H7.out.o.b)) (Nat.le_trans HS.out.t (by omega)))
  go_wp2_with fail
  refine C.out.mono ?_; rintro e w8 ⟨A8, n8, c8, rs8, cd8, rfl, hs, hn, _, hi, hb⟩; have H8 := Lib.hid (H7.out.next hb); have U5 := Lib.hid (T5'.out.below hb); have U6 := Lib.hid (T6.out.below hb); have U7 := Lib.hid (S7.out.below hb); have S8 := Lib.hid hs; have F8 := Lib.hid hn; have EQ2 := Lib.hid (I7.out.one (by have h1 := never_then HX.out HQ.out HLAST.out hi; rw [HBK.out] at h1; exact h1)); clear hs hn hi hb C x0 x1 x2 x3 x4 x5 x6 x7 x8 x9 y0 c0 u0 u1 u2 u3 u4 u5 u6 u7 u8 u9 H7 HX7 HKM7 T5' T6 S7 I7; obtain ⟨rfl, he1⟩ := EQ1.out; obtain ⟨rfl, he2⟩ := EQ2.out; have te1 : decide (cd5 = cd5) = true := decide_eq_true rfl; have te2 : decide (cd7 = cd7) = true := decide_eq_true rfl; have HE1 := Lib.hid he1; have HE2 := Lib.hid he2; clear EQ1 EQ2 he1 he2
  go_wp2_with fail
  refine (alive13 w8).mono ?_; rintro e w9 ⟨rfl, hb⟩; have H9 := Lib.hid (H8.out.next hb); have V5 := Lib.hid (U5.out.below hb); have V6 := Lib.hid (U6.out.below hb); have V7 := Lib.hid (U7.out.below hb); have V8 := Lib.hid (S8.out.below hb); have CA := Lib.hid (all_ A5 A6 n5 n6 c5 c6 rs5 rs6 w9 V5.out V6.out (by have := F5.out; omega) (by have := F6.out; omega)); rw [decide_eq_true HE1.out] at CA; clear hb H8 U5 U6 U7 S8
  go_wp2_with fail
  refine CA.out.mono ?_; rintro e w10 ⟨rfl, hb⟩; have H10 := Lib.hid (H9.out.next hb); have CB := Lib.hid (all_ A7 A8 n7 n8 c7 c8 rs7 rs8 w10 (V7.out.below hb) (V8.out.below hb) (by have := F7.out; omega) (by have := F8.out; omega)); rw [decide_eq_true HE2.out] at CB; clear hb CA H9 V5 V6 V7 V8
  go_wp2_with fail
  refine CB.out.mono ?_; rintro e w11 ⟨rfl, hb⟩; have H11 := Lib.hid (H10.out.next hb); clear hb CB H10; go_wp2; go_ret; exact ⟨rfl, H11.out.o.b⟩
 ·have t0 : decide (cd = 0) = false := decide_eq_false h0; have t1 : (cd == 0) = false := beq_eq_false_iff_ne.2 h0; have t2 : (cd != 0) = true := bne_iff_ne.2 h0; clear h0
  go_wp2_with fail
  refine (alive13 _).mono ?_; rintro e w9 ⟨rfl, hb9⟩; have H9 := Lib.hid (H3.out.next hb9); clear hb9; go_wp2; go_ret; exact ⟨rfl, H9.out.o.b⟩
end Slc
end Go.Proofs.YtbjnjeidgdmdiaaGreat
namespace Go.Proofs.YtbjnjeidgdmdiaaGreat.knownNever
open Go.ChangeShapes Go.WideShapes Go.ChangeAt Go.RowKit Ba Cv Sp Te Ag Tf Sl Slc
set_option linter.unusedVariables false
set_option maxRecDepth 100000 in
theorem lifted (os : Os) (started : os.Started) (H : Type) (enc : TypeId × Value → H) :
  ReturnsInHanded {} Tryz.checked os 5 .any (Rows.knownNeverSpec.pre6 enc Tryz.prog Tryz.f5 Rows.knownNeverRow.domain false) (Rows.knownNeverSpec.post enc Tryz.prog Tryz.f5 false true false false) := by
 refine returnsInHanded_of_change_sized (C := Tryz.checked) Slc.own started (by kernel_rfl) Tryz.func5
  (ChangeSpec.witness6 (enc := enc) (C := Tryz.checked) false ⟨#[], #[.agg #[.int .i64 0, .int .i64 0, .int .i64 0, .int .i64 0, .int .i64 0, .int .i64 0, .int .i64 0, .int .i64 0, .slice none 0 0, .slice none 0 0], .agg #[.slice none 0 0], .agg #[.int .i64 0, .int .i64 0, .int .i64 0, .int .i64 0, .int .i64 0, .int .i64 0, .int .i64 0, .slice none 0 0, .int .i64 0]], []⟩ 8 (by kernel_rfl) (by kernel_rfl) (by kernel_rfl) (by kernel_rfl)) ?_
 intro W base args ds gs before hval0 hW hcnd hsz0 _; have hval : ∀ (j : Nat) t v, Tryz.f5.params[j]? = some t → args[j]? = some v → Value.okWide Tryz.prog W .any base t v := hval0; have hW' := hW; have hsz : (DataW.weightsEach Tryz.prog (Tryz.f5.params.toList ++ Rows.knownNeverSpec.plain.varTypes Tryz.prog) (ds ++ gs)).all (· ≤ reachBytes) = true := hsz0; obtain ⟨p, q, hA0, hV, rfl, hfz, hnd⟩ := hW; have hA : DataW.TrodAll enc Tryz.prog W 0 (fun _ => true) true Tryz.f5.params.toList args.toList ds p := hA0; rw [Tryz.params5] at hA hval hsz; obtain ⟨v0, vs0, d0, ds0, p0, q0, hargs, rfl, rfl, h0, r0⟩ := trodAll_cons hA; obtain ⟨v1, vs1, d1, ds1, p1, q1, rfl, rfl, rfl, h1, r1⟩ := trodAll_cons r0; obtain ⟨v2, vs2, d2, ds2, p2, q2, rfl, rfl, rfl, h2, r2⟩ := trodAll_cons r1; obtain ⟨rfl, rfl, rfl⟩ := trodAll_nil r2; obtain rfl : args = #[v0, v1, v2] := by cases args; simp_all
 obtain ⟨rfl, rfl⟩ := trodVars_none hV; have k0 := h0; have lt0 : ∀ x ∈ p0, x.block < W.heap.size := by obtain ⟨m, hm⟩ := k0; exact DataW.trod_lt m _ _ _ hm
 obtain ⟨y0, rfl, g0⟩ := Slc.open_history (hval 0 31 v0 rfl rfl) h0 (fun k hk => of_decide_eq_true (List.all_eq_true.1 hsz _ (DataW.weights_mem_each (j := 0) rfl rfl k hk))); have k1 := h1; have lt1 : ∀ x ∈ p1, x.block < W.heap.size := by obtain ⟨m, hm⟩ := k1; exact DataW.trod_lt m _ _ _ hm
 obtain ⟨A1, n1, c1, s1, rfl, g1⟩ := Slc.open_tariff (hval 1 34 v1 rfl rfl) h1 (fun k hk => of_decide_eq_true (List.all_eq_true.1 hsz _ (DataW.weights_mem_each (j := 1) rfl rfl k hk))); have k2 := h2; have lt2 : ∀ x ∈ p2, x.block < W.heap.size := by obtain ⟨m, hm⟩ := k2; exact DataW.trod_lt m _ _ _ hm
 obtain ⟨x2, rfl, g2⟩ := Slc.open_change (hval 2 50 v2 rfl rfl) h2 (fun k hk => of_decide_eq_true (List.all_eq_true.1 hsz _ (DataW.weights_mem_each (j := 2) rfl rfl k hk))); clear hA0 hval0 hsz hsz0; refine (Slc.walk_KnownNever y0 g0 A1 n1 c1 s1 g1 x2 g2).mono fun e W' ⟨he, bel⟩ => ?_
 subst he; exact ⟨_, rfl, _, _, _, [], _, [], hW', trodAll_mk1 (shut_bool Tryz.underlying4 _), (trodAll_cons_mk (Below.trod Slc.laidOut (by kernel_rfl) (of_decide_eq_true (by kernel_rfl)) k0 bel lt0) (trodAll_cons_mk (Below.trod Slc.laidOut (by kernel_rfl) (of_decide_eq_true (by kernel_rfl)) k1 bel lt1) (trodAll_cons_mk (Below.trod Slc.laidOut (by kernel_rfl) (of_decide_eq_true (by kernel_rfl)) k2 bel lt2) trodAll_mk0))), rfl, bel.frame _, fun h => by cases h⟩
theorem over : Rows.knownNeverRow.holds Tryz.pinned (OpenSpec.ofChange Rows.knownNeverSpec) :=
 OpenClaim.holds_of_wide 5 Tryz.f5 rfl rfl rfl rfl rfl rfl rfl ⟨rfl, rfl, rfl, rfl, rfl⟩ rfl rfl rfl rfl rfl (by kernel_rfl) Tryz.func5 (by kernel_rfl)
  (of_decide_eq_true (by kernel_rfl)) (by unfold Func.isWrapper; first | (rw [if_pos (by decide +kernel)]; kernel_rfl) | (rw [if_neg (by decide +kernel)]; exact ⟨rfl, rfl⟩))
  (fun os started H enc _ => lifted os started H enc)
theorem proved : Rows.KnownNeverSaid := over
end Go.Proofs.YtbjnjeidgdmdiaaGreat.knownNever
