/-
  What two changes give is what both give. Conditions: the program tells what is kept, due and given.
-/
import Derived.Test.YtfidmphajohljaaGreatMRdb
namespace Go.Proofs.YtfidmphajohljaaGreat
open Go.RowKit Ba Cv Sp Te Ag Tf Sl Tm Slc
namespace Rfd
set_option linter.unusedVariables false
structure S3 (w W : World) (h : Hr) (T : Option Addr) (n c : Nat) (r q : Tm.Rw) : Prop where
 b : Below w.heap.size w W
 x : Bx W w.heap.size 31 (hc h)
 y : Bx W (w.heap.size + 1) 34 #[.slice T n c]
 z : Bx W (w.heap.size + 2) 56 (zz r q)
theorem S3.next {w W W' : World} {h : Hr} {T : Option Addr} {n c : Nat} {r q : Tm.Rw} (H : S3 w W h T n c r q) (hb : Below W.heap.size W W') : S3 w W' h T n c r q := ⟨H.b.trans (hb.mono H.b.size), H.x.keep hb, H.y.keep hb, H.z.keep hb⟩
theorem S3.start (w : World) (h : Hr) (T : Option Addr) (n c : Nat) (r q : Tm.Rw) : S3 w (((w.alloc (.cells (hc h) 31)).alloc (.cells #[.slice T n c] 34)).alloc (.cells (zz r q) 56)) h T n c r q := by
 refine ⟨((alloc_ _ _).alloc (by simp) _).alloc (by simp; omega) _, ((Bx.new _ _ _).alloc _).alloc _, ?_, ?_⟩
 ·have := (Bx.new (w.alloc (.cells (hc h) 31)) 34 #[.slice T n c]).alloc (.cells (zz r q) 56); rw [World.size_alloc] at this; exact this
 ·have := Bx.new ((w.alloc (.cells (hc h) 31)).alloc (.cells #[.slice T n c] 34)) 56 (zz r q); rw [World.size_alloc, World.size_alloc] at this; exact this
theorem arg_phi {w W : World} {h k : Hr} {T : Option Addr} {nt : Nat} {vs : List Trf.Rw} {r : Tm.Rw} (A : Arg w h T nt vs) (V : Trf.Vers W T nt vs) (hm : h.m ≤ 98) (hr : r.v.cs.length ≤ 1000) (hv : k.v = phi h.v r.v) (M : HM W (· < W.heap.size) k) (S : HS k) : Arg W k T nt vs ∧ k.m ≤ h.m + 1 := by
 have hl : k.v.hs.length ≤ h.m + 1 := by
  rw [hv]; unfold phi; split
  ·simp only [List.length_append, List.length_singleton]; rw [A.m.len]; omega
  ·exact Nat.zero_le _
 refine ⟨Arg.of M S V A.hv (by omega) ?_ ?_, by rw [← M.len]; exact hl⟩
 ·rw [hv]; unfold phi; split
  ·show h.cs.length ≤ 1000; rw [A.m.t.1]; exact A.hn.1
  ·exact Nat.zero_le _
 ·rw [hv]; unfold phi; split
  ·intro c hc; rcases List.mem_append.1 hc with hc | hc
   ·obtain ⟨x, hx, rfl⟩ := List.mem_map.1 hc; rw [(A.m.k x hx).1]; exact A.hn.2 x hx
   ·obtain rfl := List.mem_singleton.1 hc; exact hr
  ·intro c hc; cases hc
set_option maxRecDepth 100000 in
set_option maxHeartbeats 4000000 in
theorem walk_RefundSums (KC : Hid KpC) (DC : Hid DuC) (GC : Hid GiC) {w : World} (h : Hr) (G : GivenH w h) (T : Option Addr) (nt ct : Nat) (vs : List Trf.Rw) (GT : Trf.GivenT w T nt ct vs) (r q : Tm.Rw) (GR : GivenR w r) (GQ : GivenR w q) : Calls Tryz.prog 8 #[hg h, Trf.tg T nt ct, .agg (zz r q)] w (Yes w true) := by
 obtain ⟨W, hW⟩ : ∃ W, ((w.alloc (.cells (hc h) 31)).alloc (.cells #[.slice T nt ct] 34)).alloc (.cells (zz r q) 56) = W := ⟨_, rfl⟩; have H0 := Lib.hid (show S3 w W h T nt ct r q by rw [← hW]; exact S3.start w h T nt ct r q); have HW := Lib.hid hW; have HG := Lib.hid G; have HGT := Lib.hid GT; have HGR := Lib.hid GR; have HGQ := Lib.hid GQ; clear hW G GT GR GQ; go_enter Tryz.func8, Tryz.ntmps8
 go_upto_region 1 with fail
 rw [HW.out]; clear HW; have x0 := H0.out.x.c 0; have x1 := H0.out.x.c 1; have x2 := H0.out.x.c 2; have x3 := H0.out.x.c 3; have x4 := H0.out.x.c 4; have x5 := H0.out.x.c 5; have x6 := H0.out.x.c 6; have x7 := H0.out.x.c 7; have x8 := H0.out.x.c 8; have x9 := H0.out.x.c 9; have y0 := H0.out.y.c 0; simp at x0 x1 x2 x3 x4 x5 x6 x7 x8 x9 y0; have C := Lib.hid (few12 h T nt ct vs W (gh_below HG.out H0.out.b) (gt_below HGT.out H0.out.b))
 go_wp2_with fail
 refine C.out.mono ?_; rintro e w1 ⟨b, rfl, hb1, hs⟩; have H1 := Lib.hid (H0.out.next hb1); have HS0 := Lib.hid hs; clear hb1 hs C x0 x1 x2 x3 x4 x5 x6 x7 x8 x9 y0 H0; have z7 := H1.out.z.c 7; have z16 := H1.out.z.c 16; simp at z7 z16; have m1 := HGR.out.m; have m2 := HGQ.out.m; have hw : wrap64 ((r.n : Int) + (q.n : Int)) = (r.n : Int) + (q.n : Int) := IntWalk.wrap64_in _ (by omega); cases b
 ·go_wp2_with fail
  refine (alive15 KC.out DC.out GC.out _).mono ?_; rintro e w9 ⟨rfl, hb9⟩; have H9 := Lib.hid (H1.out.next hb9); clear hb9; go_wp2; go_ret; exact ⟨rfl, H9.out.b⟩
 have HS := Lib.hid (HS0.out rfl); have HA := Lib.hid (arg_small HG.out HGT.out HS.out); clear HS0; by_cases hq : r.n + q.n ≤ 50
 case neg =>
  have u1 : decide ((50 : Int) < (r.n : Int) + (q.n : Int)) = true := decide_eq_true (by omega); clear hq
  go_wp2_with fail
  refine (alive15 KC.out DC.out GC.out _).mono ?_; rintro e w9 ⟨rfl, hb9⟩; have H9 := Lib.hid (H1.out.next hb9); clear hb9; go_wp2; go_ret; exact ⟨rfl, H9.out.b⟩
 have u1 : decide ((50 : Int) < (r.n : Int) + (q.n : Int)) = false := decide_eq_false (by omega); have HQ := Lib.hid hq; have HR1 := Lib.hid (show r.v.cs.length ≤ 1000 by rw [HGR.out.c.1]; omega); have HR2 := Lib.hid (show q.v.cs.length ≤ 1000 by rw [HGQ.out.c.1]; omega); have HM60 := Lib.hid HS.out.m; clear hq m1 m2
 go_upto_region 3 with fail
 clear z7 z16 u1 hw; have x0 := H1.out.x.c 0; have x1 := H1.out.x.c 1; have x2 := H1.out.x.c 2; have x3 := H1.out.x.c 3; have x4 := H1.out.x.c 4; have x5 := H1.out.x.c 5; have x6 := H1.out.x.c 6; have x7 := H1.out.x.c 7; have x8 := H1.out.x.c 8; have x9 := H1.out.x.c 9; have y0 := H1.out.y.c 0; simp at x0 x1 x2 x3 x4 x5 x6 x7 x8 x9 y0; have z0 := H1.out.z.c 0; have z1 := H1.out.z.c 1; have z2 := H1.out.z.c 2; have z3 := H1.out.z.c 3; have z4 := H1.out.z.c 4; have z5 := H1.out.z.c 5; have z6 := H1.out.z.c 6; have z7 := H1.out.z.c 7; have z8 := H1.out.z.c 8; have z9 := H1.out.z.c 9; have z10 := H1.out.z.c 10; have z11 := H1.out.z.c 11; have z12 := H1.out.z.c 12; have z13 := H1.out.z.c 13; have z14 := H1.out.z.c 14; have z15 := H1.out.z.c 15; have z16 := H1.out.z.c 16; have z17 := H1.out.z.c 17; simp at z0 z1 z2 z3 z4 z5 z6 z7 z8 z9 z10 z11 z12 z13 z14 z15 z16 z17; have C := Lib.hid (put_ h r w1 (HA.out.m.below H1.out.b) HA.out.s (HGR.out.c.below H1.out.b) (by have := HQ.out; omega)); obtain ⟨cd, hcd⟩ : ∃ cd, Ag.code h.s h.bk h.v.hs r.v = cd := ⟨_, rfl⟩; have HCD := Lib.hid hcd; rw [hcd] at C; clear hcd
 go_wp2_with fail
 refine C.out.mono ?_; rintro e w2 ⟨k, rfl, hR⟩; have HKV := Lib.hid hR.v; have H2' := Lib.hid (H1.out.next hR.b); have HKM := Lib.hid (hR.m.keep (ok' := (· < w2.heap.size)) (fun _ _ => rfl) fun _ hx => hx.2); have HKS := Lib.hid hR.s; clear hR C x0 x1 x2 x3 x4 x5 x6 x7 x8 x9 y0 z0 z1 z2 z3 z4 z5 z6 z7 z8 z9 z10 z11 z12 z13 z14 z15 z16 z17 H1; obtain ⟨W2, hW2⟩ : ∃ W2, w2.alloc (.cells (hc k) 31) = W2 := ⟨_, rfl⟩; have hb2 : Below w2.heap.size w2 W2 := hW2 ▸ alloc_ _ _; have HX2 := Lib.hid (show Bx W2 w2.heap.size 31 (hc k) from hW2 ▸ Bx.new w2 31 (hc k)); have H2 := Lib.hid (H2'.out.next hb2); have AK := arg_phi HA.out (HA.out.below H2.out.b).v (by have := HM60.out; omega) HR1.out HKV.out (HKM.out.below hb2) HKS.out; have HK2 := Lib.hid AK.1; have HKL := Lib.hid AK.2; have HW2 := Lib.hid hW2; clear hb2 hW2 AK HKM HKS H2'
 go_upto_region 4 with fail
 rw [HW2.out]; clear HW2; have x0 := HX2.out.c 0; have x1 := HX2.out.c 1; have x2 := HX2.out.c 2; have x3 := HX2.out.c 3; have x4 := HX2.out.c 4; have x5 := HX2.out.c 5; have x6 := HX2.out.c 6; have x7 := HX2.out.c 7; have x8 := HX2.out.c 8; have x9 := HX2.out.c 9; simp at x0 x1 x2 x3 x4 x5 x6 x7 x8 x9; have z0 := H2.out.z.c 0; have z1 := H2.out.z.c 1; have z2 := H2.out.z.c 2; have z3 := H2.out.z.c 3; have z4 := H2.out.z.c 4; have z5 := H2.out.z.c 5; have z6 := H2.out.z.c 6; have z7 := H2.out.z.c 7; have z8 := H2.out.z.c 8; have z9 := H2.out.z.c 9; have z10 := H2.out.z.c 10; have z11 := H2.out.z.c 11; have z12 := H2.out.z.c 12; have z13 := H2.out.z.c 13; have z14 := H2.out.z.c 14; have z15 := H2.out.z.c 15; have z16 := H2.out.z.c 16; have z17 := H2.out.z.c 17; simp at z0 z1 z2 z3 z4 z5 z6 z7 z8 z9 z10 z11 z12 z13 z14 z15 z16 z17; have C := Lib.hid (put_ k q W2 HK2.out.m HK2.out.s (HGQ.out.c.below H2.out.b) (by have := HQ.out; omega)); obtain ⟨cf, hcf⟩ : ∃ cf, Ag.code k.s k.bk k.v.hs q.v = cf := ⟨_, rfl⟩; have HCF := Lib.hid hcf; rw [hcf] at C; clear hcf
 go_wp2_with fail
 refine C.out.mono ?_; rintro e w3 ⟨y, rfl, hR⟩; have HYV := Lib.hid hR.v; have H3' := Lib.hid (H2.out.next hR.b); have HK3' := Lib.hid (HK2.out.below hR.b); have HX3' := Lib.hid (HX2.out.keep hR.b); have HYM := Lib.hid (hR.m.keep (ok' := (· < w3.heap.size)) (fun _ _ => rfl) fun _ hx => hx.2); have HYS := Lib.hid hR.s; clear hR C x0 x1 x2 x3 x4 x5 x6 x7 x8 x9 z0 z1 z2 z3 z4 z5 z6 z7 z8 z9 z10 z11 z12 z13 z14 z15 z16 z17 H2 HK2 HX2; obtain ⟨W3, hW3⟩ : ∃ W3, w3.alloc (.cells (hc y) 31) = W3 := ⟨_, rfl⟩; have hb3 : Below w3.heap.size w3 W3 := hW3 ▸ alloc_ _ _; have HY3 := Lib.hid (show Bx W3 w3.heap.size 31 (hc y) from hW3 ▸ Bx.new w3 31 (hc y)); have H3 := Lib.hid (H3'.out.next hb3); have HK3 := Lib.hid (HK3'.out.below hb3); have HX3 := Lib.hid (HX3'.out.keep hb3); have HB3 := Lib.hid (arg_phi HK3.out (HA.out.below H3.out.b).v (by have := HM60.out; have := HKL.out; omega) HR2.out HYV.out (HYM.out.below hb3) HYS.out).1; have HB3 := Lib.hid HB3.out; have HW3 := Lib.hid hW3; clear hb3 hW3 HYM HYS H3' HK3' HX3'
 go_upto_region 5 with fail
 rw [HW3.out]; clear HW3; have x0 := H3.out.x.c 0; have x1 := H3.out.x.c 1; have x2 := H3.out.x.c 2; have x3 := H3.out.x.c 3; have x4 := H3.out.x.c 4; have x5 := H3.out.x.c 5; have x6 := H3.out.x.c 6; have x7 := H3.out.x.c 7; have x8 := H3.out.x.c 8; have x9 := H3.out.x.c 9; have y0 := H3.out.y.c 0; simp at x0 x1 x2 x3 x4 x5 x6 x7 x8 x9 y0; have z0 := H3.out.z.c 0; have z1 := H3.out.z.c 1; have z2 := H3.out.z.c 2; have z3 := H3.out.z.c 3; have z4 := H3.out.z.c 4; have z5 := H3.out.z.c 5; have z6 := H3.out.z.c 6; have z7 := H3.out.z.c 7; have z8 := H3.out.z.c 8; have z9 := H3.out.z.c 9; have z10 := H3.out.z.c 10; have z11 := H3.out.z.c 11; have z12 := H3.out.z.c 12; have z13 := H3.out.z.c 13; have z14 := H3.out.z.c 14; have z15 := H3.out.z.c 15; have z16 := H3.out.z.c 16; have z17 := H3.out.z.c 17; simp at z0 z1 z2 z3 z4 z5 z6 z7 z8 z9 z10 z11 z12 z13 z14 z15 z16 z17; have C := Lib.hid (GC.out h T nt ct vs r W3 (HA.out.below H3.out.b) (Nat.le_trans HM60.out (by omega)) (HGR.out.c.below H3.out.b) (by have := HQ.out; omega))
 go_wp2_with fail
 refine C.out.mono ?_; rintro e w4 ⟨a, g, rfl, hi, hb⟩; have H4 := Lib.hid (H3.out.next hb); have I4 := Lib.hid hi; have HK4 := Lib.hid (HK3.out.below hb); have HX4 := Lib.hid (HX3.out.keep hb); have HB4 := Lib.hid (HB3.out.below hb); have HY4 := Lib.hid (HY3.out.keep hb); clear hb hi C x0 x1 x2 x3 x4 x5 x6 x7 x8 x9 y0 z0 z1 z2 z3 z4 z5 z6 z7 z8 z9 z10 z11 z12 z13 z14 z15 z16 z17 H3 HK3 HX3 HB3 HY3; have x0 := HX4.out.c 0; have x1 := HX4.out.c 1; have x2 := HX4.out.c 2; have x3 := HX4.out.c 3; have x4 := HX4.out.c 4; have x5 := HX4.out.c 5; have x6 := HX4.out.c 6; have x7 := HX4.out.c 7; have x8 := HX4.out.c 8; have x9 := HX4.out.c 9; have y0 := H4.out.y.c 0; simp at x0 x1 x2 x3 x4 x5 x6 x7 x8 x9 y0; have z0 := H4.out.z.c 0; have z1 := H4.out.z.c 1; have z2 := H4.out.z.c 2; have z3 := H4.out.z.c 3; have z4 := H4.out.z.c 4; have z5 := H4.out.z.c 5; have z6 := H4.out.z.c 6; have z7 := H4.out.z.c 7; have z8 := H4.out.z.c 8; have z9 := H4.out.z.c 9; have z10 := H4.out.z.c 10; have z11 := H4.out.z.c 11; have z12 := H4.out.z.c 12; have z13 := H4.out.z.c 13; have z14 := H4.out.z.c 14; have z15 := H4.out.z.c 15; have z16 := H4.out.z.c 16; have z17 := H4.out.z.c 17; simp at z0 z1 z2 z3 z4 z5 z6 z7 z8 z9 z10 z11 z12 z13 z14 z15 z16 z17; have C := Lib.hid (GC.out k T nt ct vs q w4 HK4.out (by have := HM60.out; have := HKL.out; omega) (HGQ.out.c.below H4.out.b) (by have := HQ.out; omega))
 go_wp2_with fail
 refine C.out.mono ?_; rintro e w5 ⟨b, j, rfl, hi, hb⟩; have H5 := Lib.hid (H4.out.next hb); have I5 := Lib.hid hi; have HB5 := Lib.hid (HB4.out.below hb); have HY5 := Lib.hid (HY4.out.keep hb); clear hb hi C x0 x1 x2 x3 x4 x5 x6 x7 x8 x9 y0 z0 z1 z2 z3 z4 z5 z6 z7 z8 z9 z10 z11 z12 z13 z14 z15 z16 z17 H4 HK4 HX4 HB4 HY4; by_cases hk : cd = 0
 case neg =>
  obtain rfl : g = cd := (I4.out.no (by show Ag.code h.s h.bk h.v.hs r.v ≠ 0; rw [HCD.out]; exact hk)).2.trans HCD.out; have t1 : decide (g = 0) = false := decide_eq_false hk; have t2 : (g == 0) = false := beq_eq_false_iff_ne.2 hk; have t3 : (g != 0) = true := bne_iff_ne.2 hk
  go_wp2_with fail
  refine (alive15 KC.out DC.out GC.out _).mono ?_; rintro e w9 ⟨rfl, hb9⟩; have H9 := Lib.hid (H5.out.next hb9); clear hb9; go_wp2; go_ret; exact ⟨rfl, H9.out.b⟩
 subst hk; by_cases hk : cf = 0
 case neg =>
  have t1 : decide (cf = 0) = false := decide_eq_false hk; have t2 : (cf == 0) = false := beq_eq_false_iff_ne.2 hk; have t3 : (cf != 0) = true := bne_iff_ne.2 hk
  go_wp2_with fail
  refine (alive15 KC.out DC.out GC.out _).mono ?_; rintro e w9 ⟨rfl, hb9⟩; have H9 := Lib.hid (H5.out.next hb9); clear hb9; go_wp2; go_ret; exact ⟨rfl, H9.out.b⟩
 subst hk; by_cases hk : g = 0
 case neg =>
  have t1 : decide (g = 0) = false := decide_eq_false hk; have t2 : (g == 0) = false := beq_eq_false_iff_ne.2 hk; have t3 : (g != 0) = true := bne_iff_ne.2 hk
  go_wp2_with fail
  refine (alive15 KC.out DC.out GC.out _).mono ?_; rintro e w9 ⟨rfl, hb9⟩; have H9 := Lib.hid (H5.out.next hb9); clear hb9; go_wp2; go_ret; exact ⟨rfl, H9.out.b⟩
 subst hk; by_cases hk : j = 0
 case neg =>
  have t1 : decide (j = 0) = false := decide_eq_false hk; have t2 : (j == 0) = false := beq_eq_false_iff_ne.2 hk; have t3 : (j != 0) = true := bne_iff_ne.2 hk
  go_wp2_with fail
  refine (alive15 KC.out DC.out GC.out _).mono ?_; rintro e w9 ⟨rfl, hb9⟩; have H9 := Lib.hid (H5.out.next hb9); clear hb9; go_wp2; go_ret; exact ⟨rfl, H9.out.b⟩
 subst hk; have e1 : k.v = wi h.v r.v := by rw [HKV.out]; unfold phi; rw [if_pos (show Ag.code h.v.s h.v.bk h.v.hs r.v = 0 from HCD.out)]; rfl
 have f1 : Ag.code k.v.s k.v.bk k.v.hs q.v = 0 := HCF.out; have e2 : y.v = wi (wi h.v r.v) q.v := by rw [HYV.out]; unfold phi; rw [if_pos f1, e1]; rfl
 rw [e1] at f1; have i5 := I5.out; rw [e1] at i5; have I6 := Lib.hid i5; have F1 := Lib.hid f1; have E2 := Lib.hid e2; clear e1 f1 e2 i5 I5 HKV HYV HCF; have C := Lib.hid (DC.out h T nt ct vs w5 (HA.out.below H5.out.b)); have x0 := H5.out.x.c 0; have x1 := H5.out.x.c 1; have x2 := H5.out.x.c 2; have x3 := H5.out.x.c 3; have x4 := H5.out.x.c 4; have x5 := H5.out.x.c 5; have x6 := H5.out.x.c 6; have x7 := H5.out.x.c 7; have x8 := H5.out.x.c 8; have x9 := H5.out.x.c 9; have y0 := H5.out.y.c 0; simp at x0 x1 x2 x3 x4 x5 x6 x7 x8 x9 y0
 go_wp2_with fail
 refine C.out.mono ?_; rintro e w6 ⟨d, m, rfl, hi, hb⟩; have H6 := Lib.hid (H5.out.next hb); have D6 := Lib.hid hi; have HB6 := Lib.hid (HB5.out.below hb); have HY6 := Lib.hid (HY5.out.keep hb); clear hb hi C x0 x1 x2 x3 x4 x5 x6 x7 x8 x9 y0 H5 HB5 HY5; have x0 := HY6.out.c 0; have x1 := HY6.out.c 1; have x2 := HY6.out.c 2; have x3 := HY6.out.c 3; have x4 := HY6.out.c 4; have x5 := HY6.out.c 5; have x6 := HY6.out.c 6; have x7 := HY6.out.c 7; have x8 := HY6.out.c 8; have x9 := HY6.out.c 9; have y0 := H6.out.y.c 0; simp at x0 x1 x2 x3 x4 x5 x6 x7 x8 x9 y0; have C := Lib.hid (DC.out y T nt ct vs w6 HB6.out)
 go_wp2_with fail
 refine C.out.mono ?_; rintro e w7 ⟨i, n, rfl, hi, hb⟩; have H7 := Lib.hid (H6.out.next hb); rw [E2.out] at hi; obtain ⟨rfl, rfl, hsum⟩ := sums (g := 0) (j := 0) HCD.out F1.out I4.out I6.out D6.out hi; have g1 := D6.out.zz; have g2 := hi.zz; have hw1 : wrap64 (a + b) = a + b := IntWalk.wrap64_in _ (by omega); have hw2 : wrap64 (d - i) = d - i := IntWalk.wrap64_in _ (by omega); have u1 : (a + b == d - i) = true := beq_iff_eq.2 hsum; have u2 : decide (a + b = d - i) = true := decide_eq_true hsum; clear hb hi C x0 x1 x2 x3 x4 x5 x6 x7 x8 x9 y0 H6 HB6 HY6 g1 g2 hsum
 go_wp2_with fail
 refine (alive15 KC.out DC.out GC.out _).mono ?_; rintro e w9 ⟨rfl, hb9⟩; have H9 := Lib.hid (H7.out.next hb9); clear hb9; go_wp2; go_ret; exact ⟨rfl, H9.out.b⟩
end Rfd
end Go.Proofs.YtfidmphajohljaaGreat
