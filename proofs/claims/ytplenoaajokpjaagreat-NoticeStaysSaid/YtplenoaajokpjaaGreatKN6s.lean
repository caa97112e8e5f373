/-
  A claim stays covered, or not, whatever comes to be known later. Conditions: the program tells what the laws ask.
-/
import Derived.Test.YtplenoaajokpjaaGreatMNd
import Derived.Test.YtplenoaajokpjaaGreatKChP
namespace Go.Proofs.YtplenoaajokpjaaGreat
open Go.RowKit Ba Cv Sp Te Ag Tf Sl Tm Slc
namespace Ntc
set_option linter.unusedVariables false
structure S4 (w W : World) (h : Hr) (T : Option Addr) (n c : Nat) (m : Cm) (r : Tm.Rw) : Prop where
 n : N3 w W h T n c 23 (mc m)
 u : Bx W (w.heap.size + 1 + 1 + 1) 52 (Tm.vc r)
theorem S4.next {w W W' : World} {h : Hr} {T : Option Addr} {n c : Nat} {m : Cm} {r : Tm.Rw} (H : S4 w W h T n c m r) (hb : Below W.heap.size W W') : S4 w W' h T n c m r := ⟨H.n.next hb, H.u.keep hb⟩
theorem S4.start (w : World) (h : Hr) (T : Option Addr) (n c : Nat) (m : Cm) (r : Tm.Rw) : S4 w ((((w.alloc (.cells (hc h) 35)).alloc (.cells #[.slice T n c] 38)).alloc (.cells (mc m) 23)).alloc (.cells (Tm.vc r) 52)) h T n c m r := by
 refine ⟨(N3.start w h T n c 23 (mc m)).next (alloc_ _ _), ?_⟩; have := Bx.new (((w.alloc (.cells (hc h) 35)).alloc (.cells #[.slice T n c] 38)).alloc (.cells (mc m) 23)) 52 (Tm.vc r); simp only [World.size_alloc] at this; exact this
theorem Arg.of {w : World} {k : Hr} {T : Option Addr} {nt : Nat} {vs : List Trf.Rw} (M : HM w (· < w.heap.size) k) (S : HS k) (V : Trf.Vers w T nt vs) (hv : nt ≤ 1000) (h1 : k.v.hs.length ≤ 100) (h2 : k.v.cs.length ≤ 1000) (h3 : ∀ c ∈ k.v.hs, c.cs.length ≤ 1000) : Arg w k T nt vs :=
 ⟨M, S, by rw [← M.len]; exact h1, ⟨by rw [← M.t.1]; exact h2, fun r hr => by rw [← (M.k r hr).1]; exact h3 _ (List.mem_map.2 ⟨r, hr, rfl⟩)⟩, V, hv⟩
theorem arg_phi {w W : World} {h k : Hr} {T : Option Addr} {nt : Nat} {vs : List Trf.Rw} {r : Tm.Rw} (A : Arg w h T nt vs) (V : Trf.Vers W T nt vs) (hm : h.m ≤ 98) (hr : r.v.cs.length ≤ 1000) (hv : k.v = ⟨h.v.id, h.v.bk, h.v.s, h.v.r, h.v.cs, h.v.hs ++ [r.v]⟩) (M : HM W (· < W.heap.size) k) (S : HS k) : Arg W k T nt vs := by
 refine Arg.of M S V A.hv ?_ ?_ ?_
 ·rw [hv]; simp only [List.length_append, List.length_singleton]; rw [A.m.len]; omega
 ·rw [hv]; show h.cs.length ≤ 1000; rw [A.m.t.1]; exact A.hn.1
 ·rw [hv]; intro c hc; rcases List.mem_append.1 hc with hc | hc
  ·obtain ⟨x, hx, rfl⟩ := List.mem_map.1 hc; rw [(A.m.k x hx).1]; exact A.hn.2 x hx
  ·obtain rfl := List.mem_singleton.1 hc; exact hr
set_option maxRecDepth 100000 in
set_option maxHeartbeats 4000000 in
theorem walk_NoticeStays (Q : Hid Asks) {w : World} (h : Hr) (G : GivenH w h) (T : Option Addr) (nt ct : Nat) (vs : List Trf.Rw) (GT : Trf.GivenT w T nt ct vs) (c : Cm) (r : Tm.Rw) (GR : GivenR w r) : Calls Tryz.prog 6 #[hg h, Trf.tg T nt ct, mg c, Tm.vg r] w (Yes w true) := by
 obtain ⟨W, hW⟩ : ∃ W, (((w.alloc (.cells (hc h) 35)).alloc (.cells #[.slice T nt ct] 38)).alloc (.cells (mc c) 23)).alloc (.cells (Tm.vc r) 52) = W := ⟨_, rfl⟩; have H0 := Lib.hid (show S4 w W h T nt ct c r by rw [← hW]; exact S4.start w h T nt ct c r); have HW := Lib.hid hW; have HG := Lib.hid G; have HGT := Lib.hid GT; have HGR := Lib.hid GR; clear hW G GT GR; go_enter Tryz.func6, Tryz.ntmps6
 go_upto_region 1 with fail
 rw [HW.out]; clear HW; have x0 := H0.out.n.o.x.c 0; have x1 := H0.out.n.o.x.c 1; have x2 := H0.out.n.o.x.c 2; have x3 := H0.out.n.o.x.c 3; have x4 := H0.out.n.o.x.c 4; have x5 := H0.out.n.o.x.c 5; have x6 := H0.out.n.o.x.c 6; have x7 := H0.out.n.o.x.c 7; have x8 := H0.out.n.o.x.c 8; have x9 := H0.out.n.o.x.c 9; have y0 := H0.out.n.o.y.c 0; have z0 := H0.out.n.z.c 0; have z1 := H0.out.n.z.c 1; have z2 := H0.out.n.z.c 2; have z3 := H0.out.n.z.c 3; have z4 := H0.out.n.z.c 4; have z5 := H0.out.n.z.c 5; have d0 := H0.out.u.c 0; have d1 := H0.out.u.c 1; have d2 := H0.out.u.c 2; have d3 := H0.out.u.c 3; have d4 := H0.out.u.c 4; have d5 := H0.out.u.c 5; have d6 := H0.out.u.c 6; have d7 := H0.out.u.c 7; have d8 := H0.out.u.c 8; simp at x0 x1 x2 x3 x4 x5 x6 x7 x8 x9 y0 z0 z1 z2 z3 z4 z5 d0 d1 d2 d3 d4 d5 d6 d7 d8; have C := Lib.hid (few12 h T nt ct vs W (gh_below HG.out H0.out.n.o.b) (gt_below HGT.out H0.out.n.o.b))
 go_wp2_with fail
 refine C.out.mono ?_; rintro e w1 ⟨b, rfl, hb1, hs⟩; have H1 := Lib.hid (H0.out.next hb1); have HS0 := Lib.hid hs; clear hb1 hs C x0 x1 x2 x3 x4 x5 x6 x7 x8 x9 y0 z0 z1 z2 z3 z4 z5 d0 d1 d2 d3 d4 d5 d6 d7 d8 H0; cases b
 ·go_wp2_with fail
  refine (alive17 Q _).mono ?_; rintro e w99 ⟨rfl, hb99⟩; have H99 := Lib.hid (H1.out.next hb99); clear hb99; go_wp2; go_ret; exact ⟨rfl, H99.out.n.o.b⟩
 have HS := Lib.hid (HS0.out rfl); have HA := Lib.hid (arg_small HG.out HGT.out HS.out); clear HS0; have x0 := H1.out.n.o.x.c 0; have x1 := H1.out.n.o.x.c 1; have x2 := H1.out.n.o.x.c 2; have x3 := H1.out.n.o.x.c 3; have x4 := H1.out.n.o.x.c 4; have x5 := H1.out.n.o.x.c 5; have x6 := H1.out.n.o.x.c 6; have x7 := H1.out.n.o.x.c 7; have x8 := H1.out.n.o.x.c 8; have x9 := H1.out.n.o.x.c 9; have y0 := H1.out.n.o.y.c 0; have z0 := H1.out.n.z.c 0; have z1 := H1.out.n.z.c 1; have z2 := H1.out.n.z.c 2; have z3 := H1.out.n.z.c 3; have z4 := H1.out.n.z.c 4; have z5 := H1.out.n.z.c 5; have d0 := H1.out.u.c 0; have d1 := H1.out.u.c 1; have d2 := H1.out.u.c 2; have d3 := H1.out.u.c 3; have d4 := H1.out.u.c 4; have d5 := H1.out.u.c 5; have d6 := H1.out.u.c 6; have d7 := H1.out.u.c 7; have d8 := H1.out.u.c 8; simp at x0 x1 x2 x3 x4 x5 x6 x7 x8 x9 y0 z0 z1 z2 z3 z4 z5 d0 d1 d2 d3 d4 d5 d6 d7 d8; by_cases q : r.n ≤ 50
 case neg =>
  have u1 : decide ((50 : Int) < (r.n : Int)) = true := decide_eq_true (by omega); clear q
  go_wp2_with fail
  refine (alive17 Q _).mono ?_; rintro e w99 ⟨rfl, hb99⟩; have H99 := Lib.hid (H1.out.next hb99); clear hb99; go_wp2; go_ret; exact ⟨rfl, H99.out.n.o.b⟩
 have u1 : decide ((50 : Int) < (r.n : Int)) = false := decide_eq_false (by omega); have HQ := Lib.hid q; clear q; by_cases q : r.v.bk ≤ c.bk
 ·have u2 : decide (r.v.bk ≤ c.bk) = true := decide_eq_true q; clear q
  go_wp2_with fail
  refine (alive17 Q _).mono ?_; rintro e w99 ⟨rfl, hb99⟩; have H99 := Lib.hid (H1.out.next hb99); clear hb99; go_wp2; go_ret; exact ⟨rfl, H99.out.n.o.b⟩
 have u2 : decide (r.v.bk ≤ c.bk) = false := decide_eq_false q; have HLT := Lib.hid (show c.bk < r.v.bk by omega); clear q
 go_upto_region 3 with fail
 clear u1 u2; have C := Lib.hid (Tm.put_ h r w1 (HA.out.below H1.out.n.o.b).m HA.out.s (HGR.out.c.below H1.out.n.o.b) (Nat.le_trans HQ.out (by omega)))
 go_wp2_with fail
 refine C.out.mono ?_; rintro e w2 ⟨k, rfl, hR⟩; obtain ⟨cd, hcd⟩ : ∃ cd, Ag.code h.s h.bk h.v.hs r.v = cd := ⟨_, rfl⟩; have HCD := Lib.hid hcd; rw [hcd]; obtain ⟨W3, hW3⟩ : ∃ W3, w2.alloc (.cells (hc k) 35) = W3 := ⟨_, rfl⟩; have hb3 : Below w2.heap.size w2 W3 := hW3 ▸ alloc_ _ _; have HK3 := Lib.hid (show Bx W3 w2.heap.size 35 (hc k) from hW3 ▸ Bx.new w2 35 (hc k)); have H3 := Lib.hid ((H1.out.next hR.b).next hb3); have HKM := Lib.hid ((hR.m.keep (ok' := (· < w2.heap.size)) (fun _ _ => rfl) fun b hb => hb.2).below hb3); have HKS := Lib.hid hR.s; have HKV := Lib.hid hR.v; have HW3 := Lib.hid hW3; clear hR hW3 hb3 hcd C x0 x1 x2 x3 x4 x5 x6 x7 x8 x9 y0 z0 z1 z2 z3 z4 z5 d0 d1 d2 d3 d4 d5 d6 d7 d8 H1
 go_upto_region 4 with fail
 rw [HW3.out]; clear HW3; by_cases h0 : cd = 0
 case neg =>
  have t0 : decide (cd = 0) = false := decide_eq_false h0; have t1 : (cd == 0) = false := beq_eq_false_iff_ne.2 h0; have t2 : (cd != 0) = true := bne_iff_ne.2 h0; clear h0 HCD
  go_wp2_with fail
  refine (alive17 Q _).mono ?_; rintro e w99 ⟨rfl, hb99⟩; have H99 := Lib.hid (H3.out.next hb99); clear hb99; go_wp2; go_ret; exact ⟨rfl, H99.out.n.o.b⟩
 subst h0
 have HX := Lib.hid (show k.v = ⟨h.v.id, h.v.bk, h.v.s, h.v.r, h.v.cs, h.v.hs ++ [r.v]⟩ by
  rw [HKV.out]; unfold Tm.phi; rw [if_pos (show Ag.code h.v.s h.v.bk h.v.hs r.v = 0 from HCD.out)])
 have HAK := Lib.hid (arg_phi HA.out (HA.out.below H3.out.n.o.b).v (Nat.le_trans HS.out.m (by omega)) (by rw [HGR.out.c.1]; have := HQ.out; omega) HX.out HKM.out HKS.out); clear HCD HKV HKM HKS; have x0 := H3.out.n.o.x.c 0; have x1 := H3.out.n.o.x.c 1; have x2 := H3.out.n.o.x.c 2; have x3 := H3.out.n.o.x.c 3; have x4 := H3.out.n.o.x.c 4; have x5 := H3.out.n.o.x.c 5; have x6 := H3.out.n.o.x.c 6; have x7 := H3.out.n.o.x.c 7; have x8 := H3.out.n.o.x.c 8; have x9 := H3.out.n.o.x.c 9; have y0 := H3.out.n.o.y.c 0; have z0 := H3.out.n.z.c 0; have z1 := H3.out.n.z.c 1; have z2 := H3.out.n.z.c 2; have z3 := H3.out.n.z.c 3; have z4 := H3.out.n.z.c 4; have z5 := H3.out.n.z.c 5; have d0 := H3.out.u.c 0; have d1 := H3.out.u.c 1; have d2 := H3.out.u.c 2; have d3 := H3.out.u.c 3; have d4 := H3.out.u.c 4; have d5 := H3.out.u.c 5; have d6 := H3.out.u.c 6; have d7 := H3.out.u.c 7; have d8 := H3.out.u.c 8; simp at x0 x1 x2 x3 x4 x5 x6 x7 x8 x9 y0 z0 z1 z2 z3 z4 z5 d0 d1 d2 d3 d4 d5 d6 d7 d8; have C := Lib.hid (Q.out.cv h T nt ct vs c W3 (HA.out.below H3.out.n.o.b))
 go_wp2_with fail
 refine C.out.mono ?_; rintro e w4 ⟨v, f, rfl, hi, hb⟩; obtain ⟨W5, hW5⟩ : ∃ W5, w4.alloc (.cells (cc v) 41) = W5 := ⟨_, rfl⟩; have hb5 : Below W3.heap.size W3 W5 := by rw [← hW5]; exact hb.alloc hb.size _
 have HU5 := Lib.hid (show Bx W5 w4.heap.size 41 (cc v) from hW5 ▸ Bx.new w4 _ _); have H5 := Lib.hid (H3.out.next hb5); have HK5 := Lib.hid (HK3.out.keep hb5); have HAK5 := Lib.hid (HAK.out.below hb5); have HI := Lib.hid hi; have HW5 := Lib.hid hW5; clear hb hi hb5 hW5 C x0 x1 x2 x3 x4 x5 x6 x7 x8 x9 y0 z0 z1 z2 z3 z4 z5 d0 d1 d2 d3 d4 d5 d6 d7 d8 H3 HK3 HAK
 go_upto_region 7 with fail
 rw [HW5.out]; clear HW5; have x0 := H5.out.n.o.x.c 0; have x1 := H5.out.n.o.x.c 1; have x2 := H5.out.n.o.x.c 2; have x3 := H5.out.n.o.x.c 3; have x4 := H5.out.n.o.x.c 4; have x5 := H5.out.n.o.x.c 5; have x6 := H5.out.n.o.x.c 6; have x7 := H5.out.n.o.x.c 7; have x8 := H5.out.n.o.x.c 8; have x9 := H5.out.n.o.x.c 9; have y0 := H5.out.n.o.y.c 0; have z0 := H5.out.n.z.c 0; have z1 := H5.out.n.z.c 1; have z2 := H5.out.n.z.c 2; have z3 := H5.out.n.z.c 3; have z4 := H5.out.n.z.c 4; have z5 := H5.out.n.z.c 5; have d0 := H5.out.u.c 0; have d1 := H5.out.u.c 1; have d2 := H5.out.u.c 2; have d3 := H5.out.u.c 3; have d4 := H5.out.u.c 4; have d5 := H5.out.u.c 5; have d6 := H5.out.u.c 6; have d7 := H5.out.u.c 7; have d8 := H5.out.u.c 8; simp at x0 x1 x2 x3 x4 x5 x6 x7 x8 x9 y0 z0 z1 z2 z3 z4 z5 d0 d1 d2 d3 d4 d5 d6 d7 d8; have k0 := HK5.out.c 0; have k1 := HK5.out.c 1; have k2 := HK5.out.c 2; have k3 := HK5.out.c 3; have k4 := HK5.out.c 4; have k5 := HK5.out.c 5; have k6 := HK5.out.c 6; have k7 := HK5.out.c 7; have k8 := HK5.out.c 8; have k9 := HK5.out.c 9; simp at k0 k1 k2 k3 k4 k5 k6 k7 k8 k9; have C := Lib.hid (Q.out.cv k T nt ct vs c W5 HAK5.out)
 go_wp2_with fail
 refine C.out.mono ?_; rintro e w6 ⟨v', g, rfl, hi, hb⟩; obtain ⟨rfl, rfl⟩ := HI.out.one (hi.before HX.out HLT.out); obtain ⟨W7, hW7⟩ : ∃ W7, w6.alloc (.cells (cc v) 41) = W7 := ⟨_, rfl⟩; have hb7 : Below w6.heap.size w6 W7 := hW7 ▸ alloc_ _ _; have HV7 := Lib.hid (show Bx W7 w6.heap.size 41 (cc v) from hW7 ▸ Bx.new w6 _ _); have HU7 := Lib.hid ((HU5.out.keep hb).keep hb7); have H7 := Lib.hid ((H5.out.next hb).next hb7); have HW7 := Lib.hid hW7; clear hb hi hb7 hW7 C x0 x1 x2 x3 x4 x5 x6 x7 x8 x9 y0 z0 z1 z2 z3 z4 z5 d0 d1 d2 d3 d4 d5 d6 d7 d8 k0 k1 k2 k3 k4 k5 k6 k7 k8 k9 H5 HU5 HK5 HAK5
 go_upto_region 8 with fail
 rw [HW7.out]; clear HW7
 go_wp2_with fail
 refine (alive17 Q _).mono ?_; rintro e w8 ⟨rfl, hb⟩; have H8 := Lib.hid (H7.out.next hb); have HU8 := HU7.out.keep hb; have HV8 := HV7.out.keep hb; clear H7 HU7 HV7 hb; have u0 := HU8.c 0; have v0 := HV8.c 0; have u1 := HU8.c 1; have v1 := HV8.c 1; have u2 := HU8.c 2; have v2 := HV8.c 2; have u3 := HU8.c 3; have v3 := HV8.c 3; have u4 := HU8.c 4; have v4 := HV8.c 4; simp at u0 v0 u1 v1 u2 v2 u3 v3 u4 v4; clear HU8 HV8; go_wp2; go_ret; exact ⟨rfl, H8.out.n.o.b⟩
end Ntc
end Go.Proofs.YtplenoaajokpjaaGreat
