/-
  Covered tells what the document does. Conditions: the program tells what the laws ask.
-/
import Derived.Test.YtplenoaajokpjaaGreatMNd
import Derived.Test.YtplenoaajokpjaaGreatMNb
namespace Go.Proofs.YtplenoaajokpjaaGreat
open Go.RowKit Ba Cv Sp Te Ag Tf Sl Tm Slc
namespace Ntc
set_option linter.unusedVariables false
set_option maxRecDepth 100000 in
set_option maxHeartbeats 4000000 in
theorem walk_NoticeCovered (Q : Hid Asks) {w : World} (h : Hr) (G : GivenH w h) (T : Option Addr) (nt ct : Nat) (vs : List Trf.Rw) (GT : Trf.GivenT w T nt ct vs) (c : Cm) : Calls Tryz.prog 4 #[hg h, Trf.tg T nt ct, mg c] w (Yes w true) := by
 obtain ⟨W, hW⟩ : ∃ W, ((w.alloc (.cells (hc h) 35)).alloc (.cells #[.slice T nt ct] 38)).alloc (.cells (mc c) 23) = W := ⟨_, rfl⟩; have H0 := Lib.hid (show N3 w W h T nt ct 23 (mc c) by rw [← hW]; exact N3.start w h T nt ct _ _); have HW := Lib.hid hW; have HG := Lib.hid G; have HGT := Lib.hid GT; clear hW G GT; go_enter Tryz.func4, Tryz.ntmps4
 go_upto_region 1 with fail
 rw [HW.out]; clear HW; have x0 := H0.out.o.x.c 0; have x1 := H0.out.o.x.c 1; have x2 := H0.out.o.x.c 2; have x3 := H0.out.o.x.c 3; have x4 := H0.out.o.x.c 4; have x5 := H0.out.o.x.c 5; have x6 := H0.out.o.x.c 6; have x7 := H0.out.o.x.c 7; have x8 := H0.out.o.x.c 8; have x9 := H0.out.o.x.c 9; have y0 := H0.out.o.y.c 0; have z0 := H0.out.z.c 0; have z1 := H0.out.z.c 1; have z2 := H0.out.z.c 2; have z3 := H0.out.z.c 3; have z4 := H0.out.z.c 4; have z5 := H0.out.z.c 5; simp at x0 x1 x2 x3 x4 x5 x6 x7 x8 x9 y0 z0 z1 z2 z3 z4 z5; have C := Lib.hid (few12 h T nt ct vs W (gh_below HG.out H0.out.o.b) (gt_below HGT.out H0.out.o.b))
 go_wp2_with fail
 refine C.out.mono ?_; rintro e w1 ⟨b, rfl, hb1, hs⟩; have H1 := Lib.hid (H0.out.next hb1); have HS0 := Lib.hid hs; clear hb1 hs C x0 x1 x2 x3 x4 x5 x6 x7 x8 x9 y0 z0 z1 z2 z3 z4 z5 H0; cases b
 ·go_wp2_with fail
  refine (alive17 Q _).mono ?_; rintro e w99 ⟨rfl, hb99⟩; have H99 := Lib.hid (H1.out.next hb99); clear hb99; go_wp2; go_ret; exact ⟨rfl, H99.out.o.b⟩
 have HS := Lib.hid (HS0.out rfl); have HA := Lib.hid (arg_small HG.out HGT.out HS.out); clear HS0; have x0 := H1.out.o.x.c 0; have x1 := H1.out.o.x.c 1; have x2 := H1.out.o.x.c 2; have x3 := H1.out.o.x.c 3; have x4 := H1.out.o.x.c 4; have x5 := H1.out.o.x.c 5; have x6 := H1.out.o.x.c 6; have x7 := H1.out.o.x.c 7; have x8 := H1.out.o.x.c 8; have x9 := H1.out.o.x.c 9; have y0 := H1.out.o.y.c 0; have z0 := H1.out.z.c 0; have z1 := H1.out.z.c 1; have z2 := H1.out.z.c 2; have z3 := H1.out.z.c 3; have z4 := H1.out.z.c 4; have z5 := H1.out.z.c 5; simp at x0 x1 x2 x3 x4 x5 x6 x7 x8 x9 y0 z0 z1 z2 z3 z4 z5; have C := Lib.hid (Q.out.cv h T nt ct vs c w1 (HA.out.below H1.out.o.b))
 go_wp2_with fail
 refine C.out.mono ?_; rintro e w2 ⟨v, k, rfl, hi, hb⟩; obtain ⟨W3, hW3⟩ : ∃ W3, w2.alloc (.cells (cc v) 41) = W3 := ⟨_, rfl⟩; have hb3 : Below w1.heap.size w1 W3 := by rw [← hW3]; exact hb.alloc hb.size _
 have HU3 := Lib.hid (show Bx W3 w2.heap.size 41 (cc v) from hW3 ▸ Bx.new w2 _ _); have H3 := Lib.hid (H1.out.next hb3); have HI := Lib.hid hi; have HW3 := Lib.hid hW3; clear hb hi hb3 hW3 C x0 x1 x2 x3 x4 x5 x6 x7 x8 x9 y0 z0 z1 z2 z3 z4 z5 H1
 go_upto_region 4 with fail
 rw [HW3.out]; clear HW3; have x0 := H3.out.o.x.c 0; have x1 := H3.out.o.x.c 1; have x2 := H3.out.o.x.c 2; have x3 := H3.out.o.x.c 3; have x4 := H3.out.o.x.c 4; have x5 := H3.out.o.x.c 5; have x6 := H3.out.o.x.c 6; have x7 := H3.out.o.x.c 7; have x8 := H3.out.o.x.c 8; have x9 := H3.out.o.x.c 9; have y0 := H3.out.o.y.c 0; have z0 := H3.out.z.c 0; have z1 := H3.out.z.c 1; have z2 := H3.out.z.c 2; have z3 := H3.out.z.c 3; have z4 := H3.out.z.c 4; have z5 := H3.out.z.c 5; simp at x0 x1 x2 x3 x4 x5 x6 x7 x8 x9 y0 z0 z1 z2 z3 z4 z5; have C := Lib.hid (rcov h T nt ct vs c W3 (HA.out.below H3.out.o.b))
 go_wp2_with fail
 refine C.out.mono ?_; rintro e w4 ⟨v', k', rfl, hi, hb⟩; obtain ⟨rfl, rfl⟩ := HI.out.one hi; obtain ⟨W5, hW5⟩ : ∃ W5, w4.alloc (.cells (cc v) 41) = W5 := ⟨_, rfl⟩; have hb4 : Below w4.heap.size w4 W5 := hW5 ▸ alloc_ _ _; have HV5 := Lib.hid (show Bx W5 w4.heap.size 41 (cc v) from hW5 ▸ Bx.new w4 _ _); have HU5 := Lib.hid ((HU3.out.keep hb).keep hb4); have H5 := Lib.hid ((H3.out.next hb).next hb4); have HW5 := Lib.hid hW5; clear hb hi hb4 hW5 C x0 x1 x2 x3 x4 x5 x6 x7 x8 x9 y0 z0 z1 z2 z3 z4 z5 H3 HU3
 go_upto_region 5 with fail
 rw [HW5.out]; clear HW5
 go_wp2_with fail
 refine (alive17 Q _).mono ?_; rintro e w6 ⟨rfl, hb⟩; have H6 := Lib.hid (H5.out.next hb); have HU6 := HU5.out.keep hb; have HV6 := HV5.out.keep hb; clear H5 HU5 HV5 hb; have u0 := HU6.c 0; have v0 := HV6.c 0; have u1 := HU6.c 1; have v1 := HV6.c 1; have u2 := HU6.c 2; have v2 := HV6.c 2; have u3 := HU6.c 3; have v3 := HV6.c 3; have u4 := HU6.c 4; have v4 := HV6.c 4; simp at u0 v0 u1 v1 u2 v2 u3 v3 u4 v4; clear HU6 HV6; by_cases h0 : k = 0
 ·subst h0; go_wp2; go_ret; exact ⟨rfl, H6.out.o.b⟩
 ·have t0 : decide (k = 0) = false := decide_eq_false h0; obtain rfl := HI.out.zero h0; go_wp2; go_ret; exact ⟨rfl, H6.out.o.b⟩
end Ntc
end Go.Proofs.YtplenoaajokpjaaGreat
