/-
  Given tells what the document does. Conditions: the program tells what is kept, due and given.
-/
import Derived.Test.YtfidmphajohljaaGreatHq
import Derived.Test.YtfidmphajohljaaGreatMRdb
import Derived.Test.YtfidmphajohljaaGreatMRdc
import Derived.Test.YtfidmphajohljaaGreatKR15g
set_option maxRecDepth 100000
set_option maxHeartbeats 4000000
set_option linter.unusedVariables false
namespace Go.Proofs.YtfidmphajohljaaGreat
open Go.RowKit Ba Cv Sp Te Ag Tf Sl Tm Slc
namespace Rfd
theorem walk_RefundGiven (KC : Hid KpC) (DC : Hid DuC) (GC : Hid GiC) {w : World} (h : Hr) (G : GivenH w h) (T : Option Addr) (nt ct : Nat) (vs : List Trf.Rw) (GT : Trf.GivenT w T nt ct vs) (r : Tm.Rw) (GR : GivenR w r) : Calls Tryz.prog 5 #[hg h, Trf.tg T nt ct, Tm.vg r] w (Yes w true) := by
 obtain ⟨W, hW⟩ : ∃ W, ((w.alloc (.cells (hc h) 31)).alloc (.cells #[.slice T nt ct] 34)).alloc (.cells (Tm.vc r) 41) = W := ⟨_, rfl⟩; have H0 := qh (show G3 w W h T nt ct r by rw [← hW]; exact G3.start w h T nt ct r); have HW := qh hW; have HG := qh G; have HGT := qh GT; have HGR := qh GR; clear hW G GT GR; go_enter Tryz.func5, Tryz.ntmps5
 go_upto_region 1 with fail
 rw [HW.out]; clear HW; obtain ⟨x0, x1, x2, x3, x4, x5, x6, x7, x8, x9⟩ := qc10 H0.out.x; have y0 := H0.out.y.c 0; obtain ⟨z0, z1, z2, z3, z4, z5, z6, z7, z8⟩ := qc9 H0.out.z; simp at y0; have C := qh (few12 h T nt ct vs W (gh_below HG.out H0.out.b) (gt_below HGT.out H0.out.b))
 go_wp2_with fail
 refine C.out.mono ?_; rintro e w1 ⟨b, rfl, hb1, hs⟩; have H1 := qh (H0.out.next hb1); have HS0 := qh hs; have v7 := H1.out.z.c 7; simp at v7; clear hb1 hs C x0 x1 x2 x3 x4 x5 x6 x7 x8 x9 y0 z0 z1 z2 z3 z4 z5 z6 z7 z8 H0; cases b
 ·go_wp2_with fail
  refine (alive15 KC.out DC.out GC.out _).mono ?_; rintro e w9 ⟨rfl, hb9⟩; have H9 := qh (H1.out.next hb9); clear hb9; go_wp2; go_ret; exact ⟨rfl, H9.out.b⟩
 have HS := qh (HS0.out rfl); have HA := qh (arg_small HG.out HGT.out HS.out); clear HS0; by_cases q : r.n ≤ 50
 case neg =>
  have u1 : decide ((50 : Int) < (r.n : Int)) = true := decide_eq_true (by omega); clear q
  go_wp2_with fail
  refine (alive15 KC.out DC.out GC.out _).mono ?_; rintro e w9 ⟨rfl, hb9⟩; have H9 := qh (H1.out.next hb9); clear hb9; go_wp2; go_ret; exact ⟨rfl, H9.out.b⟩
 have u1 : decide ((50 : Int) < (r.n : Int)) = false := decide_eq_false (by omega); have HQ := qh q; clear q; obtain ⟨x0, x1, x2, x3, x4, x5, x6, x7, x8, x9⟩ := qc10 H1.out.x; have y0 := H1.out.y.c 0; simp at y0; have C := qh (rdue h T nt ct vs w1 (HA.out.below H1.out.b))
 go_wp2_with fail
 refine C.out.mono ?_; rintro e w2 ⟨a, c, rfl, hi, hb⟩; have H2 := qh (H1.out.next hb); have I2 := qh hi; clear hb hi C x0 x1 x2 x3 x4 x5 x6 x7 x8 x9 y0 v7 u1 H1; obtain ⟨x0, x1, x2, x3, x4, x5, x6, x7, x8, x9⟩ := qc10 H2.out.x; have y0 := H2.out.y.c 0; obtain ⟨z0, z1, z2, z3, z4, z5, z6, z7, z8⟩ := qc9 H2.out.z; simp at y0; have C := qh (GC.out h T nt ct vs r w2 (HA.out.below H2.out.b) (Nat.le_trans HS.out.m (by omega)) (HGR.out.c.below H2.out.b) (Nat.le_trans HQ.out (by omega)))
 go_wp2_with fail
 refine C.out.mono ?_; rintro e w3 ⟨v, k, rfl, hi, hb⟩; have H3 := qh (H2.out.next hb); have I3 := qh hi; clear hb hi C x0 x1 x2 x3 x4 x5 x6 x7 x8 x9 y0 z0 z1 z2 z3 z4 z5 z6 z7 z8 H2; obtain ⟨x0, x1, x2, x3, x4, x5, x6, x7, x8, x9⟩ := qc10 H3.out.x; have y0 := H3.out.y.c 0; obtain ⟨z0, z1, z2, z3, z4, z5, z6, z7, z8⟩ := qc9 H3.out.z; simp at y0; have C := qh (rgiven h T nt ct vs r w3 (HA.out.below H3.out.b) (Nat.le_trans HS.out.m (by omega)) (HGR.out.c.below H3.out.b) (Nat.le_trans HQ.out (by omega)))
 go_wp2_with fail
 refine C.out.mono ?_; rintro e w4 ⟨v', k', rfl, hi, hb⟩; obtain ⟨rfl, rfl⟩ := I3.out.one hi; have H4 := qh (H3.out.next hb); clear hb hi C x0 x1 x2 x3 x4 x5 x6 x7 x8 x9 y0 z0 z1 z2 z3 z4 z5 z6 z7 z8 H3; obtain ⟨x0, x1, x2, x3, x4, x5, x6, x7, x8, x9⟩ := qc10 H4.out.x; have y0 := H4.out.y.c 0; simp at y0; have C := qh (rdue h T nt ct vs w4 (HA.out.below H4.out.b))
 go_wp2_with fail
 refine C.out.mono ?_; rintro e w5 ⟨a', c', rfl, hi, hb⟩; obtain ⟨rfl, rfl⟩ := I2.out.one hi; have H5 := qh (H4.out.next hb); clear hb hi C x0 x1 x2 x3 x4 x5 x6 x7 x8 x9 y0 H4
 go_wp2_with fail
 refine (alive15 KC.out DC.out GC.out _).mono ?_; rintro e w9 ⟨rfl, hb9⟩; have H9 := qh (H5.out.next hb9); clear hb9; go_wp2; go_ret; exact ⟨rfl, H9.out.b⟩
end Rfd
end Go.Proofs.YtfidmphajohljaaGreat
