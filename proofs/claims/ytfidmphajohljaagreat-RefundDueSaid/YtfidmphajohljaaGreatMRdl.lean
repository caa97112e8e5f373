/-
  The parts R15l of this proof. Conditions: those of each theorem.
-/
import Derived.Test.YtfidmphajohljaaGreatHq
import Derived.Test.YtfidmphajohljaaGreatMRdb
import Derived.Test.YtfidmphajohljaaGreatMRdc
set_option maxRecDepth 100000
set_option maxHeartbeats 4000000
set_option linter.unusedVariables false
namespace Go.Proofs.YtfidmphajohljaaGreat
open Go.RowKit Ba Cv Sp Te Ag Tf Sl Tm Slc
namespace Rfd
theorem walk_RefundKept (KC : Hid KpC) (DC : Hid DuC) (GC : Hid GiC) {w : World} (h : Hr) (G : GivenH w h) (T : Option Addr) (nt ct : Nat) (vs : List Trf.Rw) (GT : Trf.GivenT w T nt ct vs) : Calls Tryz.prog 3 #[hg h, Trf.tg T nt ct] w (Yes w true) := by
 obtain ⟨W, hW⟩ : ∃ W, (w.alloc (.cells (hc h) 31)).alloc (.cells #[.slice T nt ct] 34) = W := ⟨_, rfl⟩; have H0 := qh (show O2 w W h T nt ct by rw [← hW]; exact Slc.O2.start w h T nt ct); have HW := qh hW; have HG := qh G; have HGT := qh GT; clear hW G GT; go_enter Tryz.func3, Tryz.ntmps3
 go_upto_region 1 with fail
 rw [HW.out]; clear HW; obtain ⟨x0, x1, x2, x3, x4, x5, x6, x7, x8, x9⟩ := qc10 H0.out.x; have y0 := H0.out.y.c 0; simp at y0; have C := qh (few12 h T nt ct vs W (gh_below HG.out H0.out.b) (gt_below HGT.out H0.out.b))
 go_wp2_with fail
 refine C.out.mono ?_; rintro e w1 ⟨b, rfl, hb1, hs⟩; have H1 := qh (H0.out.next hb1); have HS0 := qh hs; clear hb1 hs C x0 x1 x2 x3 x4 x5 x6 x7 x8 x9 y0 H0; cases b
 ·go_wp2_with fail
  refine (alive15 KC.out DC.out GC.out _).mono ?_; rintro e w9 ⟨rfl, hb9⟩; have H9 := qh (H1.out.next hb9); clear hb9; go_wp2; go_ret; exact ⟨rfl, H9.out.b⟩
 have HS := qh (HS0.out rfl); have HA := qh (arg_small HG.out HGT.out HS.out); clear HS0; obtain ⟨x0, x1, x2, x3, x4, x5, x6, x7, x8, x9⟩ := qc10 H1.out.x; have y0 := H1.out.y.c 0; simp at y0; have C := qh (KC.out h T nt ct vs w1 (HA.out.below H1.out.b))
 go_wp2_with fail
 refine C.out.mono ?_; rintro e w2 ⟨a, c, rfl, hi, hb⟩; have H2 := qh (H1.out.next hb); have I2 := qh hi; clear hb hi C x0 x1 x2 x3 x4 x5 x6 x7 x8 x9 y0 H1; obtain ⟨x0, x1, x2, x3, x4, x5, x6, x7, x8, x9⟩ := qc10 H2.out.x; have y0 := H2.out.y.c 0; simp at y0; have C := qh (rkept h T nt ct vs w2 (HA.out.below H2.out.b))
 go_wp2_with fail
 refine C.out.mono ?_; rintro e w3 ⟨a', c', rfl, hi, hb⟩; obtain ⟨rfl, rfl⟩ := I2.out.one hi; have H3 := qh (H2.out.next hb); clear hb hi C x0 x1 x2 x3 x4 x5 x6 x7 x8 x9 y0 H2
 go_wp2_with fail
 refine (alive15 KC.out DC.out GC.out _).mono ?_; rintro e w9 ⟨rfl, hb9⟩; have H9 := qh (H3.out.next hb9); clear hb9; go_wp2; go_ret; exact ⟨rfl, H9.out.b⟩
theorem walk_RefundDue (KC : Hid KpC) (DC : Hid DuC) (GC : Hid GiC) {w : World} (h : Hr) (G : GivenH w h) (T : Option Addr) (nt ct : Nat) (vs : List Trf.Rw) (GT : Trf.GivenT w T nt ct vs) : Calls Tryz.prog 4 #[hg h, Trf.tg T nt ct] w (Yes w true) := by
 obtain ⟨W, hW⟩ : ∃ W, (w.alloc (.cells (hc h) 31)).alloc (.cells #[.slice T nt ct] 34) = W := ⟨_, rfl⟩; have H0 := qh (show O2 w W h T nt ct by rw [← hW]; exact Slc.O2.start w h T nt ct); have HW := qh hW; have HG := qh G; have HGT := qh GT; clear hW G GT; go_enter Tryz.func4, Tryz.ntmps4
 go_upto_region 1 with fail
 rw [HW.out]; clear HW; obtain ⟨x0, x1, x2, x3, x4, x5, x6, x7, x8, x9⟩ := qc10 H0.out.x; have y0 := H0.out.y.c 0; simp at y0; have C := qh (few12 h T nt ct vs W (gh_below HG.out H0.out.b) (gt_below HGT.out H0.out.b))
 go_wp2_with fail
 refine C.out.mono ?_; rintro e w1 ⟨b, rfl, hb1, hs⟩; have H1 := qh (H0.out.next hb1); have HS0 := qh hs; clear hb1 hs C x0 x1 x2 x3 x4 x5 x6 x7 x8 x9 y0 H0; cases b
 ·go_wp2_with fail
  refine (alive15 KC.out DC.out GC.out _).mono ?_; rintro e w9 ⟨rfl, hb9⟩; have H9 := qh (H1.out.next hb9); clear hb9; go_wp2; go_ret; exact ⟨rfl, H9.out.b⟩
 have HS := qh (HS0.out rfl); have HA := qh (arg_small HG.out HGT.out HS.out); clear HS0; obtain ⟨x0, x1, x2, x3, x4, x5, x6, x7, x8, x9⟩ := qc10 H1.out.x; have y0 := H1.out.y.c 0; simp at y0; have C := qh (DC.out h T nt ct vs w1 (HA.out.below H1.out.b))
 go_wp2_with fail
 refine C.out.mono ?_; rintro e w2 ⟨a, c, rfl, hi, hb⟩; have H2 := qh (H1.out.next hb); have I2 := qh hi; clear hb hi C x0 x1 x2 x3 x4 x5 x6 x7 x8 x9 y0 H1; obtain ⟨x0, x1, x2, x3, x4, x5, x6, x7, x8, x9⟩ := qc10 H2.out.x; have y0 := H2.out.y.c 0; simp at y0; have C := qh (rdue h T nt ct vs w2 (HA.out.below H2.out.b))
 go_wp2_with fail
 refine C.out.mono ?_; rintro e w3 ⟨a', c', rfl, hi, hb⟩; obtain ⟨rfl, rfl⟩ := I2.out.one hi; have H3 := qh (H2.out.next hb); clear hb hi C x0 x1 x2 x3 x4 x5 x6 x7 x8 x9 y0 H2
 go_wp2_with fail
 refine (alive15 KC.out DC.out GC.out _).mono ?_; rintro e w9 ⟨rfl, hb9⟩; have H9 := qh (H3.out.next hb9); clear hb9; go_wp2; go_ret; exact ⟨rfl, H9.out.b⟩
end Rfd
end Go.Proofs.YtfidmphajohljaaGreat
