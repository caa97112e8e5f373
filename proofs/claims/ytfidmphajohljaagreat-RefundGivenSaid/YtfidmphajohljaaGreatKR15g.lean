/-
  The document's Given. Conditions: the history, the tariff and the change read as meant, their lists are short.
-/
import Derived.Test.YtfidmphajohljaaGreatHq
import Derived.Test.YtfidmphajohljaaGreatMRdc
import Derived.Test.YtfidmphajohljaaGreatKRPut
set_option maxRecDepth 100000
set_option maxHeartbeats 4000000
set_option linter.unusedVariables false
namespace Go.Proofs.YtfidmphajohljaaGreat
open Go.RowKit Ba Cv Sp Te Ag Tf Sl Tm
open Slc (OfIs OfTo Sls O2)
namespace Rfd
theorem rgiven (h : Hr) (T : Option Addr) (nt ct : Nat) (vs : List Trf.Rw) (r : Rw) (w : World) (G : Arg w h T nt vs) (hm : h.m ≤ 99) (hS : Cvs w (· < w.heap.size) r.A r.n r.v.cs) (hn : r.n ≤ 1000) : Calls Tryz.prog 17 #[hg h, Trf.tg T nt ct, vg r] w (GiTo w h.v (vs.map Trf.Rw.v) r.v) := by
 obtain ⟨W, hW⟩ : ∃ W, ((w.alloc (.cells (hc h) 31)).alloc (.cells #[.slice T nt ct] 34)).alloc (.cells (vc r) 41) = W := ⟨_, rfl⟩; have H0 := qh (show G3 w W h T nt ct r by rw [← hW]; exact G3.start w h T nt ct r); have HW := qh hW; have HG := qh G; have HN := qh (And.intro hm hn); have HCV := qh hS; have C1 := qh (rput_ h r W (G.m.below H0.out.b) G.s (hS.below H0.out.b) (by omega)); obtain ⟨x0, x1, x2, x3, x4, x5, x6, x7, x8, x9⟩ := qc10 H0.out.x; have y0 := H0.out.y.c 0; obtain ⟨z0, z1, z2, z3, z4, z5, z6, z7, z8⟩ := qc9 H0.out.z; simp at y0; clear hW G hS hm hn; obtain ⟨cd, hcd⟩ : ∃ cd, Ag.code h.s h.bk h.v.hs r.v = cd := ⟨_, rfl⟩; have HCD := qh hcd; rw [hcd] at C1; clear hcd; go_enter Tryz.func17, Tryz.ntmps17
 go_upto_region 1 with fail
 rw [HW.out]; clear HW
 go_wp2_with fail
 refine C1.out.mono ?_; rintro e w1 ⟨k, rfl, hR⟩; have H1 := qh (H0.out.next hR.b); have HKV := qh hR.v; have HKM := qh hR.m; have HKS := qh hR.s; clear C1 H0 x0 x1 x2 x3 x4 x5 x6 x7 x8 x9 y0 z0 z1 z2 z3 z4 z5 z6 z7 z8 hR; obtain ⟨W2, hW2⟩ : ∃ W2, w1.alloc (.cells (hc k) 31) = W2 := ⟨_, rfl⟩; have hb2 : Below w1.heap.size w1 W2 := hW2 ▸ alloc_ _ _; have HX2 := qh (show Bx W2 w1.heap.size 31 (hc k) from hW2 ▸ Bx.new w1 31 (hc k)); have H2 := qh (H1.out.next hb2); have HM2 := qh (HKM.out.below hb2); have HW2 := qh hW2; clear hb2 hW2; by_cases hk : cd = 0
 case neg =>
  have t1 : decide (cd = 0) = false := decide_eq_false hk; have t2 : (cd == 0) = false := beq_eq_false_iff_ne.2 hk; have t3 : (cd != 0) = true := bne_iff_ne.2 hk; have HK := qh hk; clear hk
  go_upto_region 2 with fail
  rw [HW2.out]; clear HW2 H1 HKM; go_wp2; go_ret2; exact ⟨0, cd, rfl, ⟨fun _ => ⟨rfl, HCD.out.symm⟩, fun h => absurd (HCD.out.symm.trans h) HK.out⟩, H2.out.b⟩
 subst hk; have HWI := qh (show k.v = wi h.v r.v by rw [HKV.out]; unfold phi; rw [if_pos (show Ag.code h.v.s h.v.bk h.v.hs r.v = 0 from HCD.out)]; rfl)
 have HA2 := qh (show Arg W2 k T nt vs by
  have e1 : k.v.hs = h.v.hs ++ [r.v] := by rw [HWI.out]; rfl
  have e2 : k.v.cs = h.v.cs := by rw [HWI.out]; rfl
  refine Arg.of HM2.out HKS.out (HG.out.below H2.out.b).v HG.out.hv ?_ ?_ ?_
  ·rw [e1, List.length_append, HG.out.m.len, List.length_singleton]; have := HN.out.1; omega
  ·rw [e2]; show h.cs.length ≤ 1000; rw [HG.out.m.t.1]; exact HG.out.hn.1
  ·intro c hc; rw [e1] at hc; rcases List.mem_append.1 hc with hc | hc
   ·obtain ⟨x, hx, rfl⟩ := List.mem_map.1 hc; rw [(HG.out.m.k x hx).1]; exact HG.out.hn.2 x hx
   ·obtain rfl := List.mem_singleton.1 hc; rw [HCV.out.1]; exact HN.out.2)
 go_upto_region 4 with fail
 rw [HW2.out]; clear HW2 H1 HKM; have C2 := qh (rdue h T nt ct vs W2 (HG.out.below H2.out.b)); obtain ⟨x0, x1, x2, x3, x4, x5, x6, x7, x8, x9⟩ := qc10 H2.out.x; have y0 := H2.out.y.c 0; obtain ⟨z0, z1, z2, z3, z4, z5, z6, z7, z8⟩ := qc9 H2.out.z; simp at y0
 go_wp2_with fail
 refine C2.out.mono ?_; rintro e w3 ⟨a, x, rfl, hD, hb3⟩; have H3 := qh (H2.out.next hb3); have HX3 := qh (HX2.out.keep hb3); have HA3 := qh (HA2.out.below hb3); have HD := qh hD; clear hb3 C2 H2 HX2 HA2 HM2 hD x0 x1 x2 x3 x4 x5 x6 x7 x8 x9 y0 z0 z1 z2 z3 z4 z5 z6 z7 z8; by_cases hk : x = 0
 case neg =>
  have t1 : decide (x = 0) = false := decide_eq_false hk; have t2 : (x == 0) = false := beq_eq_false_iff_ne.2 hk; have t3 : (x != 0) = true := bne_iff_ne.2 hk; have HK := qh hk; clear hk; go_wp2; go_ret2; exact ⟨0, x, rfl, ⟨fun h => absurd HCD.out h, fun _ => ⟨a, x, HD.out, fun _ => ⟨rfl, rfl⟩, fun h => absurd h HK.out⟩⟩, H3.out.b⟩
 subst hk; have C3 := qh (rdue k T nt ct vs w3 HA3.out); rw [HWI.out] at C3; obtain ⟨x0, x1, x2, x3, x4, x5, x6, x7, x8, x9⟩ := qc10 HX3.out; have y0 := H3.out.y.c 0; simp at y0
 go_wp2_with fail
 refine C3.out.mono ?_; rintro e w4 ⟨b, y, rfl, hD, hb4⟩; have H4 := qh (H3.out.next hb4); have HE := qh hD; clear hb4 C3 H3 HX3 HA3 hD x0 x1 x2 x3 x4 x5 x6 x7 x8 x9 y0; by_cases hk : y = 0
 case neg =>
  have t1 : decide (y = 0) = false := decide_eq_false hk; have t2 : (y == 0) = false := beq_eq_false_iff_ne.2 hk; have t3 : (y != 0) = true := bne_iff_ne.2 hk; have HK := qh hk; clear hk; go_wp2; go_ret2; exact ⟨0, y, rfl, ⟨fun h => absurd HCD.out h, fun _ => ⟨a, 0, HD.out, fun h => absurd rfl h, fun _ => ⟨b, y, HE.out, fun _ => ⟨rfl, rfl⟩, fun h => absurd h HK.out⟩⟩⟩, H4.out.b⟩
 subst hk; have b1 := HD.out.zz; have b2 := HE.out.zz; have hw : wrap64 (a - b) = a - b := IntWalk.wrap64_in _ (by omega); clear b1 b2; go_wp2; go_ret2; exact ⟨a - b, 0, by show Ending.returned (.tuple #[.int .i64 (wrap64 (a - b)), .int .i64 0]) = _; rw [hw], ⟨fun h => absurd HCD.out h, fun _ => ⟨a, 0, HD.out, fun h => absurd rfl h, fun _ => ⟨b, 0, HE.out, fun h => absurd rfl h, fun _ => ⟨rfl, rfl⟩⟩⟩⟩, H4.out.b⟩
end Rfd
end Go.Proofs.YtfidmphajohljaaGreat
