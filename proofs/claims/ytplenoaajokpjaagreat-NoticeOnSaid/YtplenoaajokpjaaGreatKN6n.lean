/-
  A claim is covered on a day on which the policy is on. Conditions: the program tells what the laws ask.
-/
import Derived.Test.YtplenoaajokpjaaGreatMNd
import Derived.Test.YtplenoaajokpjaaGreatMKa
import Derived.Test.YtplenoaajokpjaaGreatMAt
namespace Go.Proofs.YtplenoaajokpjaaGreat
open Go.RowKit Ba Cv Sp Te Ag Tf Sl Tm Slc
namespace Ntc
set_option linter.unusedVariables false
set_option maxRecDepth 100000 in
set_option maxHeartbeats 4000000 in
theorem walk_NoticeOn (Q : Hid Asks) {w : World} (h : Hr) (G : GivenH w h) (T : Option Addr) (nt ct : Nat) (vs : List Trf.Rw) (GT : Trf.GivenT w T nt ct vs) (c : Cm) : Calls Tryz.prog 8 #[hg h, Trf.tg T nt ct, mg c] w (Yes w true) := by
 obtain ⟨W, hW⟩ : ∃ W, ((w.alloc (.cells (hc h) 35)).alloc (.cells #[.slice T nt ct] 38)).alloc (.cells (mc c) 23) = W := ⟨_, rfl⟩; have H0 := Lib.hid (show N3 w W h T nt ct 23 (mc c) by rw [← hW]; exact N3.start w h T nt ct _ _); have HW := Lib.hid hW; have HG := Lib.hid G; have HGT := Lib.hid GT; clear hW G GT; go_enter Tryz.func8, Tryz.ntmps8
 go_upto_region 1 with fail
 rw [HW.out]; clear HW; have x0 := H0.out.o.x.c 0; have x1 := H0.out.o.x.c 1; have x2 := H0.out.o.x.c 2; have x3 := H0.out.o.x.c 3; have x4 := H0.out.o.x.c 4; have x5 := H0.out.o.x.c 5; have x6 := H0.out.o.x.c 6; have x7 := H0.out.o.x.c 7; have x8 := H0.out.o.x.c 8; have x9 := H0.out.o.x.c 9; have y0 := H0.out.o.y.c 0; have z0 := H0.out.z.c 0; have z1 := H0.out.z.c 1; have z2 := H0.out.z.c 2; have z3 := H0.out.z.c 3; have z4 := H0.out.z.c 4; have z5 := H0.out.z.c 5; simp at x0 x1 x2 x3 x4 x5 x6 x7 x8 x9 y0 z0 z1 z2 z3 z4 z5; have C := Lib.hid (few12 h T nt ct vs W (gh_below HG.out H0.out.o.b) (gt_below HGT.out H0.out.o.b))
 go_wp2_with fail
 refine C.out.mono ?_; rintro e w1 ⟨b, rfl, hb1, hs⟩; have H1 := Lib.hid (H0.out.next hb1); have HS0 := Lib.hid hs; clear hb1 hs C x0 x1 x2 x3 x4 x5 x6 x7 x8 x9 y0 z0 z1 z2 z3 z4 z5 H0; cases b
 ·go_wp2_with fail
  refine (alive17 Q _).mono ?_; rintro e w99 ⟨rfl, hb99⟩; have H99 := Lib.hid (H1.out.next hb99); clear hb99; go_wp2; go_ret; exact ⟨rfl, H99.out.o.b⟩
 have HS := Lib.hid (HS0.out rfl); have HA := Lib.hid (arg_small HG.out HGT.out HS.out); clear HS0; have x0 := H1.out.o.x.c 0; have x1 := H1.out.o.x.c 1; have x2 := H1.out.o.x.c 2; have x3 := H1.out.o.x.c 3; have x4 := H1.out.o.x.c 4; have x5 := H1.out.o.x.c 5; have x6 := H1.out.o.x.c 6; have x7 := H1.out.o.x.c 7; have x8 := H1.out.o.x.c 8; have x9 := H1.out.o.x.c 9; have y0 := H1.out.o.y.c 0; have z0 := H1.out.z.c 0; have z1 := H1.out.z.c 1; have z2 := H1.out.z.c 2; have z3 := H1.out.z.c 3; have z4 := H1.out.z.c 4; have z5 := H1.out.z.c 5; simp at x0 x1 x2 x3 x4 x5 x6 x7 x8 x9 y0 z0 z1 z2 z3 z4 z5; have C := Lib.hid (Q.out.cv h T nt ct vs c w1 (HA.out.below H1.out.o.b))
 go_wp2_with fail
 refine C.out.mono ?_; rintro e w2 ⟨v, k, rfl, hi, hb⟩; obtain ⟨W3, hW3⟩ : ∃ W3, w2.alloc (.cells (cc v) 41) = W3 := ⟨_, rfl⟩; have hb3 : Below w1.heap.size w1 W3 := by rw [← hW3]; exact hb.alloc hb.size _
 have H3 := Lib.hid (H1.out.next hb3); have HI := Lib.hid hi; have HW3 := Lib.hid hW3; clear hb hi hb3 hW3 C x0 x1 x2 x3 x4 x5 x6 x7 x8 x9 y0 z0 z1 z2 z3 z4 z5 H1
 go_upto_region 4 with fail
 rw [HW3.out]; clear HW3; have x0 := H3.out.o.x.c 0; have x1 := H3.out.o.x.c 1; have x2 := H3.out.o.x.c 2; have x3 := H3.out.o.x.c 3; have x4 := H3.out.o.x.c 4; have x5 := H3.out.o.x.c 5; have x6 := H3.out.o.x.c 6; have x7 := H3.out.o.x.c 7; have x8 := H3.out.o.x.c 8; have x9 := H3.out.o.x.c 9; have y0 := H3.out.o.y.c 0; have z0 := H3.out.z.c 0; have z1 := H3.out.z.c 1; have z2 := H3.out.z.c 2; have z3 := H3.out.z.c 3; have z4 := H3.out.z.c 4; have z5 := H3.out.z.c 5; simp at x0 x1 x2 x3 x4 x5 x6 x7 x8 x9 y0 z0 z1 z2 z3 z4 z5; have A3 := HA.out.below H3.out.o.b; have C := Lib.hid (kslices h T nt ct vs c.bk W3 A3.m A3.s A3.hm A3.v A3.hv); clear A3
 go_wp2_with fail
 refine C.out.mono ?_; rintro e w4 ⟨A, n, d, rs, f, rfl, hs, hn, hc, hl, hb⟩; have HO := Lib.hid (HI.out.on hl); have H4 := Lib.hid (H3.out.next hb); have HS4 := Lib.hid hs; have HN := Lib.hid hn; clear hs hn hc hl hb C x0 x1 x2 x3 x4 x5 x6 x7 x8 x9 y0 z0 z1 z2 z3 z4 z5 H3 HI; have x0 := H4.out.o.x.c 0; have x1 := H4.out.o.x.c 1; have x2 := H4.out.o.x.c 2; have x3 := H4.out.o.x.c 3; have x4 := H4.out.o.x.c 4; have x5 := H4.out.o.x.c 5; have x6 := H4.out.o.x.c 6; have x7 := H4.out.o.x.c 7; have x8 := H4.out.o.x.c 8; have x9 := H4.out.o.x.c 9; have y0 := H4.out.o.y.c 0; have z0 := H4.out.z.c 0; have z1 := H4.out.z.c 1; have z2 := H4.out.z.c 2; have z3 := H4.out.z.c 3; have z4 := H4.out.z.c 4; have z5 := H4.out.z.c 5; simp at x0 x1 x2 x3 x4 x5 x6 x7 x8 x9 y0 z0 z1 z2 z3 z4 z5; have C := Lib.hid (at_ A n d rs c.lo w4 HS4.out (by have := HN.out; omega))
 go_wp2_with fail
 refine C.out.mono ?_; rintro e w5 ⟨r, rfl, hrv, hgd, hb⟩; obtain ⟨W9, hW9⟩ : ∃ W9, w5.alloc (.cells (Slc.vc r) 60) = W9 := ⟨_, rfl⟩; have hb9 : Below w4.heap.size w4 W9 := by rw [← hW9]; exact hb.alloc hb.size _
 obtain ⟨g, hg⟩ : ∃ g, w5.heap.size = g := ⟨_, rfl⟩; have HX9 := Lib.hid (show Bx W9 g 60 (Slc.vc r) from by rw [← hW9, ← hg]; exact Bx.new w5 _ _); have HGD := Lib.hid (show Gd W9 r from hgd.below (hW9 ▸ alloc_ _ _)); have H9 := Lib.hid (H4.out.next hb9); have HW9 := Lib.hid hW9; have HGG := Lib.hid hg; have HRV := Lib.hid hrv; clear hb hgd hb9 hW9 hg hrv C x0 x1 x2 x3 x4 x5 x6 x7 x8 x9 y0 z0 z1 z2 z3 z4 z5 H4 HS4 HN; obtain ⟨z, hz⟩ : ∃ z, Slc.fnd rs c.lo = z := ⟨_, rfl⟩; have HF := Lib.hid (show ((rs.map Slc.Rw.v).find? fun x => inn x.s c.lo) = z from hz); rw [hz] at HRV ⊢; clear hz
 go_upto_region 6 with fail
 rw [HW9.out]
 try rw [HGG.out]
 clear HW9 HGG; by_cases hf : f = 0
 case neg =>
  have s0 : decide (f = 0) = false := decide_eq_false hf; have s1 : (f == 0) = false := beq_eq_false_iff_ne.2 hf; have s2 : (f != 0) = true := bne_iff_ne.2 hf; have hk0 : k ≠ 0 := HO.out.no (.inl hf); clear hf; have hk0 : k ≠ 0 := hk0; have t0 : decide (k = 0) = false := decide_eq_false hk0; have t1 : (k == 0) = false := beq_eq_false_iff_ne.2 hk0; have t2 : (k != 0) = true := bne_iff_ne.2 hk0; clear hk0
  go_wp2_with fail
  refine (alive17 Q _).mono ?_; rintro e w99 ⟨rfl, hb99⟩; have H99 := Lib.hid (H9.out.next hb99); clear hb99; go_wp2; go_ret; exact ⟨rfl, H99.out.o.b⟩
 subst hf; cases z with
 | none =>
  have hk0 : k ≠ 0 := HO.out.no (.inr fun s hs => by rw [HF.out] at hs; cases hs); have t0 : decide (k = 0) = false := decide_eq_false hk0; have t1 : (k == 0) = false := beq_eq_false_iff_ne.2 hk0; have t2 : (k != 0) = true := bne_iff_ne.2 hk0; clear hk0
  go_wp2_with fail
  refine (alive17 Q _).mono ?_; rintro e w99 ⟨rfl, hb99⟩; have H99 := Lib.hid (H9.out.next hb99); clear hb99; go_wp2; go_ret; exact ⟨rfl, H99.out.o.b⟩
 | some s =>
 have hrs : r.v = s := HRV.out; subst hrs; have q2 := HX9.out.c 2; simp at q2; cases hon : r.v.h.on with
 | false =>
  rw [hon] at q2; have hk0 : k ≠ 0 := HO.out.no (.inr fun s hs => by rw [HF.out] at hs; injection hs with hs; subst hs; exact hon); have t0 : decide (k = 0) = false := decide_eq_false hk0; have t1 : (k == 0) = false := beq_eq_false_iff_ne.2 hk0; have t2 : (k != 0) = true := bne_iff_ne.2 hk0; clear hk0
  go_wp2_with fail
  refine (alive17 Q _).mono ?_; rintro e w99 ⟨rfl, hb99⟩; have H99 := Lib.hid (H9.out.next hb99); clear hb99; go_wp2; go_ret; exact ⟨rfl, H99.out.o.b⟩
 | true =>
 rw [hon] at q2; have HY := Lib.hid (HO.out.yes r.v rfl HF.out hon); clear HO HF HRV
 go_upto_region 8 with fail
 clear q2 hon; obtain ⟨D, hD⟩ : ∃ D, r.A = D := ⟨_, rfl⟩; have q7 := HX9.out.c 7; simp at q7; rw [hD] at q7; have HCV := Lib.hid (show Cvs W9 (· < W9.heap.size) D r.n r.v.h.cs from hD ▸ HGD.out.c); have hrn := HGD.out.n; clear hD
 go_upto_region 10 with fail
 clear q7
 go_loopw [13, 63] (fun o i w' => ∃ (m : Nat) (p : Bool) (Y : World), m ≤ r.n ∧ o = .bool p ∧ i = .int .i64 (m : Int) ∧ Y = w' ∧ Hid (Below W9.heap.size W9 Y) ∧ Hid (p = true ↔ ∃ j, j < m ∧ ∃ x, r.v.h.cs[j]? = some x ∧ x.p = c.pe)) (fun _ i _ => r.n - (intOf i).toNat)
 case atStart => exact ⟨0, false, W9, Nat.zero_le _, rfl, rfl, rfl, Lib.hid (Below.refl _ _), Lib.hid ⟨fun h => by (cases h), fun ⟨j, hj, _⟩ => by omega⟩⟩
 case round =>
  obtain ⟨m, p, Y, hm, rfl, rfl, rfl, HB, HM⟩ := hrel; by_cases hlt : m < r.n
  ·obtain ⟨ad, x, rfl, hab, hx, N⟩ := (HCV.out.below HB.out).get hlt; have hlt2 : (m : Int) < (r.n : Int) := by omega
   obtain ⟨c0, c1, c2, c3, c4⟩ := N; have HX := Lib.hid hx; obtain ⟨W5, hW5⟩ : ∃ W5, Y.alloc (.cells (cc x) 41) = W5 := ⟨_, rfl⟩; have hb5 : Below Y.heap.size Y W5 := hW5 ▸ alloc_ _ _; have HX5 := Lib.hid (show Bx W5 Y.heap.size 41 (cc x) from hW5 ▸ Bx.new Y _ _); have HZ5 := Lib.hid ((H9.out.z.keep HB.out).keep hb5); have HB5 := Lib.hid (HB.out.trans (hb5.mono HB.out.size)); have HW5 := Lib.hid hW5; clear hx hab hb5 hW5
   go_upto_region 12 with fail
   rw [HW5.out]; clear HW5 c0 c1 c2 c3 c4; have v0 := HX5.out.c 0; have z2 := HZ5.out.c 2; simp at v0 z2; cases p
   ·by_cases hv : x.p = c.pe
    ·have t1 : (x.p == c.pe) = true := beq_iff_eq.2 hv; have HM5 := Lib.hid (show true = true ↔ ∃ j, j < m + 1 ∧ ∃ x, r.v.h.cs[j]? = some x ∧ x.p = c.pe from ⟨fun _ => ⟨m, Nat.lt_succ_self m, x, HX.out, hv⟩, fun _ => rfl⟩); clear hv; go_wp2; go_roundw
     case rel => exact ⟨m + 1, true, W5, by omega, rfl, by go_num, rfl, HB5, HM5⟩
     case measure => simp [intOf]; omega
    ·have t1 : (x.p == c.pe) = false := beq_eq_false_iff_ne.2 hv
     have HM5 := Lib.hid (show false = true ↔ ∃ j, j < m + 1 ∧ ∃ x, r.v.h.cs[j]? = some x ∧ x.p = c.pe from ⟨fun h => by (cases h), fun ⟨j, hj, y, hy, hp⟩ => by
      by_cases hjm : j < m
      ·exact HM.out.2 ⟨j, hjm, y, hy, hp⟩
      ·obtain rfl : j = m := by omega
       rw [HX.out] at hy; injection hy with hy; subst hy; exact absurd hp hv⟩)
     clear hv; go_wp2; go_roundw
     case rel => exact ⟨m + 1, false, W5, by omega, rfl, by go_num, rfl, HB5, HM5⟩
     case measure => simp [intOf]; omega
   ·have HM5 := Lib.hid (show true = true ↔ ∃ j, j < m + 1 ∧ ∃ x, r.v.h.cs[j]? = some x ∧ x.p = c.pe from ⟨fun _ => by
     obtain ⟨j, hj, y, hy⟩ := HM.out.1 rfl; exact ⟨j, by omega, y, hy⟩, fun _ => rfl⟩)
    go_wp2; go_roundw
    case rel => exact ⟨m + 1, true, W5, by omega, rfl, by go_num, rfl, HB5, HM5⟩
    case measure => simp [intOf]; omega
  ·obtain rfl : m = r.n := by omega
   have HQ := Lib.hid (show p = true ↔ ∃ x ∈ r.v.h.cs, x.p = c.pe from HM.out.trans ⟨fun ⟨j, hj, x, hx, hp⟩ => ⟨x, List.mem_of_getElem? hx, hp⟩, fun ⟨x, hx, hp⟩ => by
    obtain ⟨j, hj, e⟩ := List.getElem_of_mem hx; exact ⟨j, by have := HCV.out.1; omega, x, by rw [List.getElem?_eq_getElem hj, e], hp⟩⟩)
   have H10 := Lib.hid (H9.out.next HB.out); clear HM HB HCV HX9 HGD H9; have x0 := H10.out.o.x.c 0; have x1 := H10.out.o.x.c 1; have x2 := H10.out.o.x.c 2; have x3 := H10.out.o.x.c 3; have x4 := H10.out.o.x.c 4; have x5 := H10.out.o.x.c 5; have x6 := H10.out.o.x.c 6; have x7 := H10.out.o.x.c 7; have x8 := H10.out.o.x.c 8; have x9 := H10.out.o.x.c 9; have y0 := H10.out.o.y.c 0; have z0 := H10.out.z.c 0; have z1 := H10.out.z.c 1; have z2 := H10.out.z.c 2; have z3 := H10.out.z.c 3; have z4 := H10.out.z.c 4; have z5 := H10.out.z.c 5; simp at x0 x1 x2 x3 x4 x5 x6 x7 x8 x9 y0 z0 z1 z2 z3 z4 z5; obtain ⟨u, hu⟩ : ∃ u, rcm c = u := ⟨_, rfl⟩; have C := Lib.hid (show Calls Tryz.prog 10 #[mg c] Y (Yes Y u) from hu ▸ Q.out.ri c Y); rw [hu] at HY; clear hu hlt
   go_wp2_with fail
   refine C.out.mono ?_; rintro e w11 ⟨rfl, hb⟩; have H11 := Lib.hid (H10.out.next hb); clear hb C x0 x1 x2 x3 x4 x5 x6 x7 x8 x9 y0 z0 z1 z2 z3 z4 z5 H10; have x0 := H11.out.o.x.c 0; have x1 := H11.out.o.x.c 1; have x2 := H11.out.o.x.c 2; have x3 := H11.out.o.x.c 3; have x4 := H11.out.o.x.c 4; have x5 := H11.out.o.x.c 5; have x6 := H11.out.o.x.c 6; have x7 := H11.out.o.x.c 7; have x8 := H11.out.o.x.c 8; have x9 := H11.out.o.x.c 9; have y0 := H11.out.o.y.c 0; have z0 := H11.out.z.c 0; have z1 := H11.out.z.c 1; have z2 := H11.out.z.c 2; have z3 := H11.out.z.c 3; have z4 := H11.out.z.c 4; have z5 := H11.out.z.c 5; simp at x0 x1 x2 x3 x4 x5 x6 x7 x8 x9 y0 z0 z1 z2 z3 z4 z5; cases u with
   | false =>
    have hk0 : k ≠ 0 := fun e => by have := (HY.out.1.1 e).1.1; cases this
    have t0 : decide (k = 0) = false := decide_eq_false hk0; have t1 : (k == 0) = false := beq_eq_false_iff_ne.2 hk0; have t2 : (k != 0) = true := bne_iff_ne.2 hk0; clear hk0
    go_wp2_with fail
    refine (alive17 Q _).mono ?_; rintro e w99 ⟨rfl, hb99⟩; have H99 := Lib.hid (H11.out.next hb99); clear hb99; go_wp2; go_ret; exact ⟨rfl, H99.out.o.b⟩
   | true =>
   by_cases o1 : c.lo ≤ c.bk
   case neg =>
    have hk0 : k ≠ 0 := fun e => absurd (HY.out.1.1 e).1.2.1 o1
    have t4 : decide (c.lo ≤ c.bk) = false := decide_eq_false o1; have t0 : decide (k = 0) = false := decide_eq_false hk0; have t1 : (k == 0) = false := beq_eq_false_iff_ne.2 hk0; have t2 : (k != 0) = true := bne_iff_ne.2 hk0; clear hk0 o1
    go_wp2_with fail
    refine (alive17 Q _).mono ?_; rintro e w99 ⟨rfl, hb99⟩; have H99 := Lib.hid (H11.out.next hb99); clear hb99; go_wp2; go_ret; exact ⟨rfl, H99.out.o.b⟩
   have t4 : decide (c.lo ≤ c.bk) = true := decide_eq_true o1; by_cases o2 : c.po = h.id
   case neg =>
    have hk0 : k ≠ 0 := fun e => absurd (HY.out.1.1 e).1.2.2 o2
    have t5 : (c.po == h.id) = false := beq_eq_false_iff_ne.2 o2; have t0 : decide (k = 0) = false := decide_eq_false hk0; have t1 : (k == 0) = false := beq_eq_false_iff_ne.2 hk0; have t2 : (k != 0) = true := bne_iff_ne.2 hk0; clear hk0 o1 o2
    go_wp2_with fail
    refine (alive17 Q _).mono ?_; rintro e w99 ⟨rfl, hb99⟩; have H99 := Lib.hid (H11.out.next hb99); clear hb99; go_wp2; go_ret; exact ⟨rfl, H99.out.o.b⟩
   have t5 : (c.po == h.id) = true := beq_iff_eq.2 o2; cases p with
   | true =>
    obtain rfl : k = 0 := HY.out.1.2 ⟨⟨rfl, o1, o2⟩, HQ.out.1 rfl⟩; clear o1 o2
    go_wp2_with fail
    refine (alive17 Q _).mono ?_; rintro e w99 ⟨rfl, hb99⟩; have H99 := Lib.hid (H11.out.next hb99); clear hb99; go_wp2; go_ret; exact ⟨rfl, H99.out.o.b⟩
   | false =>
    obtain rfl : k = 11 := HY.out.2 ⟨rfl, o1, o2⟩ (fun e => by have := HQ.out.2 e; cases this); clear o1 o2
    go_wp2_with fail
    refine (alive17 Q _).mono ?_; rintro e w99 ⟨rfl, hb99⟩; have H99 := Lib.hid (H11.out.next hb99); clear hb99; go_wp2; go_ret; exact ⟨rfl, H99.out.o.b⟩
end Ntc
end Go.Proofs.YtplenoaajokpjaaGreat
