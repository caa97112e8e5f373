/-
  A cover that is told is of the terms, or of a change that was known. Conditions: the program tells what the laws ask.
-/
import Derived.Test.YtplenoaajokpjaaGreatMNd
namespace Go.Proofs.YtplenoaajokpjaaGreat
open Go.RowKit Ba Cv Sp Te Ag Tf Sl Tm Slc
namespace Ntc
set_option linter.unusedVariables false
theorem co_diff {x v : Co} (h : x ≠ v) : x.p ≠ v.p ∨ (x.p = v.p ∧ x.l ≠ v.l) ∨ (x.p = v.p ∧ x.l = v.l ∧ x.g ≠ v.g) ∨ (x.p = v.p ∧ x.l = v.l ∧ x.g = v.g ∧ x.d ≠ v.d) ∨ (x.p = v.p ∧ x.l = v.l ∧ x.g = v.g ∧ x.d = v.d ∧ x.s ≠ v.s) := by
 by_cases h1 : x.p = v.p
 ·by_cases h2 : x.l = v.l
  ·by_cases h3 : x.g = v.g
   ·by_cases h4 : x.d = v.d
    ·by_cases h5 : x.s = v.s
     ·exact absurd (by cases x; cases v; simp at h1 h2 h3 h4 h5; subst h1 h2 h3 h4 h5; rfl) h
     ·exact .inr (.inr (.inr (.inr ⟨h1, h2, h3, h4, h5⟩)))
    ·exact .inr (.inr (.inr (.inl ⟨h1, h2, h3, h4⟩)))
   ·exact .inr (.inr (.inl ⟨h1, h2, h3⟩))
  ·exact .inr (.inl ⟨h1, h2⟩)
 ·exact .inl h1
set_option maxRecDepth 100000 in
set_option maxHeartbeats 4000000 in
theorem walk_NoticeOwn (Q : Hid Asks) {w : World} (h : Hr) (G : GivenH w h) (T : Option Addr) (nt ct : Nat) (vs : List Trf.Rw) (GT : Trf.GivenT w T nt ct vs) (c : Cm) : Calls Tryz.prog 7 #[hg h, Trf.tg T nt ct, mg c] w (Yes w true) := by
 obtain ⟨W, hW⟩ : ∃ W, ((w.alloc (.cells (hc h) 35)).alloc (.cells #[.slice T nt ct] 38)).alloc (.cells (mc c) 23) = W := ⟨_, rfl⟩; have H0 := Lib.hid (show N3 w W h T nt ct 23 (mc c) by rw [← hW]; exact N3.start w h T nt ct _ _); have HW := Lib.hid hW; have HG := Lib.hid G; have HGT := Lib.hid GT; clear hW G GT; go_enter Tryz.func7, Tryz.ntmps7
 go_upto_region 1 with fail
 rw [HW.out]; clear HW; have x0 := H0.out.o.x.c 0; have x1 := H0.out.o.x.c 1; have x2 := H0.out.o.x.c 2; have x3 := H0.out.o.x.c 3; have x4 := H0.out.o.x.c 4; have x5 := H0.out.o.x.c 5; have x6 := H0.out.o.x.c 6; have x7 := H0.out.o.x.c 7; have x8 := H0.out.o.x.c 8; have x9 := H0.out.o.x.c 9; have y0 := H0.out.o.y.c 0; have z0 := H0.out.z.c 0; have z1 := H0.out.z.c 1; have z2 := H0.out.z.c 2; have z3 := H0.out.z.c 3; have z4 := H0.out.z.c 4; have z5 := H0.out.z.c 5; simp at x0 x1 x2 x3 x4 x5 x6 x7 x8 x9 y0 z0 z1 z2 z3 z4 z5; have C := Lib.hid (few12 h T nt ct vs W (gh_below HG.out H0.out.o.b) (gt_below HGT.out H0.out.o.b))
 go_wp2_with fail
 refine C.out.mono ?_; rintro e w1 ⟨b, rfl, hb1, hs⟩; have H1 := Lib.hid (H0.out.next hb1); have HS0 := Lib.hid hs; clear hb1 hs C x0 x1 x2 x3 x4 x5 x6 x7 x8 x9 y0 z0 z1 z2 z3 z4 z5 H0; cases b
 ·go_wp2_with fail
  refine (alive17 Q _).mono ?_; rintro e w99 ⟨rfl, hb99⟩; have H99 := Lib.hid (H1.out.next hb99); clear hb99; go_wp2; go_ret; exact ⟨rfl, H99.out.o.b⟩
 have HS := Lib.hid (HS0.out rfl); have HA := Lib.hid (arg_small HG.out HGT.out HS.out); clear HS0; have x0 := H1.out.o.x.c 0; have x1 := H1.out.o.x.c 1; have x2 := H1.out.o.x.c 2; have x3 := H1.out.o.x.c 3; have x4 := H1.out.o.x.c 4; have x5 := H1.out.o.x.c 5; have x6 := H1.out.o.x.c 6; have x7 := H1.out.o.x.c 7; have x8 := H1.out.o.x.c 8; have x9 := H1.out.o.x.c 9; have y0 := H1.out.o.y.c 0; have z0 := H1.out.z.c 0; have z1 := H1.out.z.c 1; have z2 := H1.out.z.c 2; have z3 := H1.out.z.c 3; have z4 := H1.out.z.c 4; have z5 := H1.out.z.c 5; simp at x0 x1 x2 x3 x4 x5 x6 x7 x8 x9 y0 z0 z1 z2 z3 z4 z5; have C := Lib.hid (Q.out.cv h T nt ct vs c w1 (HA.out.below H1.out.o.b))
 go_wp2_with fail
 refine C.out.mono ?_; rintro e w2 ⟨v, k, rfl, hi, hb⟩; obtain ⟨W3, hW3⟩ : ∃ W3, w2.alloc (.cells (cc v) 41) = W3 := ⟨_, rfl⟩; have hb3 : Below w1.heap.size w1 W3 := by rw [← hW3]; exact hb.alloc hb.size _
 obtain ⟨g, hg⟩ : ∃ g, w2.heap.size = g := ⟨_, rfl⟩; have HU3 := Lib.hid (show Bx W3 g 41 (cc v) from by rw [← hW3, ← hg]; exact Bx.new w2 _ _); have H3 := Lib.hid (H1.out.next hb3); have HI := Lib.hid hi; have HW3 := Lib.hid hW3; have HGG := Lib.hid hg; clear hb hi hb3 hW3 hg C x0 x1 x2 x3 x4 x5 x6 x7 x8 x9 y0 z0 z1 z2 z3 z4 z5 H1
 go_upto_region 4 with fail
 rw [HW3.out, HGG.out]; clear HW3 HGG; by_cases h0 : k = 0
 case neg =>
  have t0 : decide (k = 0) = false := decide_eq_false h0; have t1 : (k == 0) = false := beq_eq_false_iff_ne.2 h0; have t2 : (k != 0) = true := bne_iff_ne.2 h0; obtain rfl := HI.out.zero h0; clear h0 HI
  go_wp2_with fail
  refine (alive17 Q _).mono ?_; rintro e w99 ⟨rfl, hb99⟩; have H99 := Lib.hid (H3.out.next hb99); have HU99 := Lib.hid (HU3.out.keep hb99); clear hb99 H3 HU3; have u0 := HU99.out.c 0; have u1 := HU99.out.c 1; have u2 := HU99.out.c 2; have u3 := HU99.out.c 3; have u4 := HU99.out.c 4; simp at u0 u1 u2 u3 u4; go_wp2; go_ret; exact ⟨rfl, H99.out.o.b⟩
 subst h0; have OW := Lib.hid HI.out.own; clear HI; have x0 := H3.out.o.x.c 0; have x1 := H3.out.o.x.c 1; have x2 := H3.out.o.x.c 2; have x3 := H3.out.o.x.c 3; have x4 := H3.out.o.x.c 4; have x5 := H3.out.o.x.c 5; have x6 := H3.out.o.x.c 6; have x7 := H3.out.o.x.c 7; have x8 := H3.out.o.x.c 8; have x9 := H3.out.o.x.c 9; have y0 := H3.out.o.y.c 0; have z0 := H3.out.z.c 0; have z1 := H3.out.z.c 1; have z2 := H3.out.z.c 2; have z3 := H3.out.z.c 3; have z4 := H3.out.z.c 4; have z5 := H3.out.z.c 5; simp at x0 x1 x2 x3 x4 x5 x6 x7 x8 x9 y0 z0 z1 z2 z3 z4 z5; obtain ⟨A, hA⟩ : ∃ A, h.A = A := ⟨_, rfl⟩; obtain ⟨B, hB⟩ : ∃ B, h.B = B := ⟨_, rfl⟩; rw [hA] at x8; rw [hB] at x9; have HT0 := Lib.hid (show Cvs W3 (· < W3.heap.size) A h.n h.cs from hA ▸ (HA.out.below H3.out.o.b).m.t); have HR0 := Lib.hid (show Raws W3 (· < W3.heap.size) B h.m h.rs from hB ▸ (HA.out.below H3.out.o.b).m.r); have HC0 := Lib.hid (HA.out.below H3.out.o.b).m.k; have HN := Lib.hid (show h.n ≤ 50 from HS.out.n); have HM := Lib.hid (show h.m ≤ 60 from HS.out.m); have HKN := Lib.hid HS.out.k
 go_upto_region 8 with fail
 clear x0 x1 x2 x3 x4 x5 x6 x7 x8 x9 y0 z0 z1 z2 z3 z4 z5; have hn0 := HN.out; have hm0 := HM.out; have HS3 := Lib.hid (show w.heap.size + 3 ≤ W3.heap.size from by have := H3.out.z.lt; omega); have HGL := Lib.hid HU3.out.lt
 go_loopw [9, 40] (fun o i w' => ∃ (k : Nat) (b : Bool) (V : World), k ≤ h.n ∧ o = .bool b ∧ i = .int .i64 (k : Int) ∧ V = w' ∧ Hid (Below W3.heap.size W3 V) ∧ Hid (∀ j, j < k → h.cs[j]? = some v → b = true)) (fun _ i _ => h.n - (intOf i).toNat)
 case atStart => exact ⟨0, false, W3, Nat.zero_le _, rfl, rfl, rfl, Lib.hid (Below.refl _ _), Lib.hid fun j hj => by omega⟩
 case round =>
  obtain ⟨k, b, V, hk, rfl, rfl, rfl, HB, HP⟩ := hrel; by_cases hlt : k < h.n
  ·obtain ⟨ad, x, rfl, hab, hx, N⟩ := (HT0.out.below HB.out).get hlt; have hlt2 : (k : Int) < (h.n : Int) := by omega
   obtain ⟨c0, c1, c2, c3, c4⟩ := N; have HX := Lib.hid hx; obtain ⟨W5, hW5⟩ : ∃ W5, V.alloc (.cells (cc x) 41) = W5 := ⟨_, rfl⟩; have hb5 : Below V.heap.size V W5 := hW5 ▸ alloc_ _ _; have HX5 := Lib.hid (show Bx W5 V.heap.size 41 (cc x) from hW5 ▸ Bx.new V _ _); have HU5 := Lib.hid ((HU3.out.keep HB.out).keep hb5); have HB5 := Lib.hid (HB.out.trans (hb5.mono HB.out.size)); have HW5 := Lib.hid hW5; clear hx hab hb5 hW5
   go_upto_region 10 with fail
   rw [HW5.out]; clear HW5 c0 c1 c2 c3 c4; have u0 := HU5.out.c 0; have u1 := HU5.out.c 1; have u2 := HU5.out.c 2; have u3 := HU5.out.c 3; have u4 := HU5.out.c 4; simp at u0 u1 u2 u3 u4; have v0 := HX5.out.c 0; have v1 := HX5.out.c 1; have v2 := HX5.out.c 2; have v3 := HX5.out.c 3; have v4 := HX5.out.c 4; simp at v0 v1 v2 v3 v4; cases b
   ·by_cases hv : x = v
    ·subst hv; go_wp2; go_roundw
     case rel => exact ⟨k + 1, true, W5, by omega, rfl, by go_num, rfl, HB5, Lib.hid fun _ _ _ => rfl⟩
     case measure => simp [intOf]; omega
    ·have HP5 := Lib.hid (show ∀ j, j < k + 1 → h.cs[j]? = some v → false = true from fun j hj hc => by
      by_cases hjk : j < k
      ·exact HP.out j hjk hc
      ·obtain rfl : j = k := by omega
       rw [HX.out] at hc; injection hc with hc; exact absurd hc hv)
     rcases co_diff hv with q0 | ⟨q0, q1⟩ | ⟨q0, q1, q2⟩ | ⟨q0, q1, q2, q3⟩ | ⟨q0, q1, q2, q3, q4⟩
     ·have e0 : (x.p == v.p) = false := beq_eq_false_iff_ne.2 q0; clear hv q0; go_wp2; go_roundw
      case rel => exact ⟨k + 1, false, W5, by omega, rfl, by go_num, rfl, HB5, HP5⟩
      case measure => simp [intOf]; omega
     ·have e0 : (x.p == v.p) = true := beq_iff_eq.2 q0; have e1 : (x.l == v.l) = false := beq_eq_false_iff_ne.2 q1; clear hv q0 q1; go_wp2; go_roundw
      case rel => exact ⟨k + 1, false, W5, by omega, rfl, by go_num, rfl, HB5, HP5⟩
      case measure => simp [intOf]; omega
     ·have e0 : (x.p == v.p) = true := beq_iff_eq.2 q0; have e1 : (x.l == v.l) = true := beq_iff_eq.2 q1; have e2 : (x.g == v.g) = false := beq_eq_false_iff_ne.2 q2; clear hv q0 q1 q2; go_wp2; go_roundw
      case rel => exact ⟨k + 1, false, W5, by omega, rfl, by go_num, rfl, HB5, HP5⟩
      case measure => simp [intOf]; omega
     ·have e0 : (x.p == v.p) = true := beq_iff_eq.2 q0; have e1 : (x.l == v.l) = true := beq_iff_eq.2 q1; have e2 : (x.g == v.g) = true := beq_iff_eq.2 q2; have e3 : (x.d == v.d) = false := beq_eq_false_iff_ne.2 q3; clear hv q0 q1 q2 q3; go_wp2; go_roundw
      case rel => exact ⟨k + 1, false, W5, by omega, rfl, by go_num, rfl, HB5, HP5⟩
      case measure => simp [intOf]; omega
     ·have e0 : (x.p == v.p) = true := beq_iff_eq.2 q0; have e1 : (x.l == v.l) = true := beq_iff_eq.2 q1; have e2 : (x.g == v.g) = true := beq_iff_eq.2 q2; have e3 : (x.d == v.d) = true := beq_iff_eq.2 q3; have e4 : (x.s == v.s) = false := beq_eq_false_iff_ne.2 q4; clear hv q0 q1 q2 q3 q4; go_wp2; go_roundw
      case rel => exact ⟨k + 1, false, W5, by omega, rfl, by go_num, rfl, HB5, HP5⟩
      case measure => simp [intOf]; omega
   ·go_wp2; go_roundw
    case rel => exact ⟨k + 1, true, W5, by omega, rfl, by go_num, rfl, HB5, Lib.hid fun _ _ _ => rfl⟩
    case measure => simp [intOf]; omega
  ·obtain rfl : k = h.n := by omega
   have HQ := Lib.hid (show v ∈ h.cs → b = true from fun hm => by
    obtain ⟨j, hj, e⟩ := List.getElem_of_mem hm; exact HP.out j (by have := HT0.out.1; omega) (by rw [List.getElem?_eq_getElem hj, e]))
   have x9 := (H3.out.o.x.keep HB.out).c 9; simp at x9; rw [hB] at x9
   go_upto_region 13 with fail
   clear x9 hlt; obtain ⟨V1, hV1⟩ : ∃ V1, V = V1 := ⟨_, rfl⟩; obtain ⟨b1, hb1⟩ : ∃ b1, b = b1 := ⟨_, rfl⟩; subst hV1 hb1; have HBV := HB; clear HP HB
   go_loopw [9, 54] (fun o i w' => ∃ (k : Nat) (q : Bool) (U : World), k ≤ h.m ∧ o = .bool q ∧ i = .int .i64 (k : Int) ∧ U = w' ∧ Hid (Below W3.heap.size W3 U) ∧ Hid (v ∈ h.cs → q = true) ∧ Hid (∀ i, i < k → ∀ r, h.rs[i]? = some r → v ∈ r.v.cs → r.v.bk ≤ c.bk → r.v.dy ≤ c.lo → q = true)) (fun _ i _ => h.m - (intOf i).toNat)
   case atStart => exact ⟨0, b, V, Nat.zero_le _, rfl, rfl, rfl, HBV, HQ, Lib.hid fun i hi => by omega⟩
   case round =>
    clear HBV HQ; obtain ⟨k, q, U, hk, rfl, rfl, rfl, HB, HQ, HP⟩ := hrel; by_cases hlt : k < h.m
    ·obtain ⟨ad, r, rfl, hab, hr, N⟩ := (HR0.out.below HB.out).get hlt; have hlt2 : (k : Int) < (h.m : Int) := by omega
     obtain ⟨c0, c1, c2, c3, c4, c5, c6, c7, c8⟩ := N; obtain ⟨D, hD⟩ : ∃ D, r.A = D := ⟨_, rfl⟩; have HR := Lib.hid hr; obtain ⟨W5, hW5⟩ : ∃ W5, U.alloc (.cells (Tm.vc r) 52) = W5 := ⟨_, rfl⟩; have hb5 : Below U.heap.size U W5 := hW5 ▸ alloc_ _ _; have HX5 := Lib.hid (show Bx W5 U.heap.size 52 (Tm.vc r) from hW5 ▸ Bx.new U _ _); have HB5 := Lib.hid (HB.out.trans (hb5.mono HB.out.size)); unfold Tm.vc at hW5; rw [hD] at hW5; have HW5 := Lib.hid hW5; have HRN := Lib.hid (HKN.out r (List.mem_of_getElem? hr)); have HCV := Lib.hid (show Cvs W3 (· < W3.heap.size) D r.n r.v.cs from hD ▸ HC0.out r (List.mem_of_getElem? hr)); obtain ⟨g5, hg5⟩ : ∃ g5, U.heap.size = g5 := ⟨_, rfl⟩; have HG5 := Lib.hid hg5; rw [hg5] at HX5; clear hr hab hb5 hW5
     go_upto_region 15 with fail
     rw [HW5.out]
     try rw [HG5.out]
     clear HW5 HG5 c0 c1 c2 c3 c4 c5 c6 c7 c8; have y7 := HX5.out.c 7; simp at y7; rw [hD] at y7
     go_upto_region 16 with fail
     clear y7; have hrn := HRN.out
     go_loopw [9, 61] (fun o i w' => ∃ (m : Nat) (p : Bool) (Y : World), m ≤ r.n ∧ o = .bool p ∧ i = .int .i64 (m : Int) ∧ Y = w' ∧ Hid (Below W5.heap.size W5 Y) ∧ Hid (q = true → p = true) ∧ Hid (∀ j, j < m → r.v.cs[j]? = some v → r.v.bk ≤ c.bk → r.v.dy ≤ c.lo → p = true)) (fun _ i _ => r.n - (intOf i).toNat)
     case atStart => exact ⟨0, q, W5, Nat.zero_le _, rfl, rfl, rfl, Lib.hid (Below.refl _ _), Lib.hid fun h => h, Lib.hid fun j hj => by omega⟩
     case round =>
      obtain ⟨m, p, Y, hm, rfl, rfl, rfl, HY, HO, HM2⟩ := hrel; by_cases hlm : m < r.n
      ·have HYB := Lib.hid (HB5.out.trans (HY.out.mono HB5.out.size)); obtain ⟨ae, x, rfl, hab, hx, N⟩ := (HCV.out.below HYB.out).get hlm; have hlm2 : (m : Int) < (r.n : Int) := by omega
       obtain ⟨c0, c1, c2, c3, c4⟩ := N; have HX := Lib.hid hx; obtain ⟨W7, hW7⟩ : ∃ W7, Y.alloc (.cells (cc x) 41) = W7 := ⟨_, rfl⟩; have hb7 : Below Y.heap.size Y W7 := hW7 ▸ alloc_ _ _; have HX7 := Lib.hid (show Bx W7 Y.heap.size 41 (cc x) from hW7 ▸ Bx.new Y _ _); have HU7 := Lib.hid ((HU3.out.keep HYB.out).keep hb7); have HZ7 := Lib.hid ((H3.out.z.keep HYB.out).keep hb7); have HR7 := Lib.hid ((HX5.out.keep HY.out).keep hb7); have HY7 := Lib.hid (HY.out.trans (hb7.mono HY.out.size)); have HW7 := Lib.hid hW7; clear hx hab hb7 hW7
       go_upto_region 18 with fail
       rw [HW7.out]; clear HW7 c0 c1 c2 c3 c4; have u0 := HU7.out.c 0; have u1 := HU7.out.c 1; have u2 := HU7.out.c 2; have u3 := HU7.out.c 3; have u4 := HU7.out.c 4; simp at u0 u1 u2 u3 u4; have v0 := HX7.out.c 0; have v1 := HX7.out.c 1; have v2 := HX7.out.c 2; have v3 := HX7.out.c 3; have v4 := HX7.out.c 4; simp at v0 v1 v2 v3 v4; have z3 := HZ7.out.c 3; have z4 := HZ7.out.c 4; have r0 := HR7.out.c 0; have r1 := HR7.out.c 1; simp at z3 z4 r0 r1; cases p
       ·by_cases hv : x = v
        ·subst hv; by_cases p1 : r.v.bk ≤ c.bk
         ·have t1 : decide (r.v.bk ≤ c.bk) = true := decide_eq_true p1; by_cases p2 : r.v.dy ≤ c.lo
          ·have t2 : decide (r.v.dy ≤ c.lo) = true := decide_eq_true p2; clear p1 p2; go_wp2; go_roundw
           case rel => exact ⟨m + 1, true, W7, by omega, rfl, by go_num, rfl, HY7, Lib.hid fun _ => rfl, Lib.hid fun _ _ _ _ _ => rfl⟩
           case measure => simp [intOf]; omega
          ·have t2 : decide (r.v.dy ≤ c.lo) = false := decide_eq_false p2; have HM7 := Lib.hid (show ∀ j, j < m + 1 → r.v.cs[j]? = some x → r.v.bk ≤ c.bk → r.v.dy ≤ c.lo → false = true from fun j hj hc h1 h2 => absurd h2 p2); clear p1 p2; go_wp2; go_roundw
           case rel => exact ⟨m + 1, false, W7, by omega, rfl, by go_num, rfl, HY7, HO, HM7⟩
           case measure => simp [intOf]; omega
         ·have t1 : decide (r.v.bk ≤ c.bk) = false := decide_eq_false p1; have HM7 := Lib.hid (show ∀ j, j < m + 1 → r.v.cs[j]? = some x → r.v.bk ≤ c.bk → r.v.dy ≤ c.lo → false = true from fun j hj hc h1 h2 => absurd h1 p1); clear p1; go_wp2; go_roundw
          case rel => exact ⟨m + 1, false, W7, by omega, rfl, by go_num, rfl, HY7, HO, HM7⟩
          case measure => simp [intOf]; omega
        ·have HM7 := Lib.hid (show ∀ j, j < m + 1 → r.v.cs[j]? = some v → r.v.bk ≤ c.bk → r.v.dy ≤ c.lo → false = true from fun j hj hc h1 h2 => by
          by_cases hjk : j < m
          ·exact HM2.out j hjk hc h1 h2
          ·obtain rfl : j = m := by omega
           rw [HX.out] at hc; injection hc with hc; exact absurd hc hv)
         rcases co_diff hv with q0 | ⟨q0, q1⟩ | ⟨q0, q1, q2⟩ | ⟨q0, q1, q2, q3⟩ | ⟨q0, q1, q2, q3, q4⟩
         ·have e0 : (x.p == v.p) = false := beq_eq_false_iff_ne.2 q0; clear hv q0; go_wp2; go_roundw
          case rel => exact ⟨m + 1, false, W7, by omega, rfl, by go_num, rfl, HY7, HO, HM7⟩
          case measure => simp [intOf]; omega
         ·have e0 : (x.p == v.p) = true := beq_iff_eq.2 q0; have e1 : (x.l == v.l) = false := beq_eq_false_iff_ne.2 q1; clear hv q0 q1; go_wp2; go_roundw
          case rel => exact ⟨m + 1, false, W7, by omega, rfl, by go_num, rfl, HY7, HO, HM7⟩
          case measure => simp [intOf]; omega
         ·have e0 : (x.p == v.p) = true := beq_iff_eq.2 q0; have e1 : (x.l == v.l) = true := beq_iff_eq.2 q1; have e2 : (x.g == v.g) = false := beq_eq_false_iff_ne.2 q2; clear hv q0 q1 q2; go_wp2; go_roundw
          case rel => exact ⟨m + 1, false, W7, by omega, rfl, by go_num, rfl, HY7, HO, HM7⟩
          case measure => simp [intOf]; omega
         ·have e0 : (x.p == v.p) = true := beq_iff_eq.2 q0; have e1 : (x.l == v.l) = true := beq_iff_eq.2 q1; have e2 : (x.g == v.g) = true := beq_iff_eq.2 q2; have e3 : (x.d == v.d) = false := beq_eq_false_iff_ne.2 q3; clear hv q0 q1 q2 q3; go_wp2; go_roundw
          case rel => exact ⟨m + 1, false, W7, by omega, rfl, by go_num, rfl, HY7, HO, HM7⟩
          case measure => simp [intOf]; omega
         ·have e0 : (x.p == v.p) = true := beq_iff_eq.2 q0; have e1 : (x.l == v.l) = true := beq_iff_eq.2 q1; have e2 : (x.g == v.g) = true := beq_iff_eq.2 q2; have e3 : (x.d == v.d) = true := beq_iff_eq.2 q3; have e4 : (x.s == v.s) = false := beq_eq_false_iff_ne.2 q4; clear hv q0 q1 q2 q3 q4; go_wp2; go_roundw
          case rel => exact ⟨m + 1, false, W7, by omega, rfl, by go_num, rfl, HY7, HO, HM7⟩
          case measure => simp [intOf]; omega
       ·go_wp2; go_roundw
        case rel => exact ⟨m + 1, true, W7, by omega, rfl, by go_num, rfl, HY7, Lib.hid fun _ => rfl, Lib.hid fun _ _ _ _ _ => rfl⟩
        case measure => simp [intOf]; omega
      ·obtain rfl : m = r.n := by omega
       have HYB := Lib.hid (HB5.out.trans (HY.out.mono HB5.out.size)); have HQ9 := Lib.hid (show v ∈ h.cs → p = true from fun hm => HO.out (HQ.out hm))
       have HP9 := Lib.hid (show ∀ i, i < k + 1 → ∀ r, h.rs[i]? = some r → v ∈ r.v.cs → r.v.bk ≤ c.bk → r.v.dy ≤ c.lo → p = true from fun i hi r' hr' h1 h2 h3 => by
        by_cases hik : i < k
        ·exact HO.out (HP.out i hik r' hr' h1 h2 h3)
        ·obtain rfl : i = k := by omega
         rw [HR.out] at hr'; injection hr' with hr'
         subst hr'; obtain ⟨j, hj, e⟩ := List.getElem_of_mem h1; exact HM2.out j (by have := HCV.out.1; omega) (by rw [List.getElem?_eq_getElem hj, e]) h2 h3)
       go_wp2; go_roundw
       case rel => exact ⟨k + 1, p, Y, by omega, rfl, by go_num, rfl, HYB, HQ9, HP9⟩
       case measure => simp [intOf]; omega
    ·obtain rfl : k = h.m := by omega
     obtain rfl : q = true := by
      rcases OW.out.2 with h1 | ⟨d, hd, h1, h2, h3⟩
      ·exact HQ.out h1
      ·obtain ⟨r, hr, rfl⟩ := List.mem_map.1 hd; obtain ⟨j, hj, e⟩ := List.getElem_of_mem hr; exact HP.out j (by have := HR0.out.1; omega) r (by rw [List.getElem?_eq_getElem hj, e]) h1 h2 h3
     go_wp2_with fail
     refine (alive17 Q _).mono ?_; rintro e w99 ⟨rfl, hb99⟩; have hb9 := HB.out.trans (hb99.mono HB.out.size); have H99 := Lib.hid (H3.out.next hb9); have HU99 := Lib.hid (HU3.out.keep hb9); have z2 := H99.out.z.c 2; have u0 := HU99.out.c 0; simp at z2 u0; rw [OW.out.1] at u0; clear hb99 hb9; go_wp2; go_ret; exact ⟨rfl, H99.out.o.b⟩
end Ntc
end Go.Proofs.YtplenoaajokpjaaGreat
