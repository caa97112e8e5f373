/-
  The statement KnownDays holds: for every input the call returns true, and each argument reads afterwards as it read before. Conditions: none beside those that the row itself bears.
-/
import Derived.Test.YtbjnjeidgdmdiaaGreatKLaws13
import Derived.Test.YtbjnjeidgdmdiaaGreatKKRa
namespace Go.Proofs.YtbjnjeidgdmdiaaGreat
open Go.RowKit Ba Cv Sp Te Ag Tf Sl Tm
namespace Slc
set_option linter.unusedVariables false
theorem mv_days {h : Hi} {vs : List Ve} {a b : Int} {zs : List Sp} {s1 s2 : List Sc} (H : MvIs h vs a b 0 zs) (A : SlIs h vs a 0 s1) (B : SlIs h vs b 0 s2) (d : Int) : (zs.any fun x => inn x d) = !decide (lk s1 d = lk s2 d) := by
 obtain ⟨t1, t2, h1, h2, h3, h4⟩ := H.ok; obtain ⟨_, rfl⟩ := A.one h1; obtain ⟨_, rfl⟩ := B.one h2; rw [← decide_not, Bool.eq_iff_iff, List.any_eq_true, decide_eq_true_iff, ← ne_eq, ← h4 d]; exact ⟨fun ⟨x, hx, e⟩ => ⟨x, hx, e⟩, fun ⟨x, hx, e⟩ => ⟨x, hx, e⟩⟩
theorem any_next {zs : List Sp} {k : Nat} {x : Sp} {d : Int} (h : zs[k]? = some x) : ((zs.take (k + 1)).any fun x => inn x d) = ((zs.take k).any (fun x => inn x d) || inn x d) := by
 obtain ⟨hl, e⟩ := List.getElem?_eq_some_iff.1 h; rw [List.take_succ_eq_append_getElem hl, e, List.any_append]; simp
set_option maxRecDepth 100000 in
set_option maxHeartbeats 4000000 in
theorem walk_KnownDays {w : World} (h : Hr) (G : GivenH w h) (T : Option Addr) (nt ct : Nat) (vs : List Trf.Rw) (GT : Trf.GivenT w T nt ct vs) (z0 z1 z2 : Int) (hz : (-9223372036854775808 ≤ z0 ∧ z0 ≤ 9223372036854775807) ∧ (-9223372036854775808 ≤ z1 ∧ z1 ≤ 9223372036854775807) ∧ (-9223372036854775808 ≤ z2 ∧ z2 ≤ 9223372036854775807)) : Calls Tryz.prog 6 #[hg h, Trf.tg T nt ct, .agg #[.int .i64 z0, .int .i64 z1, .int .i64 z2]] w (Yes w true) := by
 clear hz; obtain ⟨W, hW⟩ : ∃ W, ((w.alloc (.cells (hc h) 31)).alloc (.cells #[.slice T nt ct] 34)).alloc (.cells #[.int .i64 z0, .int .i64 z1, .int .i64 z2] 56) = W := ⟨_, rfl⟩; have H0 := Lib.hid (show O3 w W h T nt ct 56 #[.int .i64 z0, .int .i64 z1, .int .i64 z2] by rw [← hW]; exact O3.start w h T nt ct _ _); have HW := Lib.hid hW; have HG := Lib.hid G; have HGT := Lib.hid GT; clear hW G GT; go_enter Tryz.func6, Tryz.ntmps6
 go_upto_region 1 with fail
 rw [HW.out]; clear HW; have x0 := H0.out.o.x.c 0; have x1 := H0.out.o.x.c 1; have x2 := H0.out.o.x.c 2; have x3 := H0.out.o.x.c 3; have x4 := H0.out.o.x.c 4; have x5 := H0.out.o.x.c 5; have x6 := H0.out.o.x.c 6; have x7 := H0.out.o.x.c 7; have x8 := H0.out.o.x.c 8; have x9 := H0.out.o.x.c 9; have y0 := H0.out.o.y.c 0; have c0 := H0.out.z.c 0; have c1 := H0.out.z.c 1; have c2 := H0.out.z.c 2; simp at x0 x1 x2 x3 x4 x5 x6 x7 x8 x9 y0 c0 c1 c2; have C := Lib.hid (few12 h T nt ct vs W (gh_below HG.out H0.out.o.b) (gt_below HGT.out H0.out.o.b))
 go_wp2_with fail
 refine C.out.mono ?_; rintro e w1 ⟨b, rfl, hb1, hs⟩; have H1 := Lib.hid (H0.out.next hb1); have HS0 := Lib.hid hs; clear hb1 hs C x0 x1 x2 x3 x4 x5 x6 x7 x8 x9 y0 c0 c1 c2 H0; cases b
 ·go_wp2_with fail
  refine (alive13 _).mono ?_; rintro e w9 ⟨rfl, hb9⟩; have H9 := Lib.hid (H1.out.next hb9); clear hb9; go_wp2; go_ret; exact ⟨rfl, H9.out.o.b⟩
 have HS := Lib.hid (HS0.out rfl); clear HS0; have x0 := H1.out.o.x.c 0; have x1 := H1.out.o.x.c 1; have x2 := H1.out.o.x.c 2; have x3 := H1.out.o.x.c 3; have x4 := H1.out.o.x.c 4; have x5 := H1.out.o.x.c 5; have x6 := H1.out.o.x.c 6; have x7 := H1.out.o.x.c 7; have x8 := H1.out.o.x.c 8; have x9 := H1.out.o.x.c 9; have y0 := H1.out.o.y.c 0; have c0 := H1.out.z.c 0; have c1 := H1.out.z.c 1; have c2 := H1.out.z.c 2; simp at x0 x1 x2 x3 x4 x5 x6 x7 x8 x9 y0 c0 c1 c2; have C := Lib.hid (kmoved h T nt ct vs z0 z1 w1 (HG.out.M.below H1.out.o.b) (HS.out.hs HG.out) (Nat.le_trans HS.out.m (by omega)) (HS.out.vers (gt_below HGT.out H1.out.o.b)) (Nat.le_trans HS.out.t (by omega)))
 go_wp2_with fail
 refine C.out.mono ?_; rintro e w3 ⟨A3, n3, c3, zs3, cd3, rfl, hs, hn, hc, hi, hb3⟩; have H3 := Lib.hid (H1.out.next hb3); have S3 := Lib.hid hs; have I3 := Lib.hid hi; have F3 := Lib.hid (And.intro hn hc); clear hs hi hn hc C x0 x1 x2 x3 x4 x5 x6 x7 x8 x9 y0 c0 c1 c2 H1; clear hb3; have x0 := H3.out.o.x.c 0; have x1 := H3.out.o.x.c 1; have x2 := H3.out.o.x.c 2; have x3 := H3.out.o.x.c 3; have x4 := H3.out.o.x.c 4; have x5 := H3.out.o.x.c 5; have x6 := H3.out.o.x.c 6; have x7 := H3.out.o.x.c 7; have x8 := H3.out.o.x.c 8; have x9 := H3.out.o.x.c 9; have y0 := H3.out.o.y.c 0; have c0 := H3.out.z.c 0; have c1 := H3.out.z.c 1; have c2 := H3.out.z.c 2; simp at x0 x1 x2 x3 x4 x5 x6 x7 x8 x9 y0 c0 c1 c2; have C := Lib.hid (kslices h T nt ct vs z0 w3 (HG.out.M.below H3.out.o.b) (HS.out.hs HG.out) (Nat.le_trans HS.out.m (by omega)) (HS.out.vers (gt_below HGT.out H3.out.o.b)) (Nat.le_trans HS.out.t (by omega)))
 go_wp2_with fail
 refine C.out.mono ?_; rintro e w4 ⟨A4, n4, c4, rs4, cd4, rfl, hs, hn, hc, hi, hb4⟩; have H4 := Lib.hid (H3.out.next hb4); have S4 := Lib.hid hs; have I4 := Lib.hid hi; have F4 := Lib.hid (And.intro hn hc); clear hs hi hn hc C x0 x1 x2 x3 x4 x5 x6 x7 x8 x9 y0 c0 c1 c2 H3; have S3' := Lib.hid (S3.out.below hb4 (Nat.le_refl _) |>.wide hb4.size); clear S3; have S3 := S3'; clear S3'; clear hb4; have x0 := H4.out.o.x.c 0; have x1 := H4.out.o.x.c 1; have x2 := H4.out.o.x.c 2; have x3 := H4.out.o.x.c 3; have x4 := H4.out.o.x.c 4; have x5 := H4.out.o.x.c 5; have x6 := H4.out.o.x.c 6; have x7 := H4.out.o.x.c 7; have x8 := H4.out.o.x.c 8; have x9 := H4.out.o.x.c 9; have y0 := H4.out.o.y.c 0; have c0 := H4.out.z.c 0; have c1 := H4.out.z.c 1; have c2 := H4.out.z.c 2; simp at x0 x1 x2 x3 x4 x5 x6 x7 x8 x9 y0 c0 c1 c2; have C := Lib.hid (kslices h T nt ct vs z1 w4 (HG.out.M.below H4.out.o.b) (HS.out.hs HG.out) (Nat.le_trans HS.out.m (by omega)) (HS.out.vers (gt_below HGT.out H4.out.o.b)) (Nat.le_trans HS.out.t (by omega)))
 go_wp2_with fail
 refine C.out.mono ?_; rintro e w5 ⟨A5, n5, c5, rs5, cd5, rfl, hs, hn, hc, hi, hb5⟩; have H5 := Lib.hid (H4.out.next hb5); have S5 := Lib.hid hs; have I5 := Lib.hid hi; have F5 := Lib.hid (And.intro hn hc); clear hs hi hn hc C x0 x1 x2 x3 x4 x5 x6 x7 x8 x9 y0 c0 c1 c2 H4; have S3' := Lib.hid (S3.out.below hb5 (Nat.le_refl _) |>.wide hb5.size); clear S3; have S3 := S3'; clear S3'; have S4' := Lib.hid (S4.out.below hb5); clear S4; have S4 := S4'; clear S4'; clear hb5; have HCD := Lib.hid (I3.out.codes I4.out I5.out); by_cases h0 : cd3 = 0
 ·subst h0
  obtain rfl : cd4 = 0 := by
   have := HCD.out; by_cases h : cd4 = 0
   ·exact h
   ·rw [if_pos h] at this; exact this.symm
  obtain rfl : cd5 = 0 := by
   have := HCD.out; rw [if_neg (by simp)] at this; exact this.symm
  have HMV := Lib.hid (mv_days I3.out I4.out I5.out z2); have HN := Lib.hid (show n3 ≤ 2200 from F3.out.1); clear HCD I3; go_wp2
  go_loopw [69, 13] (fun i q w' => ∃ (k : Nat) (g : Bool) (V : World), k ≤ n3 ∧ i = .int .i64 (k : Int) ∧ q = .bool g ∧ V = w' ∧ Hid (O3 w V h T nt ct 56 #[.int .i64 z0, .int .i64 z1, .int .i64 z2]) ∧ Hid (Spn.Spans V V.heap.size A3 n3 zs3) ∧ Hid (Sls V A4 n4 rs4) ∧ Hid (Sls V A5 n5 rs5) ∧ Hid (((zs3.take k).any fun x => inn x z2) = g)) (fun i _ _ => n3 - (intOf i).toNat)
  case atStart => exact ⟨0, false, w5, Nat.zero_le _, rfl, rfl, rfl, H5, S3, S4, S5, Lib.hid rfl⟩
  case round =>
   clear H5 S3 S4 S5; obtain ⟨k, g, V, hk, rfl, rfl, rfl, H5, S3, S4, S5, HQ⟩ := hrel; by_cases hlt : k < n3
   ·obtain ⟨ad, u, v, rfl, hb, hx, hc, hc'⟩ := S3.out.get hlt; have hlt2 : (k : Int) < (n3 : Int) := by omega
    have hmb : n3 ≤ 2200 := HN.out; have HX := Lib.hid (any_next (d := z2) hx); obtain ⟨W2, hW2⟩ : ∃ W2, V.alloc (.cells #[.int .i64 u, .int .i64 v] 23) = W2 := ⟨_, rfl⟩; have hb2 : Below V.heap.size V W2 := hW2 ▸ alloc_ _ _; have HY := Lib.hid (show Spn.Bx W2 V.heap.size u v from hW2 ▸ Spn.Bx.new V u v); have H6 := Lib.hid (H5.out.next hb2); have T3 := Lib.hid (S3.out.below hb2 (Nat.le_refl _) |>.wide hb2.size); have T4 := Lib.hid (S4.out.below hb2); have T5 := Lib.hid (S5.out.below hb2); have HW2 := Lib.hid hW2; have HQ2 := HQ.out; clear hx hb hW2 hb2 H5 S3 S4 S5 HQ
    go_upto_region 12 with fail
    rw [HW2.out]; clear HW2 hc hc'; cases g
    ·have q0 := HY.out.c0; have q1 := HY.out.c1; have c2 := H6.out.z.c 2; simp at c2; have CI := Lib.hid (Spn.inn_ (u, v) z2 W2); obtain ⟨y, hy⟩ : ∃ y, inn (u, v) z2 = y := ⟨_, rfl⟩; rw [hy] at CI; have HY2 := Lib.hid (show ((zs3.take (k + 1)).any fun x => inn x z2) = y by rw [HX.out, HQ2, hy]; rfl); clear hy HX HQ2
     go_wp2_with fail
     refine CI.out.mono ?_; rintro e w7 ⟨rfl, hb7⟩; have H7 := Lib.hid (H6.out.next hb7); have U3 := Lib.hid (T3.out.below hb7 (Nat.le_refl _) |>.wide hb7.size); have U4 := Lib.hid (T4.out.below hb7); have U5 := Lib.hid (T5.out.below hb7); clear hb7 CI q0 q1 c2 H6 T3 T4 T5; go_wp2; go_roundw
     case rel => exact ⟨k + 1, y, w7, by omega, by go_num, rfl, rfl, H7, U3, U4, U5, HY2⟩
     case measure => simp [intOf]; omega
    ·have HY2 := Lib.hid (show ((zs3.take (k + 1)).any fun x => inn x z2) = true by rw [HX.out, HQ2]; rfl); clear HX HQ2; go_wp2; go_roundw
     case rel => exact ⟨k + 1, true, W2, by omega, by go_num, rfl, rfl, H6, T3, T4, T5, HY2⟩
     case measure => simp [intOf]; omega
   ·obtain rfl : k = n3 := by omega
    have HE := Lib.hid (show g = !decide (lk (rs4.map Rw.v) z2 = lk (rs5.map Rw.v) z2) by
     rw [← HMV.out, ← HQ.out, List.take_of_length_le (Nat.le_of_eq S3.out.1)])
    obtain ⟨t, ht⟩ : ∃ t, decide (lk (rs4.map Rw.v) z2 = lk (rs5.map Rw.v) z2) = t := ⟨_, rfl⟩; rw [ht] at HE; have HT := Lib.hid ht; clear HQ HMV hlt ht
    go_wp2_with fail
    refine (alive13 _).mono ?_; rintro e w8 ⟨rfl, hb8⟩; have H8 := Lib.hid (H5.out.next hb8); have T4 := Lib.hid (S4.out.below hb8); have T5 := Lib.hid (S5.out.below hb8); have CA := Lib.hid (ralike A4 A5 n4 n5 c4 c5 rs4 rs5 z2 w8 T4.out T5.out (by have := F4.out.1; omega) (by have := F5.out.1; omega)); rw [HT.out] at CA; have c2 := H8.out.z.c 2; simp at c2; clear hb8 H5 S3 S4 S5 HT
    go_wp2_with fail
    refine CA.out.mono ?_; rintro e w9 ⟨rfl, hb9⟩; have H9 := Lib.hid (H8.out.next hb9); have hgt := HE.out; subst hgt; clear hb9 CA c2 H8 HE; cases t
    ·go_wp2; go_ret; exact ⟨rfl, H9.out.o.b⟩
    ·go_wp2; go_ret; exact ⟨rfl, H9.out.o.b⟩
 ·have t0 : decide (cd3 = 0) = false := decide_eq_false h0; have t1 : (cd3 == 0) = false := beq_eq_false_iff_ne.2 h0; have t2 : (cd3 != 0) = true := bne_iff_ne.2 h0; obtain rfl := I3.out.nil h0; obtain rfl : n3 = 0 := S3.out.1.symm; clear h0
  go_wp2_with fail
  refine (alive13 _).mono ?_; rintro e w9 ⟨rfl, hb9⟩; have H9 := Lib.hid (H5.out.next hb9); clear hb9; go_wp2; go_ret; exact ⟨rfl, H9.out.o.b⟩
end Slc
end Go.Proofs.YtbjnjeidgdmdiaaGreat
namespace Go.Proofs.YtbjnjeidgdmdiaaGreat.knownDays
open Go.ChangeShapes Go.WideShapes Go.ChangeAt Go.RowKit Ba Cv Sp Te Ag Tf Sl Slc
set_option linter.unusedVariables false
set_option maxRecDepth 100000 in
theorem lifted (os : Os) (started : os.Started) (H : Type) (enc : TypeId × Value → H) :
  ReturnsInHanded {} Tryz.checked os 6 .any (Rows.knownDaysSpec.pre6 enc Tryz.prog Tryz.f6 Rows.knownDaysRow.domain false) (Rows.knownDaysSpec.post enc Tryz.prog Tryz.f6 false true false false) := by
 refine returnsInHanded_of_change_sized (C := Tryz.checked) Slc.own started (by kernel_rfl) Tryz.func6
  (ChangeSpec.witness6 (enc := enc) (C := Tryz.checked) false ⟨#[], #[.agg #[.int .i64 0, .int .i64 0, .int .i64 0, .int .i64 0, .int .i64 0, .int .i64 0, .int .i64 0, .int .i64 0, .slice none 0 0, .slice none 0 0], .agg #[.slice none 0 0], .agg #[.int .i64 0, .int .i64 0, .int .i64 0]], []⟩ 8 (by kernel_rfl) (by kernel_rfl) (by kernel_rfl) (by kernel_rfl)) ?_
 intro W base args ds gs before hval0 hW hcnd hsz0 _; have hval : ∀ (j : Nat) t v, Tryz.f6.params[j]? = some t → args[j]? = some v → Value.okWide Tryz.prog W .any base t v := hval0; have hW' := hW; have hsz : (DataW.weightsEach Tryz.prog (Tryz.f6.params.toList ++ Rows.knownDaysSpec.plain.varTypes Tryz.prog) (ds ++ gs)).all (· ≤ reachBytes) = true := hsz0; obtain ⟨p, q, hA0, hV, rfl, hfz, hnd⟩ := hW; have hA : DataW.TrodAll enc Tryz.prog W 0 (fun _ => true) true Tryz.f6.params.toList args.toList ds p := hA0; rw [Tryz.params6] at hA hval hsz; obtain ⟨v0, vs0, d0, ds0, p0, q0, hargs, rfl, rfl, h0, r0⟩ := trodAll_cons hA; obtain ⟨v1, vs1, d1, ds1, p1, q1, rfl, rfl, rfl, h1, r1⟩ := trodAll_cons r0; obtain ⟨v2, vs2, d2, ds2, p2, q2, rfl, rfl, rfl, h2, r2⟩ := trodAll_cons r1; obtain ⟨rfl, rfl, rfl⟩ := trodAll_nil r2; obtain rfl : args = #[v0, v1, v2] := by cases args; simp_all
 obtain ⟨rfl, rfl⟩ := trodVars_none hV; have k0 := h0; have lt0 : ∀ x ∈ p0, x.block < W.heap.size := by obtain ⟨m, hm⟩ := k0; exact DataW.trod_lt m _ _ _ hm
 obtain ⟨y0, rfl, g0⟩ := Slc.open_history (hval 0 31 v0 rfl rfl) h0 (fun k hk => of_decide_eq_true (List.all_eq_true.1 hsz _ (DataW.weights_mem_each (j := 0) rfl rfl k hk))); have k1 := h1; have lt1 : ∀ x ∈ p1, x.block < W.heap.size := by obtain ⟨m, hm⟩ := k1; exact DataW.trod_lt m _ _ _ hm
 obtain ⟨A1, n1, c1, s1, rfl, g1⟩ := Slc.open_tariff (hval 1 34 v1 rfl rfl) h1 (fun k hk => of_decide_eq_true (List.all_eq_true.1 hsz _ (DataW.weights_mem_each (j := 1) rfl rfl k hk))); have k2 := h2; have lt2 : ∀ x ∈ p2, x.block < W.heap.size := by obtain ⟨m, hm⟩ := k2; exact DataW.trod_lt m _ _ _ hm
 obtain ⟨y2, t2, q2, rfl, b2⟩ := Slc.open_arr3 (hval 2 56 v2 rfl rfl) h2 (fun k hk => of_decide_eq_true (List.all_eq_true.1 hsz _ (DataW.weights_mem_each (j := 2) rfl rfl k hk))); clear hA0 hval0 hsz hsz0; refine (Slc.walk_KnownDays y0 g0 A1 n1 c1 s1 g1 y2 t2 q2 b2).mono fun e W' ⟨he, bel⟩ => ?_
 subst he; exact ⟨_, rfl, _, _, _, [], _, [], hW', trodAll_mk1 (shut_bool Tryz.underlying4 _), (trodAll_cons_mk (Below.trod Slc.laidOut (by kernel_rfl) (of_decide_eq_true (by kernel_rfl)) k0 bel lt0) (trodAll_cons_mk (Below.trod Slc.laidOut (by kernel_rfl) (of_decide_eq_true (by kernel_rfl)) k1 bel lt1) (trodAll_cons_mk (Below.trod Slc.laidOut (by kernel_rfl) (of_decide_eq_true (by kernel_rfl)) k2 bel lt2) trodAll_mk0))), rfl, bel.frame _, fun h => by cases h⟩
theorem over : Rows.knownDaysRow.holds Tryz.pinned (OpenSpec.ofChange Rows.knownDaysSpec) :=
 OpenClaim.holds_of_wide 6 Tryz.f6 rfl rfl rfl rfl rfl rfl rfl ⟨rfl, rfl, rfl, rfl, rfl⟩ rfl rfl rfl rfl rfl (by kernel_rfl) Tryz.func6 (by kernel_rfl)
  (of_decide_eq_true (by kernel_rfl)) (by unfold Func.isWrapper; first | (rw [if_pos (by decide +kernel)]; kernel_rfl) | (rw [if_neg (by decide +kernel)]; exact ⟨rfl, rfl⟩))
  (fun os started H enc _ => lifted os started H enc)
theorem proved : Rows.KnownDaysSaid := over
end Go.Proofs.YtbjnjeidgdmdiaaGreat.knownDays
