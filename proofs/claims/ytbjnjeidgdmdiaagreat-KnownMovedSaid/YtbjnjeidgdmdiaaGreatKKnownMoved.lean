/-
  The statement KnownMoved holds: for every input the call returns true, and each argument reads afterwards as it read before. Conditions: none beside those that the row itself bears.
-/
import Derived.Test.YtbjnjeidgdmdiaaGreatKLaws13
import Derived.Test.YtbjnjeidgdmdiaaGreatKKRm
namespace Go.Proofs.YtbjnjeidgdmdiaaGreat
open Go.RowKit Ba Cv Sp Te Ag Tf Sl Tm
namespace Slc
set_option linter.unusedVariables false
set_option maxRecDepth 100000 in
set_option maxHeartbeats 4000000 in
theorem walk_KnownMoved {w : World} (h : Hr) (G : GivenH w h) (T : Option Addr) (nt ct : Nat) (vs : List Trf.Rw) (GT : Trf.GivenT w T nt ct vs) (z0 z1 : Int) (hz : (-9223372036854775808 ≤ z0 ∧ z0 ≤ 9223372036854775807) ∧ (-9223372036854775808 ≤ z1 ∧ z1 ≤ 9223372036854775807)) : Calls Tryz.prog 4 #[hg h, Trf.tg T nt ct, .agg #[.int .i64 z0, .int .i64 z1]] w (Yes w true) := by
 clear hz; obtain ⟨W, hW⟩ : ∃ W, ((w.alloc (.cells (hc h) 31)).alloc (.cells #[.slice T nt ct] 34)).alloc (.cells #[.int .i64 z0, .int .i64 z1] 43) = W := ⟨_, rfl⟩; have H0 := Lib.hid (show O3 w W h T nt ct 43 #[.int .i64 z0, .int .i64 z1] by rw [← hW]; exact O3.start w h T nt ct _ _); have HW := Lib.hid hW; have HG := Lib.hid G; have HGT := Lib.hid GT; clear hW G GT; go_enter Tryz.func4, Tryz.ntmps4
 go_upto_region 1 with fail
 rw [HW.out]; clear HW; have x0 := H0.out.o.x.c 0; have x1 := H0.out.o.x.c 1; have x2 := H0.out.o.x.c 2; have x3 := H0.out.o.x.c 3; have x4 := H0.out.o.x.c 4; have x5 := H0.out.o.x.c 5; have x6 := H0.out.o.x.c 6; have x7 := H0.out.o.x.c 7; have x8 := H0.out.o.x.c 8; have x9 := H0.out.o.x.c 9; have y0 := H0.out.o.y.c 0; have c0 := H0.out.z.c 0; have c1 := H0.out.z.c 1; simp at x0 x1 x2 x3 x4 x5 x6 x7 x8 x9 y0 c0 c1; have C := Lib.hid (few12 h T nt ct vs W (gh_below HG.out H0.out.o.b) (gt_below HGT.out H0.out.o.b))
 go_wp2_with fail
 refine C.out.mono ?_; rintro e w1 ⟨b, rfl, hb1, hs⟩; have H1 := Lib.hid (H0.out.next hb1); have HS0 := Lib.hid hs; clear hb1 hs C x0 x1 x2 x3 x4 x5 x6 x7 x8 x9 y0 c0 c1 H0; cases b
 ·go_wp2_with fail
  refine (alive13 _).mono ?_; rintro e w9 ⟨rfl, hb9⟩; have H9 := Lib.hid (H1.out.next hb9); clear hb9; go_wp2; go_ret; exact ⟨rfl, H9.out.o.b⟩
 have HS := Lib.hid (HS0.out rfl); clear HS0; have x0 := H1.out.o.x.c 0; have x1 := H1.out.o.x.c 1; have x2 := H1.out.o.x.c 2; have x3 := H1.out.o.x.c 3; have x4 := H1.out.o.x.c 4; have x5 := H1.out.o.x.c 5; have x6 := H1.out.o.x.c 6; have x7 := H1.out.o.x.c 7; have x8 := H1.out.o.x.c 8; have x9 := H1.out.o.x.c 9; have y0 := H1.out.o.y.c 0; have c0 := H1.out.z.c 0; have c1 := H1.out.z.c 1; simp at x0 x1 x2 x3 x4 x5 x6 x7 x8 x9 y0 c0 c1; have C := Lib.hid (kmoved h T nt ct vs z0 z1 w1 (HG.out.M.below H1.out.o.b) (HS.out.hs HG.out) (Nat.le_trans HS.out.m (by omega)) (HS.out.vers (gt_below HGT.out H1.out.o.b)) (Nat.le_trans HS.out.t (by omega)))
 go_wp2_with fail
 refine C.out.mono ?_; rintro e w2 ⟨A2, n2, c2, zs2, cd2, rfl, hs, hn, hc, hi, hb2⟩; have H2 := Lib.hid (H1.out.next hb2); have S2 := Lib.hid hs; have I2 := Lib.hid hi; have F2 := Lib.hid (And.intro hn hc); clear hs hi hn hc C x0 x1 x2 x3 x4 x5 x6 x7 x8 x9 y0 c0 c1 H1; clear hb2; have x0 := H2.out.o.x.c 0; have x1 := H2.out.o.x.c 1; have x2 := H2.out.o.x.c 2; have x3 := H2.out.o.x.c 3; have x4 := H2.out.o.x.c 4; have x5 := H2.out.o.x.c 5; have x6 := H2.out.o.x.c 6; have x7 := H2.out.o.x.c 7; have x8 := H2.out.o.x.c 8; have x9 := H2.out.o.x.c 9; have y0 := H2.out.o.y.c 0; have c0 := H2.out.z.c 0; have c1 := H2.out.z.c 1; simp at x0 x1 x2 x3 x4 x5 x6 x7 x8 x9 y0 c0 c1; have C := Lib.hid (rmoved h T nt ct vs z0 z1 w2 (HG.out.M.below H2.out.o.b) (HS.out.hs HG.out) (Nat.le_trans HS.out.m (by omega)) HS.out.cov (HS.out.vers (gt_below HGT.out H2.out.o.b)) (Nat.le_trans HS.out.t (by omega)))
 go_wp2_with fail
 refine C.out.mono ?_; rintro e w3 ⟨A3, n3, c3, zs3, cd3, rfl, hs, hi, hb3⟩; have H3 := Lib.hid (H2.out.next hb3); have S3 := Lib.hid hs; obtain ⟨rfl, rfl⟩ := I2.out.one hi; clear hs hi C x0 x1 x2 x3 x4 x5 x6 x7 x8 x9 y0 c0 c1 H2; have S2' := Lib.hid (S2.out.below hb3 (Nat.le_refl _) |>.wide hb3.size); clear S2; have S2 := S2'; clear S2'; clear hb3
 obtain rfl : n2 = n3 := by
  have h1 := S2.out.1; have h2 := S3.out.1; omega
 go_wp2_with fail
 refine (alive13 w3).mono ?_; rintro e w4 ⟨rfl, hb4⟩; have H4 := Lib.hid (H3.out.next hb4); have CA := Lib.hid (Spn.same A2 A3 n2 c2 c3 _ _ zs2 w4 (S2.out.below hb4 (Nat.le_refl _)) (S3.out.below hb4 (Nat.le_refl _)) (by have := F2.out.1; unfold maxLen; omega)); have te : decide (cd2 = cd2) = true := decide_eq_true rfl; clear hb4 I2 H3 S2 S3
 go_wp2_with fail
 refine CA.out.mono ?_; rintro e w5 ⟨rfl, hb5⟩; have H5 := Lib.hid (H4.out.next hb5); clear hb5 CA H4; go_wp2; go_ret; exact ⟨rfl, H5.out.o.b⟩
end Slc
end Go.Proofs.YtbjnjeidgdmdiaaGreat
namespace Go.Proofs.YtbjnjeidgdmdiaaGreat.knownMoved
open Go.ChangeShapes Go.WideShapes Go.ChangeAt Go.RowKit Ba Cv Sp Te Ag Tf Sl Slc
set_option linter.unusedVariables false
set_option maxRecDepth 100000 in
theorem lifted (os : Os) (started : os.Started) (H : Type) (enc : TypeId × Value → H) :
  ReturnsInHanded {} Tryz.checked os 4 .any (Rows.knownMovedSpec.pre6 enc Tryz.prog Tryz.f4 Rows.knownMovedRow.domain false) (Rows.knownMovedSpec.post enc Tryz.prog Tryz.f4 false true false false) := by
 refine returnsInHanded_of_change_sized (C := Tryz.checked) Slc.own started (by kernel_rfl) Tryz.func4
  (ChangeSpec.witness6 (enc := enc) (C := Tryz.checked) false ⟨#[], #[.agg #[.int .i64 0, .int .i64 0, .int .i64 0, .int .i64 0, .int .i64 0, .int .i64 0, .int .i64 0, .int .i64 0, .slice none 0 0, .slice none 0 0], .agg #[.slice none 0 0], .agg #[.int .i64 0, .int .i64 0]], []⟩ 8 (by kernel_rfl) (by kernel_rfl) (by kernel_rfl) (by kernel_rfl)) ?_
 intro W base args ds gs before hval0 hW hcnd hsz0 _; have hval : ∀ (j : Nat) t v, Tryz.f4.params[j]? = some t → args[j]? = some v → Value.okWide Tryz.prog W .any base t v := hval0; have hW' := hW; have hsz : (DataW.weightsEach Tryz.prog (Tryz.f4.params.toList ++ Rows.knownMovedSpec.plain.varTypes Tryz.prog) (ds ++ gs)).all (· ≤ reachBytes) = true := hsz0; obtain ⟨p, q, hA0, hV, rfl, hfz, hnd⟩ := hW; have hA : DataW.TrodAll enc Tryz.prog W 0 (fun _ => true) true Tryz.f4.params.toList args.toList ds p := hA0; rw [Tryz.params4] at hA hval hsz; obtain ⟨v0, vs0, d0, ds0, p0, q0, hargs, rfl, rfl, h0, r0⟩ := trodAll_cons hA; obtain ⟨v1, vs1, d1, ds1, p1, q1, rfl, rfl, rfl, h1, r1⟩ := trodAll_cons r0; obtain ⟨v2, vs2, d2, ds2, p2, q2, rfl, rfl, rfl, h2, r2⟩ := trodAll_cons r1; obtain ⟨rfl, rfl, rfl⟩ := trodAll_nil r2; obtain rfl : args = #[v0, v1, v2] := by cases args; simp_all
 obtain ⟨rfl, rfl⟩ := trodVars_none hV; have k0 := h0; have lt0 : ∀ x ∈ p0, x.block < W.heap.size := by obtain ⟨m, hm⟩ := k0; exact DataW.trod_lt m _ _ _ hm
 obtain ⟨y0, rfl, g0⟩ := Slc.open_history (hval 0 31 v0 rfl rfl) h0 (fun k hk => of_decide_eq_true (List.all_eq_true.1 hsz _ (DataW.weights_mem_each (j := 0) rfl rfl k hk))); have k1 := h1; have lt1 : ∀ x ∈ p1, x.block < W.heap.size := by obtain ⟨m, hm⟩ := k1; exact DataW.trod_lt m _ _ _ hm
 obtain ⟨A1, n1, c1, s1, rfl, g1⟩ := Slc.open_tariff (hval 1 34 v1 rfl rfl) h1 (fun k hk => of_decide_eq_true (List.all_eq_true.1 hsz _ (DataW.weights_mem_each (j := 1) rfl rfl k hk))); have k2 := h2; have lt2 : ∀ x ∈ p2, x.block < W.heap.size := by obtain ⟨m, hm⟩ := k2; exact DataW.trod_lt m _ _ _ hm
 obtain ⟨y2, t2, rfl, b2⟩ := Slc.open_arr2 (hval 2 43 v2 rfl rfl) h2 (fun k hk => of_decide_eq_true (List.all_eq_true.1 hsz _ (DataW.weights_mem_each (j := 2) rfl rfl k hk))); clear hA0 hval0 hsz hsz0; refine (Slc.walk_KnownMoved y0 g0 A1 n1 c1 s1 g1 y2 t2 b2).mono fun e W' ⟨he, bel⟩ => ?_
 subst he; exact ⟨_, rfl, _, _, _, [], _, [], hW', trodAll_mk1 (shut_bool Tryz.underlying4 _), (trodAll_cons_mk (Below.trod Slc.laidOut (by kernel_rfl) (of_decide_eq_true (by kernel_rfl)) k0 bel lt0) (trodAll_cons_mk (Below.trod Slc.laidOut (by kernel_rfl) (of_decide_eq_true (by kernel_rfl)) k1 bel lt1) (trodAll_cons_mk (Below.trod Slc.laidOut (by kernel_rfl) (of_decide_eq_true (by kernel_rfl)) k2 bel lt2) trodAll_mk0))), rfl, bel.frame _, fun h => by cases h⟩
theorem over : Rows.knownMovedRow.holds Tryz.pinned (OpenSpec.ofChange Rows.knownMovedSpec) :=
 OpenClaim.holds_of_wide 4 Tryz.f4 rfl rfl rfl rfl rfl rfl rfl ⟨rfl, rfl, rfl, rfl, rfl⟩ rfl rfl rfl rfl rfl (by kernel_rfl) Tryz.func4 (by kernel_rfl)
  (of_decide_eq_true (by kernel_rfl)) (by unfold Func.isWrapper; first | (rw [if_pos (by decide +kernel)]; kernel_rfl) | (rw [if_neg (by decide +kernel)]; exact ⟨rfl, rfl⟩))
  (fun os started H enc _ => lifted os started H enc)
theorem proved : Rows.KnownMovedSaid := over
end Go.Proofs.YtbjnjeidgdmdiaaGreat.knownMoved
