/-
  The statement KnownFrom holds: for every input the call returns true, and each argument reads afterwards as it read before. Conditions: none beside those that the row itself bears.
-/
import Derived.Test.YtbjnjeidgdmdiaaGreatKLaws13
import Derived.Lib.MinMax
namespace Go.Proofs.YtbjnjeidgdmdiaaGreat
open Go.RowKit Ba Cv Sp Te Ag Tf Sl Tm
namespace Slc
set_option linter.unusedVariables false
theorem mv_first {h : Hi} {vs : List Ve} {a b : Int} {zs : List Sp} {m : Int} (hab : a ≤ b) (H : MvIs h vs a b 0 zs) (hm : ∀ c ∈ h.hs, a < c.bk → c.bk ≤ b → m ≤ c.dy) : ∀ x, zs[0]? = some x → m ≤ x.1 := by
 intro x hx; obtain ⟨s1, s2, h1, h2, h3, h4⟩ := H.ok; have hm' := List.mem_of_getElem? hx; have hh := (has_iff x).1 (h3.has x hm'); rcases Int.lt_or_le x.1 m with hlt | hge
 ·have hit1 : hit zs x.1 := ⟨x, hm', (inn_iff _ _).2 ⟨by omega, by omega, by omega, by omega⟩⟩; exact absurd (lk_ahead h1 h2 hab fun c hc g1 g2 => by have := hm c hc g1 g2; omega) ((h4 x.1).1 hit1)
 ·exact hge
set_option maxRecDepth 100000 in
set_option maxHeartbeats 4000000 in
theorem walk_KnownFrom {w : World} (h : Hr) (G : GivenH w h) (T : Option Addr) (nt ct : Nat) (vs : List Trf.Rw) (GT : Trf.GivenT w T nt ct vs) (z0 z1 : Int) (hz : (-9223372036854775808 ≤ z0 ∧ z0 ≤ 9223372036854775807) ∧ (-9223372036854775808 ≤ z1 ∧ z1 ≤ 9223372036854775807)) : Calls Tryz.prog 8 #[hg h, Trf.tg T nt ct, .agg #[.int .i64 z0, .int .i64 z1]] w (Yes w true) := by
 obtain ⟨W, hW⟩ : ∃ W, ((w.alloc (.cells (hc h) 31)).alloc (.cells #[.slice T nt ct] 34)).alloc (.cells #[.int .i64 z0, .int .i64 z1] 43) = W := ⟨_, rfl⟩; have H0 := Lib.hid (show O3 w W h T nt ct 43 #[.int .i64 z0, .int .i64 z1] by rw [← hW]; exact O3.start w h T nt ct _ _); have HW := Lib.hid hW; have HG := Lib.hid G; have HGT := Lib.hid GT; clear hW G GT; go_enter Tryz.func8, Tryz.ntmps8
 go_upto_region 1 with fail
 rw [HW.out]; clear HW; have x0 := H0.out.o.x.c 0; have x1 := H0.out.o.x.c 1; have x2 := H0.out.o.x.c 2; have x3 := H0.out.o.x.c 3; have x4 := H0.out.o.x.c 4; have x5 := H0.out.o.x.c 5; have x6 := H0.out.o.x.c 6; have x7 := H0.out.o.x.c 7; have x8 := H0.out.o.x.c 8; have x9 := H0.out.o.x.c 9; have y0 := H0.out.o.y.c 0; have c0 := H0.out.z.c 0; have c1 := H0.out.z.c 1; simp at x0 x1 x2 x3 x4 x5 x6 x7 x8 x9 y0 c0 c1; have C := Lib.hid (few12 h T nt ct vs W (gh_below HG.out H0.out.o.b) (gt_below HGT.out H0.out.o.b))
 go_wp2_with fail
 refine C.out.mono ?_; rintro e w1 ⟨b, rfl, hb1, hs⟩; have H1 := Lib.hid (H0.out.next hb1); have HS0 := Lib.hid hs; clear hb1 hs C x0 x1 x2 x3 x4 x5 x6 x7 x8 x9 y0 c0 c1 H0; cases b
 ·go_wp2_with fail
  refine (alive13 _).mono ?_; rintro e w9 ⟨rfl, hb9⟩; have H9 := Lib.hid (H1.out.next hb9); clear hb9; go_wp2; go_ret; exact ⟨rfl, H9.out.o.b⟩
 have HS := Lib.hid (HS0.out rfl); clear HS0; have p0 : ∀ p : Ext w1, p.W.cell? ⟨w.heap.size + 1 + 1, 0, none⟩ = some (.int .i64 z0) := fun p => H1.out.z.ext p 0
 have p1 : ∀ p : Ext w1, p.W.cell? ⟨w.heap.size + 1 + 1, 1, none⟩ = some (.int .i64 z1) := fun p => H1.out.z.ext p 1
 go_upto_region 3 with fail
 have ne : Nonempty (Ext w1) := ⟨⟨w1, Below.refl _ _⟩⟩; refine quietE (by kernel_rfl) (by kernel_rfl) ?_
 repeat (any_goals (first | go_big_quiet_step (fail) | quiet_step (fail)))
 refine wpQuiet_nil ?_; rintro _ ⟨p, rfl⟩; have H2 := Lib.hid (H1.out.next p.b); generalize p.W = w2 at H2 ⊢; clear H1 p0 p1 ne; obtain ⟨a, ha⟩ : ∃ a, min z0 z1 = a := ⟨_, rfl⟩; obtain ⟨b, hb⟩ : ∃ b, max z0 z1 = b := ⟨_, rfl⟩; have hab : a ≤ b := by omega
 have HAB := Lib.hid hab; dsimp only [Exit.then]; go_step; rw [ha, hb]; clear ha hb hab hz; have x0 := H2.out.o.x.c 0; have x1 := H2.out.o.x.c 1; have x2 := H2.out.o.x.c 2; have x3 := H2.out.o.x.c 3; have x4 := H2.out.o.x.c 4; have x5 := H2.out.o.x.c 5; have x6 := H2.out.o.x.c 6; have x7 := H2.out.o.x.c 7; have x8 := H2.out.o.x.c 8; have x9 := H2.out.o.x.c 9; have y0 := H2.out.o.y.c 0; have c0 := H2.out.z.c 0; have c1 := H2.out.z.c 1; simp at x0 x1 x2 x3 x4 x5 x6 x7 x8 x9 y0 c0 c1; have C := Lib.hid (kmoved h T nt ct vs a b w2 (HG.out.M.below H2.out.o.b) (HS.out.hs HG.out) (Nat.le_trans HS.out.m (by omega)) (HS.out.vers (gt_below HGT.out H2.out.o.b)) (Nat.le_trans HS.out.t (by omega)))
 go_wp2_with fail
 refine C.out.mono ?_; rintro e w3 ⟨A3, n3, c3, zs3, cd3, rfl, hs, hn, hc, hi, hb3⟩; have H3 := Lib.hid (H2.out.next hb3); have S3 := Lib.hid hs; have I3 := Lib.hid hi; have F3 := Lib.hid (And.intro hn hc); clear hs hi hn hc C x0 x1 x2 x3 x4 x5 x6 x7 x8 x9 y0 c0 c1 H2; clear hb3; by_cases h0 : cd3 = 0
 ·subst h0; have HI := Lib.hid (show ∀ m : Int, (∀ c ∈ h.v.hs, a < c.bk → c.bk ≤ b → m ≤ c.dy) → ∀ x, zs3[0]? = some x → m ≤ x.1 from fun m hm => mv_first HAB.out I3.out hm); have HMB := Lib.hid (show h.m ≤ 60 from HS.out.m); obtain ⟨Bv, hBv⟩ : ∃ Bv, h.B = Bv := ⟨_, rfl⟩; have HBv := Lib.hid hBv; have x9 := H3.out.o.x.c 9; simp at x9; rw [hBv] at x9; clear hBv I3 F3; go_wp2; clear x9
  go_loopw [48, 11] (fun i f w' => ∃ (k : Nat) (m : Int) (V : World), k ≤ h.m ∧ i = .int .i64 (k : Int) ∧ f = .int .i64 m ∧ V = w' ∧ Hid (O3 w V h T nt ct 43 #[.int .i64 z0, .int .i64 z1]) ∧ Hid (Spn.Spans V V.heap.size A3 n3 zs3) ∧ Hid (∀ c ∈ h.v.hs.take k, a < c.bk → c.bk ≤ b → m ≤ c.dy)) (fun i _ _ => h.m - (intOf i).toNat)
  case atStart => exact ⟨0, _, w3, Nat.zero_le _, rfl, rfl, rfl, H3, S3, Lib.hid (fun c hc => by simp at hc)⟩
  case round =>
   clear H3 S3; obtain ⟨k, m, V, hk, rfl, rfl, rfl, H3, S3, HF⟩ := hrel; by_cases hlt : k < h.m
   ·obtain ⟨ad, r, hB, hbl, hr, N, hcv, hv⟩ := (HG.out.M.below H3.out.o.b).get hlt; rw [HBv.out] at hB; subst hB; have hlt2 : (k : Int) < (h.m : Int) := by omega
    have hmb : h.m ≤ 60 := HMB.out; have HV := Lib.hid (show h.v.hs.take (k + 1) = h.v.hs.take k ++ [r.v] from take_get hv); obtain ⟨q0, q1, q2, q3, q4, q5, q6, q7, q8⟩ := N; obtain ⟨W2, hW2⟩ : ∃ W2, V.alloc (.cells (Tm.vc r) 50) = W2 := ⟨_, rfl⟩; have hb2 : Below V.heap.size V W2 := hW2 ▸ alloc_ _ _; have HY := Lib.hid (show Bx W2 V.heap.size 50 (Tm.vc r) from hW2 ▸ Bx.new V 50 (Tm.vc r)); have H4 := Lib.hid (H3.out.next hb2); have S4 := Lib.hid (S3.out.below hb2 (Nat.le_refl _) |>.wide hb2.size); have HW2 := Lib.hid hW2; clear hr hv hcv hbl hW2 hb2 H3 S3
    go_upto_region 11 with fail
    rw [HW2.out]; clear q0 q1 q2 q3 q4 q5 q6 q7 q8 HW2; obtain ⟨kb, hkb⟩ : ∃ kb, r.v.bk = kb := ⟨_, rfl⟩; obtain ⟨dy, hdy⟩ : ∃ dy, r.v.dy = dy := ⟨_, rfl⟩; have y0 := HY.out.c 0; have y1 := HY.out.c 1; simp at y0 y1; rw [hkb] at y0; rw [hdy] at y1; have HKB := Lib.hid hkb; have HDY := Lib.hid hdy; clear hkb hdy; by_cases g1 : a < kb
    ·have t1 : decide (a < kb) = true := decide_eq_true g1; by_cases g2 : kb ≤ b
     ·have t2 : decide (kb ≤ b) = true := decide_eq_true g2
      have HF4 := Lib.hid (show ∀ c ∈ h.v.hs.take (k + 1), a < c.bk → c.bk ≤ b → min m dy ≤ c.dy from fun c hc u1 u2 => by
       rw [HV.out] at hc; rcases List.mem_append.1 hc with hc | hc
       ·have := HF.out c hc u1 u2; omega
       ·rw [List.mem_singleton] at hc; rw [hc, HDY.out]; omega)
      clear g1 g2 HF; go_wp2; go_roundw
      case rel => exact ⟨k + 1, min m dy, W2, by omega, by go_num, rfl, rfl, H4, S4, HF4⟩
      case measure => simp [intOf]; omega
     ·have t2 : decide (kb ≤ b) = false := decide_eq_false g2
      have HF4 := Lib.hid (show ∀ c ∈ h.v.hs.take (k + 1), a < c.bk → c.bk ≤ b → m ≤ c.dy from fun c hc u1 u2 => by
       rw [HV.out] at hc; rcases List.mem_append.1 hc with hc | hc
       ·exact HF.out c hc u1 u2
       ·rw [List.mem_singleton] at hc; rw [hc, HKB.out] at u2; exact absurd u2 g2)
      clear g1 g2 HF; go_wp2; go_roundw
      case rel => exact ⟨k + 1, m, W2, by omega, by go_num, rfl, rfl, H4, S4, HF4⟩
      case measure => simp [intOf]; omega
    ·have t1 : decide (a < kb) = false := decide_eq_false g1
     have HF4 := Lib.hid (show ∀ c ∈ h.v.hs.take (k + 1), a < c.bk → c.bk ≤ b → m ≤ c.dy from fun c hc u1 u2 => by
      rw [HV.out] at hc; rcases List.mem_append.1 hc with hc | hc
      ·exact HF.out c hc u1 u2
      ·rw [List.mem_singleton] at hc; rw [hc, HKB.out] at u1; exact absurd u1 g1)
     clear g1 HF; go_wp2; go_roundw
     case rel => exact ⟨k + 1, m, W2, by omega, by go_num, rfl, rfl, H4, S4, HF4⟩
     case measure => simp [intOf]; omega
   ·obtain rfl : k = h.m := by omega
    have HF5 := Lib.hid (HI.out m (fun c hc => HF.out c (by rw [List.take_of_length_le (Nat.le_of_eq HG.out.M.len)]; exact hc))); clear HF hlt
    go_wp2_with fail
    refine (alive13 _).mono ?_; rintro e w5 ⟨rfl, hb5⟩; have H5 := Lib.hid (H3.out.next hb5); have S5 := Lib.hid (S3.out.below hb5 (Nat.le_refl _) |>.wide hb5.size); clear hb5 H3 S3; by_cases hn0 : n3 = 0
    ·subst hn0; go_wp2; go_ret; exact ⟨rfl, H5.out.o.b⟩
    ·obtain ⟨ad, u, v, rfl, _, hx, hc, hc'⟩ := S5.out.get (k := 0) (by omega); have t3 : ((n3 : Int) == 0) = false := by rw [beq_eq_false_iff_ne]; omega
     have t4 : decide (m ≤ u) = true := decide_eq_true (HF5.out _ hx); have t5 : (0 : Int) < (n3 : Int) := by omega
     have hc0 : w5.cell? ad = some (.int .i64 u) := hc; clear hc hc' hx hn0; go_wp2; go_ret; exact ⟨rfl, H5.out.o.b⟩
 ·have t0 : decide (cd3 = 0) = false := decide_eq_false h0; have t1 : (cd3 == 0) = false := beq_eq_false_iff_ne.2 h0; have t2 : (cd3 != 0) = true := bne_iff_ne.2 h0; obtain rfl := I3.out.nil h0; obtain rfl : n3 = 0 := S3.out.1.symm; clear h0
  go_wp2_with fail
  refine (alive13 _).mono ?_; rintro e w9 ⟨rfl, hb9⟩; have H9 := Lib.hid (H3.out.next hb9); clear hb9; go_wp2; go_ret; exact ⟨rfl, H9.out.o.b⟩
end Slc
end Go.Proofs.YtbjnjeidgdmdiaaGreat
namespace Go.Proofs.YtbjnjeidgdmdiaaGreat.knownFrom
open Go.ChangeShapes Go.WideShapes Go.ChangeAt Go.RowKit Ba Cv Sp Te Ag Tf Sl Slc
set_option linter.unusedVariables false
set_option maxRecDepth 100000 in
theorem lifted (os : Os) (started : os.Started) (H : Type) (enc : TypeId × Value → H) :
  ReturnsInHanded {} Tryz.checked os 8 .any (Rows.knownFromSpec.pre6 enc Tryz.prog Tryz.f8 Rows.knownFromRow.domain false) (Rows.knownFromSpec.post enc Tryz.prog Tryz.f8 false true false false) := by
 refine returnsInHanded_of_change_sized (C := Tryz.checked) Slc.own started (by kernel_rfl) Tryz.func8
  (ChangeSpec.witness6 (enc := enc) (C := Tryz.checked) false ⟨#[], #[.agg #[.int .i64 0, .int .i64 0, .int .i64 0, .int .i64 0, .int .i64 0, .int .i64 0, .int .i64 0, .int .i64 0, .slice none 0 0, .slice none 0 0], .agg #[.slice none 0 0], .agg #[.int .i64 0, .int .i64 0]], []⟩ 8 (by kernel_rfl) (by kernel_rfl) (by kernel_rfl) (by kernel_rfl)) ?_
 intro W base args ds gs before hval0 hW hcnd hsz0 _; have hval : ∀ (j : Nat) t v, Tryz.f8.params[j]? = some t → args[j]? = some v → Value.okWide Tryz.prog W .any base t v := hval0; have hW' := hW; have hsz : (DataW.weightsEach Tryz.prog (Tryz.f8.params.toList ++ Rows.knownFromSpec.plain.varTypes Tryz.prog) (ds ++ gs)).all (· ≤ reachBytes) = true := hsz0; obtain ⟨p, q, hA0, hV, rfl, hfz, hnd⟩ := hW; have hA : DataW.TrodAll enc Tryz.prog W 0 (fun _ => true) true Tryz.f8.params.toList args.toList ds p := hA0; rw [Tryz.params8] at hA hval hsz; obtain ⟨v0, vs0, d0, ds0, p0, q0, hargs, rfl, rfl, h0, r0⟩ := trodAll_cons hA; obtain ⟨v1, vs1, d1, ds1, p1, q1, rfl, rfl, rfl, h1, r1⟩ := trodAll_cons r0; obtain ⟨v2, vs2, d2, ds2, p2, q2, rfl, rfl, rfl, h2, r2⟩ := trodAll_cons r1; obtain ⟨rfl, rfl, rfl⟩ := trodAll_nil r2; obtain rfl : args = #[v0, v1, v2] := by cases args; simp_all
 obtain ⟨rfl, rfl⟩ := trodVars_none hV; have k0 := h0; have lt0 : ∀ x ∈ p0, x.block < W.heap.size := by obtain ⟨m, hm⟩ := k0; exact DataW.trod_lt m _ _ _ hm
 obtain ⟨y0, rfl, g0⟩ := Slc.open_history (hval 0 31 v0 rfl rfl) h0 (fun k hk => of_decide_eq_true (List.all_eq_true.1 hsz _ (DataW.weights_mem_each (j := 0) rfl rfl k hk))); have k1 := h1; have lt1 : ∀ x ∈ p1, x.block < W.heap.size := by obtain ⟨m, hm⟩ := k1; exact DataW.trod_lt m _ _ _ hm
 obtain ⟨A1, n1, c1, s1, rfl, g1⟩ := Slc.open_tariff (hval 1 34 v1 rfl rfl) h1 (fun k hk => of_decide_eq_true (List.all_eq_true.1 hsz _ (DataW.weights_mem_each (j := 1) rfl rfl k hk))); have k2 := h2; have lt2 : ∀ x ∈ p2, x.block < W.heap.size := by obtain ⟨m, hm⟩ := k2; exact DataW.trod_lt m _ _ _ hm
 obtain ⟨y2, t2, rfl, b2⟩ := Slc.open_arr2 (hval 2 43 v2 rfl rfl) h2 (fun k hk => of_decide_eq_true (List.all_eq_true.1 hsz _ (DataW.weights_mem_each (j := 2) rfl rfl k hk))); clear hA0 hval0 hsz hsz0; refine (Slc.walk_KnownFrom y0 g0 A1 n1 c1 s1 g1 y2 t2 b2).mono fun e W' ⟨he, bel⟩ => ?_
 subst he; exact ⟨_, rfl, _, _, _, [], _, [], hW', trodAll_mk1 (shut_bool Tryz.underlying4 _), (trodAll_cons_mk (Below.trod Slc.laidOut (by kernel_rfl) (of_decide_eq_true (by kernel_rfl)) k0 bel lt0) (trodAll_cons_mk (Below.trod Slc.laidOut (by kernel_rfl) (of_decide_eq_true (by kernel_rfl)) k1 bel lt1) (trodAll_cons_mk (Below.trod Slc.laidOut (by kernel_rfl) (of_decide_eq_true (by kernel_rfl)) k2 bel lt2) trodAll_mk0))), rfl, bel.frame _, fun h => by cases h⟩
theorem over : Rows.knownFromRow.holds Tryz.pinned (OpenSpec.ofChange Rows.knownFromSpec) :=
 OpenClaim.holds_of_wide 8 Tryz.f8 rfl rfl rfl rfl rfl rfl rfl ⟨rfl, rfl, rfl, rfl, rfl⟩ rfl rfl rfl rfl rfl (by kernel_rfl) Tryz.func8 (by kernel_rfl)
  (of_decide_eq_true (by kernel_rfl)) (by unfold Func.isWrapper; first | (rw [if_pos (by decide +kernel)]; kernel_rfl) | (rw [if_neg (by decide +kernel)]; exact ⟨rfl, rfl⟩))
  (fun os started H enc _ => lifted os started H enc)
theorem proved : Rows.KnownFromSaid := over
end Go.Proofs.YtbjnjeidgdmdiaaGreat.knownFrom
