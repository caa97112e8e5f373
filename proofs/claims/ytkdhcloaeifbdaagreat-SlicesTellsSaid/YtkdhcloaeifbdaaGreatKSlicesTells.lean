/-
  The statement SlicesTells holds: for every input the call returns true, and each argument reads afterwards as it read before. Conditions: none beside those that the row itself bears.
-/
import Derived.Test.YtkdhcloaeifbdaaGreatMAw
namespace Go.Proofs.YtkdhcloaeifbdaaGreat
open Go.RowKit Ba Cv Sp Te Ag Tf Sl Tm
namespace Slc
set_option linter.unusedVariables false

set_option maxRecDepth 100000 in
set_option maxHeartbeats 4000000 in
theorem walk_SlicesTells {w : World} (h : Hr) (G : GivenH w h) (T : Option Addr) (nt ct : Nat) (vs : List Trf.Rw) (GT : Trf.GivenT w T nt ct vs) : Calls Tryz.prog 3 #[hg h, Trf.tg T nt ct] w (Yes w true) := by
  obtain ⟨W, hW⟩ : ∃ W, (w.alloc (.cells (hc h) 31)).alloc (.cells #[.slice T nt ct] 34) = W := ⟨_, rfl⟩
  have H0 := Lib.hid (show O2 w W h T nt ct by rw [← hW]; exact O2.start w h T nt ct)
  have HW := Lib.hid hW
  have HG := Lib.hid G
  have HGT := Lib.hid GT
  clear hW G GT
  go_enter Tryz.func3, Tryz.ntmps3
  go_upto_region 1 with fail
  rw [HW.out]
  clear HW
  go_wp2_with fail
  refine (awake12 _).mono ?_
  rintro e w1 ⟨rfl, hb1⟩
  have H1 := Lib.hid (H0.out.next hb1)
  clear hb1 H0
  have x0 := H1.out.x.c 0
  have x1 := H1.out.x.c 1
  have x2 := H1.out.x.c 2
  have x3 := H1.out.x.c 3
  have x4 := H1.out.x.c 4
  have x5 := H1.out.x.c 5
  have x6 := H1.out.x.c 6
  have x7 := H1.out.x.c 7
  have x8 := H1.out.x.c 8
  have x9 := H1.out.x.c 9
  simp at x0 x1 x2 x3 x4 x5 x6 x7 x8 x9
  have y0 := H1.out.y.c 0
  simp at y0
  have C := Lib.hid (few12 h T nt ct vs w1 (gh_below HG.out H1.out.b) (gt_below HGT.out H1.out.b))
  go_wp2_with fail
  refine C.out.mono ?_
  rintro e w2 ⟨b, rfl, hb2, hs⟩
  have H2 := Lib.hid (H1.out.next hb2)
  have HS0 := Lib.hid hs
  clear hb2 hs C x0 x1 x2 x3 x4 x5 x6 x7 x8 x9 y0 H1
  cases b
  · go_wp2
    go_ret
    exact ⟨rfl, H2.out.b⟩
  have HS := Lib.hid (HS0.out rfl)
  clear HS0
  have x0 := H2.out.x.c 0
  have x1 := H2.out.x.c 1
  have x2 := H2.out.x.c 2
  have x3 := H2.out.x.c 3
  have x4 := H2.out.x.c 4
  have x5 := H2.out.x.c 5
  have x6 := H2.out.x.c 6
  have x7 := H2.out.x.c 7
  have x8 := H2.out.x.c 8
  have x9 := H2.out.x.c 9
  simp at x0 x1 x2 x3 x4 x5 x6 x7 x8 x9
  have y0 := H2.out.y.c 0
  simp at y0
  have C := Lib.hid (of_ h T nt ct vs w2 (HG.out.M.below H2.out.b) (HS.out.hs HG.out) (Nat.le_trans HS.out.m (by omega)) (HS.out.vers (gt_below HGT.out H2.out.b)) (Nat.le_trans HS.out.t (by omega)))
  go_wp2_with fail
  refine C.out.mono ?_
  rintro e w3 ⟨A2, n2, c2, rs2, cd2, rfl, hs2, hn2, hi2, hb3⟩
  have H3 := Lib.hid (H2.out.next hb3)
  have HL2 := Lib.hid hs2
  have HIS2 := Lib.hid hi2
  clear hb3 hs2 hi2 C x0 x1 x2 x3 x4 x5 x6 x7 x8 x9 y0 H2
  have x0 := H3.out.x.c 0
  have x1 := H3.out.x.c 1
  have x2 := H3.out.x.c 2
  have x3 := H3.out.x.c 3
  have x4 := H3.out.x.c 4
  have x5 := H3.out.x.c 5
  have x6 := H3.out.x.c 6
  have x7 := H3.out.x.c 7
  have x8 := H3.out.x.c 8
  have x9 := H3.out.x.c 9
  simp at x0 x1 x2 x3 x4 x5 x6 x7 x8 x9
  have y0 := H3.out.y.c 0
  simp at y0
  have C := Lib.hid (rof h T nt ct vs w3 (HG.out.M.below H3.out.b) (HS.out.hs HG.out) (Nat.le_trans HS.out.m (by omega)) HS.out.cov (HS.out.vers (gt_below HGT.out H3.out.b)) (Nat.le_trans HS.out.t (by omega)))
  go_wp2_with fail
  refine C.out.mono ?_
  rintro e w4 ⟨A3, n3, c3, rs3, cd3, rfl, hs3, hn3, hi3, hb4⟩
  have H4 := Lib.hid (H3.out.next hb4)
  have HL3 := Lib.hid hs3
  have HIS3 := Lib.hid hi3
  have HL2b := Lib.hid (HL2.out.below hb4)
  clear hs3 hi3 C x0 x1 x2 x3 x4 x5 x6 x7 x8 x9 y0 H3 HL2 hb4
  obtain ⟨rfl, he⟩ := HIS2.out.one HIS3.out
  have CA := Lib.hid (all_ A2 A3 n2 n3 c2 c3 rs2 rs3 w4 HL2b.out HL3.out (by omega) (by omega))
  rw [decide_eq_true he] at CA
  clear he
  have te : decide (cd2 = cd2) = true := decide_eq_true rfl
  go_wp2_with fail
  refine CA.out.mono ?_
  rintro e w5 ⟨rfl, hb5⟩
  have H5 := Lib.hid (H4.out.next hb5)
  clear hb5 CA
  go_wp2
  go_ret
  exact ⟨rfl, H5.out.b⟩

end Slc
end Go.Proofs.YtkdhcloaeifbdaaGreat
namespace Go.Proofs.YtkdhcloaeifbdaaGreat.slicesTells
open Go.ChangeShapes Go.WideShapes Go.ChangeAt Go.RowKit Ba Cv Sp Te Ag Tf Sl Slc
set_option linter.unusedVariables false


set_option maxRecDepth 100000 in
theorem lifted (os : Os) (started : os.Started) (H : Type) (enc : TypeId × Value → H) :
    ReturnsInHanded {} Tryz.checked os 3 .any (Rows.slicesTellsSpec.pre6 enc Tryz.prog Tryz.f3 Rows.slicesTellsRow.domain false) (Rows.slicesTellsSpec.post enc Tryz.prog Tryz.f3 false true false false) := by
  refine returnsInHanded_of_change_sized (C := Tryz.checked) Slc.own started (by kernel_rfl) Tryz.func3
    (ChangeSpec.witness6 (enc := enc) (C := Tryz.checked) false ⟨#[], #[.agg #[.int .i64 0, .int .i64 0, .int .i64 0, .int .i64 0, .int .i64 0, .int .i64 0, .int .i64 0, .int .i64 0, .slice none 0 0, .slice none 0 0], .agg #[.slice none 0 0]], []⟩ 8 (by kernel_rfl) (by kernel_rfl) (by kernel_rfl) (by kernel_rfl)) ?_
  intro W base args ds gs before hval0 hW hcnd hsz0 _
  have hval : ∀ (j : Nat) t v, Tryz.f3.params[j]? = some t → args[j]? = some v → Value.okWide Tryz.prog W .any base t v := hval0
  have hW' := hW
  have hsz : (DataW.weightsEach Tryz.prog (Tryz.f3.params.toList ++ Rows.slicesTellsSpec.plain.varTypes Tryz.prog) (ds ++ gs)).all (· ≤ reachBytes) = true := hsz0
  obtain ⟨p, q, hA0, hV, rfl, hfz, hnd⟩ := hW
  have hA : DataW.TrodAll enc Tryz.prog W 0 (fun _ => true) true Tryz.f3.params.toList args.toList ds p := hA0
  rw [Tryz.params3] at hA hval hsz
  obtain ⟨v0, vs0, d0, ds0, p0, q0, hargs, rfl, rfl, h0, r0⟩ := trodAll_cons hA
  obtain ⟨v1, vs1, d1, ds1, p1, q1, rfl, rfl, rfl, h1, r1⟩ := trodAll_cons r0
  obtain ⟨rfl, rfl, rfl⟩ := trodAll_nil r1
  obtain rfl : args = #[v0, v1] := by cases args; simp_all
  obtain ⟨rfl, rfl⟩ := trodVars_none hV
  have k0 := h0
  have lt0 : ∀ x ∈ p0, x.block < W.heap.size := by obtain ⟨m, hm⟩ := k0; exact DataW.trod_lt m _ _ _ hm
  obtain ⟨y0, rfl, g0⟩ := Slc.open_history (hval 0 31 v0 rfl rfl) h0 (fun k hk => of_decide_eq_true (List.all_eq_true.1 hsz _ (DataW.weights_mem_each (j := 0) rfl rfl k hk)))
  have k1 := h1
  have lt1 : ∀ x ∈ p1, x.block < W.heap.size := by obtain ⟨m, hm⟩ := k1; exact DataW.trod_lt m _ _ _ hm
  obtain ⟨A1, n1, c1, s1, rfl, g1⟩ := Slc.open_tariff (hval 1 34 v1 rfl rfl) h1 (fun k hk => of_decide_eq_true (List.all_eq_true.1 hsz _ (DataW.weights_mem_each (j := 1) rfl rfl k hk)))
  clear hA0 hval0 hsz hsz0
  refine (Slc.walk_SlicesTells y0 g0 A1 n1 c1 s1 g1).mono fun e W' ⟨he, bel⟩ => ?_
  subst he
  exact ⟨_, rfl, _, _, _, [], _, [], hW', trodAll_mk1 (shut_bool Tryz.underlying4 _), (trodAll_cons_mk (Below.trod Slc.laidOut (by kernel_rfl) (of_decide_eq_true (by kernel_rfl)) k0 bel lt0) (trodAll_cons_mk (Below.trod Slc.laidOut (by kernel_rfl) (of_decide_eq_true (by kernel_rfl)) k1 bel lt1) trodAll_mk0)), rfl, bel.frame _, fun h => by cases h⟩

theorem over : Rows.slicesTellsRow.holds Tryz.pinned (OpenSpec.ofChange Rows.slicesTellsSpec) :=
  OpenClaim.holds_of_wide 3 Tryz.f3 rfl rfl rfl rfl rfl rfl rfl ⟨rfl, rfl, rfl, rfl, rfl⟩ rfl rfl rfl rfl rfl (by kernel_rfl) Tryz.func3 (by kernel_rfl)
    (of_decide_eq_true (by kernel_rfl)) (by unfold Func.isWrapper; first | (rw [if_pos (by decide +kernel)]; kernel_rfl) | (rw [if_neg (by decide +kernel)]; exact ⟨rfl, rfl⟩))
    (fun os started H enc _ => lifted os started H enc)

theorem proved : Rows.SlicesTellsSaid := over
end Go.Proofs.YtkdhcloaeifbdaaGreat.slicesTells
