/-
  The statement TariffVersions holds: for every input the call returns true, and each argument reads afterwards as it read before. Conditions: none beside those that the row itself bears.
-/
import Derived.Test.YthjlhjbblnoldaaRRight
namespace Go.Proofs.Ythjlhjbblnoldaa.tariffVersions
open Go.ChangeShapes Go.WideShapes Go.ChangeAt Go.RowKit Ba Tf Trf
set_option linter.unusedVariables false


set_option maxRecDepth 100000 in
set_option maxHeartbeats 4000000 in
theorem walk (r : Rw) {w : World} (GV : GivenV w r) (A : Option Addr) (n c : Nat) (rs : List Rw) (G : GivenT w A n c rs) :
    Calls Try.prog 3 #[vg r, tg A n c] w (Yes w true) := by
  have HG := Lib.hid G
  have HV := Lib.hid GV
  have hbig := G.big
  have HNIL := Lib.hid G.nil
  obtain ⟨N, hN⟩ : ∃ N, 1 + n = N := ⟨_, rfl⟩
  have HN := Lib.hid hN
  have H0 := Lib.hid (B2.vt (w := w) (A := A) (n := n) (c := c) (r := r))
  have HO := Lib.hid (Own.one ((w.alloc (.cells (vc r) 26)).alloc (.cells #[.slice A n c] 29)) r)
  have HRW := Lib.hid (show Raws (((w.alloc (.cells (vc r) 26)).alloc (.cells #[.slice A n c] 29)).alloc (.cells (vc r) 26)) (· < w.heap.size) A n rs from G.r.keep (fun p hp => ((H0.out.b.alloc H0.out.b.size _).cell hp)) fun _ h => h)
  clear G GV hN
  go_enter Try.func3, Try.ntmps3
  go_wp2_with (at_builtin; refine wpList_app _ rfl _ _ rfl (w.heap.size + 2) (some ⟨w.heap.size + 2, 0, none⟩) 1 1 [r] rfl (by have := HO.out; rw [World.size_alloc, World.size_alloc] at this; exact this) (· < w.heap.size) A n c rs rfl HRW.out HNIL.out N HN.out (by omega) (by simp) ?_; intro D d w1 hO1 hg1)
  have H1 := Lib.hid (show B2 w w1 (w.heap.size + 1) w.heap.size A n c r from H0.out.grown (by have := HO.out; exact this) (by rw [World.size_alloc, World.size_alloc]; exact hg1))
  have HRO := Lib.hid (hO1.raws)
  clear hO1 hg1 HO HRW H0
  have CF := Lib.hid (few_ D N d ([r] ++ rs) w1 (HRO.out.keep (fun _ _ => rfl) fun b hb => hb.2) (by have := HN.out; omega) (by
    intro x hx
    rcases List.mem_append.1 hx with hx | hx
    · rw [List.mem_singleton.1 hx]; exact HV.out.l
    · exact HG.out.l x hx))
  clear HRO
  cases hf : fw N ([r] ++ rs)
  · rw [hf] at CF
    clear hf
    refine CF.out.mono ?_
    rintro e w2 ⟨rfl, hb2⟩
    have HB2 := Lib.hid (H1.out.next hb2)
    clear hb2 CF H1
    go_wp2_with fail
    refine (alive_ _).mono ?_
    rintro e w3 ⟨rfl, hb3⟩
    have HB3 := Lib.hid (HB2.out.next hb3)
    clear hb3 HB2
    go_wp2
    go_ret
    exact ⟨rfl, HB3.out.b⟩
  obtain ⟨f1, f2⟩ := fw_yes hf
  have hS : Sm r := sm_of f2 r (by simp)
  have hVS : Vers w A n rs := HG.out.vers (by rw [tl_append] at f2; omega)
  have hn1 : n ≤ 1000 := by have := HN.out; omega
  have HSm := Lib.hid hS
  have HVS := Lib.hid hVS
  rw [hf] at CF
  clear hf f1 f2 hS hVS hbig HN
  refine CF.out.mono ?_
  rintro e w2 ⟨rfl, hb2⟩
  have HB2 := Lib.hid (H1.out.next hb2)
  clear hb2 CF H1
  have C0 := fun p : Ext w2 => Lib.hid (alive_ p.W)
  have C1 := fun p : Ext w2 => Lib.hid (version_ r p.W (HV.out.m.below (HB2.out.next p.b).b) HSm.out)
  have C2 := fun p : Ext w2 => Lib.hid (rversion r p.W (HV.out.m.below (HB2.out.next p.b).b) HSm.out)
  have C3 := fun p : Ext w2 => Lib.hid (right_ A n c rs p.W (HVS.out.below (HB2.out.next p.b).b) hn1)
  have C4 := fun p : Ext w2 => Lib.hid (rright A n c rs p.W (HVS.out.below (HB2.out.next p.b).b) hn1)
  generalize ver r.v = bv at C1 C2
  generalize rgt (rs.map Rw.v) = br at C3 C4
  have X0 : ∀ p : Ext w2, p.W.cell? ⟨w.heap.size + 1, 0, none⟩ = some (.slice A n c) := fun p => HB2.out.x.ext p 0
  have y0 : ∀ p : Ext w2, p.W.cell? ⟨w.heap.size, 0, none⟩ = some (.int .i64 r.v.fr) := fun p => HB2.out.y.ext p 0
  have y1 : ∀ p : Ext w2, p.W.cell? ⟨w.heap.size, 1, none⟩ = some (.int .i64 r.v.b0) := fun p => HB2.out.y.ext p 1
  have y2 : ∀ p : Ext w2, p.W.cell? ⟨w.heap.size, 2, none⟩ = some (.int .i64 r.v.b1) := fun p => HB2.out.y.ext p 2
  have y3 : ∀ p : Ext w2, p.W.cell? ⟨w.heap.size, 3, none⟩ = some (.int .i64 r.v.b2) := fun p => HB2.out.y.ext p 3
  have y4 : ∀ p : Ext w2, p.W.cell? ⟨w.heap.size, 4, none⟩ = some (.int .i64 r.v.b3) := fun p => HB2.out.y.ext p 4
  have y5 : ∀ p : Ext w2, p.W.cell? ⟨w.heap.size, 5, none⟩ = some (.slice r.A r.la r.ca) := fun p => HB2.out.y.ext p 5
  have y6 : ∀ p : Ext w2, p.W.cell? ⟨w.heap.size, 6, none⟩ = some (.slice r.Z r.lz r.cz) := fun p => HB2.out.y.ext p 6
  have y7 : ∀ p : Ext w2, p.W.cell? ⟨w.heap.size, 7, none⟩ = some (.slice r.P r.lp r.cp) := fun p => HB2.out.y.ext p 7
  have y8 : ∀ p : Ext w2, p.W.cell? ⟨w.heap.size, 8, none⟩ = some (.int .i64 r.v.mn) := fun p => HB2.out.y.ext p 8
  have ne : Nonempty (Ext w2) := ⟨⟨w2, Below.refl _ _⟩⟩
  go_wp2
  refine quietE (by kernel_rfl) (by kernel_rfl) ?_
  repeat (first
    | go_big_quiet_skip
    | ((with_reducible refine wpQuiet_step (fun K hK => ?_)); go_simp; (first
      | ((with_reducible refine hK _ ?_); clear hK K)
      | (apply Exists.intro; refine ⟨fun _ => ?_, hK _ ?_⟩; (first
        | (go_at_call 9; with_reducible exact ext_of (C0 _).out)
        | (go_at_call 10; with_reducible exact ext_of (C1 _).out)
        | (go_at_call 11; with_reducible exact ext_of (C2 _).out)
        | (go_at_call 12; with_reducible exact ext_of (C3 _).out)
        | (go_at_call 13; with_reducible exact ext_of (C4 _).out)); clear hK K))))
  with_reducible refine wpQuiet_nil ?_
  rintro _ ⟨p, rfl⟩
  go_wp2
  go_ret
  exact ⟨by simp, HB2.out.b.trans (p.b.mono HB2.out.b.size)⟩

set_option maxRecDepth 100000 in
theorem lifted (os : Os) (started : os.Started) (H : Type) (enc : TypeId × Value → H) :
    ReturnsInHanded {} Try.checked os 3 .any (Rows.tariffVersionsSpec.pre6 enc Try.prog Try.f3 Rows.tariffVersionsRow.domain false) (Rows.tariffVersionsSpec.post enc Try.prog Try.f3 false true false false) := by
  refine returnsInHanded_of_change_sized (C := Try.checked) Trf.own started (by kernel_rfl) Try.func3
    (ChangeSpec.witness6 (enc := enc) (C := Try.checked) false ⟨#[], #[.agg #[.int .i64 0, .int .i64 0, .int .i64 0, .int .i64 0, .int .i64 0, .slice none 0 0, .slice none 0 0, .slice none 0 0, .int .i64 0], .agg #[.slice none 0 0]], []⟩ 8 (by kernel_rfl) (by kernel_rfl) (by kernel_rfl) (by kernel_rfl)) ?_
  intro W base args ds gs before hval0 hW hcnd hsz0 _
  have hval : ∀ (j : Nat) t v, Try.f3.params[j]? = some t → args[j]? = some v → Value.okWide Try.prog W .any base t v := hval0
  have hW' := hW
  have hsz : (DataW.weightsEach Try.prog (Try.f3.params.toList ++ Rows.tariffVersionsSpec.plain.varTypes Try.prog) (ds ++ gs)).all (· ≤ reachBytes) = true := hsz0
  obtain ⟨p, q, hA0, hV, rfl, hfz, hnd⟩ := hW
  have hA : DataW.TrodAll enc Try.prog W 0 (fun _ => true) true Try.f3.params.toList args.toList ds p := hA0
  rw [Try.params3] at hA hval hsz
  obtain ⟨v0, vs0, d0, ds0, p0, q0, hargs, rfl, rfl, h0, r0⟩ := trodAll_cons hA
  obtain ⟨v1, vs1, d1, ds1, p1, q1, rfl, rfl, rfl, h1, r1⟩ := trodAll_cons r0
  obtain ⟨rfl, rfl, rfl⟩ := trodAll_nil r1
  obtain rfl : args = #[v0, v1] := by cases args; simp_all
  obtain ⟨rfl, rfl⟩ := trodVars_none hV
  have k0 := h0
  have lt0 : ∀ x ∈ p0, x.block < W.heap.size := by obtain ⟨m, hm⟩ := k0; exact DataW.trod_lt m _ _ _ hm
  obtain ⟨z0, rfl, g0⟩ := Trf.open_version (hval 0 26 v0 rfl rfl) h0 (fun k hk => of_decide_eq_true (List.all_eq_true.1 hsz _ (DataW.weights_mem_each (j := 0) rfl rfl k hk)))
  have k1 := h1
  have lt1 : ∀ x ∈ p1, x.block < W.heap.size := by obtain ⟨m, hm⟩ := k1; exact DataW.trod_lt m _ _ _ hm
  obtain ⟨A1, n1, c1, s1, rfl, g1⟩ := Trf.open_tariff (hval 1 29 v1 rfl rfl) h1 (fun k hk => of_decide_eq_true (List.all_eq_true.1 hsz _ (DataW.weights_mem_each (j := 1) rfl rfl k hk)))
  clear hA0 hval0 hsz hsz0
  refine (walk z0 g0 A1 n1 c1 s1 g1).mono fun e W' ⟨he, bel⟩ => ?_
  subst he
  exact ⟨_, rfl, _, _, _, [], _, [], hW', trodAll_mk1 (shut_bool Try.underlying4 _), (trodAll_cons_mk (Below.trod Trf.laidOut (by kernel_rfl) (of_decide_eq_true (by kernel_rfl)) k0 bel lt0) (trodAll_cons_mk (Below.trod Trf.laidOut (by kernel_rfl) (of_decide_eq_true (by kernel_rfl)) k1 bel lt1) trodAll_mk0)), rfl, bel.frame _, fun h => by cases h⟩

theorem over : Rows.tariffVersionsRow.holds Try.pinned (OpenSpec.ofChange Rows.tariffVersionsSpec) :=
  OpenClaim.holds_of_wide 3 Try.f3 rfl rfl rfl rfl rfl rfl rfl ⟨rfl, rfl, rfl, rfl, rfl⟩ rfl rfl rfl rfl rfl (by kernel_rfl) Try.func3 (by kernel_rfl)
    (of_decide_eq_true (by kernel_rfl)) (by unfold Func.isWrapper; first | (rw [if_pos (by decide +kernel)]; kernel_rfl) | (rw [if_neg (by decide +kernel)]; exact ⟨rfl, rfl⟩))
    (fun os started H enc _ => lifted os started H enc)

theorem proved : Rows.TariffVersionsSaid := over
end Go.Proofs.Ythjlhjbblnoldaa.tariffVersions
