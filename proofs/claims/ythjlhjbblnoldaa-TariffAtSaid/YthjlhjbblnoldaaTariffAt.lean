/-
  The statement TariffAt holds: for every input the call returns true, and each argument reads afterwards as it read before. Conditions: none beside those that the row itself bears.
-/
import Derived.Test.YthjlhjbblnoldaaRAt
namespace Go.Proofs.Ythjlhjbblnoldaa.tariffAt
open Go.ChangeShapes Go.WideShapes Go.ChangeAt Go.RowKit Ba Tf Trf
set_option linter.unusedVariables false


set_option maxRecDepth 100000 in
set_option maxHeartbeats 4000000 in
theorem walk (A : Option Addr) (n c : Nat) (rs : List Rw) {w : World} (G : GivenT w A n c rs) (a : Int) (_ : -9223372036854775808 ≤ a ∧ a ≤ 9223372036854775807) :
    Calls Try.prog 4 #[tg A n c, .int .i64 a] w (Yes w true) := by
  have HG := Lib.hid G
  have hbig := G.big
  have HX := Lib.hid (Bx.new w 29 #[.slice A n c])
  have HB := Lib.hid (alloc_ w (.cells #[.slice A n c] 29))
  have CF := Lib.hid (few_ A n c rs (w.alloc (.cells #[.slice A n c] 29)) (G.r.below (alloc_ _ _)) (by omega) G.l)
  clear G
  go_enter Try.func4, Try.ntmps4
  go_wp2_with fail
  cases hf : fw n rs
  · rw [hf] at CF
    clear hf
    refine CF.out.mono ?_
    rintro e w2 ⟨rfl, hb2⟩
    have HB2 := Lib.hid (HB.out.trans (hb2.mono HB.out.size))
    clear hb2 CF
    go_wp2_with fail
    refine (alive_ _).mono ?_
    rintro e w9 ⟨rfl, hb9⟩
    have HB9 := Lib.hid (HB2.out.trans (hb9.mono HB2.out.size))
    clear hb9
    go_wp2
    go_ret
    exact ⟨rfl, HB9.out⟩
  obtain ⟨f1, f2⟩ := fw_yes hf
  have hVS : Vers w A n rs := HG.out.vers f2
  have HVS := Lib.hid hVS
  have hn1 : n ≤ 1000 := by omega
  rw [hf] at CF
  clear hf f2 hVS hbig
  refine CF.out.mono ?_
  rintro e w2 ⟨rfl, hb2⟩
  have HB2 := Lib.hid (HB.out.trans (hb2.mono HB.out.size))
  have HX2 := Lib.hid (HX.out.keep hb2)
  clear hb2 CF HB HX
  have x0 := HX2.out.c 0
  have xl := HX2.out.lt
  simp at x0
  obtain ⟨f, hfc⟩ : ∃ f, cod a (rs.map Rw.v) = f := ⟨_, rfl⟩
  go_wp2_with fail
  refine (at_ A n c rs a w2 (HVS.out.below HB2.out) hn1).mono ?_
  rintro e w4 ⟨r4, rfl, e4, m4, s4, hb4⟩
  rw [hfc]
  have HB4 := Lib.hid (HB2.out.trans (hb4.mono HB2.out.size))
  have HX4 := Lib.hid (HX2.out.keep hb4)
  have HE4 := Lib.hid e4
  have HS4 := Lib.hid s4
  have HY4 := Lib.hid (Bx.new w4 26 (vc r4))
  have HM4 := Lib.hid (m4.below (alloc_ w4 (.cells (vc r4) 26)))
  have HB4a := Lib.hid (HB4.out.alloc HB4.out.size (.cells (vc r4) 26))
  clear hb4 m4 s4 e4 HB2 HX2 x0 xl
  have x0 := HX4.out.c 0
  have xl := HX4.out.lt
  simp at x0
  go_wp2_with fail
  refine (rat A n c rs a _ (HVS.out.below HB4a.out) hn1).mono ?_
  rintro e w5 ⟨r5, rfl, e5, m5, s5, hb5⟩
  rw [hfc]
  have HB5 := Lib.hid (HB4a.out.trans (hb5.mono HB4a.out.size))
  have HE5 := Lib.hid e5
  have HY4b := Lib.hid ((HY4.out.keep hb5).alloc (.cells (vc r5) 26))
  have HM4b := Lib.hid ((HM4.out.below hb5).below (alloc_ w5 (.cells (vc r5) 26)))
  have HY5 := Lib.hid (Bx.new w5 26 (vc r5))
  have HM5 := Lib.hid (m5.below (alloc_ w5 (.cells (vc r5) 26)))
  have HB5a := Lib.hid (HB5.out.alloc HB5.out.size (.cells (vc r5) 26))
  clear hb5 m5 s5 e5 HB4 HB4a HX4 HY4 HM4 x0 xl hfc
  go_wp2_with fail
  refine (alive_ _).mono ?_
  rintro e w6 ⟨rfl, hb6⟩
  have HB6 := Lib.hid (HB5a.out.trans (hb6.mono HB5a.out.size))
  have HX6 := Lib.hid (HY4b.out.keep hb6)
  have HY6 := Lib.hid (HY5.out.keep hb6)
  have u0 := HX6.out.c 0
  have u1 := HX6.out.c 1
  have u2 := HX6.out.c 2
  have u3 := HX6.out.c 3
  have u4 := HX6.out.c 4
  have u5 := HX6.out.c 5
  have u6 := HX6.out.c 6
  have u7 := HX6.out.c 7
  have u8 := HX6.out.c 8
  simp at u0 u1 u2 u3 u4 u5 u6 u7 u8
  have v0 := HY6.out.c 0
  have v1 := HY6.out.c 1
  have v2 := HY6.out.c 2
  have v3 := HY6.out.c 3
  have v4 := HY6.out.c 4
  have v5 := HY6.out.c 5
  have v6 := HY6.out.c 6
  have v7 := HY6.out.c 7
  have v8 := HY6.out.c 8
  simp at v0 v1 v2 v3 v4 v5 v6 v7 v8
  have CS := Lib.hid (same_version r4 r5 (by rw [HE4.out, HE5.out]) w6 (HM4b.out.below hb6) (HM5.out.below hb6) HS4.out)
  clear hb6
  go_wp2_with fail
  refine CS.out.mono ?_
  rintro e w7 ⟨rfl, hb7⟩
  have HB7 := Lib.hid (HB6.out.trans (hb7.mono HB6.out.size))
  clear hb7
  go_wp2
  go_ret
  exact ⟨rfl, HB7.out⟩

set_option maxRecDepth 100000 in
theorem lifted (os : Os) (started : os.Started) (H : Type) (enc : TypeId × Value → H) :
    ReturnsInHanded {} Try.checked os 4 .any (Rows.tariffAtSpec.pre6 enc Try.prog Try.f4 Rows.tariffAtRow.domain false) (Rows.tariffAtSpec.post enc Try.prog Try.f4 false true false false) := by
  refine returnsInHanded_of_change_sized (C := Try.checked) Trf.own started (by kernel_rfl) Try.func4
    (ChangeSpec.witness6 (enc := enc) (C := Try.checked) false ⟨#[], #[.agg #[.slice none 0 0], .int .i64 0], []⟩ 8 (by kernel_rfl) (by kernel_rfl) (by kernel_rfl) (by kernel_rfl)) ?_
  intro W base args ds gs before hval0 hW hcnd hsz0 _
  have hval : ∀ (j : Nat) t v, Try.f4.params[j]? = some t → args[j]? = some v → Value.okWide Try.prog W .any base t v := hval0
  have hW' := hW
  have hsz : (DataW.weightsEach Try.prog (Try.f4.params.toList ++ Rows.tariffAtSpec.plain.varTypes Try.prog) (ds ++ gs)).all (· ≤ reachBytes) = true := hsz0
  obtain ⟨p, q, hA0, hV, rfl, hfz, hnd⟩ := hW
  have hA : DataW.TrodAll enc Try.prog W 0 (fun _ => true) true Try.f4.params.toList args.toList ds p := hA0
  rw [Try.params4] at hA hval hsz
  obtain ⟨v0, vs0, d0, ds0, p0, q0, hargs, rfl, rfl, h0, r0⟩ := trodAll_cons hA
  obtain ⟨v1, vs1, d1, ds1, p1, q1, rfl, rfl, rfl, h1, r1⟩ := trodAll_cons r0
  obtain ⟨rfl, rfl, rfl⟩ := trodAll_nil r1
  obtain rfl : args = #[v0, v1] := by cases args; simp_all
  obtain ⟨rfl, rfl⟩ := trodVars_none hV
  have k0 := h0
  have lt0 : ∀ x ∈ p0, x.block < W.heap.size := by obtain ⟨m, hm⟩ := k0; exact DataW.trod_lt m _ _ _ hm
  obtain ⟨A0, n0, c0, s0, rfl, g0⟩ := Trf.open_tariff (hval 0 29 v0 rfl rfl) h0 (fun k hk => of_decide_eq_true (List.all_eq_true.1 hsz _ (DataW.weights_mem_each (j := 0) rfl rfl k hk)))
  obtain ⟨a1, rfl, rfl, rfl, w1⟩ := open_int Try.underlying3 (hval 1 3 v1 rfl rfl) h1
  clear hA0 hval0 hsz hsz0
  refine (walk A0 n0 c0 s0 g0 a1 (Trf.i64_of w1)).mono fun e W' ⟨he, bel⟩ => ?_
  subst he
  exact ⟨_, rfl, _, _, _, [], _, [], hW', trodAll_mk1 (shut_bool Try.underlying4 _), (trodAll_cons_mk (Below.trod Trf.laidOut (by kernel_rfl) (of_decide_eq_true (by kernel_rfl)) k0 bel lt0) (trodAll_cons_mk (shut_int Try.underlying3 w1) trodAll_mk0)), rfl, bel.frame _, fun h => by cases h⟩

theorem over : Rows.tariffAtRow.holds Try.pinned (OpenSpec.ofChange Rows.tariffAtSpec) :=
  OpenClaim.holds_of_wide 4 Try.f4 rfl rfl rfl rfl rfl rfl rfl ⟨rfl, rfl, rfl, rfl, rfl⟩ rfl rfl rfl rfl rfl (by kernel_rfl) Try.func4 (by kernel_rfl)
    (of_decide_eq_true (by kernel_rfl)) (by unfold Func.isWrapper; first | (rw [if_pos (by decide +kernel)]; kernel_rfl) | (rw [if_neg (by decide +kernel)]; exact ⟨rfl, rfl⟩))
    (fun os started H enc _ => lifted os started H enc)

theorem proved : Rows.TariffAtSaid := over
end Go.Proofs.Ythjlhjbblnoldaa.tariffAt
