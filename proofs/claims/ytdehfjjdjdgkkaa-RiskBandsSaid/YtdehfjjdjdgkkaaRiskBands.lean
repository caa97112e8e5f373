/-
  The statement RiskBands holds: for every input the call returns true, and each argument reads afterwards as it read before. Conditions: none beside those that the row itself bears.
-/
import Derived.Test.YtdehfjjdjdgkkaaGiven
namespace Go.Proofs.Ytdehfjjdjdgkkaa.riskBands
open Go.ChangeShapes Go.WideShapes Go.ChangeAt Go.RowKit Ba Rsk
set_option linter.unusedVariables false


set_option maxRecDepth 100000 in
set_option maxHeartbeats 2000000 in
theorem walk (L : Option Addr) (m c : Nat) (ls : List Pr) {w : World} (G : Given w L m c ls) (age : Int) (_ : -9223372036854775808 ≤ age ∧ age ≤ 9223372036854775807) :
    Calls Try.prog 4 #[.slice L m c, .int .i64 age] w (Yes w true) := by
  have HG := Lib.hid G
  have hm := G.m
  unfold maxLen at hm
  clear G
  by_cases g1 : 200 < m
  · have t1 : decide (200 < (m : Int)) = true := by simpa using (show 200 < (m : Int) by omega)
    have t1' : decide (200 < m) = true := by simpa using g1
    clear g1
    go_enter Try.func4, Try.ntmps4
    go_wp2_with fail
    refine (awake _).mono ?_
    rintro e w1 ⟨rfl, hb1⟩
    have HB := Lib.hid hb1
    clear hb1
    go_wp2
    go_ret
    exact ⟨rfl, HB.out⟩
  have t1 : decide (200 < (m : Int)) = false := by simpa using (show ¬ 200 < (m : Int) by omega)
  have t1' : decide (200 < m) = false := by simpa using g1
  clear g1
  go_enter Try.func4, Try.ntmps4
  go_wp2_with fail
  refine (awake _).mono ?_
  rintro e w1 ⟨rfl, hb1⟩
  have HB1 := Lib.hid hb1
  obtain ⟨r, hr⟩ : ∃ r, bds ls = r := ⟨_, rfl⟩
  obtain ⟨q, hq⟩ : ∃ q, bnd age ls = q := ⟨_, rfl⟩
  have C1 := fun w' (h : Below w.heap.size w w') => Lib.hid (bands_ L m c ls w' (HG.out.l.below h) HG.out.m)
  have C2 := fun w' (h : Below w.heap.size w w') => Lib.hid (rbands L m c ls w' (HG.out.l.below h) HG.out.m)
  have C3 := fun w' (h : Below w.heap.size w w') => Lib.hid (band L m c ls age w' _ (HG.out.l.below h) HG.out.m)
  have C4 := fun w' (h : Below w.heap.size w w') => Lib.hid (rband L m c ls age w' _ (HG.out.l.below h) HG.out.m)
  rw [hr] at C1 C2
  rw [hq] at C3 C4
  clear hb1 hr hq
  go_wp2_with fail
  refine (C1 _ HB1.out).out.mono ?_
  rintro e w2 ⟨rfl, hb2⟩
  have HB2 := Lib.hid (HB1.out.trans (hb2.mono HB1.out.size))
  clear hb2 HB1
  go_wp2_with fail
  refine (C2 _ HB2.out).out.mono ?_
  rintro e w3 ⟨rfl, hb3⟩
  have HB3 := Lib.hid (HB2.out.trans (hb3.mono HB2.out.size))
  clear hb3 HB2
  go_wp2_with fail
  refine (C3 _ HB3.out).out.mono ?_
  rintro e w' ⟨rfl, rfl⟩
  go_wp2_with fail
  refine (C4 _ HB3.out).out.mono ?_
  rintro e w' ⟨rfl, rfl⟩
  go_wp2
  go_ret
  exact ⟨rfl, HB3.out⟩

set_option maxRecDepth 100000 in
theorem lifted (os : Os) (started : os.Started) (H : Type) (enc : TypeId × Value → H) :
    ReturnsInHanded {} Try.checked os 4 .any (Rows.riskBandsSpec.pre6 enc Try.prog Try.f4 Rows.riskBandsRow.domain false) (Rows.riskBandsSpec.post enc Try.prog Try.f4 false true false false) := by
  refine returnsInHanded_of_change (C := Try.checked) Rsk.own started (by kernel_rfl) Try.func4
    (ChangeSpec.witness6 (enc := enc) (C := Try.checked) false ⟨#[], #[.slice none 0 0, .int .i64 0], []⟩ 8 (by kernel_rfl) (by kernel_rfl) (by kernel_rfl) (by kernel_rfl)) ?_
  intro W base args ds gs before hval0 hW hcnd _
  have hval : ∀ (j : Nat) t v, Try.f4.params[j]? = some t → args[j]? = some v → Value.okWide Try.prog W .any base t v := hval0
  have hW' := hW
  obtain ⟨p, q, hA0, hV, rfl, hfz, hnd⟩ := hW
  have hA : DataW.TrodAll enc Try.prog W 0 (fun _ => true) true Try.f4.params.toList args.toList ds p := hA0
  rw [Try.params4] at hA hval
  obtain ⟨v0, vs0, d0, ds0, p0, q0, hargs, rfl, rfl, h0, r0⟩ := trodAll_cons hA
  obtain ⟨v1, vs1, d1, ds1, p1, q1, rfl, rfl, rfl, h1, r1⟩ := trodAll_cons r0
  obtain ⟨rfl, rfl, rfl⟩ := trodAll_nil r1
  obtain rfl : args = #[v0, v1] := by cases args; simp_all
  obtain ⟨rfl, rfl⟩ := trodVars_none hV
  have k0 := h0
  have lt0 : ∀ x ∈ p0, x.block < W.heap.size := by obtain ⟨m, hm⟩ := k0; exact DataW.trod_lt m _ _ _ hm
  obtain ⟨L0, m0, c0, l0, rfl, g0⟩ := Rsk.open_bands (hval 0 26 v0 rfl rfl) h0
  obtain ⟨a1, rfl, rfl, rfl, w1⟩ := open_int Try.underlying3 (hval 1 3 v1 rfl rfl) h1
  clear hA0 hval0
  refine (walk L0 m0 c0 l0 g0 a1 (Rsk.i64_of w1)).mono fun e W' ⟨he, bel⟩ => ?_
  subst he
  exact ⟨_, rfl, _, _, _, [], _, [], hW', trodAll_mk1 (shut_bool Try.underlying4 _), (trodAll_cons_mk (Below.trod Rsk.laidOut (by kernel_rfl) (of_decide_eq_true (by kernel_rfl)) k0 bel lt0) (trodAll_cons_mk (shut_int Try.underlying3 w1) trodAll_mk0)), rfl, bel.frame _, fun h => by cases h⟩

theorem over : Rows.riskBandsRow.holds Try.pinned (OpenSpec.ofChange Rows.riskBandsSpec) :=
  OpenClaim.holds_of_wide 4 Try.f4 rfl rfl rfl rfl rfl rfl rfl ⟨rfl, rfl, rfl, rfl, rfl⟩ rfl rfl rfl rfl rfl (by kernel_rfl) Try.func4 (by kernel_rfl)
    (of_decide_eq_true (by kernel_rfl)) (by unfold Func.isWrapper; first | (rw [if_pos (by decide +kernel)]; kernel_rfl) | (rw [if_neg (by decide +kernel)]; exact ⟨rfl, rfl⟩))
    (fun os started H enc _ => lifted os started H enc)

theorem proved : Rows.RiskBandsSaid := over
end Go.Proofs.Ytdehfjjdjdgkkaa.riskBands
