/-
  The statement RiskBetween holds: for every input the call returns true, and each argument reads afterwards as it read before. Conditions: none beside those that the row itself bears.
-/
import Derived.Test.YtdehfjjdjdgkkaaGiven
namespace Go.Proofs.Ytdehfjjdjdgkkaa.riskBetween
open Go.ChangeShapes Go.WideShapes Go.ChangeAt Go.RowKit Ba Rsk
set_option linter.unusedVariables false


set_option maxRecDepth 100000 in
set_option maxHeartbeats 2000000 in
theorem walk (L : Option Addr) (m c : Nat) (ls : List Pr) {w : World} (G : Given w L m c ls) (a : Int) (_ : -9223372036854775808 ≤ a ∧ a ≤ 9223372036854775807) (b : Int) (_ : -9223372036854775808 ≤ b ∧ b ≤ 9223372036854775807) :
    Calls Try.prog 5 #[.slice L m c, .int .i64 a, .int .i64 b] w (Yes w true) := by
  have HG := Lib.hid G
  have hm := G.m
  unfold maxLen at hm
  clear G
  by_cases g1 : 100 < m
  · have t1 : decide (100 < (m : Int)) = true := by simpa using (show 100 < (m : Int) by omega)
    have t1' : decide (100 < m) = true := by simpa using g1
    clear g1
    go_enter Try.func5, Try.ntmps5
    go_wp2_with fail
    refine (awake _).mono ?_
    rintro e w1 ⟨rfl, hb1⟩
    have HB := Lib.hid hb1
    clear hb1
    go_wp2
    go_ret
    exact ⟨rfl, HB.out⟩
  have t1 : decide (100 < (m : Int)) = false := by simpa using (show ¬ 100 < (m : Int) by omega)
  have t1' : decide (100 < m) = false := by simpa using g1
  by_cases g2 : b < a
  · have t2 : decide (b < a) = true := by simpa using g2
    clear g1 g2
    go_enter Try.func5, Try.ntmps5
    go_wp2_with fail
    refine (awake _).mono ?_
    rintro e w1 ⟨rfl, hb1⟩
    have HB := Lib.hid hb1
    clear hb1
    go_wp2
    go_ret
    exact ⟨rfl, HB.out⟩
  have t2 : decide (b < a) = false := by simpa using g2
  have HE := Lib.hid (show a ≤ b by omega)
  have hm2 : m ≤ 100 := by omega
  clear g1 g2 hm
  have HL := Lib.hid HG.out.l.1
  go_enter Try.func5, Try.ntmps5
  go_wp2_with fail
  refine (awake _).mono ?_
  rintro e w1 ⟨rfl, hb1⟩
  have HB1 := Lib.hid hb1
  have HK := Lib.hid (HG.out.l.below hb1)
  clear hb1
  go_wp2
  go_loop [8] (fun i => ∃ k : Nat, k ≤ m ∧ i = .int .i64 (k : Int) ∧ Hid (∀ x ∈ ls.take k, ¬ (a ≤ x.1 ∧ x.1 < b))) (fun i => m - (intOf i).toNat)
  case atStart => exact ⟨0, Nat.zero_le _, rfl, Lib.hid (fun x hx => by simp at hx)⟩
  case round =>
    obtain ⟨k, hk, rfl, HI⟩ := hrel
    by_cases hlt : k < m
    · obtain ⟨ad, x, y, rfl, hb, hx, hc0, hc1⟩ := HK.out.get hlt
      have HD := Lib.hid (take_get hx)
      have hlt2 : (k : Int) < (m : Int) := by omega
      clear hx hb
      by_cases h1 : a ≤ x
      · have t3 : decide (a ≤ x) = true := by simpa using h1
        by_cases h2 : x < b
        · have t4 : decide (x < b) = true := by simpa using h2
          clear h1 h2
          go_wp2
          go_ret
          exact ⟨rfl, HB1.out⟩
        · have t4 : decide (x < b) = false := by simpa using h2
          have HN := Lib.hid (show ∀ z ∈ ls.take (k + 1), ¬ (a ≤ z.1 ∧ z.1 < b) by
            intro z hz
            rw [HD.out] at hz
            rcases List.mem_append.1 hz with hz | hz
            · exact HI.out z hz
            · simp at hz; subst hz; simp only; omega)
          clear h1 h2
          go_wp2
          go_round
          case rel => exact ⟨k + 1, by omega, by go_num, HN⟩
          case measure => simp [intOf]; omega
      · have t3 : decide (a ≤ x) = false := by simpa using h1
        have HN := Lib.hid (show ∀ z ∈ ls.take (k + 1), ¬ (a ≤ z.1 ∧ z.1 < b) by
          intro z hz
          rw [HD.out] at hz
          rcases List.mem_append.1 hz with hz | hz
          · exact HI.out z hz
          · simp at hz; subst hz; simp only; omega)
        clear h1
        go_wp2
        go_round
        case rel => exact ⟨k + 1, by omega, by go_num, HN⟩
        case measure => simp [intOf]; omega
    · have C1 := Lib.hid (band L m c ls a w1 _ HK.out HG.out.m)
      have C2 := Lib.hid (band L m c ls b w1 _ HK.out HG.out.m)
      have e : bnd a ls = bnd b ls := bnd_same HE.out (by have := HI.out; rwa [List.take_of_length_le (by rw [HL.out]; omega)] at this)
      rw [e] at C1
      generalize bnd b ls = q at C1 C2
      clear e
      go_wp2_with fail
      refine C1.out.mono ?_
      rintro e w' ⟨rfl, rfl⟩
      go_wp2_with fail
      refine C2.out.mono ?_
      rintro e w' ⟨rfl, rfl⟩
      go_wp2
      go_ret
      exact ⟨rfl, HB1.out⟩

set_option maxRecDepth 100000 in
theorem lifted (os : Os) (started : os.Started) (H : Type) (enc : TypeId × Value → H) :
    ReturnsInHanded {} Try.checked os 5 .any (Rows.riskBetweenSpec.pre6 enc Try.prog Try.f5 Rows.riskBetweenRow.domain false) (Rows.riskBetweenSpec.post enc Try.prog Try.f5 false true false false) := by
  refine returnsInHanded_of_change (C := Try.checked) Rsk.own started (by kernel_rfl) Try.func5
    (ChangeSpec.witness6 (enc := enc) (C := Try.checked) false ⟨#[], #[.slice none 0 0, .int .i64 0, .int .i64 0], []⟩ 8 (by kernel_rfl) (by kernel_rfl) (by kernel_rfl) (by kernel_rfl)) ?_
  intro W base args ds gs before hval0 hW hcnd _
  have hval : ∀ (j : Nat) t v, Try.f5.params[j]? = some t → args[j]? = some v → Value.okWide Try.prog W .any base t v := hval0
  have hW' := hW
  obtain ⟨p, q, hA0, hV, rfl, hfz, hnd⟩ := hW
  have hA : DataW.TrodAll enc Try.prog W 0 (fun _ => true) true Try.f5.params.toList args.toList ds p := hA0
  rw [Try.params5] at hA hval
  obtain ⟨v0, vs0, d0, ds0, p0, q0, hargs, rfl, rfl, h0, r0⟩ := trodAll_cons hA
  obtain ⟨v1, vs1, d1, ds1, p1, q1, rfl, rfl, rfl, h1, r1⟩ := trodAll_cons r0
  obtain ⟨v2, vs2, d2, ds2, p2, q2, rfl, rfl, rfl, h2, r2⟩ := trodAll_cons r1
  obtain ⟨rfl, rfl, rfl⟩ := trodAll_nil r2
  obtain rfl : args = #[v0, v1, v2] := by cases args; simp_all
  obtain ⟨rfl, rfl⟩ := trodVars_none hV
  have k0 := h0
  have lt0 : ∀ x ∈ p0, x.block < W.heap.size := by obtain ⟨m, hm⟩ := k0; exact DataW.trod_lt m _ _ _ hm
  obtain ⟨L0, m0, c0, l0, rfl, g0⟩ := Rsk.open_bands (hval 0 26 v0 rfl rfl) h0
  obtain ⟨a1, rfl, rfl, rfl, w1⟩ := open_int Try.underlying3 (hval 1 3 v1 rfl rfl) h1
  obtain ⟨a2, rfl, rfl, rfl, w2⟩ := open_int Try.underlying3 (hval 2 3 v2 rfl rfl) h2
  clear hA0 hval0
  refine (walk L0 m0 c0 l0 g0 a1 (Rsk.i64_of w1) a2 (Rsk.i64_of w2)).mono fun e W' ⟨he, bel⟩ => ?_
  subst he
  exact ⟨_, rfl, _, _, _, [], _, [], hW', trodAll_mk1 (shut_bool Try.underlying4 _), (trodAll_cons_mk (Below.trod Rsk.laidOut (by kernel_rfl) (of_decide_eq_true (by kernel_rfl)) k0 bel lt0) (trodAll_cons_mk (shut_int Try.underlying3 w1) (trodAll_cons_mk (shut_int Try.underlying3 w2) trodAll_mk0))), rfl, bel.frame _, fun h => by cases h⟩

theorem over : Rows.riskBetweenRow.holds Try.pinned (OpenSpec.ofChange Rows.riskBetweenSpec) :=
  OpenClaim.holds_of_wide 5 Try.f5 rfl rfl rfl rfl rfl rfl rfl ⟨rfl, rfl, rfl, rfl, rfl⟩ rfl rfl rfl rfl rfl (by kernel_rfl) Try.func5 (by kernel_rfl)
    (of_decide_eq_true (by kernel_rfl)) (by unfold Func.isWrapper; first | (rw [if_pos (by decide +kernel)]; kernel_rfl) | (rw [if_neg (by decide +kernel)]; exact ⟨rfl, rfl⟩))
    (fun os started H enc _ => lifted os started H enc)

theorem proved : Rows.RiskBetweenSaid := over
end Go.Proofs.Ytdehfjjdjdgkkaa.riskBetween
