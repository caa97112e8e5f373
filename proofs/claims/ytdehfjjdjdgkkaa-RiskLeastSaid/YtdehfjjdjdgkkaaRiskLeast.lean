/-
  The statement RiskLeast holds: for every input the call returns true, and each argument reads afterwards as it read before. Conditions: none beside those that the row itself bears.
-/
import Derived.Test.YtdehfjjdjdgkkaaGiven
namespace Go.Proofs.Ytdehfjjdjdgkkaa.riskLeast
open Go.ChangeShapes Go.WideShapes Go.ChangeAt Go.RowKit Ba Rsk
set_option linter.unusedVariables false


/-- The place found so far. -/
def PP (ls : List Pr) (age : Int) (k : Nat) (z : Int) : Prop :=
  (z = -1 ∧ ∀ u ∈ ls.take k, u.1 < age) ∨ ∃ (j : Nat) (x y : Int), z = j ∧ j < k ∧ ls[j]? = some (x, y) ∧ age ≤ x ∧ ∀ i u, i < j → ls[i]? = some u → u.1 < age
theorem PP.none {ls : List Pr} {age x y : Int} {k : Nat} (h : ∀ u ∈ ls.take k, u.1 < age) (hx : ls[k]? = some (x, y)) (hlt : x < age) : PP ls age (k + 1) (-1) := by
  refine .inl ⟨rfl, fun z hz => ?_⟩
  rw [take_get hx] at hz
  rcases List.mem_append.1 hz with hz | hz
  · exact h z hz
  · simp at hz; subst hz; exact hlt
theorem PP.found {ls : List Pr} {age x y : Int} {k : Nat} (h : ∀ u ∈ ls.take k, u.1 < age) (hx : ls[k]? = some (x, y)) (hge : age ≤ x) : PP ls age (k + 1) (k : Int) := by
  refine .inr ⟨k, x, y, rfl, by omega, hx, hge, fun i u hi hu => h u ?_⟩
  rw [List.mem_iff_getElem?]
  exact ⟨i, by rw [List.getElem?_take, if_pos hi]; exact hu⟩

set_option maxRecDepth 100000 in
set_option maxHeartbeats 4000000 in
theorem walk (L : Option Addr) (m c : Nat) (ls : List Pr) {w : World} (G : Given w L m c ls) (age : Int) (_ : -9223372036854775808 ≤ age ∧ age ≤ 9223372036854775807) :
    Calls Try.prog 6 #[.slice L m c, .int .i64 age] w (Yes w true) := by
  have HG := Lib.hid G
  have hm := G.m
  unfold maxLen at hm
  clear G
  by_cases g1 : 100 < m
  · have t1 : decide (100 < (m : Int)) = true := by simpa using (show 100 < (m : Int) by omega)
    have t1' : decide (100 < m) = true := by simpa using g1
    clear g1
    go_enter Try.func6, Try.ntmps6
    go_wp2_with fail
    refine (awake _).mono ?_
    rintro e w1 ⟨rfl, hb1⟩
    have HB := Lib.hid hb1
    clear hb1
    go_wp2
    go_ret
    exact ⟨rfl, HB.out⟩
  have t1 : decide (100 < (m : Int)) = false := by simpa using (show ¬ 100 < (m : Int) by omega)
  have t1' : decide (100 < m) = false := by simpa using g1
  have hm2 : m ≤ 100 := by omega
  clear g1 hm
  have HL := Lib.hid HG.out.l.1
  have C1 := fun w' (h : Below w.heap.size w w') => Lib.hid (bands_ L m c ls w' (HG.out.l.below h) HG.out.m)
  cases hr : bds ls
  · rw [hr] at C1
    clear hr
    go_enter Try.func6, Try.ntmps6
    go_wp2_with fail
    refine (awake _).mono ?_
    rintro e w1 ⟨rfl, hb1⟩
    have HB := Lib.hid hb1
    clear hb1
    go_wp2_with fail
    refine (C1 _ HB.out).out.mono ?_
    rintro e w2 ⟨rfl, hb2⟩
    have HB2 := Lib.hid (HB.out.trans (hb2.mono HB.out.size))
    clear hb2 HB
    go_wp2
    go_ret
    exact ⟨rfl, HB2.out⟩
  rw [hr] at C1
  have HO := Lib.hid (show okL 0 ls = true by rw [← bds_near (by rw [HL.out]; exact hm2)]; exact hr)
  obtain ⟨q, hq⟩ : ∃ q, bnd age ls = q := ⟨_, rfl⟩
  have C2 := fun w' (h : Below w.heap.size w w') => Lib.hid (band L m c ls age w' _ (HG.out.l.below h) HG.out.m)
  rw [hq] at C2
  have HQ := Lib.hid hq
  clear hr hq
  go_enter Try.func6, Try.ntmps6
  go_wp2_with fail
  refine (awake _).mono ?_
  rintro e w1 ⟨rfl, hb1⟩
  have HB := Lib.hid hb1
  clear hb1
  go_wp2_with fail
  refine (C1 _ HB.out).out.mono ?_
  rintro e w2 ⟨rfl, hb2⟩
  have HB2 := Lib.hid (HB.out.trans (hb2.mono HB.out.size))
  clear hb2 HB
  go_wp2_with fail
  refine (C2 _ HB2.out).out.mono ?_
  rintro e w' ⟨rfl, rfl⟩
  clear C1 C2
  go_wp2
  go_loopw [7, 8] (fun at_ i w' => ∃ (k : Nat) (z : Int) (w3 : World), k ≤ m ∧ i = .int .i64 (k : Int) ∧ at_ = .int .i64 z ∧ w3 = w' ∧ Hid (Below w.heap.size w w3) ∧ Hid (PP ls age k z)) (fun _ i _ => m - (intOf i).toNat)
  case atStart => exact ⟨0, -1, _, Nat.zero_le _, rfl, rfl, rfl, HB2, Lib.hid (.inl ⟨rfl, fun u hu => by simp at hu⟩)⟩
  case round =>
    obtain ⟨k, z, w3, hk, rfl, rfl, rfl, HW, HP⟩ := hrel
    have HK := Lib.hid (HG.out.l.below HW.out)
    by_cases hlt : k < m
    · obtain ⟨ad, x, y, rfl, hb, hx, hc0, hc1⟩ := HK.out.get hlt
      have HX := Lib.hid hx
      have hlt2 : (k : Int) < (m : Int) := by omega
      have hk0 : 0 ≤ (k : Int) := by omega
      clear hx hb
      rcases HP.out with ⟨hz, hall⟩ | ⟨j, xj, yj, hz, hjk, hxj, hge, hall⟩
      · subst hz
        have HA := Lib.hid hall
        clear hall
        by_cases h1 : x < age
        · have t3 : decide (x < age) = true := by simpa using h1
          have HN := Lib.hid (PP.none HA.out HX.out h1)
          clear h1
          go_wp2
          go_roundw
          case rel => exact ⟨k + 1, -1, _, by omega, by go_num, rfl, rfl, HW, HN⟩
          case measure => simp [intOf]; omega
        · have t3 : decide (x < age) = false := by simpa using h1
          have HN := Lib.hid (PP.found HA.out HX.out (by omega))
          clear h1
          go_wp2
          go_roundw
          case rel => exact ⟨k + 1, k, _, by omega, by go_num, rfl, rfl, HW, HN⟩
          case measure => simp [intOf]; omega
      · subst hz
        have hrise := okL_rise HO.out hjk hxj HX.out
        simp only at hrise
        obtain ⟨ad', xj', yj', ead, _, hxx, hd0, hd1⟩ := HK.out.get (show j < m by omega)
        injection ead with ead
        subst ead
        rw [hxj] at hxx
        simp only [Option.some.injEq, Prod.mk.injEq] at hxx
        obtain ⟨rfl, rfl⟩ := hxx
        have t3 : decide (x < age) = false := by simpa using (show ¬ x < age by omega)
        have t4 : decide ((j : Int) < 0) = false := decide_eq_false (by omega)
        have t5 : decide (x < xj) = false := by simpa using (show ¬ x < xj by omega)
        have hj2 : (j : Int) < (m : Int) := by omega
        have hj0 : 0 ≤ (j : Int) := by omega
        have HN := Lib.hid (show PP ls age (k + 1) (j : Int) from .inr ⟨j, xj, yj, rfl, by omega, hxj, hge, hall⟩)
        clear hxj hge hall hrise hd1 hc1
        go_wp2
        go_quiet (fail)
        go_wp2
        go_roundw
        case rel => exact ⟨k + 1, j, _, by omega, by go_num, rfl, rfl, Lib.hid (below_drewN HW.out _), HN⟩
        case measure => simp [intOf]; omega
    · obtain rfl : k = m := by omega
      rcases HP.out with ⟨hz, hall⟩ | ⟨j, xj, yj, hz, hjk, hxj, hge, hall⟩
      · subst hz
        have hqq : (q == 10000) = true := by
          rw [beq_iff_eq, ← HQ.out]
          rw [List.take_of_length_le (by rw [HL.out]; omega)] at hall
          have hn : hs age ls = false := by
            cases e : hs age ls
            · rfl
            · unfold hs at e
              rw [List.any_eq_true] at e
              obtain ⟨u, hu, hu2⟩ := e
              have := hall u hu
              simp at hu2
              omega
          exact (bnd_append_not (m := []) hn).2
        clear hall
        go_wp2
        go_ret
        exact ⟨rfl, HW.out⟩
      · subst hz
        obtain ⟨ad, xj', yj', rfl, _, hxx, hd0, hd1⟩ := HK.out.get hjk
        rw [hxj] at hxx
        simp only [Option.some.injEq, Prod.mk.injEq] at hxx
        obtain ⟨rfl, rfl⟩ := hxx
        have hq1 : q = yj := HQ.out.symm.trans (bnd_first hxj hge hall)
        subst hq1
        have hq2 : bnd xj ls = q := bnd_first hxj (Int.le_refl _) (fun i u hi hu => by have := okL_rise HO.out hi hu hxj; simpa using this)
        have hmem := okL_mem HO.out (xj, q) (List.mem_iff_getElem?.2 ⟨j, hxj⟩)
        simp only at hmem
        have t4 : decide ((j : Int) < 0) = false := decide_eq_false (by omega)
        have t6 : decide (0 ≤ q) = true := by simpa using hmem.2.2.1
        have t7 : decide (q ≤ 100000) = true := by simpa using hmem.2.2.2
        have hj2 : (j : Int) < (k : Int) := by omega
        have hj0 : 0 ≤ (j : Int) := by omega
        have C3 := Lib.hid (band (some ad) k c ls xj w3 _ HK.out HG.out.m)
        rw [hq2] at C3
        clear hxj hge hall hq2 hmem
        go_wp2_with fail
        refine C3.out.mono ?_
        rintro e w' ⟨rfl, rfl⟩
        go_wp2
        go_ret
        exact ⟨rfl, HW.out⟩

set_option maxRecDepth 100000 in
theorem lifted (os : Os) (started : os.Started) (H : Type) (enc : TypeId × Value → H) :
    ReturnsInHanded {} Try.checked os 6 .any (Rows.riskLeastSpec.pre6 enc Try.prog Try.f6 Rows.riskLeastRow.domain false) (Rows.riskLeastSpec.post enc Try.prog Try.f6 false true false false) := by
  refine returnsInHanded_of_change (C := Try.checked) Rsk.own started (by kernel_rfl) Try.func6
    (ChangeSpec.witness6 (enc := enc) (C := Try.checked) false ⟨#[], #[.slice none 0 0, .int .i64 0], []⟩ 8 (by kernel_rfl) (by kernel_rfl) (by kernel_rfl) (by kernel_rfl)) ?_
  intro W base args ds gs before hval0 hW hcnd _
  have hval : ∀ (j : Nat) t v, Try.f6.params[j]? = some t → args[j]? = some v → Value.okWide Try.prog W .any base t v := hval0
  have hW' := hW
  obtain ⟨p, q, hA0, hV, rfl, hfz, hnd⟩ := hW
  have hA : DataW.TrodAll enc Try.prog W 0 (fun _ => true) true Try.f6.params.toList args.toList ds p := hA0
  rw [Try.params6] at hA hval
  obtain ⟨v0, vs0, d0, ds0, p0, q0, hargs, rfl, rfl, h0, r0⟩ := trodAll_cons hA
  obtain ⟨v1, vs1, d1, ds1, p1, q1, rfl, rfl, rfl, h1, r1⟩ := trodAll_cons r0
  obtain ⟨rfl, rfl, rfl⟩ := trodAll_nil r1
  obtain rfl : args = #[v0, v1] := by cases args; simp_all
  obtain ⟨rfl, rfl⟩ := trodVars_none hV
  have k0 := h0
  have lt0 : ∀ x ∈ p0, x.block < W.heap.size := by obtain ⟨m, hm⟩ := k0; exact DataW.trod_lt m _ _ _ hm
  obtain ⟨L0, m0, c0, l0, rfl, g0⟩ := Rsk.open_bands (hval 0 26 v0 rfl rfl) h0
  obtain ⟨a1, rfl, rfl, rfl, w1⟩ := open_int Try.underlying3 (hval 1 3 v1 rfl rfl) h1
  clear hA0 hval0
  refine (walk L0 m0 c0 l0 g0 a1 (Rsk.i64_of w1)).mono fun e W' ⟨he, bel⟩ => ?_
  subst he
  exact ⟨_, rfl, _, _, _, [], _, [], hW', trodAll_mk1 (shut_bool Try.underlying4 _), (trodAll_cons_mk (Below.trod Rsk.laidOut (by kernel_rfl) (of_decide_eq_true (by kernel_rfl)) k0 bel lt0) (trodAll_cons_mk (shut_int Try.underlying3 w1) trodAll_mk0)), rfl, bel.frame _, fun h => by cases h⟩

theorem over : Rows.riskLeastRow.holds Try.pinned (OpenSpec.ofChange Rows.riskLeastSpec) :=
  OpenClaim.holds_of_wide 6 Try.f6 rfl rfl rfl rfl rfl rfl rfl ⟨rfl, rfl, rfl, rfl, rfl⟩ rfl rfl rfl rfl rfl (by kernel_rfl) Try.func6 (by kernel_rfl)
    (of_decide_eq_true (by kernel_rfl)) (by unfold Func.isWrapper; first | (rw [if_pos (by decide +kernel)]; kernel_rfl) | (rw [if_neg (by decide +kernel)]; exact ⟨rfl, rfl⟩))
    (fun os started H enc _ => lifted os started H enc)

theorem proved : Rows.RiskLeastSaid := over
end Go.Proofs.Ytdehfjjdjdgkkaa.riskLeast
