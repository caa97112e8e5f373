/-
  The statement PostParts holds: for every input the call returns true, and each argument reads afterwards as it read before. Conditions: none beside those that the row itself bears.
-/
import Derived.Test.YtheamhjgohacdaaGivenI
namespace Go.Proofs.Ytheamhjgohacdaa.postParts
open Go.ChangeShapes Go.WideShapes Go.ChangeAt Go.RowKit Bk Pst
set_option linter.unusedVariables false


set_option maxRecDepth 100000 in
set_option maxHeartbeats 4000000 in
theorem walk (A : Option Addr) (n c : Nat) (es : List En) {w : World} (G : GivenL w A n c es) (s : Pr) (D : Option Addr) (m k : Nat) (ds : List Int) (GI : GivenI w D m k ds) :
    Calls Try.prog 8 #[.slice A n c, Spn.ag s, .slice D m k] w (Yes w true) := by
  obtain ⟨s0, s1⟩ := s
  have HG := Lib.hid G
  have HI := Lib.hid GI
  have hlen := G.len
  have hml := GI.len
  unfold maxLen at hlen hml
  clear G GI
  have HX := Lib.hid (Bx.new w 32 #[.int .i64 s0, .int .i64 s1])
  have HB := Lib.hid (alloc_ w (.cells #[.int .i64 s0, .int .i64 s1] 32))
  have CF := Lib.hid (few_ A n c es (w.alloc (.cells #[.int .i64 s0, .int .i64 s1] 32)) (HG.out.e.below HB.out) HG.out.len)
  cases hf : fewB es
  · rw [hf] at CF
    clear hf
    go_enter Try.func8, Try.ntmps8
    go_wp2_with fail
    refine CF.out.mono ?_
    rintro e w1 ⟨rfl, hb1⟩
    have HB1 := Lib.hid (HB.out.trans (hb1.mono HB.out.size))
    clear hb1 CF
    go_wp2_with fail
    refine (alive_ _).mono ?_
    rintro e w9 ⟨rfl, hb9⟩
    have HB9 := Lib.hid (HB1.out.trans (hb9.mono HB1.out.size))
    clear hb9
    go_wp2
    go_ret
    exact ⟨rfl, HB9.out⟩

  rw [hf] at CF
  have hn : n ≤ 1000000 := by have := fewB_yes hf; have e := HG.out.e.len; omega
  clear hf
  by_cases g1 : 50 < m
  · have t1 : decide (50 < (m : Int)) = true := decide_eq_true (by omega)
    have t1' : decide (50 < m) = true := decide_eq_true g1
    clear g1
    go_enter Try.func8, Try.ntmps8
    go_wp2_with fail
    refine CF.out.mono ?_
    rintro e w1 ⟨rfl, hb1⟩
    have HB1 := Lib.hid (HB.out.trans (hb1.mono HB.out.size))
    clear hb1 CF
    go_wp2_with fail
    refine (alive_ _).mono ?_
    rintro e w9 ⟨rfl, hb9⟩
    have HB9 := Lib.hid (HB1.out.trans (hb9.mono HB1.out.size))
    clear hb9
    go_wp2
    go_ret
    exact ⟨rfl, HB9.out⟩

  have t1 : decide (50 < (m : Int)) = false := decide_eq_false (by omega)
  have t1' : decide (50 < m) = false := decide_eq_false g1
  go_enter Try.func8, Try.ntmps8
  go_wp2_with fail
  refine CF.out.mono ?_
  rintro e w2 ⟨rfl, hb1⟩
  have HB2 := Lib.hid (HB.out.trans (hb1.mono HB.out.size))
  have HX2 := Lib.hid (HX.out.keep hb1)
  clear hb1 CF
  go_wp2_with fail
  refine (made_ A n c es w2 (HG.out.e.below HB2.out) hn).mono ?_
  rintro e w3 ⟨A3, n3, c3, rfl, hE3, hcap3, hb3⟩
  have HM := Lib.hid (mkL_good es)
  have hn3 : n3 ≤ 1000000 := by have := HM.out.2; have e1 := hE3.len; have e2 := HG.out.e.len; omega
  have HF3 := Lib.hid (show Few (mkL es) from fun e he => by have := HM.out.1.lines e he; unfold maxLen; omega)
  have HB3 := Lib.hid (HB2.out.trans (hb3.mono HB2.out.size))
  have HX3 := Lib.hid ((HX2.out.keep hb3).alloc (.cells #[.slice A3 n3 c3] 29))
  have HY3 := Lib.hid (Bx.new w3 29 #[.slice A3 n3 c3])
  have HE3 := Lib.hid (hE3.below (alloc_ w3 (.cells #[.slice A3 n3 c3] 29)))
  have HB4 := Lib.hid (HB3.out.alloc HB3.out.size (.cells #[.slice A3 n3 c3] 29))
  clear hb3 hE3 hcap3
  go_wp2
  obtain ⟨W, hW⟩ : ∃ W, w3.alloc (.cells #[.slice A3 n3 c3] 29) = W := ⟨_, rfl⟩
  obtain ⟨b, hb⟩ : ∃ b, w3.heap.size = b := ⟨_, rfl⟩
  obtain ⟨g, hg⟩ : ∃ g, w.heap.size = g := ⟨_, rfl⟩
  rw [hW] at HX3 HY3 HE3 HB4 ⊢
  rw [hb] at HY3 ⊢
  have HGG := Lib.hid hg
  rw [hg] at HX3
  rw [show (Value.pointer (some ⟨w.heap.size, 0, none⟩)) = Value.pointer (some ⟨g, 0, none⟩) by rw [hg]]
  clear hW hb hg
  have HS4 := Lib.hid (HI.out.ints.below HB4.out (Nat.le_refl _))
  go_loopw [8] (fun a w' => ∃ (k : Nat) (w1 : World), 1 ≤ k ∧ k ≤ 10 ∧ a = .int .i64 (k : Int) ∧ w1 = w' ∧ Hid (Below W.heap.size W w1)) (fun a _ => 10 - (intOf a).toNat)
  case atStart => exact ⟨1, _, by omega, by omega, rfl, rfl, Lib.hid (Below.refl _ _)⟩
  case round =>
    obtain ⟨a, w4, ha1, ha2, rfl, rfl, HW⟩ := hrel
    have HX4 := Lib.hid (HX3.out.keep HW.out)
    have HY4 := Lib.hid (HY3.out.keep HW.out)
    by_cases hlt : a ≤ 9
    · have t2 : decide ((a : Int) ≤ 9) = true := decide_eq_true (by omega)
      have t2' : decide (a ≤ 9) = true := decide_eq_true hlt
      have x0 := HX4.out.c 0
      have x1 := HX4.out.c 1
      simp at x0 x1
      have CP := Lib.hid (Spn.rparts (s0, s1) D m k ds w4 ((HI.out.ints.below (HB4.out.trans (HW.out.mono HB4.out.size)) (Nat.le_refl _)).wide (HB4.out.trans (HW.out.mono HB4.out.size)).size) (by omega))
      go_wp2_with fail
      refine CP.out.mono ?_
      rintro e w5 ⟨zs, hP, A5, n5, c5, rfl, hS5, hc5, hb5⟩
      have HP := Lib.hid hP
      have hz5 : n5 ≤ 292194 := by have e1 := hP.facts.2.2; have e2 := hS5.1; omega
      have HS5 := Lib.hid hS5
      have HB5 := Lib.hid (HW.out.trans (hb5.mono HW.out.size))
      have HT := Lib.hid (show wrap64 (sumB (a : Int) (mkL es) zs) = wrap64 (bal (Sp.inn (s0, s1)) (a : Int) (mkL es)) by rw [sumB_parts hP])
      clear hP hS5 hc5 hb5 CP x0 x1
      go_wp2
      go_loopw [9, 11, 31] (fun sm s11 i w' => ∃ (j : Nat) (t : Int) (w6 : World), j ≤ n5 ∧ i = .int .i64 (j : Int) ∧ sm = .int .i64 t ∧ w6 = w' ∧ Hid (t = wrap64 (sumB (a : Int) (mkL es) (zs.take j))) ∧ Hid (Below w5.heap.size w5 w6)) (fun _ _ i _ => n5 - (intOf i).toNat)
      case atStart => exact ⟨0, 0, _, Nat.zero_le _, rfl, rfl, rfl, Lib.hid (by simp [sumB, wrap64]), Lib.hid (Below.refl _ _)⟩
      case round =>
        obtain ⟨j, t, w6, hj, rfl, rfl, rfl, HQ, HW6⟩ := hrel
        have HB6 := Lib.hid (HB5.out.trans (HW6.out.mono HB5.out.size))
        have HY6 := Lib.hid (HY3.out.keep HB6.out)
        have HX6 := Lib.hid (HX3.out.keep HB6.out)
        by_cases hl2 : j < n5
        · obtain ⟨ad, p, q, rfl, hb, hx, hc, hc'⟩ := (HS5.out.below HW6.out (Nat.le_refl _)).get hl2
          have hlt2 : (j : Int) < (n5 : Int) := by omega
          have hbl : ad.block < w6.heap.size := by have := HW6.out.size; omega
          have HYB := Lib.hid (HY6.out.alloc (.cells #[.int .i64 p, .int .i64 q] 32))
          have y0 := HY6.out.c 0
          have yl := HY6.out.lt
          simp at y0
          have CT := Lib.hid (turn A3 n3 c3 (mkL es) (a : Int) (p, q) (w6.alloc (.cells #[.int .i64 p, .int .i64 q] 32)) ((HE3.out.below HB6.out).below (alloc_ _ _)) hn3 HF3.out)
          obtain ⟨u, hu⟩ : ∃ u, wrap64 (bal (Sp.inn (p, q)) (a : Int) (mkL es)) = u := ⟨_, rfl⟩
          rw [hu] at CT
          obtain ⟨v, hv⟩ : ∃ v, wrap64 (t + u) = v := ⟨_, rfl⟩
          have HN := Lib.hid (show v = wrap64 (sumB (a : Int) (mkL es) (zs.take (j + 1))) by rw [take_more hx, sumB_snoc, ← hv, ← hu, HQ.out, wr_add', wr_add])
          have ev : IntKind.i64.wrap (t + u) = v := by rw [IntWalk.i64_left]; exact hv
          clear hx hb hu
          go_wp2_with fail
          refine CT.out.mono ?_
          rintro e w7 ⟨rfl, hb7⟩
          have HW7 := Lib.hid (HW6.out.trans ((below_alloc hb7).mono HW6.out.size))
          clear hb7 CT
          go_wp2
          go_roundw
          case rel => exact ⟨j + 1, v, _, by omega, by go_num, rfl, rfl, HN, HW7⟩
          case measure => clear hv ev; simp [intOf]; omega
        · have x0 := HX6.out.c 0
          have x1 := HX6.out.c 1
          have y0 := HY6.out.c 0
          simp at x0 x1 y0
          have CT := Lib.hid (turn A3 n3 c3 (mkL es) (a : Int) (s0, s1) w6 (HE3.out.below HB6.out) hn3 HF3.out)
          have et : wrap64 (bal (Sp.inn (s0, s1)) (a : Int) (mkL es)) = t := by
            rw [HQ.out, List.take_of_length_le (by have := HS5.out.1; omega), HT.out]
          rw [et] at CT
          clear et
          go_wp2_with fail
          refine CT.out.mono ?_
          rintro e w7 ⟨rfl, hb7⟩
          have HB7 := Lib.hid (HB6.out.trans (hb7.mono HB6.out.size))
          clear hb7 CT
          go_wp2
          go_roundw
          case rel => exact ⟨a + 1, _, by omega, by omega, by go_num, rfl, HB7⟩
          case measure => simp [intOf]; omega
    · have t2 : decide ((a : Int) ≤ 9) = false := decide_eq_false (by omega)
      have t2' : decide (a ≤ 9) = false := decide_eq_false hlt
      have HBZ := Lib.hid (HB4.out.trans (HW.out.mono HB4.out.size))
      go_wp2_with fail
      refine (alive_ _).mono ?_
      rintro e w9 ⟨rfl, hb9⟩
      have HB9 := Lib.hid (HBZ.out.trans (hb9.mono HBZ.out.size))
      clear hb9
      go_wp2
      go_ret
      exact ⟨rfl, HB9.out⟩

set_option maxRecDepth 100000 in
theorem lifted (os : Os) (started : os.Started) (H : Type) (enc : TypeId × Value → H) :
    ReturnsInHanded {} Try.checked os 8 .any (Rows.postPartsSpec.pre6 enc Try.prog Try.f8 Rows.postPartsRow.domain false) (Rows.postPartsSpec.post enc Try.prog Try.f8 false true false false) := by
  refine returnsInHanded_of_change (C := Try.checked) Pst.own started (by kernel_rfl) Try.func8
    (ChangeSpec.witness6 (enc := enc) (C := Try.checked) false ⟨#[], #[.slice none 0 0, .agg #[.int .i64 0, .int .i64 0], .slice none 0 0], []⟩ 8 (by kernel_rfl) (by kernel_rfl) (by kernel_rfl) (by kernel_rfl)) ?_
  intro W base args ds gs before hval0 hW hcnd _
  have hval : ∀ (j : Nat) t v, Try.f8.params[j]? = some t → args[j]? = some v → Value.okWide Try.prog W .any base t v := hval0
  have hW' := hW
  obtain ⟨p, q, hA0, hV, rfl, hfz, hnd⟩ := hW
  have hA : DataW.TrodAll enc Try.prog W 0 (fun _ => true) true Try.f8.params.toList args.toList ds p := hA0
  rw [Try.params8] at hA hval
  obtain ⟨v0, vs0, d0, ds0, p0, q0, hargs, rfl, rfl, h0, r0⟩ := trodAll_cons hA
  obtain ⟨v1, vs1, d1, ds1, p1, q1, rfl, rfl, rfl, h1, r1⟩ := trodAll_cons r0
  obtain ⟨v2, vs2, d2, ds2, p2, q2, rfl, rfl, rfl, h2, r2⟩ := trodAll_cons r1
  obtain ⟨rfl, rfl, rfl⟩ := trodAll_nil r2
  obtain rfl : args = #[v0, v1, v2] := by cases args; simp_all
  obtain ⟨rfl, rfl⟩ := trodVars_none hV
  have k0 := h0
  have lt0 : ∀ x ∈ p0, x.block < W.heap.size := by obtain ⟨m, hm⟩ := k0; exact DataW.trod_lt m _ _ _ hm
  obtain ⟨A0, n0, c0, xs0, rfl, g0⟩ := Pst.open_list (hval 0 27 v0 rfl rfl) h0
  have k1 := h1
  have lt1 : ∀ x ∈ p1, x.block < W.heap.size := by obtain ⟨m, hm⟩ := k1; exact DataW.trod_lt m _ _ _ hm
  obtain ⟨x1, rfl⟩ := Pst.open_span (hval 1 32 v1 rfl rfl) h1
  have k2 := h2
  have lt2 : ∀ x ∈ p2, x.block < W.heap.size := by obtain ⟨m, hm⟩ := k2; exact DataW.trod_lt m _ _ _ hm
  obtain ⟨A2, n2, c2, xs2, rfl, g2⟩ := Pst.open_days (hval 2 47 v2 rfl rfl) h2
  clear hA0 hval0
  refine (walk A0 n0 c0 xs0 g0 x1 A2 n2 c2 xs2 g2).mono fun e W' ⟨he, bel⟩ => ?_
  subst he
  exact ⟨_, rfl, _, _, _, [], _, [], hW', trodAll_mk1 (shut_bool Try.underlying4 _), (trodAll_cons_mk (Below.trod Pst.laidOut (by kernel_rfl) (of_decide_eq_true (by kernel_rfl)) k0 bel lt0) (trodAll_cons_mk (Below.trod Pst.laidOut (by kernel_rfl) (of_decide_eq_true (by kernel_rfl)) k1 bel lt1) (trodAll_cons_mk (Below.trod Pst.laidOut (by kernel_rfl) (of_decide_eq_true (by kernel_rfl)) k2 bel lt2) trodAll_mk0))), rfl, bel.frame _, fun h => by cases h⟩

theorem over : Rows.postPartsRow.holds Try.pinned (OpenSpec.ofChange Rows.postPartsSpec) :=
  OpenClaim.holds_of_wide 8 Try.f8 rfl rfl rfl rfl rfl rfl rfl ⟨rfl, rfl, rfl, rfl, rfl⟩ rfl rfl rfl rfl rfl (by kernel_rfl) Try.func8 (by kernel_rfl)
    (of_decide_eq_true (by kernel_rfl)) (by unfold Func.isWrapper; first | (rw [if_pos (by decide +kernel)]; kernel_rfl) | (rw [if_neg (by decide +kernel)]; exact ⟨rfl, rfl⟩))
    (fun os started H enc _ => lifted os started H enc)

theorem proved : Rows.PostPartsSaid := over
end Go.Proofs.Ytheamhjgohacdaa.postParts
