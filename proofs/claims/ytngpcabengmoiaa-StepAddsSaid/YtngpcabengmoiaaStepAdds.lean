/-
  The statement StepAdds holds: for every input the call returns true, and each argument reads afterwards as it read before. Conditions: none beside those that the row itself bears.
-/
import Derived.Test.YtngpcabengmoiaaGiven
import Derived.Test.YtngpcabengmoiaaAddN
namespace Go.Proofs.Ytngpcabengmoiaa.stepAdds
open Go.ChangeShapes Go.WideShapes Go.ChangeAt Go.RowKit St Stp
set_option linter.unusedVariables false


set_option maxRecDepth 100000 in
set_option maxHeartbeats 2000000 in
theorem long (A : Option Addr) (n c : Nat) (V : Option Addr) (m d : Nat) (A2 : Option Addr) (n2 c2 : Nat) (V2 : Option Addr) (m2 d2 : Nat) (w : World) (hn : n ≤ 9223372036854775807) (hm : m ≤ 9223372036854775807) (hn2 : n2 ≤ 9223372036854775807) (hm2 : m2 ≤ 9223372036854775807) (b1 b2 : Bool) (e1 : (decide (n ≤ 100) && decide (m ≤ 100)) = b1) (e2 : (decide (n2 ≤ 100) && decide (m2 ≤ 100)) = b2) (h : (!b1 || !b2) = true) :
    Calls Try.prog 3 #[sg A n c V m d, sg A2 n2 c2 V2 m2 d2] w fun e w' => e = .returned (.bool true) ∧ Below w.heap.size w w' := by
  have HX := Lib.hid ((Bx.new w 24 (.slice A n c) (.slice V m d)).alloc (.cells #[.slice A2 n2 c2, .slice V2 m2 d2] 24))
  have HY := Lib.hid (show Bx ((w.alloc (.cells #[.slice A n c, .slice V m d] 24)).alloc (.cells #[.slice A2 n2 c2, .slice V2 m2 d2] 24)) (w.heap.size + 1) 24 (.slice A2 n2 c2) (.slice V2 m2 d2) by
    have h_ := Bx.new (w.alloc (.cells #[.slice A n c, .slice V m d] 24)) 24 (.slice A2 n2 c2) (.slice V2 m2 d2)
    rw [World.size_alloc] at h_
    exact h_)
  have HB := Lib.hid (show Below w.heap.size w ((w.alloc (.cells #[.slice A n c, .slice V m d] 24)).alloc (.cells #[.slice A2 n2 c2, .slice V2 m2 d2] 24)) from (al1 _ _).alloc (by simp) _)
  obtain ⟨W, hW⟩ : ∃ W, (w.alloc (.cells #[.slice A n c, .slice V m d] 24)).alloc (.cells #[.slice A2 n2 c2, .slice V2 m2 d2] 24) = W := ⟨_, rfl⟩
  rw [hW] at HX HY HB
  have HW := Lib.hid hW
  clear hW
  have C1 := fun w => Lib.hid (few A n c V m d w (by omega) (by omega))
  have C2 := fun w => Lib.hid (few A2 n2 c2 V2 m2 d2 w (by omega) (by omega))
  rw [e1] at C1
  rw [e2] at C2
  clear e1 e2
  cases b1
  · cases b2
    all_goals
      go_enter Try.func3, Try.ntmps3
      go_wp2_with fail
      rw [HW.out]
      refine (awake _).mono ?_
      rintro e w1 ⟨rfl, hb⟩
      have HB1 := Lib.hid (HB.out.trans (hb.mono HB.out.size))
      have HX1 := Lib.hid (HX.out.keep hb)
      have HY1 := Lib.hid (HY.out.keep hb)
      clear hb
      have x0 := HX1.out.c0
      have x1 := HX1.out.c1
      have xl := HX1.out.lt
      have y0 := HY1.out.c0
      have y1 := HY1.out.c1
      have yl := HY1.out.lt
      go_wp2_with fail

      refine ((C1 _).out).mono ?_
      rintro e w2 ⟨rfl, hb⟩
      have HB2 := Lib.hid (HB1.out.trans (hb.mono HB1.out.size))
      have HX2 := Lib.hid (HX1.out.keep hb)
      have HY2 := Lib.hid (HY1.out.keep hb)
      clear hb
      clear x0 x1 xl y0 y1 yl
      have x0 := HX2.out.c0
      have x1 := HX2.out.c1
      have xl := HX2.out.lt
      have y0 := HY2.out.c0
      have y1 := HY2.out.c1
      have yl := HY2.out.lt
      go_wp2_with fail

      refine ((C2 _).out).mono ?_
      rintro e w3 ⟨rfl, hb⟩
      have HB3 := Lib.hid (HB2.out.trans (hb.mono HB2.out.size))
      have HX3 := Lib.hid (HX2.out.keep hb)
      have HY3 := Lib.hid (HY2.out.keep hb)
      clear hb
      clear x0 x1 xl y0 y1 yl
      have x0 := HX3.out.c0
      have x1 := HX3.out.c1
      have xl := HX3.out.lt
      have y0 := HY3.out.c0
      have y1 := HY3.out.c1
      have yl := HY3.out.lt
      go_wp2
      go_ret
      exact ⟨rfl, HB3.out⟩
  · simp at h
    subst h
    go_enter Try.func3, Try.ntmps3
    go_wp2_with fail
    rw [HW.out]
    refine (awake _).mono ?_
    rintro e w1 ⟨rfl, hb⟩
    have HB1 := Lib.hid (HB.out.trans (hb.mono HB.out.size))
    have HX1 := Lib.hid (HX.out.keep hb)
    have HY1 := Lib.hid (HY.out.keep hb)
    clear hb
    have x0 := HX1.out.c0
    have x1 := HX1.out.c1
    have xl := HX1.out.lt
    have y0 := HY1.out.c0
    have y1 := HY1.out.c1
    have yl := HY1.out.lt
    go_wp2_with fail

    refine ((C1 _).out).mono ?_
    rintro e w2 ⟨rfl, hb⟩
    have HB2 := Lib.hid (HB1.out.trans (hb.mono HB1.out.size))
    have HX2 := Lib.hid (HX1.out.keep hb)
    have HY2 := Lib.hid (HY1.out.keep hb)
    clear hb
    clear x0 x1 xl y0 y1 yl
    have x0 := HX2.out.c0
    have x1 := HX2.out.c1
    have xl := HX2.out.lt
    have y0 := HY2.out.c0
    have y1 := HY2.out.c1
    have yl := HY2.out.lt
    go_wp2_with fail

    refine ((C2 _).out).mono ?_
    rintro e w3 ⟨rfl, hb⟩
    have HB3 := Lib.hid (HB2.out.trans (hb.mono HB2.out.size))
    have HX3 := Lib.hid (HX2.out.keep hb)
    have HY3 := Lib.hid (HY2.out.keep hb)
    clear hb
    clear x0 x1 xl y0 y1 yl
    have x0 := HX3.out.c0
    have x1 := HX3.out.c1
    have xl := HX3.out.lt
    have y0 := HY3.out.c0
    have y1 := HY3.out.c1
    have yl := HY3.out.lt
    go_wp2
    go_ret
    exact ⟨rfl, HB3.out⟩

set_option maxRecDepth 100000 in
set_option maxHeartbeats 4000000 in
theorem short (A : Option Addr) (n c : Nat) (V : Option Addr) (m d : Nat) (A2 : Option Addr) (n2 c2 : Nat) (V2 : Option Addr) (m2 d2 : Nat) (w : World) (hn : n ≤ 100) (hm : m ≤ 100) (hn2 : n2 ≤ 100) (hm2 : m2 ≤ 100) (rs : List Pr) (L : Nat) (er : Int) (hL : rs.length = L) (hL2 : L ≤ 200)
    (hA : ∀ W, Below w.heap.size w W → Calls Try.prog 7 #[sg A n c V m d, sg A2 n2 c2 V2 m2 d2] W (GivesAL W L rs er))
    (hB : ∀ W, Below w.heap.size w W → Calls Try.prog 8 #[sg A n c V m d, sg A2 n2 c2 V2 m2 d2] W (GivesAL W L rs er)) :
    Calls Try.prog 3 #[sg A n c V m d, sg A2 n2 c2 V2 m2 d2] w fun e w' => e = .returned (.bool true) ∧ Below w.heap.size w w' := by
  have HA_ := Lib.hid hA
  have HB_ := Lib.hid hB
  have HL := Lib.hid hL
  clear hA hB hL
  have HX := Lib.hid ((Bx.new w 24 (.slice A n c) (.slice V m d)).alloc (.cells #[.slice A2 n2 c2, .slice V2 m2 d2] 24))
  have HY := Lib.hid (show Bx ((w.alloc (.cells #[.slice A n c, .slice V m d] 24)).alloc (.cells #[.slice A2 n2 c2, .slice V2 m2 d2] 24)) (w.heap.size + 1) 24 (.slice A2 n2 c2) (.slice V2 m2 d2) by
    have h_ := Bx.new (w.alloc (.cells #[.slice A n c, .slice V m d] 24)) 24 (.slice A2 n2 c2) (.slice V2 m2 d2)
    rw [World.size_alloc] at h_
    exact h_)
  have HB := Lib.hid (show Below w.heap.size w ((w.alloc (.cells #[.slice A n c, .slice V m d] 24)).alloc (.cells #[.slice A2 n2 c2, .slice V2 m2 d2] 24)) from (al1 _ _).alloc (by simp) _)
  obtain ⟨W, hW⟩ : ∃ W, (w.alloc (.cells #[.slice A n c, .slice V m d] 24)).alloc (.cells #[.slice A2 n2 c2, .slice V2 m2 d2] 24) = W := ⟨_, rfl⟩
  rw [hW] at HX HY HB
  have HW := Lib.hid hW
  clear hW
  have C1 := fun w => Lib.hid (few A n c V m d w (by omega) (by omega))
  have C2 := fun w => Lib.hid (few A2 n2 c2 V2 m2 d2 w (by omega) (by omega))
  rw [show (decide (n ≤ 100) && decide (m ≤ 100)) = true by simp; omega] at C1
  rw [show (decide (n2 ≤ 100) && decide (m2 ≤ 100)) = true by simp; omega] at C2
  go_enter Try.func3, Try.ntmps3
  go_wp2_with fail
  rw [HW.out]
  refine (awake _).mono ?_
  rintro e w1 ⟨rfl, hb⟩
  have HB1 := Lib.hid (HB.out.trans (hb.mono HB.out.size))
  have HX1 := Lib.hid (HX.out.keep hb)
  have HY1 := Lib.hid (HY.out.keep hb)
  clear hb
  have x0 := HX1.out.c0
  have x1 := HX1.out.c1
  have xl := HX1.out.lt
  have y0 := HY1.out.c0
  have y1 := HY1.out.c1
  have yl := HY1.out.lt
  go_wp2_with fail

  refine ((C1 _).out).mono ?_
  rintro e w2 ⟨rfl, hb⟩
  have HB2 := Lib.hid (HB1.out.trans (hb.mono HB1.out.size))
  have HX2 := Lib.hid (HX1.out.keep hb)
  have HY2 := Lib.hid (HY1.out.keep hb)
  clear hb
  clear x0 x1 xl y0 y1 yl
  have x0 := HX2.out.c0
  have x1 := HX2.out.c1
  have xl := HX2.out.lt
  have y0 := HY2.out.c0
  have y1 := HY2.out.c1
  have yl := HY2.out.lt
  go_wp2_with fail

  refine ((C2 _).out).mono ?_
  rintro e w3 ⟨rfl, hb⟩
  have HB3 := Lib.hid (HB2.out.trans (hb.mono HB2.out.size))
  have HX3 := Lib.hid (HX2.out.keep hb)
  have HY3 := Lib.hid (HY2.out.keep hb)
  clear hb
  clear x0 x1 xl y0 y1 yl
  have x0 := HX3.out.c0
  have x1 := HX3.out.c1
  have xl := HX3.out.lt
  have y0 := HY3.out.c0
  have y1 := HY3.out.c1
  have yl := HY3.out.lt
  go_wp2_with fail

  refine (HA_.out w3 HB3.out).mono ?_
  rintro e w4 ⟨A4, c4, V4, d4, rfl, hM, hb⟩
  have HB4 := Lib.hid (HB3.out.trans (hb.mono HB3.out.size))
  have HX4 := Lib.hid (HX3.out.keep hb)
  have HY4 := Lib.hid (HY3.out.keep hb)
  have HM4 := Lib.hid (hM.keep (al1 w4 (.cells #[.slice A4 L c4, .slice V4 L d4] 24)))
  have HP4 := Lib.hid (Bx.new w4 24 (.slice A4 L c4) (.slice V4 L d4))
  have HX4' := Lib.hid (HX4.out.alloc (.cells #[.slice A4 L c4, .slice V4 L d4] 24))
  have HY4' := Lib.hid (HY4.out.alloc (.cells #[.slice A4 L c4, .slice V4 L d4] 24))
  have HB4' := Lib.hid (HB4.out.alloc HB4.out.size (.cells #[.slice A4 L c4, .slice V4 L d4] 24))
  clear hM
  clear hb
  clear x0 x1 xl y0 y1 yl
  have x0 := HX4'.out.c0
  have x1 := HX4'.out.c1
  have y0 := HY4'.out.c0
  have y1 := HY4'.out.c1
  have xl := HX4.out.lt
  have yl := HY4.out.lt
  have z0 := HX4.out.c0
  have z1 := HX4.out.c1
  have v0 := HY4.out.c0
  have v1 := HY4.out.c1
  go_wp2_with fail
  refine (HB_.out _ HB4'.out).mono ?_
  rintro e w5 ⟨A5, c5, V5, d5, rfl, hM, hb⟩
  have HB5 := Lib.hid (HB4'.out.trans (hb.mono HB4'.out.size))
  have HM5 := Lib.hid ((HM4.out.keep hb).keep (al1 w5 (.cells #[.slice A5 L c5, .slice V5 L d5] 24)))
  have HM6 := Lib.hid (hM.keep (al1 w5 (.cells #[.slice A5 L c5, .slice V5 L d5] 24)))
  have HP5 := Lib.hid (HP4.out.keep hb)
  have HB6 := Lib.hid (HB5.out.alloc HB5.out.size (.cells #[.slice A5 L c5, .slice V5 L d5] 24))
  clear hb hM x0 x1 y0 y1 xl yl z0 z1 v0 v1
  have p0 := HP5.out.c0
  have p1 := HP5.out.c1
  have pl := HP5.out.lt
  go_wp2_with fail
  refine (same_r A4 L c4 V4 d4 A5 L c5 V5 d5 rs _ HM5.out HM6.out HL.out HL.out (by omega) rfl).mono ?_
  rintro e w7 ⟨rfl, hb⟩
  have HB7 := Lib.hid (HB6.out.trans (hb.mono HB6.out.size))
  clear hb
  go_wp2
  go_ret
  exact ⟨rfl, HB7.out⟩

theorem walk (A : Option Addr) (n c : Nat) (V : Option Addr) (m d : Nat) (xs vs : List Int) {w : World} (G : GivenT w A n c V m d xs vs) (A2 : Option Addr) (n2 c2 : Nat) (V2 : Option Addr) (m2 d2 : Nat) (ys us : List Int) (G2 : GivenT w A2 n2 c2 V2 m2 d2 ys us) (w0 : World) (hw : w = w0) (_ : w = w0) :
    Calls Try.prog 3 #[sg A n c V m d, sg A2 n2 c2 V2 m2 d2] w0 fun e w' => e = .returned (.bool true) ∧ Below w0.heap.size w0 w' := by
  subst hw
  have hn := G.n
  have hm := G.m
  have hn2 := G2.n
  have hm2 := G2.m
  unfold maxLen at hn hm hn2 hm2
  by_cases hf : (n ≤ 100 ∧ m ≤ 100) ∧ n2 ≤ 100 ∧ m2 ≤ 100
  · obtain ⟨⟨f1, f2⟩, f3, f4⟩ := hf
    cases hr : rg xs vs
    · exact short A n c V m d A2 n2 c2 V2 m2 d2 w f1 f2 f3 f4 [] 0 1 rfl (by omega)
        (fun W hb => (add_no A n c V m d A2 n2 c2 V2 m2 d2 xs vs ys us W ((G.s.below hb (Nat.le_refl _)).wide hb.size) ((G2.s.below hb (Nat.le_refl _)).wide hb.size) (by omega) (by omega) false _ hr rfl rfl).mono fun e w' h => al_of rfl h)
        (fun W hb => (radd_no A n c V m d A2 n2 c2 V2 m2 d2 xs vs ys us W ((G.s.below hb (Nat.le_refl _)).wide hb.size) ((G2.s.below hb (Nat.le_refl _)).wide hb.size) (by omega) (by omega) false _ hr rfl rfl).mono fun e w' h => al_of rfl (am_of h))
    · cases hr2 : rg ys us
      · exact short A n c V m d A2 n2 c2 V2 m2 d2 w f1 f2 f3 f4 [] 0 1 rfl (by omega)
          (fun W hb => (add_no A n c V m d A2 n2 c2 V2 m2 d2 xs vs ys us W ((G.s.below hb (Nat.le_refl _)).wide hb.size) ((G2.s.below hb (Nat.le_refl _)).wide hb.size) (by omega) (by omega) _ false rfl hr2 (by simp)).mono fun e w' h => al_of rfl h)
          (fun W hb => (radd_no A n c V m d A2 n2 c2 V2 m2 d2 xs vs ys us W ((G.s.below hb (Nat.le_refl _)).wide hb.size) ((G2.s.below hb (Nat.le_refl _)).wide hb.size) (by omega) (by omega) _ false rfl hr2 (by simp)).mono fun e w' h => al_of rfl (am_of h))
      · obtain ⟨ps, hp, rfl, rfl⟩ := rg_pairs hr
        obtain ⟨qs, hq, rfl, rfl⟩ := rg_pairs hr2
        obtain rfl : n = m := by rw [← G.s.a.1, ← G.s.v.1]; simp
        obtain rfl : n2 = m2 := by rw [← G2.s.a.1, ← G2.s.v.1]; simp
        have hS : Sr w w.heap.size A V n ps := G.s
        have hS2 : Sr w w.heap.size A2 V2 n2 qs := G2.s
        by_cases hfit : AllFit ps qs
        · exact short A n c V n d A2 n2 c2 V2 n2 d2 w f1 f2 f3 f4 (addL ps qs) _ 0 rfl (by have := addL_len (ps := ps) (qs := qs); have := hS.len; have := hS2.len; omega)
            (fun W hb => (add_fit A n c V d A2 n2 c2 V2 d2 ps qs W ((hS.below hb (Nat.le_refl _)).wide hb.size) ((hS2.below hb (Nat.le_refl _)).wide hb.size) (by omega) (by omega) hp hq hfit).mono fun e w' h => al_of rfl h)
            (fun W hb => (radd_fit A n c V d A2 n2 c2 V2 d2 ps qs W ((hS.below hb (Nat.le_refl _)).wide hb.size) ((hS2.below hb (Nat.le_refl _)).wide hb.size) (by omega) (by omega) hp hq hfit).mono fun e w' h => al_of rfl h)
        · exact short A n c V n d A2 n2 c2 V2 n2 d2 w f1 f2 f3 f4 [] 0 5 rfl (by omega)
            (fun W hb => (add_over A n c V d A2 n2 c2 V2 d2 ps qs W ((hS.below hb (Nat.le_refl _)).wide hb.size) ((hS2.below hb (Nat.le_refl _)).wide hb.size) (by omega) (by omega) hp hq hfit).mono fun e w' h => al_of rfl h)
            (fun W hb => (radd_over A n c V d A2 n2 c2 V2 d2 ps qs W ((hS.below hb (Nat.le_refl _)).wide hb.size) ((hS2.below hb (Nat.le_refl _)).wide hb.size) (by omega) (by omega) hp hq hfit).mono fun e w' h => al_of rfl h)
  · refine long A n c V m d A2 n2 c2 V2 m2 d2 w hn hm hn2 hm2 _ _ rfl rfl ?_
    simp
    omega

set_option maxRecDepth 100000 in
theorem lifted (os : Os) (started : os.Started) (H : Type) (enc : TypeId × Value → H) :
    ReturnsInHanded {} Try.checked os 3 .any (Rows.stepAddsSpec.pre6 enc Try.prog Try.f3 Rows.stepAddsRow.domain false) (Rows.stepAddsSpec.post enc Try.prog Try.f3 false true false false) := by
  refine returnsInHanded_of_change (C := Try.checked) Stp.own started (by kernel_rfl) Try.func3
    (ChangeSpec.witness6 (enc := enc) (C := Try.checked) false ⟨#[], #[.agg #[.slice none 0 0, .slice none 0 0], .agg #[.slice none 0 0, .slice none 0 0]], []⟩ 8 (by kernel_rfl) (by kernel_rfl) (by kernel_rfl) (by kernel_rfl)) ?_
  intro W base args ds gs before hval0 hW hcnd _
  have hval : ∀ (j : Nat) t v, Try.f3.params[j]? = some t → args[j]? = some v → Value.okWide Try.prog W .any base t v := hval0
  have hW' := hW
  obtain ⟨p, q, hA0, hV, rfl, hfz, hnd⟩ := hW
  have hA : DataW.TrodAll enc Try.prog W 0 (fun _ => true) true Try.f3.params.toList args.toList ds p := hA0
  rw [Try.params3] at hA hval
  obtain ⟨v0, vs0, d0, ds0, p0, q0, hargs, rfl, rfl, h0, r0⟩ := trodAll_cons hA
  obtain ⟨v1, vs1, d1, ds1, p1, q1, rfl, rfl, rfl, h1, r1⟩ := trodAll_cons r0
  obtain ⟨rfl, rfl, rfl⟩ := trodAll_nil r1
  obtain rfl : args = #[v0, v1] := by cases args; simp_all
  obtain ⟨rfl, rfl⟩ := trodVars_none hV
  have k0 := h0
  have lt0 : ∀ x ∈ p0, x.block < W.heap.size := by obtain ⟨m, hm⟩ := k0; exact DataW.trod_lt m _ _ _ hm
  obtain ⟨A0, n0, c0, V0, m0, e0, xs0, ys0, rfl, g0⟩ := Stp.open_step (hval 0 24 v0 rfl rfl) h0
  have k1 := h1
  have lt1 : ∀ x ∈ p1, x.block < W.heap.size := by obtain ⟨m, hm⟩ := k1; exact DataW.trod_lt m _ _ _ hm
  obtain ⟨A1, n1, c1, V1, m1, e1, xs1, ys1, rfl, g1⟩ := Stp.open_step (hval 1 24 v1 rfl rfl) h1
  clear hA0 hval0
  refine (walk A0 n0 c0 V0 m0 e0 xs0 ys0 g0 A1 n1 c1 V1 m1 e1 xs1 ys1 g1 W rfl rfl).mono fun e W' ⟨he, bel⟩ => ?_
  subst he
  exact ⟨_, rfl, _, _, _, [], _, [], hW', trodAll_mk1 (shut_bool Try.underlying4 _), (trodAll_cons_mk (Below.trod Stp.laidOut (by kernel_rfl) (of_decide_eq_true (by kernel_rfl)) k0 bel lt0) (trodAll_cons_mk (Below.trod Stp.laidOut (by kernel_rfl) (of_decide_eq_true (by kernel_rfl)) k1 bel lt1) trodAll_mk0)), rfl, bel.frame _, fun h => by cases h⟩

theorem over : Rows.stepAddsRow.holds Try.pinned (OpenSpec.ofChange Rows.stepAddsSpec) :=
  OpenClaim.holds_of_wide 3 Try.f3 rfl rfl rfl rfl rfl rfl rfl ⟨rfl, rfl, rfl, rfl, rfl⟩ rfl rfl rfl rfl rfl (by kernel_rfl) Try.func3 (by kernel_rfl)
    (of_decide_eq_true (by kernel_rfl)) (by unfold Func.isWrapper; first | (rw [if_pos (by decide +kernel)]; kernel_rfl) | (rw [if_neg (by decide +kernel)]; exact ⟨rfl, rfl⟩))
    (fun os started H enc _ => lifted os started H enc)

theorem proved : Rows.StepAddsSaid := over
end Go.Proofs.Ytngpcabengmoiaa.stepAdds
