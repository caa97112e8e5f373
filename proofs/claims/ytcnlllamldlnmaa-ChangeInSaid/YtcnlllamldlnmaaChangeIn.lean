/-
  The statement ChangeIn holds: for every input the call returns true, and each argument reads afterwards as it read before. Conditions: none beside those that the row itself bears.
-/
import Derived.Test.YtcnlllamldlnmaaLaws
namespace Go.Proofs.Ytcnlllamldlnmaa.changeIn
open Go.ChangeShapes Go.WideShapes Go.ChangeAt Go.RowKit Ba Cv Sp Te St Ag Tm
set_option linter.unusedVariables false

set_option maxRecDepth 100000 in
set_option maxHeartbeats 4000000 in
theorem walk {w : World} (h : Hr) (g : GivenH w h) : Calls Try.prog 9 #[hg h] w (Yes w true) := by
  obtain ⟨W, hW⟩ : ∃ W, w.alloc (.cells (hc h) 33) = W := ⟨_, rfl⟩
  have H0 := Lib.hid (show HX w W h by rw [← hW]; exact HX.start w h)
  have HW := Lib.hid hW
  have G := Lib.hid g
  obtain ⟨Bv, hBv⟩ : ∃ Bv, h.B = Bv := ⟨_, rfl⟩
  have HBv := Lib.hid hBv
  clear hW g hBv
  go_enter Try.func9, Try.ntmps9
  go_wp2_with fail
  rw [HW.out]
  clear HW
  refine (few_ h W (G.out.below H0.out.b)).mono ?_
  rintro e w1 ⟨q, rfl, hq, hb1⟩
  have H1 := Lib.hid (H0.out.next hb1)
  clear hb1 H0
  cases q
  · clear hq G HBv
    go_wp2_with fail
    refine (alive11 _).mono ?_
    rintro e w2 ⟨rfl, hb2⟩
    have H2 := Lib.hid (H1.out.next hb2)
    clear hb2
    go_wp2
    go_ret
    exact ⟨rfl, H2.out.b⟩
  obtain ⟨hm, hn, hk⟩ := hq rfl
  have HSm := Lib.hid (G.out.small (by omega) (by omega) fun r hr => Nat.le_trans (hk r hr) (by omega))
  clear hq hk hn
  have x0 := H1.out.x.c 0
  have x1 := H1.out.x.c 1
  have x2 := H1.out.x.c 2
  have x3 := H1.out.x.c 3
  have x4 := H1.out.x.c 4
  have x5 := H1.out.x.c 5
  have x6 := H1.out.x.c 6
  have x7 := H1.out.x.c 7
  have x8 := H1.out.x.c 8
  have x9 := H1.out.x.c 9
  simp at x0 x1 x2 x3 x4 x5 x6 x7 x8 x9
  have CHI := Lib.hid (history_ h w1 (G.out.M.below H1.out.b) HSm.out)
  obtain ⟨u, hu⟩ : ∃ u, hst h.v = u := ⟨_, rfl⟩
  rw [hu] at CHI
  have HU := Lib.hid hu
  clear hu
  go_wp2_with fail
  refine CHI.out.mono ?_
  rintro e w2 ⟨rfl, hb2⟩
  have H2 := Lib.hid (H1.out.next hb2)
  clear hb2 H1 CHI x0 x1 x2 x3 x4 x5 x6 x7 x8 x9
  cases u
  · clear G HBv HSm
    go_wp2_with fail
    refine (alive11 _).mono ?_
    rintro e w3 ⟨rfl, hb3⟩
    have H3 := Lib.hid (H2.out.next hb3)
    clear hb3
    go_wp2
    go_ret
    exact ⟨rfl, H3.out.b⟩
  have HST := Lib.hid (show steps h.s h.bk h.v.hs = true by
    have := HU.out
    unfold hst at this
    rw [Bool.and_eq_true] at this
    exact this.2)
  have x0 := H2.out.x.c 0
  have x1 := H2.out.x.c 1
  have x2 := H2.out.x.c 2
  have x3 := H2.out.x.c 3
  have x4 := H2.out.x.c 4
  have x5 := H2.out.x.c 5
  have x6 := H2.out.x.c 6
  have x7 := H2.out.x.c 7
  have x8 := H2.out.x.c 8
  have x9 := H2.out.x.c 9
  simp at x0 x1 x2 x3 x4 x5 x6 x7 x8 x9
  rw [HBv.out] at x9
  clear HU
  go_wp2
  clear x0 x1 x2 x3 x4 x5 x6 x7 x8 x9
  go_loopw [3, 5, 20] (fun vl v5 vi w' => ∃ (i : Nat) (l : Int) (W : World), i ≤ h.m ∧ vl = .int .i64 l ∧ vi = .int .i64 (i : Int) ∧ W = w' ∧ Hid (HX w W h ∧ steps h.s l (h.v.hs.drop i) = true)) (fun _ _ vi _ => h.m - (intOf vi).toNat)
  case atStart => exact ⟨0, h.bk, w2, Nat.zero_le _, rfl, rfl, rfl, Lib.hid ⟨H2.out, HST.out⟩⟩
  case round =>
    clear H2 HST
    obtain ⟨i, l, W1, him, rfl, rfl, rfl, HK⟩ := hrel
    have x0 := HK.out.1.x.c 0
    have x1 := HK.out.1.x.c 1
    have x2 := HK.out.1.x.c 2
    have x3 := HK.out.1.x.c 3
    have x4 := HK.out.1.x.c 4
    have x5 := HK.out.1.x.c 5
    have x6 := HK.out.1.x.c 6
    have x7 := HK.out.1.x.c 7
    have x8 := HK.out.1.x.c 8
    have x9 := HK.out.1.x.c 9
    simp at x0 x1 x2 x3 x4 x5 x6 x7 x8 x9
    have hlx := HK.out.1.x.lt
    by_cases hlt : i < h.m
    · obtain ⟨hH, hst⟩ := HK.out
      obtain ⟨ad, r, hB, hb, hr, hn, hcv, hv⟩ := (G.out.M.below hH.b).get hlt
      have eB := HBv.out
      rw [hB] at eB
      subst eB
      obtain ⟨W2, hW2⟩ : ∃ W2, W1.alloc (.cells (vc r) 26) = W2 := ⟨_, rfl⟩
      have hb2 : Below W1.heap.size W1 W2 := hW2 ▸ alloc_ _ _
      have H2 := Lib.hid (hH.next hb2)
      have HY := Lib.hid (show Bx W2 W1.heap.size 26 (vc r) from hW2 ▸ Bx.new W1 26 (vc r))
      rw [steps_get hv] at hst
      have C1 := fun (W' : World) (hb' : Below W2.heap.size W2 W') => Lib.hid (right0 r W' ((hcv.below hb2).below hb') (by have := HSm.out.k r (List.mem_of_getElem? hr); unfold maxLen; omega))
      have C2 := fun w => Lib.hid (rspan_in h.s r.v.dy w)
      rw [Bool.and_eq_true, Bool.and_eq_true, Bool.and_eq_true] at hst
      obtain ⟨⟨s1, s2⟩, s3, s4⟩ := hst
      rw [s1] at C1
      rw [s2] at C2
      have s5 := of_decide_eq_true s3
      have t1 : decide (r.v.bk < l) = false := decide_eq_false (by omega)
      have HST := Lib.hid s4
      have HLT := Lib.hid hlt
      obtain ⟨c0, c1', c2', c3', c4', c5', c6', c7', c8'⟩ := hn
      have hlt2 : (i : Int) < (h.m : Int) := by omega
      have HW2 := Lib.hid hW2
      have q0 := HY.out.c 0
      have q1 := HY.out.c 1
      have q2 := HY.out.c 2
      have q3 := HY.out.c 3
      have q4 := HY.out.c 4
      have q5 := HY.out.c 5
      have q6 := HY.out.c 6
      have q7 := HY.out.c 7
      have q8 := HY.out.c 8
      simp at q0 q1 q2 q3 q4 q5 q6 q7 q8
      have hlq := HY.out.lt
      clear hr hv hcv hH HK hb2 hW2 hB hlt s1 s2 s3 s4 s5 hb
      go_wp2_with fail
      rw [HW2.out]
      refine (C2 _).out.mono ?_
      rintro e w3 ⟨rfl, hb3⟩
      have H3 := Lib.hid (H2.out.next hb3)
      have HY3 := Lib.hid (HY.out.keep hb3)
      have C3 := C1 _ hb3
      clear hb3 C1 C2 q0 q1 q2 q3 q4 q5 q6 q7 q8 hlq x0 x1 x2 x3 x4 x5 x6 x7 x8 x9 hlx
      have q0 := HY3.out.c 0
      have q1 := HY3.out.c 1
      have q2 := HY3.out.c 2
      have q3 := HY3.out.c 3
      have q4 := HY3.out.c 4
      have q5 := HY3.out.c 5
      have q6 := HY3.out.c 6
      have q7 := HY3.out.c 7
      have q8 := HY3.out.c 8
      simp at q0 q1 q2 q3 q4 q5 q6 q7 q8
      go_wp2_with fail
      refine C3.out.mono ?_
      rintro e w4 ⟨rfl, hb4⟩
      have H4 := Lib.hid (H3.out.next hb4)
      have HY4 := Lib.hid (HY3.out.keep hb4)
      clear hb4 C3 q0 q1 q2 q3 q4 q5 q6 q7 q8
      have q0 := HY4.out.c 0
      have q1 := HY4.out.c 1
      have q2 := HY4.out.c 2
      have q3 := HY4.out.c 3
      have q4 := HY4.out.c 4
      have q5 := HY4.out.c 5
      have q6 := HY4.out.c 6
      have q7 := HY4.out.c 7
      have q8 := HY4.out.c 8
      simp at q0 q1 q2 q3 q4 q5 q6 q7 q8
      go_wp2
      go_roundw
      case rel => exact ⟨i + 1, _, _, by have := HLT.out; omega, rfl, by go_num, rfl, Lib.hid ⟨H4.out, HST.out⟩⟩
      case measure => have := HLT.out; simp [intOf]; omega
    · have HE := Lib.hid HK.out.1
      clear HK
      go_wp2_with fail
      refine (alive11 _).mono ?_
      rintro e w3 ⟨rfl, hb3⟩
      have H3 := Lib.hid (HE.out.next hb3)
      clear hb3
      go_wp2
      go_ret
      exact ⟨rfl, H3.out.b⟩

set_option maxRecDepth 100000 in
theorem lifted (os : Os) (started : os.Started) (H : Type) (enc : TypeId × Value → H) :
    ReturnsInHanded {} Try.checked os 9 .any (Rows.changeInSpec.pre6 enc Try.prog Try.f9 Rows.changeInRow.domain false) (Rows.changeInSpec.post enc Try.prog Try.f9 false true false false) := by
  refine returnsInHanded_of_change_sized (C := Try.checked) Tm.own started (by kernel_rfl) Try.func9
    (ChangeSpec.witness6 (enc := enc) (C := Try.checked) false ⟨#[], #[.agg #[.int .i64 0, .int .i64 0, .int .i64 0, .int .i64 0, .int .i64 0, .int .i64 0, .int .i64 0, .int .i64 0, .slice none 0 0, .slice none 0 0]], []⟩ 8 (by kernel_rfl) (by kernel_rfl) (by kernel_rfl) (by kernel_rfl)) ?_
  intro W base args ds gs before hval0 hW hcnd hsz0 _
  have hval : ∀ (j : Nat) t v, Try.f9.params[j]? = some t → args[j]? = some v → Value.okWide Try.prog W .any base t v := hval0
  have hW' := hW
  have hsz : (DataW.weightsEach Try.prog (Try.f9.params.toList ++ Rows.changeInSpec.plain.varTypes Try.prog) (ds ++ gs)).all (· ≤ reachBytes) = true := hsz0
  obtain ⟨p, q, hA0, hV, rfl, hfz, hnd⟩ := hW
  have hA : DataW.TrodAll enc Try.prog W 0 (fun _ => true) true Try.f9.params.toList args.toList ds p := hA0
  rw [Try.params9] at hA hval hsz
  obtain ⟨v0, vs0, d0, ds0, p0, q0, hargs, rfl, rfl, h0, r0⟩ := trodAll_cons hA
  obtain ⟨rfl, rfl, rfl⟩ := trodAll_nil r0
  obtain rfl : args = #[v0] := by cases args; simp_all
  obtain ⟨rfl, rfl⟩ := trodVars_none hV
  have k0 := h0
  have lt0 : ∀ x ∈ p0, x.block < W.heap.size := by obtain ⟨m, hm⟩ := k0; exact DataW.trod_lt m _ _ _ hm
  obtain ⟨y0, rfl, g0⟩ := Tm.open_history (hval 0 33 v0 rfl rfl) h0 (fun k hk => of_decide_eq_true (List.all_eq_true.1 hsz _ (DataW.weights_mem_each (j := 0) rfl rfl k hk)))
  clear hA0 hval0 hsz hsz0
  refine (walk y0 g0).mono fun e W' ⟨he, bel⟩ => ?_
  subst he
  exact ⟨_, rfl, _, _, _, [], _, [], hW', trodAll_mk1 (shut_bool Try.underlying4 _), (trodAll_cons_mk (Below.trod Tm.laidOut (by kernel_rfl) (of_decide_eq_true (by kernel_rfl)) k0 bel lt0) trodAll_mk0), rfl, bel.frame _, fun h => by cases h⟩

theorem over : Rows.changeInRow.holds Try.pinned (OpenSpec.ofChange Rows.changeInSpec) :=
  OpenClaim.holds_of_wide 9 Try.f9 rfl rfl rfl rfl rfl rfl rfl ⟨rfl, rfl, rfl, rfl, rfl⟩ rfl rfl rfl rfl rfl (by kernel_rfl) Try.func9 (by kernel_rfl)
    (of_decide_eq_true (by kernel_rfl)) (by unfold Func.isWrapper; first | (rw [if_pos (by decide +kernel)]; kernel_rfl) | (rw [if_neg (by decide +kernel)]; exact ⟨rfl, rfl⟩))
    (fun os started H enc _ => lifted os started H enc)

theorem proved : Rows.ChangeInSaid := over
end Go.Proofs.Ytcnlllamldlnmaa.changeIn
