/-
  The statement TariffBehind holds: for every input the call returns true, and each argument reads afterwards as it read before. Conditions: none beside those that the row itself bears.
-/
import Derived.Test.YthjlhjbblnoldaaLaws
namespace Go.Proofs.Ythjlhjbblnoldaa.tariffBehind
open Go.ChangeShapes Go.WideShapes Go.ChangeAt Go.RowKit Ba Tf Trf
set_option linter.unusedVariables false


set_option maxRecDepth 100000 in
set_option maxHeartbeats 4000000 in
theorem walk (A : Option Addr) (n c : Nat) (rs : List Rw) {w : World} (G : GivenT w A n c rs) (r : Rw) (GV : GivenV w r) (day : Int) (_ : -9223372036854775808 ≤ day ∧ day ≤ 9223372036854775807) :
    Calls Try.prog 5 #[tg A n c, vg r, .int .i64 day] w (Yes w true) := by
  have HG := Lib.hid G
  have HV := Lib.hid GV
  have hbig := G.big
  have hnil := G.nil
  have HNIL := Lib.hid hnil
  obtain ⟨N, hN⟩ : ∃ N, 1 + n = N := ⟨_, rfl⟩
  have HN := Lib.hid hN
  have H0 := Lib.hid (B2.tv (w := w) (A := A) (n := n) (c := c) (r := r))
  have HO := Lib.hid (Own.one ((w.alloc (.cells #[.slice A n c] 29)).alloc (.cells (vc r) 26)) r)
  have HRW := Lib.hid (show Raws (((w.alloc (.cells #[.slice A n c] 29)).alloc (.cells (vc r) 26)).alloc (.cells (vc r) 26)) (· < w.heap.size) A n rs from G.r.keep (fun p hp => ((H0.out.b.alloc H0.out.b.size _).cell hp)) fun _ h => h)
  clear G GV hnil hN
  go_enter Try.func5, Try.ntmps5
  go_wp2_with (at_builtin; refine wpList_app _ rfl _ _ rfl (w.heap.size + 2) (some ⟨w.heap.size + 2, 0, none⟩) 1 1 [r] rfl (by have := HO.out; rw [World.size_alloc, World.size_alloc] at this; exact this) (· < w.heap.size) A n c rs rfl HRW.out HNIL.out N HN.out (by omega) (by simp) ?_; intro D d w1 hO1 hg1)
  have HO1 := Lib.hid hO1
  have H1 := Lib.hid (show B2 w w1 w.heap.size (w.heap.size + 1) A n c r from H0.out.grown (by have := HO.out; exact this) (by rw [World.size_alloc, World.size_alloc]; exact hg1))
  have HRO := Lib.hid (hO1.raws)
  clear hO1 hg1 HO HRW H0
  have CF := Lib.hid (few_ D N d ([r] ++ rs) w1 (HRO.out.keep (fun _ _ => rfl) fun b hb => hb.2) (by have := HN.out; omega) (by
    intro x hx
    rcases List.mem_append.1 hx with hx | hx
    · rw [List.mem_singleton.1 hx]; exact HV.out.l
    · exact HG.out.l x hx))
  clear HRO HO1
  cases hf : fw N ([r] ++ rs)
  · rw [hf] at CF
    clear hf
    refine CF.out.mono ?_
    rintro e w2 ⟨rfl, hb2⟩
    have HB2 := Lib.hid (H1.out.next hb2)
    clear hb2 CF H1
    go_wp2_with fail
    refine (alive_ _).mono ?_
    rintro e w3 ⟨rfl, hb3⟩
    have HB3 := Lib.hid (HB2.out.next hb3)
    clear hb3 HB2
    go_wp2
    go_ret
    exact ⟨rfl, HB3.out.b⟩
  obtain ⟨f1, f2⟩ := fw_yes hf
  have hS : Sm r := sm_of f2 r (by simp)
  have hVS : Vers w A n rs := HG.out.vers (by rw [tl_append] at f2; omega)
  have hn1 : n ≤ 1000 := by have := HN.out; omega
  have HSm := Lib.hid hS
  have HVS := Lib.hid hVS
  have HCAP := Lib.hid HG.out.cap
  rw [hf] at CF
  clear hf f1 f2 hS hVS hbig HN
  refine CF.out.mono ?_
  rintro e w2 ⟨rfl, hb2⟩
  have HB2 := Lib.hid (H1.out.next hb2)
  clear hb2 CF H1
  have CP := Lib.hid (put_ A n c rs r w2 (HVS.out.below HB2.out.b) hn1 (HV.out.m.below HB2.out.b) HSm.out HCAP.out HNIL.out)
  have x0 := HB2.out.x.c 0
  simp at x0
  have y0 := HB2.out.y.c 0
  have y1 := HB2.out.y.c 1
  have y2 := HB2.out.y.c 2
  have y3 := HB2.out.y.c 3
  have y4 := HB2.out.y.c 4
  have y5 := HB2.out.y.c 5
  have y6 := HB2.out.y.c 6
  have y7 := HB2.out.y.c 7
  have y8 := HB2.out.y.c 8
  simp at y0 y1 y2 y3 y4 y5 y6 y7 y8
  have xl := HB2.out.x.lt
  obtain ⟨code, hcode⟩ : ∃ code, cd (rs.map Rw.v) r.v = code := ⟨_, rfl⟩
  go_wp2_with fail
  refine CP.out.mono ?_
  rintro e w3 ⟨A3, n3, c3, rs3, rfl, hV3, hE3, hc3, hz3, hb3⟩
  rw [hcode]
  have HB3 := Lib.hid (HB2.out.next hb3)
  have HX3 := Lib.hid (Bx.new w3 29 #[.slice A3 n3 c3])
  have HB3a := Lib.hid (HB3.out.next (alloc_ w3 (.cells #[.slice A3 n3 c3] 29)))
  clear hb3 CP HB2 x0 xl y0 y1 y2 y3 y4 y5 y6 y7 y8
  by_cases h0 : code = 0
  · skip
    subst h0
    have hE4 := hE3.trans (pt_ok hcode)
    have HR := Lib.hid (rgt_rise (cd_zero hcode).1).2
    have HH := Lib.hid (has_false (cd_zero hcode).2.2.1)
    have HV3 := Lib.hid hV3
    have hn3 : n3 ≤ 1000 := by have h2 := (rgt_rise (cd_zero hcode).1).1; have h1 := hV3.len; rw [hE4, ins_length] at h1; omega
    have CA := fun w' (h : Below w3.heap.size w3 w') => Lib.hid (at_ A3 n3 c3 rs3 day w' (HV3.out.below h) hn3)
    have CB := fun w' (h : Below w.heap.size w w') => Lib.hid (at_ A n c rs day w' (HVS.out.below h) hn1)
    rw [hE4] at CA
    clear hE3 hE4 hcode hV3 hz3 hc3
    have x0 := HB3.out.x.c 0
    have xl := HB3.out.x.lt
    simp at x0
    obtain ⟨f, hf⟩ : ∃ f, cod day (ins r.v (rs.map Rw.v)) = f := ⟨_, rfl⟩
    obtain ⟨g, hg⟩ : ∃ g, cod day (rs.map Rw.v) = g := ⟨_, rfl⟩
    have HCF := Lib.hid hf
    have HCG := Lib.hid hg
    go_wp2_with fail
    refine (CA _ (alloc_ _ _)).out.mono ?_
    rintro e w4 ⟨r4, rfl, e4, m4, s4, hb4⟩
    rw [hf]
    have HB4 := Lib.hid (HB3a.out.next hb4)
    have HX4 := Lib.hid (Bx.new w4 26 (vc r4))
    have HB4a := Lib.hid (HB4.out.next (alloc_ w4 (.cells (vc r4) 26)))
    have HM4 := Lib.hid m4
    have HE4 := Lib.hid e4
    have HS4 := Lib.hid s4
    clear x0 xl hb4 m4 e4 s4 CA hf HB3 HB3a HX3
    have x0 := HB4.out.x.c 0
    have xl := HB4.out.x.lt
    simp at x0
    go_wp2_with fail
    refine (CB _ HB4a.out.b).out.mono ?_
    rintro e w5 ⟨r5, rfl, e5, m5, s5, hb5⟩
    rw [hg]
    have HB5 := Lib.hid (HB4a.out.next hb5)
    have HX4b := Lib.hid (HX4.out.keep hb5)
    have HX5 := Lib.hid (Bx.new w5 26 (vc r5))
    have HB5a := Lib.hid (HB5.out.next (alloc_ w5 (.cells (vc r5) 26)))
    have HM4b := Lib.hid ((HM4.out.below (alloc_ w4 (.cells (vc r4) 26))).below hb5)
    have HM5 := Lib.hid m5
    have HE5 := Lib.hid e5
    clear x0 xl hb5 m5 e5 s5 CB hg HX4 HM4 HB4 HB4a
    have y0 := HB5.out.y.c 0
    have yl := HB5.out.y.lt
    simp at y0
    have HI := Lib.hid (lst_ins (day := day) HR.out HH.out)
    by_cases d1 : r.v.fr ≤ day
    · have t1 : decide (r.v.fr ≤ day) = true := decide_eq_true d1
      cases hl : lst day (rs.map Rw.v) with
      | none =>
        have HL := Lib.hid (show lst day (ins r.v (rs.map Rw.v)) = some r.v by rw [HI.out, if_pos ⟨d1, fun z hz => by rw [hl] at hz; cases hz⟩])
        have HT := Lib.hid (tol_some HL.out)
        obtain rfl : f = 0 := by rw [← HCF.out, HT.out.2]
        obtain rfl : g = 7 := by rw [← HCG.out, (tol_none hl).2]
        clear d1 hl
        go_wp2_with fail
        refine (alive_ _).mono ?_
        rintro e w6 ⟨rfl, hb6⟩
        have HB6 := Lib.hid (HB5a.out.next hb6)
        have HX6 := Lib.hid ((HX4b.out.alloc (.cells (vc r5) 26)).keep hb6)
        have u0 := HX6.out.c 0
        have u1 := HX6.out.c 1
        have u2 := HX6.out.c 2
        have u3 := HX6.out.c 3
        have u4 := HX6.out.c 4
        have u5 := HX6.out.c 5
        have u6 := HX6.out.c 6
        have u7 := HX6.out.c 7
        have u8 := HX6.out.c 8
        simp at u0 u1 u2 u3 u4 u5 u6 u7 u8
        have v0 := HB6.out.y.c 0
        have v1 := HB6.out.y.c 1
        have v2 := HB6.out.y.c 2
        have v3 := HB6.out.y.c 3
        have v4 := HB6.out.y.c 4
        have v5 := HB6.out.y.c 5
        have v6 := HB6.out.y.c 6
        have v7 := HB6.out.y.c 7
        have v8 := HB6.out.y.c 8
        simp at v0 v1 v2 v3 v4 v5 v6 v7 v8
        have CS := Lib.hid (same_version r4 r (by rw [HE4.out, HT.out.1]) w6 ((HM4b.out.below (alloc_ w5 (.cells (vc r5) 26))).below hb6) (HV.out.m.below HB6.out.b) HS4.out)
        clear hb6 HX4b HM4b HB5a
        go_wp2_with fail
        refine CS.out.mono ?_
        rintro e w7 ⟨rfl, hb7⟩
        have HB7 := Lib.hid (HB6.out.next hb7)
        clear hb7 u0 v0 u1 v1 u2 v2 u3 v3 u4 v4 u5 v5 u6 v6 u7 v7 u8 v8
        go_wp2
        go_ret
        exact ⟨rfl, HB7.out.b⟩
      | some x =>
        by_cases d2 : x.fr < r.v.fr
        · skip
          have HL := Lib.hid (show lst day (ins r.v (rs.map Rw.v)) = some r.v by rw [HI.out, if_pos ⟨d1, fun z hz => by rw [hl] at hz; injection hz with hz; subst hz; exact d2⟩])
          have HT := Lib.hid (tol_some HL.out)
          obtain rfl : f = 0 := by rw [← HCF.out, HT.out.2]
          obtain rfl : g = 0 := by rw [← HCG.out, (tol_some hl).2]
          have t2 : decide (r5.v.fr < r.v.fr) = true := by rw [HE5.out, (tol_some hl).1]; exact decide_eq_true d2
          clear d1 hl d2
          go_wp2_with fail
          refine (alive_ _).mono ?_
          rintro e w6 ⟨rfl, hb6⟩
          have HB6 := Lib.hid (HB5a.out.next hb6)
          have HX6 := Lib.hid ((HX4b.out.alloc (.cells (vc r5) 26)).keep hb6)
          have u0 := HX6.out.c 0
          have u1 := HX6.out.c 1
          have u2 := HX6.out.c 2
          have u3 := HX6.out.c 3
          have u4 := HX6.out.c 4
          have u5 := HX6.out.c 5
          have u6 := HX6.out.c 6
          have u7 := HX6.out.c 7
          have u8 := HX6.out.c 8
          simp at u0 u1 u2 u3 u4 u5 u6 u7 u8
          have v0 := HB6.out.y.c 0
          have v1 := HB6.out.y.c 1
          have v2 := HB6.out.y.c 2
          have v3 := HB6.out.y.c 3
          have v4 := HB6.out.y.c 4
          have v5 := HB6.out.y.c 5
          have v6 := HB6.out.y.c 6
          have v7 := HB6.out.y.c 7
          have v8 := HB6.out.y.c 8
          simp at v0 v1 v2 v3 v4 v5 v6 v7 v8
          have CS := Lib.hid (same_version r4 r (by rw [HE4.out, HT.out.1]) w6 ((HM4b.out.below (alloc_ w5 (.cells (vc r5) 26))).below hb6) (HV.out.m.below HB6.out.b) HS4.out)
          clear hb6 HX4b HM4b HB5a
          go_wp2_with fail
          refine CS.out.mono ?_
          rintro e w7 ⟨rfl, hb7⟩
          have HB7 := Lib.hid (HB6.out.next hb7)
          clear hb7 u0 v0 u1 v1 u2 v2 u3 v3 u4 v4 u5 v5 u6 v6 u7 v7 u8 v8
          go_wp2
          go_ret
          exact ⟨rfl, HB7.out.b⟩
        · skip
          have HL := Lib.hid (show lst day (ins r.v (rs.map Rw.v)) = lst day (rs.map Rw.v) by rw [HI.out, if_neg (fun q => d2 (q.2 x hl))])
          obtain rfl : f = g := by rw [← HCF.out, ← HCG.out]; unfold cod; rw [HL.out]
          obtain rfl : f = 0 := by rw [← HCG.out, (tol_some hl).2]
          have t2 : decide (r5.v.fr < r.v.fr) = false := by rw [HE5.out, (tol_some hl).1]; exact decide_eq_false d2
          clear d1 hl d2
          go_wp2_with fail
          refine (alive_ _).mono ?_
          rintro e w6 ⟨rfl, hb6⟩
          have HB6 := Lib.hid (HB5a.out.next hb6)
          have HX6 := Lib.hid ((HX4b.out.alloc (.cells (vc r5) 26)).keep hb6)
          have HY6 := Lib.hid (HX5.out.keep hb6)
          have u0 := HX6.out.c 0
          have u1 := HX6.out.c 1
          have u2 := HX6.out.c 2
          have u3 := HX6.out.c 3
          have u4 := HX6.out.c 4
          have u5 := HX6.out.c 5
          have u6 := HX6.out.c 6
          have u7 := HX6.out.c 7
          have u8 := HX6.out.c 8
          simp at u0 u1 u2 u3 u4 u5 u6 u7 u8
          have v0 := HY6.out.c 0
          have v1 := HY6.out.c 1
          have v2 := HY6.out.c 2
          have v3 := HY6.out.c 3
          have v4 := HY6.out.c 4
          have v5 := HY6.out.c 5
          have v6 := HY6.out.c 6
          have v7 := HY6.out.c 7
          have v8 := HY6.out.c 8
          simp at v0 v1 v2 v3 v4 v5 v6 v7 v8
          have CS := Lib.hid (same_version r4 r5 (by rw [HE4.out, HE5.out]; unfold tol; rw [HL.out]) w6 ((HM4b.out.below (alloc_ w5 (.cells (vc r5) 26))).below hb6) ((HM5.out.below (alloc_ w5 (.cells (vc r5) 26))).below hb6) HS4.out)
          clear hb6 HX4b HM4b HB5a
          go_wp2_with fail
          refine CS.out.mono ?_
          rintro e w7 ⟨rfl, hb7⟩
          have HB7 := Lib.hid (HB6.out.next hb7)
          clear hb7 u0 v0 u1 v1 u2 v2 u3 v3 u4 v4 u5 v5 u6 v6 u7 v7 u8 v8
          go_wp2
          go_ret
          exact ⟨rfl, HB7.out.b⟩
    · have t1 : decide (r.v.fr ≤ day) = false := decide_eq_false d1
      have HL := Lib.hid (show lst day (ins r.v (rs.map Rw.v)) = lst day (rs.map Rw.v) by rw [HI.out, if_neg (fun q => d1 q.1)])
      obtain rfl : f = g := by rw [← HCF.out, ← HCG.out]; unfold cod; rw [HL.out]
      clear d1
      go_wp2_with fail
      refine (alive_ _).mono ?_
      rintro e w6 ⟨rfl, hb6⟩
      have HB6 := Lib.hid (HB5a.out.next hb6)
      have HX6 := Lib.hid ((HX4b.out.alloc (.cells (vc r5) 26)).keep hb6)
      have HY6 := Lib.hid (HX5.out.keep hb6)
      have u0 := HX6.out.c 0
      have u1 := HX6.out.c 1
      have u2 := HX6.out.c 2
      have u3 := HX6.out.c 3
      have u4 := HX6.out.c 4
      have u5 := HX6.out.c 5
      have u6 := HX6.out.c 6
      have u7 := HX6.out.c 7
      have u8 := HX6.out.c 8
      simp at u0 u1 u2 u3 u4 u5 u6 u7 u8
      have v0 := HY6.out.c 0
      have v1 := HY6.out.c 1
      have v2 := HY6.out.c 2
      have v3 := HY6.out.c 3
      have v4 := HY6.out.c 4
      have v5 := HY6.out.c 5
      have v6 := HY6.out.c 6
      have v7 := HY6.out.c 7
      have v8 := HY6.out.c 8
      simp at v0 v1 v2 v3 v4 v5 v6 v7 v8
      have CS := Lib.hid (same_version r4 r5 (by rw [HE4.out, HE5.out]; unfold tol; rw [HL.out]) w6 ((HM4b.out.below (alloc_ w5 (.cells (vc r5) 26))).below hb6) ((HM5.out.below (alloc_ w5 (.cells (vc r5) 26))).below hb6) HS4.out)
      clear hb6 HX4b HM4b HB5a
      go_wp2_with fail
      refine CS.out.mono ?_
      rintro e w7 ⟨rfl, hb7⟩
      have HB7 := Lib.hid (HB6.out.next hb7)
      clear hb7 u0 v0 u1 v1 u2 v2 u3 v3 u4 v4 u5 v5 u6 v6 u7 v7 u8 v8
      go_wp2
      go_ret
      exact ⟨rfl, HB7.out.b⟩
  · have hp0 : pt (rs.map Rw.v) r.v = [] := pt_no (by rw [hcode]; exact h0)
    rw [hp0] at hE3
    obtain rfl : n3 = 0 := by rw [← hV3.len, hE3]; rfl
    have q0 : (code == 0) = false := by simpa using h0
    have q0' : decide (code = 0) = false := decide_eq_false h0
    clear h0 hp0 hE3 hV3 hz3 hc3 hcode
    go_wp2_with fail
    refine (alive_ _).mono ?_
    rintro e w4 ⟨rfl, hb4⟩
    have HB4 := Lib.hid (HB3a.out.next hb4)
    have u0 := (HX3.out.keep hb4).c 0
    simp at u0
    clear hb4 HB3 HB3a HX3
    go_wp2
    go_ret
    exact ⟨rfl, HB4.out.b⟩

set_option maxRecDepth 100000 in
theorem lifted (os : Os) (started : os.Started) (H : Type) (enc : TypeId × Value → H) :
    ReturnsInHanded {} Try.checked os 5 .any (Rows.tariffBehindSpec.pre6 enc Try.prog Try.f5 Rows.tariffBehindRow.domain false) (Rows.tariffBehindSpec.post enc Try.prog Try.f5 false true false false) := by
  refine returnsInHanded_of_change_sized (C := Try.checked) Trf.own started (by kernel_rfl) Try.func5
    (ChangeSpec.witness6 (enc := enc) (C := Try.checked) false ⟨#[], #[.agg #[.slice none 0 0], .agg #[.int .i64 0, .int .i64 0, .int .i64 0, .int .i64 0, .int .i64 0, .slice none 0 0, .slice none 0 0, .slice none 0 0, .int .i64 0], .int .i64 0], []⟩ 8 (by kernel_rfl) (by kernel_rfl) (by kernel_rfl) (by kernel_rfl)) ?_
  intro W base args ds gs before hval0 hW hcnd hsz0 _
  have hval : ∀ (j : Nat) t v, Try.f5.params[j]? = some t → args[j]? = some v → Value.okWide Try.prog W .any base t v := hval0
  have hW' := hW
  have hsz : (DataW.weightsEach Try.prog (Try.f5.params.toList ++ Rows.tariffBehindSpec.plain.varTypes Try.prog) (ds ++ gs)).all (· ≤ reachBytes) = true := hsz0
  obtain ⟨p, q, hA0, hV, rfl, hfz, hnd⟩ := hW
  have hA : DataW.TrodAll enc Try.prog W 0 (fun _ => true) true Try.f5.params.toList args.toList ds p := hA0
  rw [Try.params5] at hA hval hsz
  obtain ⟨v0, vs0, d0, ds0, p0, q0, hargs, rfl, rfl, h0, r0⟩ := trodAll_cons hA
  obtain ⟨v1, vs1, d1, ds1, p1, q1, rfl, rfl, rfl, h1, r1⟩ := trodAll_cons r0
  obtain ⟨v2, vs2, d2, ds2, p2, q2, rfl, rfl, rfl, h2, r2⟩ := trodAll_cons r1
  obtain ⟨rfl, rfl, rfl⟩ := trodAll_nil r2
  obtain rfl : args = #[v0, v1, v2] := by cases args; simp_all
  obtain ⟨rfl, rfl⟩ := trodVars_none hV
  have k0 := h0
  have lt0 : ∀ x ∈ p0, x.block < W.heap.size := by obtain ⟨m, hm⟩ := k0; exact DataW.trod_lt m _ _ _ hm
  obtain ⟨A0, n0, c0, s0, rfl, g0⟩ := Trf.open_tariff (hval 0 29 v0 rfl rfl) h0 (fun k hk => of_decide_eq_true (List.all_eq_true.1 hsz _ (DataW.weights_mem_each (j := 0) rfl rfl k hk)))
  have k1 := h1
  have lt1 : ∀ x ∈ p1, x.block < W.heap.size := by obtain ⟨m, hm⟩ := k1; exact DataW.trod_lt m _ _ _ hm
  obtain ⟨z1, rfl, g1⟩ := Trf.open_version (hval 1 26 v1 rfl rfl) h1 (fun k hk => of_decide_eq_true (List.all_eq_true.1 hsz _ (DataW.weights_mem_each (j := 1) rfl rfl k hk)))
  obtain ⟨a2, rfl, rfl, rfl, w2⟩ := open_int Try.underlying3 (hval 2 3 v2 rfl rfl) h2
  clear hA0 hval0 hsz hsz0
  refine (walk A0 n0 c0 s0 g0 z1 g1 a2 (Trf.i64_of w2)).mono fun e W' ⟨he, bel⟩ => ?_
  subst he
  exact ⟨_, rfl, _, _, _, [], _, [], hW', trodAll_mk1 (shut_bool Try.underlying4 _), (trodAll_cons_mk (Below.trod Trf.laidOut (by kernel_rfl) (of_decide_eq_true (by kernel_rfl)) k0 bel lt0) (trodAll_cons_mk (Below.trod Trf.laidOut (by kernel_rfl) (of_decide_eq_true (by kernel_rfl)) k1 bel lt1) (trodAll_cons_mk (shut_int Try.underlying3 w2) trodAll_mk0))), rfl, bel.frame _, fun h => by cases h⟩

theorem over : Rows.tariffBehindRow.holds Try.pinned (OpenSpec.ofChange Rows.tariffBehindSpec) :=
  OpenClaim.holds_of_wide 5 Try.f5 rfl rfl rfl rfl rfl rfl rfl ⟨rfl, rfl, rfl, rfl, rfl⟩ rfl rfl rfl rfl rfl (by kernel_rfl) Try.func5 (by kernel_rfl)
    (of_decide_eq_true (by kernel_rfl)) (by unfold Func.isWrapper; first | (rw [if_pos (by decide +kernel)]; kernel_rfl) | (rw [if_neg (by decide +kernel)]; exact ⟨rfl, rfl⟩))
    (fun os started H enc _ => lifted os started H enc)

theorem proved : Rows.TariffBehindSaid := over
end Go.Proofs.Ythjlhjbblnoldaa.tariffBehind
