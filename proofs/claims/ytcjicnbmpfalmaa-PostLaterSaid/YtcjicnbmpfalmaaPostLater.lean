/-
  The statement PostLater holds: for every input the call returns true, and each argument reads afterwards as it read before. Conditions: none beside those that the row itself bears.
-/
import Derived.Test.YtcjicnbmpfalmaaGiven
namespace Go.Proofs.Ytcjicnbmpfalmaa.postLater
open Go.ChangeShapes Go.WideShapes Go.ChangeAt Go.RowKit Bk Pst
set_option linter.unusedVariables false


theorem later_bal (acc z1 : Int) (b : List En) (e : En) (h : z1 < e.day) : bal (upto z1) acc (b ++ [e]) = bal (upto z1) acc b := by
  rw [bal_snoc, if_neg (by simp [upto]; omega), Int.add_zero]
theorem later_tri (z1 : Int) (b : List En) (e : En) (h : z1 < e.day) : tri (upto z1) (b ++ [e]) = tri (upto z1) b := by
  funext i
  unfold tri trk
  rw [later_bal _ _ _ _ h]

set_option maxRecDepth 100000 in
set_option maxHeartbeats 4000000 in
theorem walk (A : Option Addr) (n c : Nat) (es : List En) {w : World} (G : GivenL w A n c es) (z : Pr) (d f : Int) (L : Option Addr) (m k : Nat) (ls : List Pr) (GE : GivenE w L m ls) :
    Calls Try.prog 6 #[.slice A n c, .agg #[.int .i64 z.1, .int .i64 z.2], eg d f L m k] w (Yes w true) := by
  obtain ⟨z0, z1⟩ := z
  have HG := Lib.hid G
  have HE := Lib.hid GE
  have hlen := G.len
  have hml := GE.m
  unfold maxLen at hlen hml
  clear G GE
  have HX := Lib.hid ((Bx.new w 30 #[.int .i64 z0, .int .i64 z1]).alloc (.cells #[.int .i64 d, .int .i64 f, .slice L m k] 24))
  have HY := Lib.hid (show Bx ((w.alloc (.cells #[.int .i64 z0, .int .i64 z1] 30)).alloc (.cells #[.int .i64 d, .int .i64 f, .slice L m k] 24)) (w.heap.size + 1) 24 #[.int .i64 d, .int .i64 f, .slice L m k] by
    have := Bx.new (w.alloc (.cells #[.int .i64 z0, .int .i64 z1] 30)) 24 #[.int .i64 d, .int .i64 f, .slice L m k]
    rw [World.size_alloc] at this
    exact this)
  have HB := Lib.hid (show Below w.heap.size w ((w.alloc (.cells #[.int .i64 z0, .int .i64 z1] 30)).alloc (.cells #[.int .i64 d, .int .i64 f, .slice L m k] 24)) from (alloc_ _ _).alloc (by simp) _)
  have CF := Lib.hid (few_ A n c es _ (HG.out.e.below HB.out) HG.out.len)
  cases hf : fewB es
  · rw [hf] at CF
    clear hf
    go_enter Try.func6, Try.ntmps6
    go_wp2_with fail
    refine CF.out.mono ?_
    rintro e w1 ⟨rfl, hb1⟩
    have HB1 := Lib.hid (HB.out.trans (hb1.mono HB.out.size))
    have HX1 := Lib.hid (HX.out.keep hb1)
    have HY1 := Lib.hid (HY.out.keep hb1)
    have x2 := HY1.out.c 2
    simp at x2
    clear hb1 CF
    clear x2
    go_wp2_with fail
    refine (alive_ _).mono ?_
    rintro e w9 ⟨rfl, hb9⟩
    have HB9 := Lib.hid (HB1.out.trans (hb9.mono HB1.out.size))
    clear hb9
    go_wp2
    go_ret
    exact ⟨rfl, HB9.out⟩

  rw [hf] at CF
  have HF2 := Lib.hid (fewB_yes hf)
  have hn : n ≤ 1000000 := by have := HF2.out; have e := HG.out.e.len; omega
  clear hf
  by_cases g1 : 100 < m
  · have t1 : decide (100 < (m : Int)) = true := by simpa using (show 100 < (m : Int) by omega)
    have t1' : decide (100 < m) = true := by simpa using g1
    clear g1
    go_enter Try.func6, Try.ntmps6
    go_wp2_with fail
    refine CF.out.mono ?_
    rintro e w1 ⟨rfl, hb1⟩
    have HB1 := Lib.hid (HB.out.trans (hb1.mono HB.out.size))
    have HX1 := Lib.hid (HX.out.keep hb1)
    have HY1 := Lib.hid (HY.out.keep hb1)
    have x2 := HY1.out.c 2
    simp at x2
    clear hb1 CF
    go_wp2_with fail
    refine (alive_ _).mono ?_
    rintro e w9 ⟨rfl, hb9⟩
    have HB9 := Lib.hid (HB1.out.trans (hb9.mono HB1.out.size))
    clear hb9
    go_wp2
    go_ret
    exact ⟨rfl, HB9.out⟩

  have t1 : decide (100 < (m : Int)) = false := by simpa using (show ¬ 100 < (m : Int) by omega)
  have t1' : decide (100 < m) = false := by simpa using g1
  by_cases hc : cde (mkL es) ⟨d, f, ls⟩ = 0
  case neg =>
    go_enter Try.func6, Try.ntmps6
    go_wp2_with fail
    refine CF.out.mono ?_
    rintro e w1 ⟨rfl, hb1⟩
    have HB1 := Lib.hid (HB.out.trans (hb1.mono HB.out.size))
    have HX1 := Lib.hid (HX.out.keep hb1)
    have HY1 := Lib.hid (HY.out.keep hb1)
    have x2 := HY1.out.c 2
    simp at x2
    clear hb1 CF
    go_wp2_with fail
    refine (made_ A n c es w1 (HG.out.e.below HB1.out) hn).mono ?_
    rintro e w3 ⟨A3, n3, c3, rfl, hE3, hcap3, hb3⟩
    have HM := Lib.hid (mkL_good es)
    have hn3 : n3 ≤ 200 := by have := HM.out.2; have e1 := hE3.len; have e2 := HG.out.e.len; have := HF2.out; omega
    have HF3 := Lib.hid (show Few (mkL es) from fun e he => by have := HM.out.1.lines e he; unfold maxLen; omega)
    have HB3 := Lib.hid (HB1.out.trans (hb3.mono HB1.out.size))
    have HX3 := Lib.hid ((HX1.out.keep hb3).alloc (.cells #[.slice A3 n3 c3] 29))
    have HY3 := Lib.hid ((HY1.out.keep hb3).alloc (.cells #[.slice A3 n3 c3] 29))
    have HZ3 := Lib.hid (Bx.new w3 29 #[.slice A3 n3 c3])
    have HE3 := Lib.hid (hE3.below (alloc_ w3 (.cells #[.slice A3 n3 c3] 29)))
    have HB4 := Lib.hid (HB3.out.alloc HB3.out.size (.cells #[.slice A3 n3 c3] 29))
    have y0 := HY3.out.c 0
    have y1 := HY3.out.c 1
    have y2 := HY3.out.c 2
    simp at y0 y1 y2
    have CP := Lib.hid (put A3 n3 c3 (mkL es) d f L m k ls _ HE3.out hcap3 (fun e he => by have := HM.out.1.lines e he; omega) (HE.out.l.below HB4.out))
    clear hb3 hE3 hcap3 x2
    have hsz3 := HY3.out.lt
    go_wp2_with fail
    refine CP.out.mono ?_
    rintro e w5 ⟨A5, n5, c5, rfl, hE5, hcap5, hb5⟩
    have HB5 := Lib.hid (HB4.out.trans (hb5.mono HB4.out.size))
    clear CP y0 y1 y2 hsz3
    have tc : (cde (mkL es) ⟨d, f, ls⟩ == 0) = false := by simpa using hc
    have tc' : (cde (mkL es) ⟨d, f, ls⟩ != 0) = true := by simpa using hc
    generalize cde (mkL es) ⟨d, f, ls⟩ = x at tc tc'
    have HB6 := Lib.hid (HB5.out.alloc HB5.out.size (.cells #[.slice A5 n5 c5] 29))
    clear hE5 hcap5 hb5
    go_wp2_with fail
    refine (alive_ _).mono ?_
    rintro e w9 ⟨rfl, hb9⟩
    have HB9 := Lib.hid (HB6.out.trans (hb9.mono HB6.out.size))
    clear hb9
    go_wp2
    go_ret
    exact ⟨rfl, HB9.out⟩

  have HL5 := Lib.hid (put_good hc)
  by_cases hd : d ≤ z1
  · have td : decide (d ≤ z1) = true := by simpa using hd
    clear hd
    go_enter Try.func6, Try.ntmps6
    go_wp2_with fail
    refine CF.out.mono ?_
    rintro e w1 ⟨rfl, hb1⟩
    have HB1 := Lib.hid (HB.out.trans (hb1.mono HB.out.size))
    have HX1 := Lib.hid (HX.out.keep hb1)
    have HY1 := Lib.hid (HY.out.keep hb1)
    have x2 := HY1.out.c 2
    simp at x2
    clear hb1 CF
    go_wp2_with fail
    refine (made_ A n c es w1 (HG.out.e.below HB1.out) hn).mono ?_
    rintro e w3 ⟨A3, n3, c3, rfl, hE3, hcap3, hb3⟩
    have HM := Lib.hid (mkL_good es)
    have hn3 : n3 ≤ 200 := by have := HM.out.2; have e1 := hE3.len; have e2 := HG.out.e.len; have := HF2.out; omega
    have HF3 := Lib.hid (show Few (mkL es) from fun e he => by have := HM.out.1.lines e he; unfold maxLen; omega)
    have HB3 := Lib.hid (HB1.out.trans (hb3.mono HB1.out.size))
    have HX3 := Lib.hid ((HX1.out.keep hb3).alloc (.cells #[.slice A3 n3 c3] 29))
    have HY3 := Lib.hid ((HY1.out.keep hb3).alloc (.cells #[.slice A3 n3 c3] 29))
    have HZ3 := Lib.hid (Bx.new w3 29 #[.slice A3 n3 c3])
    have HE3 := Lib.hid (hE3.below (alloc_ w3 (.cells #[.slice A3 n3 c3] 29)))
    have HB4 := Lib.hid (HB3.out.alloc HB3.out.size (.cells #[.slice A3 n3 c3] 29))
    have y0 := HY3.out.c 0
    have y1 := HY3.out.c 1
    have y2 := HY3.out.c 2
    simp at y0 y1 y2
    have CP := Lib.hid (put A3 n3 c3 (mkL es) d f L m k ls _ HE3.out hcap3 (fun e he => by have := HM.out.1.lines e he; omega) (HE.out.l.below HB4.out))
    clear hb3 hE3 hcap3 x2
    have hsz3 := HY3.out.lt
    go_wp2_with fail
    refine CP.out.mono ?_
    rintro e w5 ⟨A5, n5, c5, rfl, hE5, hcap5, hb5⟩
    have HB5 := Lib.hid (HB4.out.trans (hb5.mono HB4.out.size))
    clear CP y0 y1 y2 hsz3
    have v1 := ((HX3.out.keep hb5).alloc (.cells #[.slice A5 n5 c5] 29)).c 1
    have v2 := ((HY3.out.keep hb5).alloc (.cells #[.slice A5 n5 c5] 29)).c 0
    simp at v1 v2
    rw [hc]
    have HB6 := Lib.hid (HB5.out.alloc HB5.out.size (.cells #[.slice A5 n5 c5] 29))
    clear hE5 hcap5 hb5 hc
    go_wp2_with fail
    refine (alive_ _).mono ?_
    rintro e w9 ⟨rfl, hb9⟩
    have HB9 := Lib.hid (HB6.out.trans (hb9.mono HB6.out.size))
    clear hb9
    go_wp2
    go_ret
    exact ⟨rfl, HB9.out⟩

  have td : decide (d ≤ z1) = false := by simpa using hd
  go_enter Try.func6, Try.ntmps6
  go_wp2_with fail
  refine CF.out.mono ?_
  rintro e w1 ⟨rfl, hb1⟩
  have HB1 := Lib.hid (HB.out.trans (hb1.mono HB.out.size))
  have HX1 := Lib.hid (HX.out.keep hb1)
  have HY1 := Lib.hid (HY.out.keep hb1)
  have x2 := HY1.out.c 2
  simp at x2
  clear hb1 CF
  go_wp2_with fail
  refine (made_ A n c es w1 (HG.out.e.below HB1.out) hn).mono ?_
  rintro e w3 ⟨A3, n3, c3, rfl, hE3, hcap3, hb3⟩
  have HM := Lib.hid (mkL_good es)
  have hn3 : n3 ≤ 200 := by have := HM.out.2; have e1 := hE3.len; have e2 := HG.out.e.len; have := HF2.out; omega
  have HF3 := Lib.hid (show Few (mkL es) from fun e he => by have := HM.out.1.lines e he; unfold maxLen; omega)
  have HB3 := Lib.hid (HB1.out.trans (hb3.mono HB1.out.size))
  have HX3 := Lib.hid ((HX1.out.keep hb3).alloc (.cells #[.slice A3 n3 c3] 29))
  have HY3 := Lib.hid ((HY1.out.keep hb3).alloc (.cells #[.slice A3 n3 c3] 29))
  have HZ3 := Lib.hid (Bx.new w3 29 #[.slice A3 n3 c3])
  have HE3 := Lib.hid (hE3.below (alloc_ w3 (.cells #[.slice A3 n3 c3] 29)))
  have HB4 := Lib.hid (HB3.out.alloc HB3.out.size (.cells #[.slice A3 n3 c3] 29))
  have y0 := HY3.out.c 0
  have y1 := HY3.out.c 1
  have y2 := HY3.out.c 2
  simp at y0 y1 y2
  have CP := Lib.hid (put A3 n3 c3 (mkL es) d f L m k ls _ HE3.out hcap3 (fun e he => by have := HM.out.1.lines e he; omega) (HE.out.l.below HB4.out))
  clear hb3 hE3 hcap3 x2
  have hsz3 := HY3.out.lt
  go_wp2_with fail
  refine CP.out.mono ?_
  rintro e w5 ⟨A5, n5, c5, rfl, hE5, hcap5, hb5⟩
  have HB5 := Lib.hid (HB4.out.trans (hb5.mono HB4.out.size))
  clear CP y0 y1 y2 hsz3

  have hE5' := hE5
  rw [HL5.out] at hE5'
  have hE6 := hE5'.ents fun b hb => hb.2
  have hn5 : n5 = n3 + 1 := by
    have e1 := hE6.len
    have e2 := HE3.out.len
    simp at e1
    omega
  have HX6 := Lib.hid ((HX3.out.keep hb5).alloc (.cells #[.slice A5 n5 c5] 29))
  have HY6 := Lib.hid ((HY3.out.keep hb5).alloc (.cells #[.slice A5 n5 c5] 29))
  have HZ6 := Lib.hid ((HZ3.out.keep hb5).alloc (.cells #[.slice A5 n5 c5] 29))
  have HU6 := Lib.hid (Bx.new w5 29 #[.slice A5 n5 c5])
  have HE6 := Lib.hid (hE6.below (alloc_ w5 (.cells #[.slice A5 n5 c5] 29)))
  have HE3' := Lib.hid ((HE3.out.below hb5).below (alloc_ w5 (.cells #[.slice A5 n5 c5] 29)))
  have HB6 := Lib.hid (HB5.out.alloc HB5.out.size (.cells #[.slice A5 n5 c5] 29))
  have HF6 := Lib.hid (show Few (mkL es ++ [⟨d, f, ls⟩]) from fun e he => by
    rcases List.mem_append.1 he with he | he
    · exact HF3.out e he
    · simp at he; subst he; have := HE.out.l.1; simp only; rw [this]; exact HE.out.m)
  have v1 := HX6.out.c 1
  have v2 := HY6.out.c 0
  simp at v1 v2
  rw [hc]
  have HN := Lib.hid hn5
  have h5le : n5 ≤ 1000000 := by omega
  clear hE5 hE5' hE6 hcap5 hb5 hc hn5
  go_wp2
  obtain ⟨W, hW⟩ : ∃ W, w5.alloc (.cells #[.slice A5 n5 c5] 29) = W := ⟨_, rfl⟩
  rw [hW] at HX6 HY6 HZ6 HU6 HE6 HE3' HB6 ⊢
  clear hW v1 v2
  have C0 := fun (p : Ext W) => Lib.hid (alive_ p.W)
  have C1 := fun (p : Ext W) => Lib.hid (balance A5 n5 c5 (mkL es ++ [⟨d, f, ls⟩]) z0 z1 p.W (HE6.out.below p.b) h5le HF6.out)
  have C2 := fun (p : Ext W) => Lib.hid (balance A3 n3 c3 (mkL es) z0 z1 p.W (HE3'.out.below p.b) (by omega) HF3.out)
  have C3 := fun (p : Ext W) => Lib.hid (show Calls Try.prog 18 #[bg A5 n5 c5, .int .i64 z1] p.W fun e w' => e = .returned (.agg (ar (tri (upto z1) (mkL es ++ [(⟨d, f, ls⟩ : En)])))) ∧ Below p.W.heap.size p.W w' from trial A5 n5 c5 (mkL es ++ [(⟨d, f, ls⟩ : En)]) z1 p.W (HE6.out.below p.b) h5le HF6.out)
  have C4 := fun (p : Ext W) => Lib.hid (show Calls Try.prog 18 #[bg A3 n3 c3, .int .i64 z1] p.W fun e w' => e = .returned (.agg (ar (tri (upto z1) (mkL es)))) ∧ Below p.W.heap.size p.W w' from trial A3 n3 c3 (mkL es) z1 p.W (HE3'.out.below p.b) (by omega) HF3.out)
  rw [later_bal _ _ _ _ (show z1 < (⟨d, f, ls⟩ : En).day by simp only; omega)] at C1
  rw [later_tri _ _ _ (show z1 < (⟨d, f, ls⟩ : En).day by simp only; omega)] at C3
  generalize wrap64 (bal (upto z1) z0 (mkL es)) = t at C1 C2
  generalize tri (upto z1) (mkL es) = g at C3 C4
  have X0 : ∀ p : Ext W, p.W.cell? ⟨w.heap.size, 0, none⟩ = some (.int .i64 z0) := fun p => HX6.out.ext p 0
  have X1 : ∀ p : Ext W, p.W.cell? ⟨w.heap.size, 1, none⟩ = some (.int .i64 z1) := fun p => HX6.out.ext p 1
  have Z0 : ∀ p : Ext W, p.W.cell? ⟨w3.heap.size, 0, none⟩ = some (.slice A3 n3 c3) := fun p => HZ6.out.ext p 0
  have U0 : ∀ p : Ext W, p.W.cell? ⟨w5.heap.size, 0, none⟩ = some (.slice A5 n5 c5) := fun p => HU6.out.ext p 0
  have ne : Nonempty (Ext W) := ⟨⟨W, Below.refl _ _⟩⟩
  have e1 : (n3 : Int) + 1 = (n5 : Int) := by have := HN.out; omega
  have ew1 : IntKind.i64.wrap (n5 : Int) = (n5 : Int) := IntWalk.i64_in _ (by omega)
  have qe := ten_same
  clear hlen hml hn hn3 g1 hd t1 t1' td
  refine quietE (by kernel_rfl) (by kernel_rfl) ?_
  repeat (quiet_step (first
    | (go_at_call 10; exact ext_of (C0 _).out)
    | (go_at_call 14; (with_reducible exact ext_of (C1 _).out))
    | (go_at_call 14; (with_reducible exact ext_of (C2 _).out))
    | (go_at_call 18; (with_reducible exact ext_of (C3 _).out))
    | (go_at_call 18; (with_reducible exact ext_of (C4 _).out))))
  refine wpQuiet_nil ?_
  rintro _ ⟨p, rfl⟩
  go_wp2
  go_ret
  exact ⟨rfl, HB6.out.trans (p.b.mono HB6.out.size)⟩

set_option maxRecDepth 100000 in
theorem lifted (os : Os) (started : os.Started) (H : Type) (enc : TypeId × Value → H) :
    ReturnsInHanded {} Try.checked os 6 .any (Rows.postLaterSpec.pre6 enc Try.prog Try.f6 Rows.postLaterRow.domain false) (Rows.postLaterSpec.post enc Try.prog Try.f6 false true false false) := by
  refine returnsInHanded_of_change (C := Try.checked) Pst.own started (by kernel_rfl) Try.func6
    (ChangeSpec.witness6 (enc := enc) (C := Try.checked) false ⟨#[], #[.slice none 0 0, .agg #[.int .i64 0, .int .i64 0], .agg #[.int .i64 0, .int .i64 0, .slice none 0 0]], []⟩ 8 (by kernel_rfl) (by kernel_rfl) (by kernel_rfl) (by kernel_rfl)) ?_
  intro W base args ds gs before hval0 hW hcnd _
  have hval : ∀ (j : Nat) t v, Try.f6.params[j]? = some t → args[j]? = some v → Value.okWide Try.prog W .any base t v := hval0
  have hW' := hW
  obtain ⟨p, q, hA0, hV, rfl, hfz, hnd⟩ := hW
  have hA : DataW.TrodAll enc Try.prog W 0 (fun _ => true) true Try.f6.params.toList args.toList ds p := hA0
  rw [Try.params6] at hA hval
  obtain ⟨v0, vs0, d0, ds0, p0, q0, hargs, rfl, rfl, h0, r0⟩ := trodAll_cons hA
  obtain ⟨v1, vs1, d1, ds1, p1, q1, rfl, rfl, rfl, h1, r1⟩ := trodAll_cons r0
  obtain ⟨v2, vs2, d2, ds2, p2, q2, rfl, rfl, rfl, h2, r2⟩ := trodAll_cons r1
  obtain ⟨rfl, rfl, rfl⟩ := trodAll_nil r2
  obtain rfl : args = #[v0, v1, v2] := by cases args; simp_all
  obtain ⟨rfl, rfl⟩ := trodVars_none hV
  have k0 := h0
  have lt0 : ∀ x ∈ p0, x.block < W.heap.size := by obtain ⟨m, hm⟩ := k0; exact DataW.trod_lt m _ _ _ hm
  obtain ⟨A0, n0, c0, xs0, rfl, g0⟩ := Pst.open_list (hval 0 27 v0 rfl rfl) h0
  have k1 := h1
  have lt1 : ∀ x ∈ p1, x.block < W.heap.size := by obtain ⟨m, hm⟩ := k1; exact DataW.trod_lt m _ _ _ hm
  obtain ⟨x1, rfl⟩ := Pst.open_two (hval 1 30 v1 rfl rfl) h1
  have k2 := h2
  have lt2 : ∀ x ∈ p2, x.block < W.heap.size := by obtain ⟨m, hm⟩ := k2; exact DataW.trod_lt m _ _ _ hm
  obtain ⟨dd2, ff2, A2, n2, c2, xs2, rfl, g2⟩ := Pst.open_entry (hval 2 24 v2 rfl rfl) h2
  clear hA0 hval0
  refine (walk A0 n0 c0 xs0 g0 x1 dd2 ff2 A2 n2 c2 xs2 g2).mono fun e W' ⟨he, bel⟩ => ?_
  subst he
  exact ⟨_, rfl, _, _, _, [], _, [], hW', trodAll_mk1 (shut_bool Try.underlying4 _), (trodAll_cons_mk (Below.trod Pst.laidOut (by kernel_rfl) (of_decide_eq_true (by kernel_rfl)) k0 bel lt0) (trodAll_cons_mk (Below.trod Pst.laidOut (by kernel_rfl) (of_decide_eq_true (by kernel_rfl)) k1 bel lt1) (trodAll_cons_mk (Below.trod Pst.laidOut (by kernel_rfl) (of_decide_eq_true (by kernel_rfl)) k2 bel lt2) trodAll_mk0))), rfl, bel.frame _, fun h => by cases h⟩

theorem over : Rows.postLaterRow.holds Try.pinned (OpenSpec.ofChange Rows.postLaterSpec) :=
  OpenClaim.holds_of_wide 6 Try.f6 rfl rfl rfl rfl rfl rfl rfl ⟨rfl, rfl, rfl, rfl, rfl⟩ rfl rfl rfl rfl rfl (by kernel_rfl) Try.func6 (by kernel_rfl)
    (of_decide_eq_true (by kernel_rfl)) (by unfold Func.isWrapper; first | (rw [if_pos (by decide +kernel)]; kernel_rfl) | (rw [if_neg (by decide +kernel)]; exact ⟨rfl, rfl⟩))
    (fun os started H enc _ => lifted os started H enc)

theorem proved : Rows.PostLaterSaid := over
end Go.Proofs.Ytcjicnbmpfalmaa.postLater
