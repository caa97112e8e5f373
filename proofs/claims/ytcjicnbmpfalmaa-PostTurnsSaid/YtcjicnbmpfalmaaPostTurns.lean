/-
  The statement PostTurns holds: for every input the call returns true, and each argument reads afterwards as it read before. Conditions: none beside those that the row itself bears.
-/
import Derived.Test.YtcjicnbmpfalmaaGiven
namespace Go.Proofs.Ytcjicnbmpfalmaa.postTurns
open Go.ChangeShapes Go.WideShapes Go.ChangeAt Go.RowKit Bk Pst
set_option linter.unusedVariables false


theorem parts_turn (acc s0 s1 : Int) (b : List En) (h1 : 1 ≤ s0) (h2 : s0 < s1) (h3 : s1 ≤ 292195) : wrap64 (wrap64 (bal (upto (s1 - 1)) acc b) - wrap64 (bal (upto (s0 - 1)) acc b)) = wrap64 (bal (Sp.inn (s0, s1)) acc b) := by
  rw [wr_sub, bal_part (p := upto (s1 - 1)) (q := upto (s0 - 1)) (r := Sp.inn (s0, s1)) (fun d => ?_)]
  · congr 1; omega
  · have e : Sp.inn (s0, s1) d = decide (s0 ≤ d ∧ d < s1) := by
      rw [Bool.eq_iff_iff, Sp.inn_iff]; simp; omega
    rw [e]
    simp only [upto, decide_eq_true_eq]
    split <;> split <;> split <;> omega

set_option maxRecDepth 100000 in
set_option maxHeartbeats 4000000 in
theorem walk (A : Option Addr) (n c : Nat) (es : List En) {w : World} (G : GivenL w A n c es) (acc : Int) (ha : -9223372036854775808 ≤ acc ∧ acc ≤ 9223372036854775807) (s : Pr) :
    Calls Try.prog 7 #[.slice A n c, .int .i64 acc, Spn.ag s] w (Yes w true) := by
  obtain ⟨s0, s1⟩ := s
  have HG := Lib.hid G
  have hlen := G.len
  unfold maxLen at hlen
  clear G ha
  have HX := Lib.hid (Bx.new w 32 #[.int .i64 s0, .int .i64 s1])
  have HB := Lib.hid (alloc_ w (.cells #[.int .i64 s0, .int .i64 s1] 32))
  have CF := Lib.hid (few_ A n c es (w.alloc (.cells #[.int .i64 s0, .int .i64 s1] 32)) (HG.out.e.below HB.out) HG.out.len)
  have CM := fun w' => Lib.hid (Spn.many (s0, s1) w')
  cases hf : fewB es
  · rw [hf] at CF
    clear hf CM
    go_enter Try.func7, Try.ntmps7
    go_wp2_with fail
    refine CF.out.mono ?_
    rintro e w1 ⟨rfl, hb1⟩
    have HB1 := Lib.hid (HB.out.trans (hb1.mono HB.out.size))
    clear hb1 CF
    go_wp2_with fail
    refine (alive_ _).mono ?_
    rintro e w9 ⟨rfl, hb9⟩
    have HB9 := Lib.hid (HB1.out.trans (hb9.mono HB1.out.size))
    clear hb9
    go_wp2
    go_ret
    exact ⟨rfl, HB9.out⟩

  rw [hf] at CF
  have hn : n ≤ 1000000 := by have := fewB_yes hf; have e := HG.out.e.len; omega
  clear hf
  by_cases hm : Sp.mn (s0, s1) = 0
  · rw [hm] at CM
    clear hm
    go_enter Try.func7, Try.ntmps7
    go_wp2_with fail
    refine CF.out.mono ?_
    rintro e w1 ⟨rfl, hb1⟩
    have HB1 := Lib.hid (HB.out.trans (hb1.mono HB.out.size))
    have x0 := (HX.out.keep hb1).c 0
    have x1 := (HX.out.keep hb1).c 1
    simp at x0 x1
    clear hb1 CF
    go_wp2_with fail
    refine (CM _).out.mono ?_
    rintro e w2 ⟨rfl, hb2⟩
    have HB2 := Lib.hid (HB1.out.trans (hb2.mono HB1.out.size))
    clear hb2 CM x0 x1
    go_wp2_with fail
    refine (alive_ _).mono ?_
    rintro e w9 ⟨rfl, hb9⟩
    have HB9 := Lib.hid (HB2.out.trans (hb9.mono HB2.out.size))
    clear hb9
    go_wp2
    go_ret
    exact ⟨rfl, HB9.out⟩

  have tm : (Sp.mn (s0, s1) == 0) = false := by simpa using hm
  have hrt : 1 ≤ s0 ∧ s0 < s1 ∧ s1 ≤ 292195 := by
    have hh : Sp.mn (s0, s1) ≠ 0 := hm
    unfold Sp.mn at hh
    split at hh
    · rename_i hr
      rw [Sp.rt_iff] at hr
      simp only at hr hh
      omega
    · exact absurd rfl hh
  obtain ⟨q1, q2, q3⟩ := hrt
  clear hm
  generalize Sp.mn (s0, s1) = mm at tm CM
  have HT := Lib.hid (parts_turn acc s0 s1 (mkL es) q1 q2 q3)
  go_enter Try.func7, Try.ntmps7
  go_wp2_with fail
  refine CF.out.mono ?_
  rintro e w1 ⟨rfl, hb1⟩
  have HB1 := Lib.hid (HB.out.trans (hb1.mono HB.out.size))
  have HX1 := Lib.hid (HX.out.keep hb1)
  have x0 := HX1.out.c 0
  have x1 := HX1.out.c 1
  simp at x0 x1
  clear hb1 CF
  go_wp2_with fail
  refine (CM _).out.mono ?_
  rintro e w2 ⟨rfl, hb2⟩
  have HB2 := Lib.hid (HB1.out.trans (hb2.mono HB1.out.size))
  have HX2 := Lib.hid (HX1.out.keep hb2)
  clear hb2 CM x0 x1
  go_wp2_with fail
  refine (made_ A n c es w2 (HG.out.e.below HB2.out) hn).mono ?_
  rintro e w3 ⟨A3, n3, c3, rfl, hE3, hcap3, hb3⟩
  have HM := Lib.hid (mkL_good es)
  have hn3 : n3 ≤ 1000000 := by have := HM.out.2; have e1 := hE3.len; have e2 := HG.out.e.len; omega
  have HF3 := Lib.hid (show Few (mkL es) from fun e he => by have := HM.out.1.lines e he; unfold maxLen; omega)
  have HB3 := Lib.hid (HB2.out.trans (hb3.mono HB2.out.size))
  have HX3 := Lib.hid ((HX2.out.keep hb3).alloc (.cells #[.slice A3 n3 c3] 29))
  have HY3 := Lib.hid (Bx.new w3 29 #[.slice A3 n3 c3])
  have HE3 := Lib.hid (hE3.below (alloc_ w3 (.cells #[.slice A3 n3 c3] 29)))
  have HB4 := Lib.hid (HB3.out.alloc HB3.out.size (.cells #[.slice A3 n3 c3] 29))
  clear hb3 hE3 hcap3
  go_wp2
  obtain ⟨W, hW⟩ : ∃ W, w3.alloc (.cells #[.slice A3 n3 c3] 29) = W := ⟨_, rfl⟩
  rw [hW] at HX3 HY3 HE3 HB4 ⊢
  clear hW
  have C0 := fun (p : Ext W) => Lib.hid (alive_ p.W)
  have C1 := fun (p : Ext W) => Lib.hid (turn A3 n3 c3 (mkL es) acc (s0, s1) p.W (HE3.out.below p.b) hn3 HF3.out)
  have C2 := fun (p : Ext W) => Lib.hid (balance A3 n3 c3 (mkL es) acc (s1 - 1) p.W (HE3.out.below p.b) hn3 HF3.out)
  have C3 := fun (p : Ext W) => Lib.hid (balance A3 n3 c3 (mkL es) acc (s0 - 1) p.W (HE3.out.below p.b) hn3 HF3.out)
  have ht := HT.out
  generalize wrap64 (bal (Sp.inn (s0, s1)) acc (mkL es)) = t at C1 ht
  generalize wrap64 (bal (upto (s1 - 1)) acc (mkL es)) = p1 at C2 ht
  generalize wrap64 (bal (upto (s0 - 1)) acc (mkL es)) = p0 at C3 ht
  have ht' : IntKind.i64.wrap (p1 - p0) = t := by rw [IntWalk.i64_left]; exact ht
  obtain ⟨u1, e1⟩ : ∃ u, s1 - 1 = u := ⟨_, rfl⟩
  obtain ⟨u0, e0⟩ : ∃ u, s0 - 1 = u := ⟨_, rfl⟩
  rw [e1] at C2
  rw [e0] at C3
  have ew1 : IntKind.i64.wrap u1 = u1 := IntWalk.i64_in _ (by omega)
  have ew0 : IntKind.i64.wrap u0 = u0 := IntWalk.i64_in _ (by omega)
  have X0 : ∀ p : Ext W, p.W.cell? ⟨w.heap.size, 0, none⟩ = some (.int .i64 s0) := fun p => HX3.out.ext p 0
  have X1 : ∀ p : Ext W, p.W.cell? ⟨w.heap.size, 1, none⟩ = some (.int .i64 s1) := fun p => HX3.out.ext p 1
  have Y0 : ∀ p : Ext W, p.W.cell? ⟨w3.heap.size, 0, none⟩ = some (.slice A3 n3 c3) := fun p => HY3.out.ext p 0
  have ne : Nonempty (Ext W) := ⟨⟨W, Below.refl _ _⟩⟩
  clear q1 q2 q3 hlen hn tm
  refine quietE (by kernel_rfl) (by kernel_rfl) ?_
  repeat (quiet_step (first
    | (go_at_call 10; exact ext_of (C0 _).out)
    | (go_at_call 16; exact ext_of (C1 _).out)
    | (go_at_call 14; (with_reducible exact ext_of (C2 _).out))
    | (go_at_call 14; (with_reducible exact ext_of (C3 _).out))))
  refine wpQuiet_nil ?_
  rintro _ ⟨p, rfl⟩
  go_wp2
  go_ret
  exact ⟨rfl, HB4.out.trans (p.b.mono HB4.out.size)⟩

set_option maxRecDepth 100000 in
theorem lifted (os : Os) (started : os.Started) (H : Type) (enc : TypeId × Value → H) :
    ReturnsInHanded {} Try.checked os 7 .any (Rows.postTurnsSpec.pre6 enc Try.prog Try.f7 Rows.postTurnsRow.domain false) (Rows.postTurnsSpec.post enc Try.prog Try.f7 false true false false) := by
  refine returnsInHanded_of_change (C := Try.checked) Pst.own started (by kernel_rfl) Try.func7
    (ChangeSpec.witness6 (enc := enc) (C := Try.checked) false ⟨#[], #[.slice none 0 0, .int .i64 0, .agg #[.int .i64 0, .int .i64 0]], []⟩ 8 (by kernel_rfl) (by kernel_rfl) (by kernel_rfl) (by kernel_rfl)) ?_
  intro W base args ds gs before hval0 hW hcnd _
  have hval : ∀ (j : Nat) t v, Try.f7.params[j]? = some t → args[j]? = some v → Value.okWide Try.prog W .any base t v := hval0
  have hW' := hW
  obtain ⟨p, q, hA0, hV, rfl, hfz, hnd⟩ := hW
  have hA : DataW.TrodAll enc Try.prog W 0 (fun _ => true) true Try.f7.params.toList args.toList ds p := hA0
  rw [Try.params7] at hA hval
  obtain ⟨v0, vs0, d0, ds0, p0, q0, hargs, rfl, rfl, h0, r0⟩ := trodAll_cons hA
  obtain ⟨v1, vs1, d1, ds1, p1, q1, rfl, rfl, rfl, h1, r1⟩ := trodAll_cons r0
  obtain ⟨v2, vs2, d2, ds2, p2, q2, rfl, rfl, rfl, h2, r2⟩ := trodAll_cons r1
  obtain ⟨rfl, rfl, rfl⟩ := trodAll_nil r2
  obtain rfl : args = #[v0, v1, v2] := by cases args; simp_all
  obtain ⟨rfl, rfl⟩ := trodVars_none hV
  have k0 := h0
  have lt0 : ∀ x ∈ p0, x.block < W.heap.size := by obtain ⟨m, hm⟩ := k0; exact DataW.trod_lt m _ _ _ hm
  obtain ⟨A0, n0, c0, xs0, rfl, g0⟩ := Pst.open_list (hval 0 27 v0 rfl rfl) h0
  obtain ⟨a1, rfl, rfl, rfl, w1⟩ := open_int Try.underlying3 (hval 1 3 v1 rfl rfl) h1
  have k2 := h2
  have lt2 : ∀ x ∈ p2, x.block < W.heap.size := by obtain ⟨m, hm⟩ := k2; exact DataW.trod_lt m _ _ _ hm
  obtain ⟨x2, rfl⟩ := Pst.open_span (hval 2 32 v2 rfl rfl) h2
  clear hA0 hval0
  refine (walk A0 n0 c0 xs0 g0 a1 (Pst.i64_of w1) x2).mono fun e W' ⟨he, bel⟩ => ?_
  subst he
  exact ⟨_, rfl, _, _, _, [], _, [], hW', trodAll_mk1 (shut_bool Try.underlying4 _), (trodAll_cons_mk (Below.trod Pst.laidOut (by kernel_rfl) (of_decide_eq_true (by kernel_rfl)) k0 bel lt0) (trodAll_cons_mk (shut_int Try.underlying3 w1) (trodAll_cons_mk (Below.trod Pst.laidOut (by kernel_rfl) (of_decide_eq_true (by kernel_rfl)) k2 bel lt2) trodAll_mk0))), rfl, bel.frame _, fun h => by cases h⟩

theorem over : Rows.postTurnsRow.holds Try.pinned (OpenSpec.ofChange Rows.postTurnsSpec) :=
  OpenClaim.holds_of_wide 7 Try.f7 rfl rfl rfl rfl rfl rfl rfl ⟨rfl, rfl, rfl, rfl, rfl⟩ rfl rfl rfl rfl rfl (by kernel_rfl) Try.func7 (by kernel_rfl)
    (of_decide_eq_true (by kernel_rfl)) (by unfold Func.isWrapper; first | (rw [if_pos (by decide +kernel)]; kernel_rfl) | (rw [if_neg (by decide +kernel)]; exact ⟨rfl, rfl⟩))
    (fun os started H enc _ => lifted os started H enc)

theorem proved : Rows.PostTurnsSaid := over
end Go.Proofs.Ytcjicnbmpfalmaa.postTurns
