/-
  The statement PostZero holds: for every input the call returns true, and each argument reads afterwards as it read before. Conditions: none beside those that the row itself bears.
-/
import Derived.Test.YtcjicnbmpfalmaaGiven
import Derived.Test.YtcjicnbmpfalmaaIdx
namespace Go.Proofs.Ytcjicnbmpfalmaa.postZero
open Go.ChangeShapes Go.WideShapes Go.ChangeAt Go.RowKit Bk Pst
set_option linter.unusedVariables false


def ps (g : Nat → Int) : Nat → Int
  | 0 => 0
  | k + 1 => ps g k + g k
theorem zero_sum (p : Int → Bool) (b : List En) (h : ∀ e ∈ b, rgt e = true) : wrap64 (ps (tri p b) 10) = 0 := by
  have a := allA_bal (p := p) h
  simp only [allA] at a
  simp only [ps, tri, trk]
  simp
  generalize bal p 1 b = b1 at a ⊢
  generalize bal p 2 b = b2 at a ⊢
  generalize bal p 3 b = b3 at a ⊢
  generalize bal p 4 b = b4 at a ⊢
  generalize bal p 5 b = b5 at a ⊢
  generalize bal p 6 b = b6 at a ⊢
  generalize bal p 7 b = b7 at a ⊢
  generalize bal p 8 b = b8 at a ⊢
  generalize bal p 9 b = b9 at a ⊢
  have one : ∀ x y : Int, wrap64 (wrap64 x + y) = wrap64 (x + y) := wr_add
  have sw : ∀ x : Int, ∃ q : Int, wrap64 x = x + 18446744073709551616 * q := fun x => ⟨-((x + 9223372036854775808) / 18446744073709551616), by unfold wrap64; omega⟩
  obtain ⟨q1, h1⟩ := sw b1
  obtain ⟨q2, h2⟩ := sw b2
  obtain ⟨q3, h3⟩ := sw b3
  obtain ⟨q4, h4⟩ := sw b4
  obtain ⟨q5, h5⟩ := sw b5
  obtain ⟨q6, h6⟩ := sw b6
  obtain ⟨q7, h7⟩ := sw b7
  obtain ⟨q8, h8⟩ := sw b8
  obtain ⟨q9, h9⟩ := sw b9
  rw [h1, h2, h3, h4, h5, h6, h7, h8, h9]
  have e : b1 + 18446744073709551616 * q1 + (b2 + 18446744073709551616 * q2) + (b3 + 18446744073709551616 * q3) + (b4 + 18446744073709551616 * q4) + (b5 + 18446744073709551616 * q5) + (b6 + 18446744073709551616 * q6) + (b7 + 18446744073709551616 * q7) + (b8 + 18446744073709551616 * q8) + (b9 + 18446744073709551616 * q9) = 18446744073709551616 * (q1 + q2 + q3 + q4 + q5 + q6 + q7 + q8 + q9) := by omega
  rw [e]
  unfold wrap64
  omega

set_option maxRecDepth 100000 in
set_option maxHeartbeats 4000000 in
theorem walk (A : Option Addr) (n c : Nat) (es : List En) {w : World} (G : GivenL w A n c es) (day : Int) (hday : -9223372036854775808 ≤ day ∧ day ≤ 9223372036854775807) :
    Calls Try.prog 5 #[.slice A n c, .int .i64 day] w (Yes w true) := by
  have HG := Lib.hid G
  have hlen := G.len
  unfold maxLen at hlen
  have CF := Lib.hid (few_ A n c es w G.e G.len)
  clear G hday
  cases hf : fewB es
  · rw [hf] at CF
    clear hf
    go_enter Try.func5, Try.ntmps5
    go_wp2_with fail
    refine CF.out.mono ?_
    rintro e w1 ⟨rfl, hb1⟩
    have HB1 := Lib.hid hb1
    clear hb1 CF
    go_wp2_with fail
    refine (alive_ _).mono ?_
    rintro e w9 ⟨rfl, hb9⟩
    have HB9 := Lib.hid (HB1.out.trans (hb9.mono HB1.out.size))
    clear hb9
    go_wp2
    go_ret
    exact ⟨rfl, HB9.out⟩
  rw [hf] at CF
  have HF2 := Lib.hid (fewB_yes hf)
  have hn : n ≤ 1000000 := by have := HF2.out; have e := HG.out.e.len; omega
  clear hf
  go_enter Try.func5, Try.ntmps5
  go_wp2_with fail
  refine CF.out.mono ?_
  rintro e w1 ⟨rfl, hb1⟩
  have HB1 := Lib.hid hb1
  clear hb1 CF
  go_wp2_with fail
  refine (made_ A n c es w1 (HG.out.e.below HB1.out) hn).mono ?_
  rintro e w3 ⟨A3, n3, c3, rfl, hE3, hcap3, hb3⟩
  have HM := Lib.hid (mkL_good es)
  have hn3 : n3 ≤ 200 := by have := HM.out.2; have e1 := hE3.len; have e2 := HG.out.e.len; have := HF2.out; omega
  have HF3 := Lib.hid (show Few (mkL es) from fun e he => by have := HM.out.1.lines e he; unfold maxLen; omega)
  have HB3 := Lib.hid (HB1.out.trans (hb3.mono HB1.out.size))
  have HZ3 := Lib.hid (Bx.new w3 29 #[.slice A3 n3 c3])
  have HE3 := Lib.hid (hE3.below (alloc_ w3 (.cells #[.slice A3 n3 c3] 29)))
  have HB4 := Lib.hid (HB3.out.alloc HB3.out.size (.cells #[.slice A3 n3 c3] 29))
  clear hb3 hE3 hcap3
  go_wp2_with fail
  refine (trial A3 n3 c3 (mkL es) day _ HE3.out (by omega) HF3.out).mono ?_
  rintro e w5 ⟨rfl, hb5⟩
  have HB5 := Lib.hid (HB4.out.trans (hb5.mono HB4.out.size))
  have HZ5 := Lib.hid (HZ3.out.keep hb5)
  have HE5 := Lib.hid (HE3.out.below hb5)
  have HS := Lib.hid (zero_sum (upto day) (mkL es) HM.out.1.r)
  generalize tri (upto day) (mkL es) = g at HS
  clear hb5
  go_wp2
  go_loopw [6, 8, 20] (fun s6 s8 i w' => ∃ (k : Nat) (a : Int), k ≤ 10 ∧ i = .int .i64 (k : Int) ∧ s6 = .int .i64 a ∧ w5 = w' ∧ Hid (wrap64 (ps g k) = a)) (fun _ _ i _ => 10 - (intOf i).toNat)
  case atStart => exact ⟨0, 0, Nat.zero_le _, rfl, rfl, rfl, Lib.hid wr0⟩
  case round =>
    obtain ⟨k, a, hk, rfl, rfl, rfl, HA⟩ := hrel
    by_cases hlt : k < 10
    · obtain ⟨b, hb2⟩ : ∃ b, wrap64 (a + g k) = b := ⟨_, rfl⟩
      have HN := Lib.hid (show wrap64 (ps g (k + 1)) = b by rw [ps, ← hb2, ← HA.out, wr_add])
      have hb3 : IntKind.i64.wrap (a + g k) = b := by rw [IntWalk.i64_left]; exact hb2
      have qi := idx10 g k hlt
      have hlt2 : (k : Int) < 10 := by omega
      go_wp2
      go_roundw
      case rel => exact ⟨k + 1, b, by omega, by go_num, rfl, trivial, HN⟩
      case measure => clear hb2 hb3 qi; simp [intOf]; omega
    · have HA0 := HA.out
      rw [show k = 10 by omega, HS.out] at HA0
      subst HA0
      have tk10 : decide ((k : Int) < 10) = false := by simpa using (show ¬ (k : Int) < 10 by omega)
      clear hlt
      have z0 := HZ5.out.c 0
      simp at z0
      go_wp2
      go_loopw [9, 10, 30] (fun s9 s10 i w' => ∃ (q : Nat) (w1 : World), q ≤ n3 ∧ i = .int .i64 (q : Int) ∧ w1 = w' ∧ Hid (Below w5.heap.size w5 w1)) (fun _ _ i _ => n3 - (intOf i).toNat)
      case atStart => exact ⟨0, _, Nat.zero_le _, rfl, rfl, Lib.hid (Below.refl _ _)⟩
      case round =>
        clear tk10 hk
        obtain ⟨k, w6, hk, rfl, rfl, HW⟩ := hrel
        by_cases hlt : k < n3
        · obtain ⟨ad, d, f, ls, L, m, cl, rfl, hb, hx, hc0, hc1, hc2, hl⟩ := (HE5.out.below HW.out).get hlt
          have hrg : rgt ⟨d, f, ls⟩ = true := HM.out.1.r _ (List.mem_of_getElem? hx)
          have hmm := few_len HF3.out hx hl
          have hlt2 : (k : Int) < (n3 : Int) := by omega
          have hxl : ad.block < w6.heap.size := hb
          obtain ⟨W, hW⟩ : ∃ W, w6.alloc (.cells #[.int .i64 d, .int .i64 f, .slice L m cl] 24) = W := ⟨_, rfl⟩
          have HX := Lib.hid (show Bx W w6.heap.size 24 #[.int .i64 d, .int .i64 f, .slice L m cl] by rw [← hW]; exact Bx.new _ _ _)
          have HBW := Lib.hid (show Below w6.heap.size w6 W by rw [← hW]; exact alloc_ _ _)
          have HY := Lib.hid ((HZ5.out.keep HW.out).keep HBW.out)
          have C1 := fun (p : Ext W) => Lib.hid (right_ d f L m cl ls p.W (hl.below (HBW.out.trans (p.b.mono HBW.out.size))) hmm)
          rw [hrg] at C1
          have X0 : ∀ p : Ext W, p.W.cell? ⟨w6.heap.size, 0, none⟩ = some (.int .i64 d) := fun p => HX.out.ext p 0
          have X1 : ∀ p : Ext W, p.W.cell? ⟨w6.heap.size, 1, none⟩ = some (.int .i64 f) := fun p => HX.out.ext p 1
          have X2 : ∀ p : Ext W, p.W.cell? ⟨w6.heap.size, 2, none⟩ = some (.slice L m cl) := fun p => HX.out.ext p 2
          have Y0 : ∀ p : Ext W, p.W.cell? ⟨w3.heap.size, 0, none⟩ = some (.slice (some ad) n3 c3) := fun p => HY.out.ext p 0
          have ne : Nonempty (Ext W) := ⟨⟨W, Below.refl _ _⟩⟩
          have HWW := Lib.hid hW
          have HEX := Lib.hid hx
          clear hW hx hb hl hmm hrg
          by_cases g0 : k = 0
          · have tk : decide (0 < (k : Int)) = false := by simpa using (show ¬ 0 < (k : Int) by omega)
            have tk2 : decide (0 < k) = false := by simpa using (show ¬ 0 < k by omega)
            clear g0
            go_wp2
            rw [HWW.out]
            refine quietE (by kernel_rfl) (by kernel_rfl) ?_
            repeat ((with_reducible refine wpQuiet_step (fun K hK => ?_)); go_simp; (first
              | ((with_reducible refine hK _ ?_); clear hK K)
              | (apply Exists.intro; refine ⟨fun _ => ?_, hK _ ?_⟩; (go_at_call 11; exact ext_of (C1 _).out); clear hK K)))
            refine wpQuiet_nil ?_
            rintro _ ⟨p, rfl⟩
            go_wp2
            go_roundw
            case rel => exact ⟨k + 1, _, by omega, by go_num, rfl, Lib.hid (HW.out.trans ((HBW.out.trans (p.b.mono HBW.out.size)).mono HW.out.size))⟩
            case measure => simp [intOf]; omega
          · obtain ⟨j, hj⟩ : ∃ j, k = j + 1 := ⟨k - 1, by omega⟩
            obtain ⟨ad', d', f', ls', L', m', cl', hA', hb', hx', hc0', hc1', hc2', hl'⟩ := (HE5.out.below HW.out).get (k := j) (by omega)
            injection hA' with hA'
            subst hA'
            have hle : d' ≤ d := HM.out.1.le (i := j) (j := k) (by omega) hx' HEX.out
            have td : decide (d < d') = false := by simpa using hle
            have Q0 : ∀ p : Ext W, p.W.cell? (ad.add (j * 3)) = some (.int .i64 d') := fun p => ((HBW.out.trans (p.b.mono HBW.out.size)).cell (by rw [add_block]; exact hxl)).trans hc0'
            have tk : decide (0 < (k : Int)) = true := by simpa using (show 0 < (k : Int) by omega)
            have tk2 : decide (0 < k) = true := by simpa using (show 0 < k by omega)
            obtain ⟨u, hu⟩ : ∃ u : Int, (j : Int) = u := ⟨_, rfl⟩
            have e1 : (k : Int) - 1 = u := by omega
            have hjn : u < (n3 : Int) := by omega
            have hj0 : (0 : Int) ≤ u := by omega
            have ew : IntKind.i64.wrap u = u := IntWalk.i64_in _ (by omega)
            have ut : u.toNat = j := by omega
            clear hu
            clear hx' hb' hc0' hc1' hc2' hl' hle g0 hj
            go_wp2
            rw [HWW.out]
            refine quietE (by kernel_rfl) (by kernel_rfl) ?_
            repeat (quiet_step (first
              | (go_at_call 11; exact ext_of (C1 _).out)))
            refine wpQuiet_nil ?_
            rintro _ ⟨p, rfl⟩
            go_wp2
            go_roundw
            case rel => exact ⟨k + 1, _, by omega, by go_num, rfl, Lib.hid (HW.out.trans ((HBW.out.trans (p.b.mono HBW.out.size)).mono HW.out.size))⟩
            case measure => clear e1 ew ut; simp [intOf]; omega
        · have HB7 := Lib.hid (HB5.out.trans (HW.out.mono HB5.out.size))
          go_wp2_with fail
          refine (alive_ _).mono ?_
          rintro e w9 ⟨rfl, hb9⟩
          have HB9 := Lib.hid (HB7.out.trans (hb9.mono HB7.out.size))
          clear hb9
          go_wp2
          go_ret
          exact ⟨rfl, HB9.out⟩

set_option maxRecDepth 100000 in
theorem lifted (os : Os) (started : os.Started) (H : Type) (enc : TypeId × Value → H) :
    ReturnsInHanded {} Try.checked os 5 .any (Rows.postZeroSpec.pre6 enc Try.prog Try.f5 Rows.postZeroRow.domain false) (Rows.postZeroSpec.post enc Try.prog Try.f5 false true false false) := by
  refine returnsInHanded_of_change (C := Try.checked) Pst.own started (by kernel_rfl) Try.func5
    (ChangeSpec.witness6 (enc := enc) (C := Try.checked) false ⟨#[], #[.slice none 0 0, .int .i64 0], []⟩ 8 (by kernel_rfl) (by kernel_rfl) (by kernel_rfl) (by kernel_rfl)) ?_
  intro W base args ds gs before hval0 hW hcnd _
  have hval : ∀ (j : Nat) t v, Try.f5.params[j]? = some t → args[j]? = some v → Value.okWide Try.prog W .any base t v := hval0
  have hW' := hW
  obtain ⟨p, q, hA0, hV, rfl, hfz, hnd⟩ := hW
  have hA : DataW.TrodAll enc Try.prog W 0 (fun _ => true) true Try.f5.params.toList args.toList ds p := hA0
  rw [Try.params5] at hA hval
  obtain ⟨v0, vs0, d0, ds0, p0, q0, hargs, rfl, rfl, h0, r0⟩ := trodAll_cons hA
  obtain ⟨v1, vs1, d1, ds1, p1, q1, rfl, rfl, rfl, h1, r1⟩ := trodAll_cons r0
  obtain ⟨rfl, rfl, rfl⟩ := trodAll_nil r1
  obtain rfl : args = #[v0, v1] := by cases args; simp_all
  obtain ⟨rfl, rfl⟩ := trodVars_none hV
  have k0 := h0
  have lt0 : ∀ x ∈ p0, x.block < W.heap.size := by obtain ⟨m, hm⟩ := k0; exact DataW.trod_lt m _ _ _ hm
  obtain ⟨A0, n0, c0, xs0, rfl, g0⟩ := Pst.open_list (hval 0 27 v0 rfl rfl) h0
  obtain ⟨a1, rfl, rfl, rfl, w1⟩ := open_int Try.underlying3 (hval 1 3 v1 rfl rfl) h1
  clear hA0 hval0
  refine (walk A0 n0 c0 xs0 g0 a1 (Pst.i64_of w1)).mono fun e W' ⟨he, bel⟩ => ?_
  subst he
  exact ⟨_, rfl, _, _, _, [], _, [], hW', trodAll_mk1 (shut_bool Try.underlying4 _), (trodAll_cons_mk (Below.trod Pst.laidOut (by kernel_rfl) (of_decide_eq_true (by kernel_rfl)) k0 bel lt0) (trodAll_cons_mk (shut_int Try.underlying3 w1) trodAll_mk0)), rfl, bel.frame _, fun h => by cases h⟩

theorem over : Rows.postZeroRow.holds Try.pinned (OpenSpec.ofChange Rows.postZeroSpec) :=
  OpenClaim.holds_of_wide 5 Try.f5 rfl rfl rfl rfl rfl rfl rfl ⟨rfl, rfl, rfl, rfl, rfl⟩ rfl rfl rfl rfl rfl (by kernel_rfl) Try.func5 (by kernel_rfl)
    (of_decide_eq_true (by kernel_rfl)) (by unfold Func.isWrapper; first | (rw [if_pos (by decide +kernel)]; kernel_rfl) | (rw [if_neg (by decide +kernel)]; exact ⟨rfl, rfl⟩))
    (fun os started H enc _ => lifted os started H enc)

theorem proved : Rows.PostZeroSaid := over
end Go.Proofs.Ytcjicnbmpfalmaa.postZero
