/-
  The statement NumSums holds: for every input the call returns true, and each argument reads afterwards as it read before. Conditions: none beside those that the row itself bears.
-/
import Derived.Test.YtdamojbjamolaaaGiven
import Derived.Test.YtdamojbjamolaaaFacts
namespace Go.Proofs.Ytdamojbjamolaaa.numSums
open Go.ChangeShapes Go.WideShapes Go.ChangeAt Go.RowKit
set_option linter.unusedVariables false

theorem own : ownKnob Try.prog.godebug = none := by kernel_rfl
theorem laidOut : laidOutB Try.prog = true := by kernel_rfl

set_option maxRecDepth 100000 in
set_option maxHeartbeats 2000000 in
theorem long (w : World) (m : Int) (A : Option Addr) (n c : Nat) (hn : n ≤ 9223372036854775807) (h : 2100 < n) :
    Calls Try.prog 6 #[.int .i64 m, .slice A n c] w fun e w' => e = .returned (.bool true) ∧ Below w.heap.size w w' := by
  have t1 : decide (2100 < n) = true := by simpa using h
  go_enter Try.func6, Try.ntmps6
  go_wp2_with fail
  refine (Num.alive _).mono ?_
  rintro e w1 ⟨rfl, hbw1⟩
  have Bw1 := Lib.hid hbw1
  clear hbw1
  go_wp2
  go_ret
  exact ⟨rfl, Bw1.out⟩

set_option maxRecDepth 100000 in
set_option maxHeartbeats 2000000 in
theorem refused (w : World) (m : Int) (A : Option Addr) (n c : Nat) (xs : List Int) (G : Num.Given w A n c xs) (h : n ≤ 2100) (hE : Num.splitE m xs ≠ 0) :
    Calls Try.prog 6 #[.int .i64 m, .slice A n c] w fun e w' => e = .returned (.bool true) ∧ Below w.heap.size w w' := by
  have t1 : decide (2100 < n) = false := by simpa using h
  have C := Lib.hid (Num.split A n c xs m w G.ints G.len)
  rw [Num.splitL_no hE] at C
  have t2 : (Num.splitE m xs != 0) = true := by simpa using hE
  generalize Num.splitE m xs = ec at *
  clear G hE
  go_enter Try.func6, Try.ntmps6
  go_wp2_with fail
  refine C.out.mono ?_
  rintro e w1 ⟨X, kx, cx, rfl, hix, hkx, hb1⟩
  have B1 := Lib.hid hb1
  have IX := Lib.hid hix
  clear hb1 hix
  obtain rfl : kx = 0 := IX.out.1.symm
  go_wp2_with fail
  refine (Num.alive _).mono ?_
  rintro e w2 ⟨rfl, hbw2⟩
  have Bw2 := Lib.hid hbw2
  clear hbw2
  go_wp2
  go_ret
  exact ⟨rfl, B1.out.trans (Bw2.out.mono B1.out.size)⟩

set_option maxRecDepth 100000 in
set_option maxHeartbeats 2000000 in
theorem dealt (w : World) (m : Int) (A : Option Addr) (n c : Nat) (xs : List Int) (G : Num.Given w A n c xs) (h : n ≤ 2100) (hE : Num.splitE m xs = 0) :
    Calls Try.prog 6 #[.int .i64 m, .slice A n c] w fun e w' => e = .returned (.bool true) ∧ Below w.heap.size w w' := by
  have t1 : decide (2100 < n) = false := by simpa using h
  have M := Lib.hid (Num.made_of hE)
  have bm0 := M.out.m0
  have bm1 := M.out.m1
  have C := Lib.hid (Num.split A n c xs m w G.ints G.len)
  rw [Num.splitL_ok hE, hE] at C
  have HG := Lib.hid G
  clear G hE
  go_enter Try.func6, Try.ntmps6
  go_wp2_with fail
  refine C.out.mono ?_
  rintro e w1 ⟨X, kx, cx, rfl, hix, hkx, hb1⟩
  have B1 := Lib.hid hb1
  have IX := Lib.hid hix
  clear hb1 hix
  obtain rfl : kx = n := by rw [← IX.out.1, Num.shares_len, HG.out.ints.1]
  go_wp2_with fail
  go_loop [7, 35] (fun s i => ∃ (k : Nat) (t : Int), k ≤ kx ∧ i = .int .i64 (k : Int) ∧ s = .int .i64 t ∧ 0 ≤ t ∧ t ≤ 4000000000000000000 ∧ Hid (t = Num.cum m xs k)) (fun _ i => kx - (intOf i).toNat)
  case atStart => exact ⟨0, 0, Nat.zero_le _, rfl, rfl, by omega, by omega, Lib.hid M.out.cum_zero.symm⟩
  case round =>
    obtain ⟨k, t, hk, rfl, rfl, ht0, ht1, HT⟩ := hrel
    by_cases hlt : k < kx
    · obtain ⟨ad, v, rfl, hb, hx, hcx⟩ := IX.out.get hlt
      obtain ⟨ad2, p, rfl, hb2, hp, hcp⟩ := (HG.out.ints.below B1.out (Nat.le_refl _)).get hlt
      obtain ⟨hv, hkl⟩ := Num.shares_get hx
      have sp := M.out.share_pos k
      rw [← hv] at sp
      have cv := M.out.cum_val (k + 1)
      have hst : t + v = Num.cum m xs (k + 1) := by rw [hv, Num.share_cum, HT.out]; omega
      have hz : p = 0 → v = 0 := fun e => by rw [hv]; exact Num.share_zero (by rw [hp, e])
      have hv0 : 0 ≤ v := sp.1
      have hs : t + v ≤ 4000000000000000000 := by rw [hst]; omega
      have HS := Lib.hid hst
      have tv : decide (v < 0) = false := by simpa using hv0
      clear hst hv cv sp hx hp hkl
      by_cases hp0 : p = 0
      · have tp : (p == 0) = true := by rw [beq_iff_eq]; exact hp0
        have tv2 : (v != 0) = false := by simp; exact hz hp0
        clear hz hp0
        go_wp2
        go_round
        case rel => exact ⟨k + 1, t + v, by omega, by go_num, rfl, by omega, by omega, HS⟩
        case measure => simp [intOf]; omega
      · have tp : (p == 0) = false := by rw [beq_eq_false_iff_ne]; exact hp0
        clear hz hp0
        go_wp2
        go_round
        case rel => exact ⟨k + 1, t + v, by omega, by go_num, rfl, by omega, by omega, HS⟩
        case measure => simp [intOf]; omega
    · obtain rfl : t = m := by rw [HT.out, M.out.cum_all (by rw [HG.out.ints.1]; omega)]
      go_wp2_with fail
      refine (Num.alive _).mono ?_
      rintro e w2 ⟨rfl, hb2⟩
      have B2 := Lib.hid (B1.out.trans (hb2.mono B1.out.size))
      clear hb2
      go_wp2
      go_ret
      exact ⟨rfl, B2.out⟩

theorem walk (m : Int) (_hm : -9223372036854775808 ≤ m ∧ m ≤ 9223372036854775807) (A : Option Addr) (n c : Nat) (xs : List Int) {w : World} (G : Num.Given w A n c xs) (w0 : World) (hw : w = w0) :
    Calls Try.prog 6 #[.int .i64 m, .slice A n c] w0 fun e w' => e = .returned (.bool true) ∧ Below w0.heap.size w0 w' := by
  subst hw
  by_cases h : 2100 < n
  · exact long w m A n c (by have := G.len; unfold maxLen at this; omega) h
  · by_cases hE : Num.splitE m xs = 0
    · exact dealt w m A n c xs G (by omega) hE
    · exact refused w m A n c xs G (by omega) hE


set_option maxRecDepth 100000 in
theorem lifted (os : Os) (started : os.Started) (H : Type) (enc : TypeId × Value → H) :
    ReturnsInHanded {} Try.checked os 6 .any (Rows.numSumsSpec.pre6 enc Try.prog Try.f6 Rows.numSumsRow.domain false) (Rows.numSumsSpec.post enc Try.prog Try.f6 false true false false) := by
  refine returnsInHanded_of_change (C := Try.checked) own started (by kernel_rfl) Try.func6
    (ChangeSpec.witness6 (enc := enc) (C := Try.checked) false ⟨#[], #[.int .i64 0, .slice none 0 0], []⟩ 8 (by kernel_rfl) (by kernel_rfl) (by kernel_rfl) (by kernel_rfl)) ?_
  intro W base args ds gs before hval0 hW hcnd _
  have hval : ∀ (j : Nat) t v, Try.f6.params[j]? = some t → args[j]? = some v → Value.okWide Try.prog W .any base t v := hval0
  have hW' := hW
  obtain ⟨p, q, hA0, hV, rfl, hfz, hnd⟩ := hW
  have hA : DataW.TrodAll enc Try.prog W 0 (fun _ => true) true Try.f6.params.toList args.toList ds p := hA0
  rw [Try.params6] at hA hval
  obtain ⟨v0, vs0, d0, ds0, p0, q0, hargs, rfl, rfl, h0, r0⟩ := trodAll_cons hA
  obtain ⟨v1, vs1, d1, ds1, p1, q1, rfl, rfl, rfl, h1, r1⟩ := trodAll_cons r0
  obtain ⟨rfl, rfl, rfl⟩ := trodAll_nil r1
  obtain rfl : args = #[v0, v1] := by cases args; simp_all
  obtain ⟨rfl, rfl⟩ := trodVars_none hV
  obtain ⟨a0, rfl, rfl, rfl, w0⟩ := open_int Try.underlying3 (hval 0 3 v0 rfl rfl) h0
  obtain ⟨a1, len1, cap1, rfl⟩ := okWide_slice Try.underlying28 (hval 1 28 v1 rfl rfl)
  have k1 := h1
  have lt1 : ∀ x ∈ p1, x.block < W.heap.size := by obtain ⟨m, hm⟩ := k1; exact DataW.trod_lt m _ _ _ hm
  obtain ⟨z1, w1⟩ : ∃ zs, Num.Given W a1 len1 cap1 zs := by
    obtain ⟨fuel, hf⟩ := h1
    rcases open_ints Try.underlying28 Try.underlying3 (by kernel_rfl) hf with ⟨hcs, _⟩ | ⟨x, l, c, zs, hcs, _, hl, hm, hz, _, hcell, hwz⟩
    · simp [Value.cells] at hcs
      obtain ⟨rfl, rfl, rfl⟩ := hcs
      exact ⟨[], Num.Given.nil⟩
    · simp [Value.cells] at hcs
      obtain ⟨rfl, rfl, rfl⟩ := hcs
      exact ⟨zs.take len1, Num.Given.of hl hm (by simpa using hz) hcell hwz⟩
  clear hA0 hval0
  refine (walk a0 (Num.i64_of w0) a1 len1 cap1 z1 w1 W rfl).mono fun e W' ⟨he, bel⟩ => ?_
  subst he
  exact ⟨_, rfl, _, _, _, [], _, [], hW', trodAll_mk1 (shut_bool Try.underlying4 _), (trodAll_cons_mk (shut_int Try.underlying3 w0) (trodAll_cons_mk (Below.trod laidOut (by kernel_rfl) (of_decide_eq_true (by kernel_rfl)) k1 bel lt1) trodAll_mk0)), rfl, bel.frame _, fun h => by cases h⟩

theorem over : Rows.numSumsRow.holds Try.pinned (OpenSpec.ofChange Rows.numSumsSpec) :=
  OpenClaim.holds_of_wide 6 Try.f6 rfl rfl rfl rfl rfl rfl rfl ⟨rfl, rfl, rfl, rfl, rfl⟩ rfl rfl rfl rfl rfl (by kernel_rfl) Try.func6 (by kernel_rfl)
    (of_decide_eq_true (by kernel_rfl)) (by unfold Func.isWrapper; first | (rw [if_pos (by decide +kernel)]; kernel_rfl) | (rw [if_neg (by decide +kernel)]; exact ⟨rfl, rfl⟩))
    (fun os started H enc _ => lifted os started H enc)

theorem proved : Rows.NumSumsSaid := over
end Go.Proofs.Ytdamojbjamolaaa.numSums
