/-
  The statement NumSplit holds: for every input the call returns true, and each argument reads afterwards as it read before. Conditions: none beside those that the row itself bears.
-/
import Derived.Test.YtdamojbjamolaaaGiven
import Derived.Test.YtdamojbjamolaaaGivenN
namespace Go.Proofs.Ytdamojbjamolaaa.numSplit
open Go.ChangeShapes Go.WideShapes Go.ChangeAt Go.RowKit
set_option linter.unusedVariables false

theorem own : ownKnob Try.prog.godebug = none := by kernel_rfl
theorem laidOut : laidOutB Try.prog = true := by kernel_rfl

set_option maxRecDepth 100000 in
set_option maxHeartbeats 2000000 in
theorem long (w : World) (m : Int) (A : Option Addr) (n c : Nat) (hn : n ≤ 9223372036854775807) (h : 2100 < n) :
    Calls Try.prog 5 #[.int .i64 m, .slice A n c] w fun e w' => e = .returned (.bool true) ∧ Below w.heap.size w w' := by
  have t1 : decide (2100 < n) = true := by simpa using h
  go_enter Try.func5, Try.ntmps5
  go_wp2_with fail
  refine (Num.alive _).mono ?_
  rintro e w1 ⟨rfl, hbw1⟩
  have Bw1 := Lib.hid hbw1
  clear hbw1
  go_wp2
  go_ret
  exact ⟨rfl, Bw1.out⟩

set_option maxRecDepth 100000 in
set_option maxHeartbeats 2000000 in
theorem short (w : World) (m : Int) (A : Option Addr) (n c : Nat) (xs : List Int) (G : Num.GivenN w A n c xs) (h : n ≤ 2100) :
    Calls Try.prog 5 #[.int .i64 m, .slice A n c] w fun e w' => e = .returned (.bool true) ∧ Below w.heap.size w w' := by
  have t1 : decide (2100 < n) = false := by simpa using h
  have HG := Lib.hid G
  clear G
  go_enter Try.func5, Try.ntmps5
  go_wp2_with (at_builtin
               refine Num.wpList_app _ rfl (.tmp 14) (.tmp 15) rfl w.heap.size (some ⟨w.heap.size, 0, none⟩) 0 0 [] rfl (Num.Own.lit w [] (Nat.le_refl _) (by simp)) w.heap.size A n c xs rfl (HG.out.given.ints.keep fun p hp => World.cell?_alloc_lt _ _ _ hp) HG.out.noroom (by omega) (by simp) ?_
               intro A1 c1 w1 hown1 hg1
               rw [Nat.zero_add, List.nil_append] at hown1
               rw [Nat.zero_add]
               have O1 := Lib.hid hown1
               have hb1 := ((Below.refl w.heap.size w).alloc (Nat.le_refl _) (.cells (List.map (Value.int .i64) []).toArray 3)).grown hg1 (by simp) (fun k hk => by simp [Value.ownBlock] at hk; omega)
               have B1 := Lib.hid hb1
               clear hown1 hg1 hb1)
  refine (Num.split A1 n c1 xs m w1 O1.out.ints.1 HG.out.given.len).mono ?_
  rintro e w2 ⟨X, kx, cx, rfl, hix, hkx, hb2⟩
  have B2 := Lib.hid hb2
  have X2 := Lib.hid hix
  have O2 := Lib.hid (O1.out.below hb2)
  have P2 := Lib.hid (B1.out.trans (hb2.mono B1.out.size))
  clear hb2 hix O1 B1
  go_wp2_with fail
  refine (Num.refSplit A n c xs m w2 ((HG.out.given.ints.below P2.out (Nat.le_refl _)).wide P2.out.size) HG.out.given.len).mono ?_
  rintro e w3 ⟨Y, ky, cy, rfl, hiy, hky, hb3⟩
  have X3 := Lib.hid ((X2.out.below hb3 (Nat.le_refl _)).wide hb3.size)
  have Y3 := Lib.hid hiy
  have O3 := Lib.hid (O2.out.below hb3)
  have P3 := Lib.hid (P2.out.trans (hb3.mono P2.out.size))
  clear hb3 hiy O2 P2 X2 B2
  obtain rfl : kx = ky := by rw [← X3.out.1, ← Y3.out.1]
  go_wp2_with fail
  refine (Num.alive _).mono ?_
  rintro e w4 ⟨rfl, hb4⟩
  have X4 := Lib.hid (X3.out.below hb4 (Nat.le_refl _))
  have Y4 := Lib.hid (Y3.out.below hb4 (Nat.le_refl _))
  have O4 := Lib.hid (O3.out.below hb4)
  have P4 := Lib.hid (P3.out.trans (hb4.mono P3.out.size))
  have hkb : kx ≤ maxLen := by
    rw [← X3.out.1]
    unfold Num.splitL
    split
    · rw [Num.shares_len, HG.out.given.ints.1]; exact HG.out.given.len
    · unfold maxLen; simp
  clear hb4 O3 P3 X3 Y3
  go_wp2_with fail
  refine (Num.same X Y kx cx cy _ _ _ w4 X4.out Y4.out hkb).mono ?_
  rintro e w5 ⟨rfl, hb5⟩
  have O5 := Lib.hid (O4.out.below hb5)
  have P5 := Lib.hid (P4.out.trans (hb5.mono P4.out.size))
  clear hb5 O4 P4 X4 Y4
  go_wp2_with fail
  refine (Num.same A1 A n c1 c _ _ xs w5 O5.out.ints.1 (HG.out.given.ints.below P5.out (Nat.le_refl _)) HG.out.given.len).mono ?_
  rintro e w6 ⟨rfl, hb6⟩
  have P6 := Lib.hid (P5.out.trans (hb6.mono P5.out.size))
  clear hb6
  go_wp2
  go_ret
  exact ⟨rfl, P6.out⟩

theorem walk (m : Int) (_hm : -9223372036854775808 ≤ m ∧ m ≤ 9223372036854775807) (A : Option Addr) (n c : Nat) (xs : List Int) {w : World} (G : Num.GivenN w A n c xs) (w0 : World) (hw : w = w0) :
    Calls Try.prog 5 #[.int .i64 m, .slice A n c] w0 fun e w' => e = .returned (.bool true) ∧ Below w0.heap.size w0 w' := by
  subst hw
  by_cases h : 2100 < n
  · exact long w m A n c (by have := G.given.len; unfold maxLen at this; omega) h
  · exact short w m A n c xs G (by omega)


set_option maxRecDepth 100000 in
theorem lifted (os : Os) (started : os.Started) (H : Type) (enc : TypeId × Value → H) :
    ReturnsInHanded {} Try.checked os 5 .any (Rows.numSplitSpec.pre6 enc Try.prog Try.f5 Rows.numSplitRow.domain false) (Rows.numSplitSpec.post enc Try.prog Try.f5 false true false false) := by
  refine returnsInHanded_of_change (C := Try.checked) own started (by kernel_rfl) Try.func5
    (ChangeSpec.witness6 (enc := enc) (C := Try.checked) false ⟨#[], #[.int .i64 0, .slice none 0 0], []⟩ 8 (by kernel_rfl) (by kernel_rfl) (by kernel_rfl) (by kernel_rfl)) ?_
  intro W base args ds gs before hval0 hW hcnd _
  have hval : ∀ (j : Nat) t v, Try.f5.params[j]? = some t → args[j]? = some v → Value.okWide Try.prog W .any base t v := hval0
  have hW' := hW
  obtain ⟨p, q, hA0, hV, rfl, hfz, hnd⟩ := hW
  have hA : DataW.TrodAll enc Try.prog W 0 (fun _ => true) true Try.f5.params.toList args.toList ds p := hA0
  rw [Try.params5] at hA hval
  obtain ⟨v0, vs0, d0, ds0, p0, q0, hargs, rfl, rfl, h0, r0⟩ := trodAll_cons hA
  obtain ⟨v1, vs1, d1, ds1, p1, q1, rfl, rfl, rfl, h1, r1⟩ := trodAll_cons r0
  obtain ⟨rfl, rfl, rfl⟩ := trodAll_nil r1
  obtain rfl : args = #[v0, v1] := by cases args; simp_all
  obtain ⟨rfl, rfl⟩ := trodVars_none hV
  obtain ⟨a0, rfl, rfl, rfl, w0⟩ := open_int Try.underlying3 (hval 0 3 v0 rfl rfl) h0
  obtain ⟨a1, len1, cap1, rfl⟩ := okWide_slice Try.underlying28 (hval 1 28 v1 rfl rfl)
  have k1 := h1
  have lt1 : ∀ x ∈ p1, x.block < W.heap.size := by obtain ⟨m, hm⟩ := k1; exact DataW.trod_lt m _ _ _ hm
  obtain ⟨z1, w1⟩ : ∃ zs, Num.GivenN W a1 len1 cap1 zs := by
    obtain ⟨fuel, hf⟩ := h1
    rcases open_ints Try.underlying28 Try.underlying3 (by kernel_rfl) hf with ⟨hcs, _⟩ | ⟨x, l, c, zs, hcs, _, hl, hm, hz, _, hcell, hwz⟩
    · simp [Value.cells] at hcs
      obtain ⟨rfl, rfl, rfl⟩ := hcs
      exact ⟨[], Num.GivenN.nil⟩
    · simp [Value.cells] at hcs
      obtain ⟨rfl, rfl, rfl⟩ := hcs
      exact ⟨zs.take len1, Num.GivenN.of hl hm (by simpa using hz) hcell hwz⟩
  clear hA0 hval0
  refine (walk a0 (Num.i64_of w0) a1 len1 cap1 z1 w1 W rfl).mono fun e W' ⟨he, bel⟩ => ?_
  subst he
  exact ⟨_, rfl, _, _, _, [], _, [], hW', trodAll_mk1 (shut_bool Try.underlying4 _), (trodAll_cons_mk (shut_int Try.underlying3 w0) (trodAll_cons_mk (Below.trod laidOut (by kernel_rfl) (of_decide_eq_true (by kernel_rfl)) k1 bel lt1) trodAll_mk0)), rfl, bel.frame _, fun h => by cases h⟩

theorem over : Rows.numSplitRow.holds Try.pinned (OpenSpec.ofChange Rows.numSplitSpec) :=
  OpenClaim.holds_of_wide 5 Try.f5 rfl rfl rfl rfl rfl rfl rfl ⟨rfl, rfl, rfl, rfl, rfl⟩ rfl rfl rfl rfl rfl (by kernel_rfl) Try.func5 (by kernel_rfl)
    (of_decide_eq_true (by kernel_rfl)) (by unfold Func.isWrapper; first | (rw [if_pos (by decide +kernel)]; kernel_rfl) | (rw [if_neg (by decide +kernel)]; exact ⟨rfl, rfl⟩))
    (fun os started H enc _ => lifted os started H enc)

theorem proved : Rows.NumSplitSaid := over
end Go.Proofs.Ytdamojbjamolaaa.numSplit
