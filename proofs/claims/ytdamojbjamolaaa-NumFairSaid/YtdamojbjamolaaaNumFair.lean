/-
  The statement NumFair holds: for every input the call returns true, and each argument reads afterwards as it read before. Conditions: none beside those that the row itself bears.
-/
import Derived.Test.YtdamojbjamolaaaGiven
import Derived.Test.YtdamojbjamolaaaFacts
namespace Go.Proofs.Ytdamojbjamolaaa.numFair
open Go.ChangeShapes Go.WideShapes Go.ChangeAt Go.RowKit
set_option linter.unusedVariables false

theorem own : ownKnob Try.prog.godebug = none := by kernel_rfl
theorem laidOut : laidOutB Try.prog = true := by kernel_rfl

set_option maxRecDepth 100000 in
set_option maxHeartbeats 2000000 in
theorem long (w : World) (m : Int) (A : Option Addr) (n c : Nat) (hn : n ≤ 9223372036854775807) (h : 2100 < n) :
    Calls Try.prog 7 #[.int .i64 m, .slice A n c] w fun e w' => e = .returned (.bool true) ∧ Below w.heap.size w w' := by
  have t1 : decide (2100 < n) = true := by simpa using h
  go_enter Try.func7, Try.ntmps7
  go_wp2_with fail
  refine (Num.alive _).mono ?_
  rintro e w1 ⟨rfl, hbw1⟩
  have Bw1 := Lib.hid hbw1
  clear hbw1
  go_wp2
  go_ret
  exact ⟨rfl, Bw1.out⟩

def SumAny (w : World) (e : Ending) (w' : World) : Prop := (∃ (x : Int) (b : Bool), e = .returned (.tuple #[.int .i64 x, .bool b])) ∧ w = w'

set_option maxRecDepth 100000 in
set_option maxHeartbeats 2000000 in
theorem sum_any (A : Option Addr) (n c B : Nat) (xs : List Int) (w : World) (h : Num.Ints w B A n xs) (hn : n ≤ maxLen) :
    Calls Try.prog 22 #[.slice A n c] w (SumAny w) := by
  unfold maxLen at hn
  have H := Lib.hid h
  clear h
  go_enter Try.func22, Try.ntmps22
  go_wp2
  go_loop [4, 5] (fun s i => ∃ (k : Nat) (t : Int), k ≤ n ∧ i = .int .i64 (k : Int) ∧ s = .int .i64 t) (fun _ i => n - (intOf i).toNat)
  case atStart => exact ⟨0, 0, Nat.zero_le _, rfl, rfl⟩
  case round =>
    obtain ⟨k, t, hk, rfl, rfl⟩ := hrel
    by_cases hlt : k < n
    · obtain ⟨ad, x, rfl, hb, hx, hc⟩ := H.out.get hlt
      clear hx
      go_wp2
      · go_ret2
        exact ⟨⟨_, _, rfl⟩, rfl⟩
      · go_round
        case rel => exact ⟨k + 1, _, by omega, by go_num, rfl⟩
        case measure => simp [intOf]; omega
    · go_wp2
      go_ret2
      exact ⟨⟨_, _, rfl⟩, rfl⟩

theorem two_int (m p all : Int) (hm : 0 ≤ m) (hm1 : m ≤ 4000000000000000000) (hp : 0 ≤ p) (hpa : p ≤ all) (ha : 0 < all) (ha1 : all ≤ 4000000000000000000) (w : World) :
    Calls Try.prog 23 #[.int .i64 m, .int .i64 p, .int .i64 all] w fun e w' => e = .returned (.tuple #[.int .i64 (m * p / all), .int .i64 (m * p % all), .bool true]) ∧ w = w' := by
  obtain ⟨m, rfl⟩ := Int.eq_ofNat_of_zero_le hm
  obtain ⟨p, rfl⟩ := Int.eq_ofNat_of_zero_le hp
  obtain ⟨all, rfl⟩ := Int.eq_ofNat_of_zero_le (a := all) (by omega)
  have h := Num.two m p all (by omega) (by omega) (by omega) (by omega) w
  have hq : m * p / all ≤ m := by
    refine Nat.div_le_of_le_mul ?_
    rw [Nat.mul_comm]
    exact Nat.mul_le_mul_right m (by omega)
  rw [Num.twoVal, if_pos (by omega)] at h
  rw [← Int.natCast_mul, ← Int.natCast_ediv, ← Int.natCast_emod]
  exact h

theorem one_part {m : Int} {xs : List Int} (M : Num.Made m xs) {p : Int} {k : Nat} (h : xs[k]? = some p) (h1 : xs.length = 1) : Num.share m xs k = m * p / Num.sumL xs := by
  obtain ⟨hl, e⟩ := List.getElem?_eq_some_iff.1 h
  obtain rfl : k = 0 := by omega
  match xs, h1, h with
  | [x], _, h =>
    simp at h
    subst h
    have e1 : Num.sumL [x] = x := by simp [Num.sumL]
    rw [Num.share_cum, M.cum_zero, M.cum_all (by simp), e1]
    have := M.s0
    rw [e1] at this
    rw [Int.mul_ediv_cancel _ (by omega)]
    omega

set_option maxRecDepth 100000 in
set_option maxHeartbeats 2000000 in
theorem refused (w : World) (m : Int) (A : Option Addr) (n c : Nat) (xs : List Int) (G : Num.Given w A n c xs) (h : n ≤ 2100) (hE : Num.splitE m xs ≠ 0) :
    Calls Try.prog 7 #[.int .i64 m, .slice A n c] w fun e w' => e = .returned (.bool true) ∧ Below w.heap.size w w' := by
  have t1 : decide (2100 < n) = false := by simpa using h
  have C := Lib.hid (Num.split A n c xs m w G.ints G.len)
  have t2 : (Num.splitE m xs != 0) = true := by simpa using hE
  generalize Num.splitE m xs = ec at *
  have HG := Lib.hid G
  clear G hE
  go_enter Try.func7, Try.ntmps7
  go_wp2_with fail
  refine C.out.mono ?_
  rintro e w1 ⟨X, kx, cx, rfl, hix, hkx, hb1⟩
  have B1 := Lib.hid hb1
  have IX := Lib.hid hix
  clear hb1 hix
  go_wp2_with fail
  refine (sum_any A n c _ xs _ (HG.out.ints.below B1.out (Nat.le_refl _)) HG.out.len).mono ?_
  rintro e w2 ⟨⟨x, b, rfl⟩, rfl⟩
  go_wp2_with fail
  refine (Num.alive _).mono ?_
  rintro e w2 ⟨rfl, hbw2⟩
  have Bw2 := Lib.hid hbw2
  clear hbw2
  go_wp2
  go_ret
  exact ⟨rfl, B1.out.trans (Bw2.out.mono B1.out.size)⟩

set_option maxRecDepth 100000 in
set_option maxHeartbeats 2000000 in
theorem dealt (w : World) (m : Int) (A : Option Addr) (n c : Nat) (xs : List Int) (G : Num.Given w A n c xs) (h : n ≤ 2100) (hE : Num.splitE m xs = 0) :
    Calls Try.prog 7 #[.int .i64 m, .slice A n c] w fun e w' => e = .returned (.bool true) ∧ Below w.heap.size w w' := by
  have t1 : decide (2100 < n) = false := by simpa using h
  have M := Lib.hid (Num.made_of hE)
  have bm0 := M.out.m0
  have bm1 := M.out.m1
  have C := Lib.hid (Num.split A n c xs m w G.ints G.len)
  rw [Num.splitL_ok hE, hE] at C
  have HG := Lib.hid G
  clear G hE
  have S := fun (w1 : World) (hb : Below w.heap.size w w1) => Lib.hid (Num.refSum A n c w.heap.size xs w1 (HG.out.ints.below hb (Nat.le_refl _)) HG.out.len M.out.pos)
  simp only [Num.sumVal, if_pos M.out.s1] at S
  have hs0 := M.out.s0
  have hs1 := M.out.s1
  obtain ⟨all, hall⟩ : ∃ all, all = Num.sumL xs := ⟨_, rfl⟩
  rw [← hall] at S hs0 hs1
  have HA := Lib.hid hall
  have HS := Lib.hid S
  clear S hall
  go_enter Try.func7, Try.ntmps7
  go_wp2_with fail
  refine C.out.mono ?_
  rintro e w1 ⟨X, kx, cx, rfl, hix, hkx, hb1⟩
  have B1 := Lib.hid hb1
  have IX := Lib.hid hix
  clear hb1 hix
  obtain rfl : kx = n := by rw [← IX.out.1, Num.shares_len, HG.out.ints.1]
  go_wp2_with fail
  refine (HS.out _ B1.out).out.mono ?_
  rintro e w2 ⟨rfl, rfl⟩
  clear HS
  go_wp2_with fail
  go_loop [43] (fun i => ∃ k : Nat, k ≤ kx ∧ i = .int .i64 (k : Int)) (fun i => kx - (intOf i).toNat)
  case atStart => exact ⟨0, Nat.zero_le _, rfl⟩
  case round =>
    obtain ⟨k, hk, rfl⟩ := hrel
    by_cases hlt : k < kx
    · obtain ⟨ad, v, rfl, hb, hx, hcx⟩ := IX.out.get hlt
      obtain ⟨ad2, p, rfl, hb2, hp, hcp⟩ := (HG.out.ints.below B1.out (Nat.le_refl _)).get hlt
      obtain ⟨hv, hkl⟩ := Num.shares_get hx
      have fair := M.out.fair hp
      have pl := M.out.part_le hp
      have sp := M.out.share_pos k
      have one : kx = 1 → v = m * p / all := fun e => by rw [hv, HA.out]; exact one_part M.out hp (by rw [HG.out.ints.1]; exact e)
      rw [← hv, ← HA.out] at fair
      rw [← hv] at sp
      rw [← HA.out] at pl
      have T := fun w => Lib.hid (two_int m p all bm0 bm1 pl.1 pl.2 hs0 hs1 w)
      generalize m * p / all = fl at *
      generalize m * p % all = lf at *
      obtain ⟨s1, hs⟩ : ∃ s1 : Int, s1 = fl + 1 := ⟨_, rfl⟩
      have es : fl + 1 = s1 := hs.symm
      have tv1 : decide (v < fl) = false := by simp; omega
      have tv2 : decide (s1 < v) = false := by simp; omega
      have bf0 : -1 ≤ fl := by omega
      have bf1 : fl ≤ 4000000000000000000 := by omega
      clear hs fair sp hv hx hp hkl
      by_cases hl : lf = 0
      · have tl : (lf == 0) = true := by rw [beq_iff_eq]; exact hl
        by_cases hn1 : kx = 1
        · have tn : ((kx : Int) == 1) = true := by rw [beq_iff_eq]; omega
          have tvf : (v != fl) = false := by simp; exact one hn1
          clear hl hn1 one
          go_wp2_with (go_at_call 23; refine (T _).out.mono ?_; rintro e w2 ⟨rfl, rfl⟩)
          go_round
          case rel => exact ⟨k + 1, by omega, by go_num⟩
          case measure => simp [intOf]; omega
        · have tn : ((kx : Int) == 1) = false := by rw [beq_eq_false_iff_ne]; omega
          clear hl hn1 one
          go_wp2_with (go_at_call 23; refine (T _).out.mono ?_; rintro e w2 ⟨rfl, rfl⟩)
          go_round
          case rel => exact ⟨k + 1, by omega, by go_num⟩
          case measure => simp [intOf]; omega
      · have tl : (lf == 0) = false := by rw [beq_eq_false_iff_ne]; exact hl
        clear hl one
        go_wp2_with (go_at_call 23; refine (T _).out.mono ?_; rintro e w2 ⟨rfl, rfl⟩)
        go_round
        case rel => exact ⟨k + 1, by omega, by go_num⟩
        case measure => simp [intOf]; omega
    · go_wp2_with fail
      refine (Num.alive _).mono ?_
      rintro e w2 ⟨rfl, hb2⟩
      have B2 := Lib.hid (B1.out.trans (hb2.mono B1.out.size))
      clear hb2
      go_wp2
      go_ret
      exact ⟨rfl, B2.out⟩

theorem walk (m : Int) (_hm : -9223372036854775808 ≤ m ∧ m ≤ 9223372036854775807) (A : Option Addr) (n c : Nat) (xs : List Int) {w : World} (G : Num.Given w A n c xs) (w0 : World) (hw : w = w0) :
    Calls Try.prog 7 #[.int .i64 m, .slice A n c] w0 fun e w' => e = .returned (.bool true) ∧ Below w0.heap.size w0 w' := by
  subst hw
  by_cases h : 2100 < n
  · exact long w m A n c (by have := G.len; unfold maxLen at this; omega) h
  · by_cases hE : Num.splitE m xs = 0
    · exact dealt w m A n c xs G (by omega) hE
    · exact refused w m A n c xs G (by omega) hE


set_option maxRecDepth 100000 in
theorem lifted (os : Os) (started : os.Started) (H : Type) (enc : TypeId × Value → H) :
    ReturnsInHanded {} Try.checked os 7 .any (Rows.numFairSpec.pre6 enc Try.prog Try.f7 Rows.numFairRow.domain false) (Rows.numFairSpec.post enc Try.prog Try.f7 false true false false) := by
  refine returnsInHanded_of_change (C := Try.checked) own started (by kernel_rfl) Try.func7
    (ChangeSpec.witness6 (enc := enc) (C := Try.checked) false ⟨#[], #[.int .i64 0, .slice none 0 0], []⟩ 8 (by kernel_rfl) (by kernel_rfl) (by kernel_rfl) (by kernel_rfl)) ?_
  intro W base args ds gs before hval0 hW hcnd _
  have hval : ∀ (j : Nat) t v, Try.f7.params[j]? = some t → args[j]? = some v → Value.okWide Try.prog W .any base t v := hval0
  have hW' := hW
  obtain ⟨p, q, hA0, hV, rfl, hfz, hnd⟩ := hW
  have hA : DataW.TrodAll enc Try.prog W 0 (fun _ => true) true Try.f7.params.toList args.toList ds p := hA0
  rw [Try.params7] at hA hval
  obtain ⟨v0, vs0, d0, ds0, p0, q0, hargs, rfl, rfl, h0, r0⟩ := trodAll_cons hA
  obtain ⟨v1, vs1, d1, ds1, p1, q1, rfl, rfl, rfl, h1, r1⟩ := trodAll_cons r0
  obtain ⟨rfl, rfl, rfl⟩ := trodAll_nil r1
  obtain rfl : args = #[v0, v1] := by cases args; simp_all
  obtain ⟨rfl, rfl⟩ := trodVars_none hV
  obtain ⟨a0, rfl, rfl, rfl, w0⟩ := open_int Try.underlying3 (hval 0 3 v0 rfl rfl) h0
  obtain ⟨a1, len1, cap1, rfl⟩ := okWide_slice Try.underlying28 (hval 1 28 v1 rfl rfl)
  have k1 := h1
  have lt1 : ∀ x ∈ p1, x.block < W.heap.size := by obtain ⟨m, hm⟩ := k1; exact DataW.trod_lt m _ _ _ hm
  obtain ⟨z1, w1⟩ : ∃ zs, Num.Given W a1 len1 cap1 zs := by
    obtain ⟨fuel, hf⟩ := h1
    rcases open_ints Try.underlying28 Try.underlying3 (by kernel_rfl) hf with ⟨hcs, _⟩ | ⟨x, l, c, zs, hcs, _, hl, hm, hz, _, hcell, hwz⟩
    · simp [Value.cells] at hcs
      obtain ⟨rfl, rfl, rfl⟩ := hcs
      exact ⟨[], Num.Given.nil⟩
    · simp [Value.cells] at hcs
      obtain ⟨rfl, rfl, rfl⟩ := hcs
      exact ⟨zs.take len1, Num.Given.of hl hm (by simpa using hz) hcell hwz⟩
  clear hA0 hval0
  refine (walk a0 (Num.i64_of w0) a1 len1 cap1 z1 w1 W rfl).mono fun e W' ⟨he, bel⟩ => ?_
  subst he
  exact ⟨_, rfl, _, _, _, [], _, [], hW', trodAll_mk1 (shut_bool Try.underlying4 _), (trodAll_cons_mk (shut_int Try.underlying3 w0) (trodAll_cons_mk (Below.trod laidOut (by kernel_rfl) (of_decide_eq_true (by kernel_rfl)) k1 bel lt1) trodAll_mk0)), rfl, bel.frame _, fun h => by cases h⟩

theorem over : Rows.numFairRow.holds Try.pinned (OpenSpec.ofChange Rows.numFairSpec) :=
  OpenClaim.holds_of_wide 7 Try.f7 rfl rfl rfl rfl rfl rfl rfl ⟨rfl, rfl, rfl, rfl, rfl⟩ rfl rfl rfl rfl rfl (by kernel_rfl) Try.func7 (by kernel_rfl)
    (of_decide_eq_true (by kernel_rfl)) (by unfold Func.isWrapper; first | (rw [if_pos (by decide +kernel)]; kernel_rfl) | (rw [if_neg (by decide +kernel)]; exact ⟨rfl, rfl⟩))
    (fun os started H enc _ => lifted os started H enc)

theorem proved : Rows.NumFairSaid := over
end Go.Proofs.Ytdamojbjamolaaa.numFair
