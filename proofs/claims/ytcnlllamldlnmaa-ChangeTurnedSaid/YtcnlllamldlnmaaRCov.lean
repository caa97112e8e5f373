/-
  The document's Covers, Full and Right of terms. Conditions: the row of covers reads as a list.
-/
import Derived.Test.YtcnlllamldlnmaaFns
namespace Go.Proofs.Ytcnlllamldlnmaa
open Go.RowKit Ba Cv Sp Te
namespace Tm
set_option linter.unusedVariables false

/-- What is still to be asked. -/
def rest (cs : List Co) (k : Nat) : Bool := (cs.drop k).all ok && up (cs.drop (k - 1))
theorem rest_bad {cs : List Co} {k : Nat} {x : Co} (hx : cs[k]? = some x) (h : ok x = false) : rest cs k = false := by unfold rest; rw [drop_get hx, List.all_cons, h]; rfl
theorem rest_first {cs : List Co} {x : Co} (hx : cs[0]? = some x) (h : ok x = true) : rest cs 1 = rest cs 0 := by unfold rest; rw [drop_get hx, List.all_cons, h]; rfl
theorem rest_low {cs : List Co} {j : Nat} {x y : Co} (hx : cs[j + 1]? = some x) (hy : cs[j]? = some y) (h2 : x.p ≤ y.p) : rest cs (j + 1) = false := by
  unfold rest
  rw [Nat.add_sub_cancel, up_long hy hx, decide_eq_false (by omega)]; simp
theorem rest_next {cs : List Co} {j : Nat} {x y : Co} (hx : cs[j + 1]? = some x) (hy : cs[j]? = some y) (h : ok x = true) (h2 : ¬ x.p ≤ y.p) : rest cs (j + 1 + 1) = rest cs (j + 1) := by
  unfold rest
  rw [Nat.add_sub_cancel, Nat.add_sub_cancel, up_long hy hx, decide_eq_true (by omega), drop_get hx, List.all_cons, h]; simp
theorem rest_end {cs : List Co} {k : Nat} (h : cs.length ≤ k) : rest cs k = true := by
  unfold rest
  rw [List.drop_of_length_le h, up_short (by omega)]; rfl

set_option maxRecDepth 100000 in
set_option maxHeartbeats 4000000 in
theorem rcovers_ (A : Option Addr) (n c : Nat) (cs : List Co) (w : World) (h : Cvs w (· < w.heap.size) A n cs) (hm : n ≤ maxLen) :
    Calls Try.prog 32 #[.slice A n c] w (Yes w (cvr cs)) := by
  unfold maxLen at hm
  have HS := Lib.hid h
  have HL := Lib.hid h.1
  have hl := h.1
  clear h
  by_cases g1 : n < 1
  · have t1 : decide ((n : Int) < 1) = true := by simpa using (show (n : Int) < 1 by omega)
    have t1' : decide (n < 1) = true := by simpa using g1
    rw [cvr_len (by omega)]
    clear g1 hl
    go_enter Try.func32, Try.ntmps32
    go_wp2
    go_ret
    exact ⟨rfl, Below.refl _ _⟩
  have t1 : decide ((n : Int) < 1) = false := decide_eq_false (by omega)
  have t1' : decide (n < 1) = false := decide_eq_false g1
  by_cases g2 : 8 < n
  · have t2 : decide (8 < (n : Int)) = true := decide_eq_true (by omega)
    have t2' : decide (8 < n) = true := decide_eq_true g2
    rw [cvr_len (by omega)]
    clear g1 g2 hl
    go_enter Try.func32, Try.ntmps32
    go_wp2
    go_ret
    exact ⟨rfl, Below.refl _ _⟩
  have t2 : decide (8 < (n : Int)) = false := decide_eq_false (by omega)
  have t2' : decide (8 < n) = false := decide_eq_false g2
  have e : cvr cs = rest cs 0 := by unfold cvr rest; rw [wi_iff.2 (by omega)]; simp
  rw [e]
  obtain ⟨R, hR⟩ : ∃ R, rest cs 0 = R := ⟨_, rfl⟩
  rw [hR]
  have HR := Lib.hid hR
  have HN := Lib.hid g2
  have C := fun c w => Lib.hid (rcov_right c w)
  clear e hR g1 g2 hl
  go_enter Try.func32, Try.ntmps32
  go_wp2
  go_loopw [3] (fun i w' => ∃ (k : Nat) (W : World), k ≤ n ∧ i = .int .i64 (k : Int) ∧ W = w' ∧ Hid (Below w.heap.size w W) ∧ Hid (rest cs k = R)) (fun i _ => n - (intOf i).toNat)
  case atStart => exact ⟨0, _, Nat.zero_le _, rfl, rfl, Lib.hid (Below.refl _ _), HR⟩
  case round =>
    obtain ⟨k, W, hk, rfl, rfl, HB, HD⟩ := hrel
    by_cases hlt : k < n
    · obtain ⟨ad, x, rfl, hb, hx, hF⟩ := (HS.out.below HB.out).get hlt
      obtain ⟨c0, c1, c2, c3, c4⟩ := hF
      have HLT := Lib.hid hlt
      have HX := Lib.hid hx
      have hlt2 : (k : Int) < (n : Int) := by omega
      have CX := C x
      have HQ := Lib.hid (rfl : ok x = ok x)
      cases hq : ok x with
      | false =>
        have HF := Lib.hid (show R = false by rw [← HD.out]; exact rest_bad hx hq)
        rw [hq] at CX
        clear hq hb hx C HQ
        go_wp2_with fail
        refine (CX _).out.mono ?_
        rintro e w1 ⟨rfl, hb1⟩
        have HB1 := Lib.hid (HB.out.trans (hb1.mono HB.out.size))
        clear hb1
        go_wp2
        go_ret
        exact ⟨by rw [HF.out]; rfl, HB1.out⟩
      | true =>
        rw [hq] at CX
        have HOK := Lib.hid hq
        clear hq hb hx C HQ hlt c0 c1 c2 c3 c4
        obtain ⟨b1, b2, b3, b4, b5⟩ : Fiv W (ad.add (k * 5)) x := by
          obtain ⟨ad', x', ead, _, hx', hF'⟩ := (HS.out.below HB.out).get HLT.out
          injection ead with ead
          subst ead
          rw [HX.out] at hx'
          injection hx' with hx'
          subst hx'
          exact hF'
        go_wp2_with fail
        refine (CX _).out.mono ?_
        rintro e w1 ⟨rfl, hb1⟩
        have HB1 := Lib.hid (HB.out.trans (hb1.mono HB.out.size))
        clear hb1 b1 b2 b3 b4 b5 CX
        cases k with
        | zero =>
          have HNX := Lib.hid (show rest cs 1 = R by rw [← HD.out]; exact rest_first HX.out HOK.out)
          have hl0 := HLT.out
          have hlt3 : (0 : Int) < (n : Int) := by omega
          go_wp2
          go_roundw
          case rel => exact ⟨1, _, by omega, by simp, rfl, HB1, HNX⟩
          case measure => simp [intOf]; omega
        | succ j =>
          obtain ⟨ad', y, ead, _, hy, hG⟩ := (HS.out.below HB1.out).get (show j < n by have := HLT.out; omega)
          injection ead with ead
          subst ead
          have d0 := hG.c0
          obtain ⟨ad'', x', ead, _, hx', hF'⟩ := (HS.out.below HB1.out).get HLT.out
          injection ead with ead
          subst ead
          rw [HX.out] at hx'
          injection hx' with hx'
          subst hx'
          have c0 := hF'.c0
          obtain ⟨k, hkj⟩ : ∃ k, k = j + 1 := ⟨_, rfl⟩
          rw [← hkj] at c0 HLT hk hlt2 ⊢
          have HKJ := Lib.hid hkj
          have e1 : (k : Int) - 1 = (j : Int) := by omega
          have hj2 : (j : Int) < (n : Int) := by omega
          have t4 : decide (0 < (k : Int)) = true := decide_eq_true (by omega)
          have t4' : decide (0 < k) = true := decide_eq_true (by omega)
          by_cases h1 : x.p ≤ y.p
          · have t5 : decide (x.p ≤ y.p) = true := by simpa using h1
            have HF := Lib.hid (show R = false by rw [← HD.out]; exact rest_low HX.out hy h1)
            clear h1 hG hF' hy hkj
            go_wp2
            go_quiet (fail)
            go_wp2
            go_ret
            exact ⟨by rw [HF.out]; rfl, below_drewN HB1.out _⟩
          · have t5 : decide (x.p ≤ y.p) = false := by simpa using h1
            have HNX := Lib.hid (show rest cs (k + 1) = R by rw [← HD.out, hkj]; exact rest_next HX.out hy HOK.out h1)
            clear h1 hG hF' hy hkj
            go_wp2
            go_quiet (fail)
            go_wp2
            go_roundw
            case rel => exact ⟨k + 1, _, by have := HLT.out; omega, by go_num, rfl, Lib.hid (below_drewN HB1.out _), HNX⟩
            case measure => have := HLT.out; have := HKJ.out; simp [intOf]; omega
    · have HF := Lib.hid (show R = true by rw [← HD.out]; exact rest_end (by rw [HL.out]; omega))
      obtain rfl : k = n := by omega
      go_wp2
      go_ret
      exact ⟨by rw [HF.out]; rfl, HB.out⟩

/-- A span of the calendar with a day. -/
def ful (s : Sp) : Bool := decide (1 ≤ s.1 ∧ s.1 < s.2 ∧ s.2 ≤ 292195)
theorem te_ful (s : Sp) (r : Ri) (cs : List Co) : te s r cs = (ful s && (decide (s.2 - s.1 ≤ 1100) && (rk r.k r.v r.a r.z && cvr cs))) := by
  rw [Bool.eq_iff_iff, te_iff, Bool.and_eq_true, Bool.and_eq_true, Bool.and_eq_true, ful, decide_eq_true_eq, decide_eq_true_eq]
  constructor
  · rintro ⟨⟨h1, h2, h3, h4⟩, h5, h6⟩; exact ⟨⟨h1, h2, h3⟩, h4, h5, h6⟩
  · rintro ⟨⟨h1, h2, h3⟩, h4, h5, h6⟩; exact ⟨⟨h1, h2, h3, h4⟩, h5, h6⟩

set_option maxHeartbeats 1000000 in
theorem full_ (s : Sp) (w : World) : Calls Try.prog 53 #[sg s] w (Yes w (ful s)) := by
  obtain ⟨a, b⟩ := s
  by_cases h1 : 1 ≤ a
  · have t1 : decide (1 ≤ a) = true := by simpa using h1
    by_cases h2 : a < b
    · have t2 : decide (a < b) = true := by simpa using h2
      by_cases h3 : b ≤ 292195
      · have t3 : decide (b ≤ 292195) = true := by simpa using h3
        rw [show ful (a, b) = true from decide_eq_true ⟨h1, h2, h3⟩]
        clear h1 h2 h3
        go_enter Try.func53, Try.ntmps53
        go_wp2
        go_ret
        exact ⟨rfl, alloc_ _ _⟩
      · have t3 : decide (b ≤ 292195) = false := by simpa using h3
        rw [show ful (a, b) = false from decide_eq_false (by simp only; omega)]
        clear h1 h2 h3
        go_enter Try.func53, Try.ntmps53
        go_wp2
        go_ret
        exact ⟨rfl, alloc_ _ _⟩
    · have t2 : decide (a < b) = false := by simpa using h2
      rw [show ful (a, b) = false from decide_eq_false (by simp only; omega)]
      clear h1 h2
      go_enter Try.func53, Try.ntmps53
      go_wp2
      go_ret
      exact ⟨rfl, alloc_ _ _⟩
  · have t1 : decide (1 ≤ a) = false := by simpa using h1
    rw [show ful (a, b) = false from decide_eq_false (by simp only; omega)]
    clear h1
    go_enter Try.func53, Try.ntmps53
    go_wp2
    go_ret
    exact ⟨rfl, alloc_ _ _⟩

set_option maxRecDepth 100000 in
set_option maxHeartbeats 4000000 in
theorem rright_ (s : Sp) (r : Ri) (A : Option Addr) (n c : Nat) (cs : List Co) (w : World) (hS : Cvs w (· < w.heap.size) A n cs) (hm : n ≤ maxLen) :
    Calls Try.prog 36 #[tg s r A n c] w (Yes w (te s r cs)) := by
  have CF := fun w => Lib.hid (full_ s w)
  have CR := fun w => Lib.hid (rrisk_right r.k r.v r.a r.z w)
  have HS := Lib.hid hS
  have CC := fun (W : World) (h : Below w.heap.size w W) => Lib.hid (rcovers_ A n c cs W (hS.below h) hm)
  rw [te_ful]
  generalize rk r.k r.v r.a r.z = q at CR ⊢
  generalize cvr cs = z at CC ⊢
  have HBX := Lib.hid (Bx.new w 30 (tc s r A n c))
  clear hS hm
  cases hf : ful s with
  | false =>
    rw [hf] at CF
    clear hf
    go_enter Try.func36, Try.ntmps36
    go_wp2_with fail
    refine (CF _).out.mono ?_
    rintro e w1 ⟨rfl, hb1⟩
    have HB1 := Lib.hid (below_alloc hb1)
    clear hb1
    go_wp2
    go_ret
    exact ⟨rfl, HB1.out⟩
  | true =>
    rw [hf] at CF
    have hf' := of_decide_eq_true hf
    obtain ⟨d, hd⟩ : ∃ d, d = s.2 - s.1 := ⟨_, rfl⟩
    have e1 : wrap64 (s.2 - s.1) = d := by rw [hd]; exact IntWalk.wrap64_in _ ⟨by omega, by omega⟩
    have e2 : IntKind.i64.wrap (s.2 - s.1) = d := (IntWalk.i64_left _).trans e1
    rw [← hd]
    obtain ⟨R, hR⟩ : ∃ R, (true && (decide (d ≤ 1100) && (q && z))) = R := ⟨_, rfl⟩
    rw [hR]
    have HR := Lib.hid hR
    clear hf hf' hd hR
    go_enter Try.func36, Try.ntmps36
    go_wp2_with fail
    refine (CF _).out.mono ?_
    rintro e w1 ⟨rfl, hb1⟩
    have HB1 := Lib.hid (below_alloc hb1)
    have HX1 := Lib.hid (HBX.out.keep hb1)
    clear hb1 CF HBX
    have x2 := HX1.out.c 2
    have x3 := HX1.out.c 3
    have x4 := HX1.out.c 4
    have x5 := HX1.out.c 5
    simp at x2 x3 x4 x5
    go_wp2_with fail
    refine (CR _).out.mono ?_
    rintro e w2 ⟨rfl, hb2⟩
    have HB2 := Lib.hid (HB1.out.trans (hb2.mono HB1.out.size))
    have HX2 := Lib.hid (HX1.out.keep hb2)
    clear hb2 HB1 HX1 CR x2 x3 x4 x5
    have x6 := HX2.out.c 6
    simp at x6
    go_wp2_with fail
    refine (CC _ HB2.out).out.mono ?_
    rintro e w3 ⟨rfl, hb3⟩
    have HB3 := Lib.hid (HB2.out.trans (hb3.mono HB2.out.size))
    have HX3 := Lib.hid (HX2.out.keep hb3)
    clear hb3 HB2 HX2 CC x6
    have x0 := HX3.out.c 0
    have x1 := HX3.out.c 1
    simp at x0 x1
    by_cases h1 : d ≤ 1100
    · have t1 : decide (d ≤ 1100) = true := decide_eq_true h1
      cases q
      · go_wp2
        go_ret
        exact ⟨by rw [← HR.out, t1]; rfl, HB3.out⟩
      · cases z
        · go_wp2
          go_ret
          exact ⟨by rw [← HR.out, t1]; rfl, HB3.out⟩
        · go_wp2
          go_ret
          exact ⟨by rw [← HR.out, t1]; rfl, HB3.out⟩
    · have t1 : decide (d ≤ 1100) = false := decide_eq_false h1
      go_wp2
      go_ret
      exact ⟨by rw [← HR.out, t1]; rfl, HB3.out⟩

end Tm
end Go.Proofs.Ytcnlllamldlnmaa
