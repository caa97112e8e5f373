/-
  The parts RCov, RRight11, ROrder, TRAt, Holds, Rof of this proof. Conditions: those of each theorem.
-/
import Derived.Test.YtplenoaajokpjaaGreatMFns
import Derived.Test.YtplenoaajokpjaaGreatMRi
import Derived.Test.YtplenoaajokpjaaGreatMPl
import Derived.BigQuiet
import Derived.Test.YtplenoaajokpjaaGreatKInv
import Derived.Test.YtplenoaajokpjaaGreatKTAt
import Derived.Test.YtplenoaajokpjaaGreatMOb
import Derived.Test.YtplenoaajokpjaaGreatMRa
namespace Go.Proofs.YtplenoaajokpjaaGreat
open Go.RowKit Ba Cv Sp Te
namespace Tm
set_option linter.unusedVariables false
def rest (cs : List Co) (k : Nat) : Bool := (cs.drop k).all ok && up (cs.drop (k - 1))
theorem rest_bad {cs : List Co} {k : Nat} {x : Co} (hx : cs[k]? = some x) (h : ok x = false) : rest cs k = false := by unfold rest; rw [drop_get hx, List.all_cons, h]; rfl
theorem rest_first {cs : List Co} {x : Co} (hx : cs[0]? = some x) (h : ok x = true) : rest cs 1 = rest cs 0 := by unfold rest; rw [drop_get hx, List.all_cons, h]; rfl
theorem rest_low {cs : List Co} {j : Nat} {x y : Co} (hx : cs[j + 1]? = some x) (hy : cs[j]? = some y) (h2 : x.p ≤ y.p) : rest cs (j + 1) = false := by
 unfold rest; rw [Nat.add_sub_cancel, up_long hy hx, decide_eq_false (by omega)]; simp
theorem rest_next {cs : List Co} {j : Nat} {x y : Co} (hx : cs[j + 1]? = some x) (hy : cs[j]? = some y) (h : ok x = true) (h2 : ¬ x.p ≤ y.p) : rest cs (j + 1 + 1) = rest cs (j + 1) := by
 unfold rest; rw [Nat.add_sub_cancel, Nat.add_sub_cancel, up_long hy hx, decide_eq_true (by omega), drop_get hx, List.all_cons, h]; simp
theorem rest_end {cs : List Co} {k : Nat} (h : cs.length ≤ k) : rest cs k = true := by
 unfold rest; rw [List.drop_of_length_le h, up_short (by omega)]; rfl
set_option maxRecDepth 100000 in
set_option maxHeartbeats 4000000 in
theorem rcovers_ (A : Option Addr) (n c : Nat) (cs : List Co) (w : World) (h : Cvs w (· < w.heap.size) A n cs) (hm : n ≤ maxLen) :
  Calls Tryz.prog 101 #[.slice A n c] w (Yes w (cvr cs)) := by
 unfold maxLen at hm; have HS := Lib.hid h; have HL := Lib.hid h.1; have hl := h.1; clear h; by_cases g1 : n < 1
 ·have t1 : decide ((n : Int) < 1) = true := by simpa using (show (n : Int) < 1 by omega)
  have t1' : decide (n < 1) = true := by simpa using g1
  rw [cvr_len (by omega)]; clear g1 hl; go_enter Tryz.func101, Tryz.ntmps101; go_wp2; go_ret; exact ⟨rfl, Below.refl _ _⟩
 have t1 : decide ((n : Int) < 1) = false := decide_eq_false (by omega); have t1' : decide (n < 1) = false := decide_eq_false g1; by_cases g2 : 8 < n
 ·have t2 : decide (8 < (n : Int)) = true := decide_eq_true (by omega); have t2' : decide (8 < n) = true := decide_eq_true g2; rw [cvr_len (by omega)]; clear g1 g2 hl; go_enter Tryz.func101, Tryz.ntmps101; go_wp2; go_ret; exact ⟨rfl, Below.refl _ _⟩
 have t2 : decide (8 < (n : Int)) = false := decide_eq_false (by omega); have t2' : decide (8 < n) = false := decide_eq_false g2; have e : cvr cs = rest cs 0 := by unfold cvr rest; rw [wi_iff.2 (by omega)]; simp
 rw [e]; obtain ⟨R, hR⟩ : ∃ R, rest cs 0 = R := ⟨_, rfl⟩; rw [hR]; have HR := Lib.hid hR; have HN := Lib.hid g2; have C := fun c w => Lib.hid (rcov_right c w)
 clear e hR g1 g2 hl; go_enter Tryz.func101, Tryz.ntmps101; go_wp2
 go_loopw [3] (fun i w' => ∃ (k : Nat) (W : World), k ≤ n ∧ i = .int .i64 (k : Int) ∧ W = w' ∧ Hid (Below w.heap.size w W) ∧ Hid (rest cs k = R)) (fun i _ => n - (intOf i).toNat)
 case atStart => exact ⟨0, _, Nat.zero_le _, rfl, rfl, Lib.hid (Below.refl _ _), HR⟩
 case round =>
  obtain ⟨k, W, hk, rfl, rfl, HB, HD⟩ := hrel; by_cases hlt : k < n
  ·obtain ⟨ad, x, rfl, hb, hx, hF⟩ := (HS.out.below HB.out).get hlt; obtain ⟨c0, c1, c2, c3, c4⟩ := hF; have HLT := Lib.hid hlt; have HX := Lib.hid hx; have hlt2 : (k : Int) < (n : Int) := by omega
   have CX := C x; have HQ := Lib.hid (rfl : ok x = ok x); cases hq : ok x with
   | false =>
    have HF := Lib.hid (show R = false by rw [← HD.out]; exact rest_bad hx hq); rw [hq] at CX; clear hq hb hx C HQ
    go_wp2_with fail
    refine (CX _).out.mono ?_; rintro e w1 ⟨rfl, hb1⟩; have HB1 := Lib.hid (HB.out.trans (hb1.mono HB.out.size)); clear hb1; go_wp2; go_ret; exact ⟨by rw [HF.out]; rfl, HB1.out⟩
   | true =>
    rw [hq] at CX; have HOK := Lib.hid hq; clear hq hb hx C HQ hlt c0 c1 c2 c3 c4
    obtain ⟨b1, b2, b3, b4, b5⟩ : Fiv W (ad.add (k * 5)) x := by
     obtain ⟨ad', x', ead, _, hx', hF'⟩ := (HS.out.below HB.out).get HLT.out; injection ead with ead
     subst ead; rw [HX.out] at hx'; injection hx' with hx'
     subst hx'; exact hF'
    go_wp2_with fail
    refine (CX _).out.mono ?_; rintro e w1 ⟨rfl, hb1⟩; have HB1 := Lib.hid (HB.out.trans (hb1.mono HB.out.size)); clear hb1 b1 b2 b3 b4 b5 CX; cases k with
    | zero =>
     have HNX := Lib.hid (show rest cs 1 = R by rw [← HD.out]; exact rest_first HX.out HOK.out); have hl0 := HLT.out; have hlt3 : (0 : Int) < (n : Int) := by omega
     go_wp2; go_roundw
     case rel => exact ⟨1, _, by omega, by simp, rfl, HB1, HNX⟩
     case measure => simp [intOf]; omega
    | succ j =>
     obtain ⟨ad', y, ead, _, hy, hG⟩ := (HS.out.below HB1.out).get (show j < n by have := HLT.out; omega); injection ead with ead
     subst ead; have d0 := hG.c0; obtain ⟨ad'', x', ead, _, hx', hF'⟩ := (HS.out.below HB1.out).get HLT.out; injection ead with ead
     subst ead; rw [HX.out] at hx'; injection hx' with hx'
     subst hx'; have c0 := hF'.c0; obtain ⟨k, hkj⟩ : ∃ k, k = j + 1 := ⟨_, rfl⟩; rw [← hkj] at c0 HLT hk hlt2 ⊢; have HKJ := Lib.hid hkj; have e1 : (k : Int) - 1 = (j : Int) := by omega
     have hj2 : (j : Int) < (n : Int) := by omega
     have t4 : decide (0 < (k : Int)) = true := decide_eq_true (by omega); have t4' : decide (0 < k) = true := decide_eq_true (by omega); by_cases h1 : x.p ≤ y.p
     ·have t5 : decide (x.p ≤ y.p) = true := by simpa using h1
      have HF := Lib.hid (show R = false by rw [← HD.out]; exact rest_low HX.out hy h1); clear h1 hG hF' hy hkj; go_wp2
      go_quiet (fail)
      go_wp2; go_ret; exact ⟨by rw [HF.out]; rfl, below_drewN HB1.out _⟩
     ·have t5 : decide (x.p ≤ y.p) = false := by simpa using h1
      have HNX := Lib.hid (show rest cs (k + 1) = R by rw [← HD.out, hkj]; exact rest_next HX.out hy HOK.out h1); clear h1 hG hF' hy hkj; go_wp2
      go_quiet (fail)
      go_wp2; go_roundw
      case rel => exact ⟨k + 1, _, by have := HLT.out; omega, by go_num, rfl, Lib.hid (below_drewN HB1.out _), HNX⟩
      case measure => have := HLT.out; have := HKJ.out; simp [intOf]; omega
  ·have HF := Lib.hid (show R = true by rw [← HD.out]; exact rest_end (by rw [HL.out]; omega)); obtain rfl : k = n := by omega
   go_wp2; go_ret; exact ⟨by rw [HF.out]; rfl, HB.out⟩
def ful (s : Sp) : Bool := decide (1 ≤ s.1 ∧ s.1 < s.2 ∧ s.2 ≤ 292195)
theorem te_ful (s : Sp) (r : Ri) (cs : List Co) : te s r cs = (ful s && (decide (s.2 - s.1 ≤ 1100) && (rk r.k r.v r.a r.z && cvr cs))) := by
 rw [Bool.eq_iff_iff, te_iff, Bool.and_eq_true, Bool.and_eq_true, Bool.and_eq_true, ful, decide_eq_true_eq, decide_eq_true_eq]; constructor
 ·rintro ⟨⟨h1, h2, h3, h4⟩, h5, h6⟩; exact ⟨⟨h1, h2, h3⟩, h4, h5, h6⟩
 ·rintro ⟨⟨h1, h2, h3⟩, h4, h5, h6⟩; exact ⟨⟨h1, h2, h3, h4⟩, h5, h6⟩
set_option maxHeartbeats 1000000 in
theorem full_ (s : Sp) (w : World) : Calls Tryz.prog 99 #[sg s] w (Yes w (ful s)) := by
 obtain ⟨a, b⟩ := s; by_cases h1 : 1 ≤ a
 ·have t1 : decide (1 ≤ a) = true := by simpa using h1
  by_cases h2 : a < b
  ·have t2 : decide (a < b) = true := by simpa using h2
   by_cases h3 : b ≤ 292195
   ·have t3 : decide (b ≤ 292195) = true := by simpa using h3
    rw [show ful (a, b) = true from decide_eq_true ⟨h1, h2, h3⟩]; clear h1 h2 h3; go_enter Tryz.func99, Tryz.ntmps99; go_wp2; go_ret; exact ⟨rfl, alloc_ _ _⟩
   ·have t3 : decide (b ≤ 292195) = false := by simpa using h3
    rw [show ful (a, b) = false from decide_eq_false (by simp only; omega)]; clear h1 h2 h3; go_enter Tryz.func99, Tryz.ntmps99; go_wp2; go_ret; exact ⟨rfl, alloc_ _ _⟩
  ·have t2 : decide (a < b) = false := by simpa using h2
   rw [show ful (a, b) = false from decide_eq_false (by simp only; omega)]; clear h1 h2; go_enter Tryz.func99, Tryz.ntmps99; go_wp2; go_ret; exact ⟨rfl, alloc_ _ _⟩
 ·have t1 : decide (1 ≤ a) = false := by simpa using h1
  rw [show ful (a, b) = false from decide_eq_false (by simp only; omega)]; clear h1; go_enter Tryz.func99, Tryz.ntmps99; go_wp2; go_ret; exact ⟨rfl, alloc_ _ _⟩
set_option maxRecDepth 100000 in
set_option maxHeartbeats 4000000 in
theorem rright_ (s : Sp) (r : Ri) (A : Option Addr) (n c : Nat) (cs : List Co) (w : World) (hS : Cvs w (· < w.heap.size) A n cs) (hm : n ≤ maxLen) :
  Calls Tryz.prog 73 #[tg s r A n c] w (Yes w (te s r cs)) := by
 have CF := fun w => Lib.hid (full_ s w)
 have CR := fun w => Lib.hid (rrisk_right r.k r.v r.a r.z w)
 have HS := Lib.hid hS; have CC := fun (W : World) (h : Below w.heap.size w W) => Lib.hid (rcovers_ A n c cs W (hS.below h) hm)
 rw [te_ful]; generalize rk r.k r.v r.a r.z = q at CR ⊢; generalize cvr cs = z at CC ⊢; have HBX := Lib.hid (Bx.new w 32 (tc s r A n c)); clear hS hm; cases hf : ful s with
 | false =>
  rw [hf] at CF; clear hf; go_enter Tryz.func73, Tryz.ntmps73
  go_wp2_with fail
  refine (CF _).out.mono ?_; rintro e w1 ⟨rfl, hb1⟩; have HB1 := Lib.hid (below_alloc hb1); clear hb1; go_wp2; go_ret; exact ⟨rfl, HB1.out⟩
 | true =>
  rw [hf] at CF; have hf' := of_decide_eq_true hf; obtain ⟨d, hd⟩ : ∃ d, d = s.2 - s.1 := ⟨_, rfl⟩; have e1 : wrap64 (s.2 - s.1) = d := by rw [hd]; exact IntWalk.wrap64_in _ ⟨by omega, by omega⟩
  have e2 : IntKind.i64.wrap (s.2 - s.1) = d := (IntWalk.i64_left _).trans e1; rw [← hd]; obtain ⟨R, hR⟩ : ∃ R, (true && (decide (d ≤ 1100) && (q && z))) = R := ⟨_, rfl⟩; rw [hR]; have HR := Lib.hid hR; clear hf hf' hd hR; go_enter Tryz.func73, Tryz.ntmps73
  go_wp2_with fail
  refine (CF _).out.mono ?_; rintro e w1 ⟨rfl, hb1⟩; have HB1 := Lib.hid (below_alloc hb1); have HX1 := Lib.hid (HBX.out.keep hb1); clear hb1 CF HBX; have x2 := HX1.out.c 2; have x3 := HX1.out.c 3; have x4 := HX1.out.c 4; have x5 := HX1.out.c 5; simp at x2 x3 x4 x5
  go_wp2_with fail
  refine (CR _).out.mono ?_; rintro e w2 ⟨rfl, hb2⟩; have HB2 := Lib.hid (HB1.out.trans (hb2.mono HB1.out.size)); have HX2 := Lib.hid (HX1.out.keep hb2); clear hb2 HB1 HX1 CR x2 x3 x4 x5; have x6 := HX2.out.c 6; simp at x6
  go_wp2_with fail
  refine (CC _ HB2.out).out.mono ?_; rintro e w3 ⟨rfl, hb3⟩; have HB3 := Lib.hid (HB2.out.trans (hb3.mono HB2.out.size)); have HX3 := Lib.hid (HX2.out.keep hb3); clear hb3 HB2 HX2 CC x6; have x0 := HX3.out.c 0; have x1 := HX3.out.c 1; simp at x0 x1; by_cases h1 : d ≤ 1100
  ·have t1 : decide (d ≤ 1100) = true := decide_eq_true h1; cases q
   ·go_wp2; go_ret; exact ⟨by rw [← HR.out, t1]; rfl, HB3.out⟩
   ·cases z
    ·go_wp2; go_ret; exact ⟨by rw [← HR.out, t1]; rfl, HB3.out⟩
    ·go_wp2; go_ret; exact ⟨by rw [← HR.out, t1]; rfl, HB3.out⟩
  ·have t1 : decide (d ≤ 1100) = false := decide_eq_false h1; go_wp2; go_ret; exact ⟨by rw [← HR.out, t1]; rfl, HB3.out⟩
end Tm
end Go.Proofs.YtplenoaajokpjaaGreat

namespace Go.Proofs.YtplenoaajokpjaaGreat
open Go.RowKit Ba Cv Sp Te Ag
namespace Tm
set_option linter.unusedVariables false
set_option maxRecDepth 100000 in
set_option maxHeartbeats 4000000 in
theorem rright11 (r : Rw) (w : World) (hS : Cvs w (· < w.heap.size) r.A r.n r.v.cs) (hm : r.n ≤ maxLen) : Calls Tryz.prog 74 #[vg r] w (Yes w (rch r.v)) := by
 obtain ⟨W, hW⟩ : ∃ W, w.alloc (.cells (vc r) 52) = W := ⟨_, rfl⟩; have H0 := Lib.hid (show RB w W r by rw [← hW]; exact RB.start w r); have HW := Lib.hid hW; clear hW; obtain ⟨R, hR⟩ : ∃ R, rch r.v = R := ⟨_, rfl⟩; rw [hR]; have HR := Lib.hid hR; have HS := Lib.hid (And.intro hS hm); clear hR hS hm
 have bad : (day r.v.bk = false ∨ day r.v.dy = false) → Hid (R = false) := fun h => Lib.hid (by
  rw [← HR.out]; unfold rch; rcases h with h | h
  ·rw [h]; rfl
  ·rw [h]; simp)
 have HBad := Lib.hid bad; clear bad; have hx := H0.out.x; have x0 := hx.c 0; have x1 := hx.c 1; have x2 := hx.c 2; have x3 := hx.c 3; have x4 := hx.c 4; have x5 := hx.c 5; have x6 := hx.c 6; have x7 := hx.c 7; have x8 := hx.c 8; simp at x0 x1 x2 x3 x4 x5 x6 x7 x8; have hlx := hx.lt; clear hx; by_cases h1 : r.v.bk < 1
 ·have t1 : decide (r.v.bk < 1) = true := decide_eq_true h1; have HQ := HBad.out (.inl (wi_no (by omega))); clear h1; go_enter Tryz.func74, Tryz.ntmps74
  go_wp2_with fail
  rw [HW.out]; go_ret; exact ⟨by rw [HQ.out]; rfl, H0.out.b⟩
 have t1 : decide (r.v.bk < 1) = false := decide_eq_false h1; by_cases h2 : 292194 < r.v.bk
 ·have t2 : decide (292194 < r.v.bk) = true := decide_eq_true h2; have HQ := HBad.out (.inl (wi_no (by omega))); clear h1 h2; go_enter Tryz.func74, Tryz.ntmps74
  go_wp2_with fail
  rw [HW.out]; go_ret; exact ⟨by rw [HQ.out]; rfl, H0.out.b⟩
 have t2 : decide (292194 < r.v.bk) = false := decide_eq_false h2; by_cases h3 : r.v.dy < 1
 ·have t3 : decide (r.v.dy < 1) = true := decide_eq_true h3; have HQ := HBad.out (.inr (wi_no (by omega))); clear h1 h2 h3; go_enter Tryz.func74, Tryz.ntmps74
  go_wp2_with fail
  rw [HW.out]; go_ret; exact ⟨by rw [HQ.out]; rfl, H0.out.b⟩
 have t3 : decide (r.v.dy < 1) = false := decide_eq_false h3; by_cases h4 : 292194 < r.v.dy
 ·have t4 : decide (292194 < r.v.dy) = true := decide_eq_true h4; have HQ := HBad.out (.inr (wi_no (by omega))); clear h1 h2 h3 h4; go_enter Tryz.func74, Tryz.ntmps74
  go_wp2_with fail
  rw [HW.out]; go_ret; exact ⟨by rw [HQ.out]; rfl, H0.out.b⟩
 have t4 : decide (292194 < r.v.dy) = false := decide_eq_false h4; have HF := Lib.hid (show R = fits r.v (pts r.v.kd) by rw [← HR.out]; unfold rch; rw [show day r.v.bk = true from wi_iff.2 ⟨by omega, by omega⟩, show day r.v.dy = true from wi_iff.2 ⟨by omega, by omega⟩]; rfl); obtain ⟨bb, hbb⟩ : ∃ bb, bare r.v.r = bb := ⟨_, rfl⟩; obtain ⟨nb, hnb⟩ : ∃ nb, ((r.n : Int) == 0) = nb := ⟨_, rfl⟩
 have HNB := Lib.hid (show (r.v.cs.length == 0) = nb by
  rw [HS.out.1.1, ← hnb]; by_cases h : r.n = 0
  ·rw [h]; rfl
  ·rw [beq_eq_false_iff_ne.2 h, beq_eq_false_iff_ne.2 (by omega)])
 have HNN := Lib.hid hnb; have HBB := Lib.hid hbb; clear h1 h2 h3 h4 hnb hbb; go_enter Tryz.func74, Tryz.ntmps74
 go_upto_region 3 with (fail)
 rw [HW.out]
 go_cut [3] (fun s3 wx => ∃ (Wz : World), Wz = wx ∧ s3 = .bool bb ∧ Wz = W)
 case first =>
  have HB' := HBB.out; unfold bare at HB'
  go_wp2_with fail
  all_goals (go_meet; refine ⟨_, rfl, ?_, rfl⟩; rw [← HB']; clear HB'; simp [*])
 case rest =>
  obtain ⟨W1, rfl, rfl, rfl⟩ := hcut; clear HW; have tn := HNN.out; clear HNN; by_cases k1 : r.v.kd = 1
  ·have z1 : (r.v.kd == 1) = true := by rw [beq_iff_eq]; exact k1
   have hf : R = (rfit r.v.r true && (cfit r.v.cs false && wfit r.v.wy false)) := by rw [HF.out]; rw [pts, if_pos k1]; rfl
   simp only [rfit, cfit, wfit, if_true, Bool.false_eq_true, if_false] at hf; rw [HNB.out] at hf; obtain ⟨wb, hwb⟩ : ∃ wb, (r.v.wy == 0) = wb := ⟨_, rfl⟩; rw [hwb] at hf; clear k1; have C := Lib.hid (rrisk_right r.v.r.k r.v.r.v r.v.r.a r.v.r.z W1); generalize rk r.v.r.k r.v.r.v r.v.r.a r.v.r.z = q at C hf; have HQ := Lib.hid hf; clear hf; have c5 := hwb; cases q
   ·go_wp2_with fail
    refine C.out.mono ?_; rintro e w2 ⟨rfl, hb2⟩; have HB2 := Lib.hid (H0.out.next hb2).b; have x8' := (H0.out.next hb2).x.c 8; simp at x8'; clear hb2; go_wp2; go_ret; exact ⟨by rw [HQ.out]; rfl, HB2.out⟩
   cases nb
   ·go_wp2_with fail
    refine C.out.mono ?_; rintro e w2 ⟨rfl, hb2⟩; have HB2 := Lib.hid (H0.out.next hb2).b; have x8' := (H0.out.next hb2).x.c 8; simp at x8'; clear hb2; go_wp2; go_ret; exact ⟨by rw [HQ.out]; rfl, HB2.out⟩
   ·go_wp2_with fail
    refine C.out.mono ?_; rintro e w2 ⟨rfl, hb2⟩; have HB2 := Lib.hid (H0.out.next hb2).b; have x8' := (H0.out.next hb2).x.c 8; simp at x8'; clear hb2; go_wp2; go_ret; exact ⟨by rw [HQ.out]; simp, HB2.out⟩
  by_cases k2 : r.v.kd = 2
  ·have z1 : (r.v.kd == 1) = false := by rw [beq_eq_false_iff_ne]; exact k1
   have z2 : (r.v.kd == 2) = true := by rw [beq_iff_eq]; exact k2
   have hf : R = (rfit r.v.r false && (cfit r.v.cs true && wfit r.v.wy false)) := by rw [HF.out]; rw [pts, if_neg k1, if_pos k2]; rfl
   simp only [rfit, cfit, wfit, if_true, Bool.false_eq_true, if_false] at hf; rw [HBB.out] at hf; obtain ⟨wb, hwb⟩ : ∃ wb, (r.v.wy == 0) = wb := ⟨_, rfl⟩; rw [hwb] at hf; clear k1 k2; have C := Lib.hid (rcovers_ r.A r.n r.c r.v.cs W1 (HS.out.1.below H0.out.b) HS.out.2); generalize cvr r.v.cs = q at C hf; have HQ := Lib.hid hf; clear hf; cases q
   ·go_wp2_with fail
    refine C.out.mono ?_; rintro e w2 ⟨rfl, hb2⟩; have HB2 := Lib.hid (H0.out.next hb2).b; have x8' := (H0.out.next hb2).x.c 8; simp at x8'; clear hb2; go_wp2; go_ret; exact ⟨by rw [HQ.out]; simp, HB2.out⟩
   cases bb
   ·go_wp2_with fail
    refine C.out.mono ?_; rintro e w2 ⟨rfl, hb2⟩; have HB2 := Lib.hid (H0.out.next hb2).b; have x8' := (H0.out.next hb2).x.c 8; simp at x8'; clear hb2; go_wp2; go_ret; exact ⟨by rw [HQ.out]; rfl, HB2.out⟩
   ·go_wp2_with fail
    refine C.out.mono ?_; rintro e w2 ⟨rfl, hb2⟩; have HB2 := Lib.hid (H0.out.next hb2).b; have x8' := (H0.out.next hb2).x.c 8; simp at x8'; clear hb2; go_wp2; go_ret; exact ⟨by rw [HQ.out]; simp, HB2.out⟩
  by_cases k3 : r.v.kd = 3
  ·have z1 : (r.v.kd == 1) = false := by rw [beq_eq_false_iff_ne]; exact k1
   have z2 : (r.v.kd == 2) = false := by rw [beq_eq_false_iff_ne]; exact k2
   have z3 : (r.v.kd == 3) = true := by rw [beq_iff_eq]; exact k3
   have hf : R = (rfit r.v.r false && (cfit r.v.cs false && wfit r.v.wy true)) := by rw [HF.out]; rw [pts, if_neg k1, if_neg k2, if_pos k3]; rfl
   simp only [rfit, cfit, wfit, if_true, Bool.false_eq_true, if_false] at hf; rw [HNB.out, HBB.out] at hf; obtain ⟨wb, hwb⟩ : ∃ wb, (r.v.wy == 0) = wb := ⟨_, rfl⟩; rw [hwb] at hf; clear k1 k2 k3; have HB2 := Lib.hid H0.out.b; obtain ⟨wc, hwc⟩ : ∃ wc, (r.v.wy == 1) = wc := ⟨_, rfl⟩; rw [hwc] at hf; have HQ := Lib.hid hf; clear hf; cases bb
   ·go_wp2; go_ret; exact ⟨by rw [HQ.out]; rfl, HB2.out⟩
   cases nb
   ·go_wp2; go_ret; exact ⟨by rw [HQ.out]; rfl, HB2.out⟩
   cases wb
   ·go_wp2; go_ret; exact ⟨by rw [HQ.out]; simp, HB2.out⟩
   ·go_wp2; go_ret; exact ⟨by rw [HQ.out]; rfl, HB2.out⟩
  by_cases k4 : r.v.kd = 4
  ·have z1 : (r.v.kd == 1) = false := by rw [beq_eq_false_iff_ne]; exact k1
   have z2 : (r.v.kd == 2) = false := by rw [beq_eq_false_iff_ne]; exact k2
   have z3 : (r.v.kd == 3) = false := by rw [beq_eq_false_iff_ne]; exact k3
   have z4 : (r.v.kd == 4) = true := by rw [beq_iff_eq]; exact k4
   have hf : R = (rfit r.v.r false && (cfit r.v.cs false && wfit r.v.wy false)) := by rw [HF.out]; rw [pts, if_neg k1, if_neg k2, if_neg k3, if_pos k4]; rfl
   simp only [rfit, cfit, wfit, if_true, Bool.false_eq_true, if_false] at hf; rw [HNB.out, HBB.out] at hf; obtain ⟨wb, hwb⟩ : ∃ wb, (r.v.wy == 0) = wb := ⟨_, rfl⟩; rw [hwb] at hf; clear k1 k2 k3 k4; have HB2 := Lib.hid H0.out.b; have HQ := Lib.hid hf; clear hf; cases bb
   ·go_wp2; go_ret; exact ⟨by rw [HQ.out]; rfl, HB2.out⟩
   cases nb
   ·go_wp2; go_ret; exact ⟨by rw [HQ.out]; rfl, HB2.out⟩
   ·go_wp2; go_ret; exact ⟨by rw [HQ.out]; simp, HB2.out⟩
  ·have z1 : (r.v.kd == 1) = false := by rw [beq_eq_false_iff_ne]; exact k1
   have z2 : (r.v.kd == 2) = false := by rw [beq_eq_false_iff_ne]; exact k2
   have z3 : (r.v.kd == 3) = false := by rw [beq_eq_false_iff_ne]; exact k3
   have z4 : (r.v.kd == 4) = false := by rw [beq_eq_false_iff_ne]; exact k4
   have HQ := Lib.hid (show R = false by rw [HF.out, pts, if_neg k1, if_neg k2, if_neg k3, if_neg k4]; rfl); have HB2 := Lib.hid H0.out.b; clear k1 k2 k3 k4; go_wp2; go_ret; exact ⟨by rw [HQ.out]; rfl, HB2.out⟩
end Tm
end Go.Proofs.YtplenoaajokpjaaGreat

namespace Go.Proofs.YtplenoaajokpjaaGreat
open Go.RowKit Ba Cv Sp Te Ag
namespace Tm
set_option linter.unusedVariables false
structure MI (key : Int → Int) (a b : List Int) (i j : Nat) (o : List Int) : Prop where
 p : List.Perm o (a.take i ++ b.take j)
 s : St.Srt key o
 l : ∀ x ∈ o, ∀ y ∈ a.drop i, St.lt key x y
 r : ∀ x ∈ o, ∀ y ∈ b.drop j, St.lt key x y
section
variable {key : Int → Int} {a b o : List Int} {i j : Nat} {x y : Int}
theorem MI.start (key : Int → Int) (a b : List Int) : MI key a b 0 0 [] := ⟨by simp, List.Pairwise.nil, (fun x h => by cases h), fun x h => by cases h⟩
theorem srt_head {xs : List Int} {k : Nat} (h : St.Srt key xs) (hx : xs[k]? = some x) : ∀ y ∈ xs.drop (k + 1), St.lt key x y := by
 have hl := (List.getElem?_eq_some_iff.1 hx).1; have h2 : St.Srt key (xs.drop k) := St.srt_sub h (List.drop_sublist _ _); rw [List.drop_eq_getElem_cons hl, show xs[k] = x by have := List.getElem?_eq_getElem hl; rw [hx] at this; injection this with this; exact this.symm] at h2; exact (List.pairwise_cons.1 h2).1
theorem drop_head {xs : List Int} {k : Nat} (hx : xs[k]? = some x) : xs.drop k = x :: xs.drop (k + 1) := by
 have hl := (List.getElem?_eq_some_iff.1 hx).1; rw [List.drop_eq_getElem_cons hl, show xs[k] = x by have := List.getElem?_eq_getElem hl; rw [hx] at this; injection this with this; exact this.symm]
theorem srt_snoc (hs : St.Srt key o) (h : ∀ z ∈ o, St.lt key z x) : St.Srt key (o ++ [x]) := by
 refine List.pairwise_append.2 ⟨hs, List.pairwise_singleton _ _, fun u hu v hv => ?_⟩; simp at hv; subst hv; exact h u hu
theorem MI.left (H : MI key a b i j o) (ha : St.Srt key a) (hx : a[i]? = some x) (hr : ∀ y ∈ b.drop j, St.lt key x y) : MI key a b (i + 1) j (o ++ [x]) := by
 have hox : ∀ z ∈ o, St.lt key z x := fun z hz => H.l z hz x (by rw [drop_head hx]; simp)
 refine ⟨?_, srt_snoc H.s hox, ?_, ?_⟩
 ·rw [take_get hx]; refine (H.p.append_right [x]).trans ?_; rw [List.append_assoc, List.append_assoc]; exact (List.perm_append_comm (l₁ := b.take j) (l₂ := [x])).append_left _
 ·intro z hz y hy; rcases List.mem_append.1 hz with hz | hz
  ·exact H.l z hz y (by rw [drop_head hx]; exact List.mem_cons_of_mem _ hy)
  ·simp at hz; subst hz; exact srt_head ha hx y hy
 ·intro z hz y hy; rcases List.mem_append.1 hz with hz | hz
  ·exact H.r z hz y hy
  ·simp at hz; subst hz; exact hr y hy
theorem MI.right (H : MI key a b i j o) (hb : St.Srt key b) (hy : b[j]? = some y) (hl : ∀ x ∈ a.drop i, St.lt key y x) : MI key a b i (j + 1) (o ++ [y]) := by
 have hoy : ∀ z ∈ o, St.lt key z y := fun z hz => H.r z hz y (by rw [drop_head hy]; simp)
 refine ⟨?_, srt_snoc H.s hoy, ?_, ?_⟩
 ·rw [take_get hy, ← List.append_assoc]; exact H.p.append_right [y]
 ·intro z hz x hx; rcases List.mem_append.1 hz with hz | hz
  ·exact H.l z hz x hx
  ·simp at hz; subst hz; exact hl x hx
 ·intro z hz x hx; rcases List.mem_append.1 hz with hz | hz
  ·exact H.r z hz x (by rw [drop_head hy]; exact List.mem_cons_of_mem _ hx)
  ·simp at hz; subst hz; exact srt_head hb hy x hx
theorem MI.done (H : MI key a b i j o) (hi : a.length ≤ i) (hj : b.length ≤ j) : St.Good key o (a ++ b) := by
 have := H.p; rw [List.take_of_length_le hi, List.take_of_length_le hj] at this; exact ⟨this, H.s⟩
theorem lt_rest {xs : List Int} {k : Nat} (hs : St.Srt key xs) (hy : xs[k]? = some y) (h : St.lt key x y) : ∀ z ∈ xs.drop k, St.lt key x z := by
 intro z hz; rw [drop_head hy] at hz; rcases List.mem_cons.1 hz with rfl | hz
 ·exact h
 ·exact St.lt_trans h (srt_head hs hy z hz)
end
def OrdR (key : Int → Int) (D : List Int) (n : Nat) (w : World) (v : Value) : Prop := ∃ A c o, v = .slice A n c ∧ Ins w (· < w.heap.size) A n o ∧ St.Good key o D
theorem OrdR.below {key : Int → Int} {D : List Int} {n : Nat} {w w' : World} {v : Value} (h : OrdR key D n w v) (hb : Below w.heap.size w w') : OrdR key D n w' v := by
 obtain ⟨A, c, o, e, hi, hg⟩ := h; exact ⟨A, c, o, e, hi.below hb, hg⟩
def OrdG (key : Int → Int) (D : List Int) (n : Nat) (w : World) (e : Ending) (w' : World) : Prop := ∃ v, e = .returned v ∧ OrdR key D n w' v ∧ Below w.heap.size w w'
theorem OrdTo.g {w : World} {hs : List Ch} {m : Nat} {e : Ending} {w' : World} (h : OrdTo w hs m e w') : OrdG (key hs) (plc hs.length) m w e w' := by
 obtain ⟨A, c, o, e, hi, hg, hb, _⟩ := h; exact ⟨_, e, ⟨A, c, o, rfl, hi.keep (fun _ _ => rfl) (fun b hb => hb.2), hg⟩, hb⟩
structure MS (w W : World) (h : Hr) (A : Option Addr) (k c : Nat) (o : List Int) : Prop where
 x : HX w W h
 o : IOwn W (w.heap.size + 1) A k c o
theorem MS.grow {w W w4 : World} {h : Hr} {A A4 : Option Addr} {k c c4 k4 : Nat} {o o4 : List Int} {x : Int} (H : MS w W h A k c o) (hO : IOwn w4 (w.heap.size + 1) A4 k4 c4 o4)
  (hg : (W.alloc (.cells #[.int .i64 x] 3)).grownBy w4 (Value.slice A k c).ownBlock) : MS w w4 h A4 k4 c4 o4 := by
 have ha := H.x.next (alloc_ W (.cells #[.int .i64 x] 3)); have hlo : ∀ g, (Value.slice A k c).ownBlock = some g → w.heap.size + 1 ≤ g := fun g hg => (H.o.lt g hg).1
 have hsa : (W.alloc (.cells #[.int .i64 x] 3)).heap.size = W.heap.size + 1 := World.size_alloc _ _; have hlt := H.x.x.lt; refine ⟨⟨(ha.b).grown hg ha.b.size fun j hj => by have := hlo j hj; omega, ?_⟩, hO⟩; exact (hg.block w.heap.size (by omega) fun e => by have := hlo _ e.symm; omega).trans ha.x
set_option maxRecDepth 100000 in
set_option maxHeartbeats 8000000 in
theorem merge_ (h : Hr) (A1 A2 : Option Addr) (n1 n2 c1 c2 : Nat) (a b : List Int) (w : World) (M : HM w (· < w.heap.size) h) (hm : h.m ≤ 2001) (Ia : Ins w (· < w.heap.size) A1 n1 a) (Ib : Ins w (· < w.heap.size) A2 n2 b)
  (sa : St.Srt (key h.v.hs) a) (sb : St.Srt (key h.v.hs) b) (da : ∀ x ∈ a, 0 ≤ x ∧ x < h.m) (db : ∀ x ∈ b, 0 ≤ x ∧ x < h.m) (dd : ∀ x ∈ a, ∀ y ∈ b, x < y) (hn1 : n1 ≤ 2001) (hn2 : n2 ≤ 2001) :
  Calls Tryz.prog 102 #[hg h, .slice A1 n1 c1, .slice A2 n2 c2] w (OrdG (key h.v.hs) (a ++ b) (n1 + n2) w) := by
 have H0 := Lib.hid (show MS w (w.alloc (.cells (hc h) 35)) h none 0 0 [] from ⟨HX.start w h, IOwn.nil⟩); have HM0 := Lib.hid M; have HIa := Lib.hid Ia; have HIb := Lib.hid Ib; have HD := Lib.hid (And.intro da (And.intro db dd)); have HSo := Lib.hid (And.intro sa sb); have la := Ia.1; have lb := Ib.1; have HL := Lib.hid (And.intro la lb); clear M Ia Ib sa sb da db dd la lb; go_enter Tryz.func102, Tryz.ntmps102; go_wp2
 go_loopw [7, 8, 9] (fun vs vi vj w' => ∃ (i j : Nat) (A : Option Addr) (c : Nat) (o : List Int) (W : World), i ≤ n1 ∧ j ≤ n2 ∧ vs = .slice A (i + j) c ∧ vi = .int .i64 (i : Int) ∧ vj = .int .i64 (j : Int) ∧ W = w' ∧ Hid (MS w W h A (i + j) c o) ∧ Hid (MI (key h.v.hs) a b i j o)) (fun _ vi vj _ => n1 + n2 - ((intOf vi).toNat + (intOf vj).toNat))
 case atStart => exact ⟨0, 0, none, 0, [], _, Nat.zero_le _, Nat.zero_le _, rfl, rfl, rfl, rfl, H0, Lib.hid (MI.start _ _ _)⟩
 case round =>
  clear H0; obtain ⟨i, j, A, c, o, W, hi, hj, rfl, rfl, rfl, rfl, HK, HMI⟩ := hrel; have hsz := HK.out.x.x.lt; have HB0 := Lib.hid HK.out.x.b; by_cases h1 : i < n1
  ·obtain ⟨ad1, x, rfl, hb1, hx, k1⟩ := (HIa.out.below HB0.out).get h1; have dx := HD.out.1 x (List.mem_of_getElem? hx); have KL := fun {w2 : World} (b : Below W.heap.size W w2) => (b.cell (p := ad1.add i) (by rw [add_block]; exact hb1)).trans k1
   have t1 : decide ((i : Int) < (n1 : Int)) = true := decide_eq_true (by omega); have t1' : decide (i < n1) = true := decide_eq_true (by omega); by_cases h2 : j < n2
   ·obtain ⟨ad2, y, rfl, hb2, hy, k2⟩ := (HIb.out.below HB0.out).get h2; have dy := HD.out.2.1 y (List.mem_of_getElem? hy); have KR := fun {w2 : World} (b : Below W.heap.size W w2) => (b.cell (p := ad2.add j) (by rw [add_block]; exact hb2)).trans k2
    have dxy := HD.out.2.2 x (List.mem_of_getElem? hx) y (List.mem_of_getElem? hy); have t2 : decide ((j : Int) < (n2 : Int)) = true := decide_eq_true (by omega); have t2' : decide (j < n2) = true := decide_eq_true (by omega); have t3 : decide ((j : Int) = (n2 : Int)) = false := decide_eq_false (by omega); have t3' : decide (j = n2) = false := decide_eq_false (by omega); have t3b : ((j : Int) == (n2 : Int)) = false := by simp; omega
    have t3c : (j == n2) = false := by simp; omega
    obtain ⟨q1, e1⟩ : ∃ q1, x.toNat = q1 := ⟨_, rfl⟩; obtain ⟨q2, e2⟩ : ∃ q2, y.toNat = q2 := ⟨_, rfl⟩; have MW := HM0.out.below HB0.out; obtain ⟨ad, r1, hB, hb, _, m1, _, v1⟩ := MW.get (k := q1) (by omega); obtain ⟨ad', r2, hB', _, _, m2, _, v2⟩ := MW.get (k := q2) (by omega); rw [hB] at hB'; injection hB' with hB'
    subst hB'; have kx := key_at v1 e1; have ky := key_at v2 e2; have x9 : ∀ p : Ext W, p.W.cell? ⟨w.heap.size, 9, none⟩ = some (.slice (some ad) h.m h.d) := fun p => by have := HK.out.x.x.ext p 9; rw [this]; simp [hB]
    have u1 : ∀ p : Ext W, p.W.cell? (ad1.add i) = some (.int .i64 x) := fun p => (p.b.cell (by rw [add_block]; exact hb1)).trans k1
    have u2 : ∀ p : Ext W, p.W.cell? (ad2.add j) = some (.int .i64 y) := fun p => (p.b.cell (by rw [add_block]; exact hb2)).trans k2
    have d1 : ∀ p : Ext W, p.W.cell? ⟨(ad.add (q1 * 9)).block, (ad.add (q1 * 9)).off + 1, none⟩ = some (.int .i64 r1.v.dy) := fun p => (m1.keep fun a ha => p.b.cell (by rw [ha, add_block]; exact hb)).c1
    have d2 : ∀ p : Ext W, p.W.cell? ⟨(ad.add (q2 * 9)).block, (ad.add (q2 * 9)).off + 1, none⟩ = some (.int .i64 r2.v.dy) := fun p => (m2.keep fun a ha => p.b.cell (by rw [ha, add_block]; exact hb)).c1
    have x1 := dx.1; have x2 := dx.2; have x3 : IntKind.i64.wrap x = x := (IntWalk.i64_left _).trans (IntWalk.wrap64_in _ ⟨by omega, by omega⟩); have y1 := dy.1; have y2 := dy.2; have y3 : IntKind.i64.wrap y = y := (IntWalk.i64_left _).trans (IntWalk.wrap64_in _ ⟨by omega, by omega⟩); have ne : Nonempty (Ext W) := ⟨⟨W, Below.refl _ _⟩⟩; have HKX := Lib.hid (And.intro hx hy); obtain ⟨da, hda⟩ : ∃ da, r1.v.dy = da := ⟨_, rfl⟩; obtain ⟨db, hdb⟩ : ∃ db, r2.v.dy = db := ⟨_, rfl⟩; rw [hda] at d1 kx; rw [hdb] at d2 ky; have HKK := Lib.hid (And.intro kx ky); have HXY := Lib.hid dxy; clear hx hy MW hB hb m1 m2 v1 v2 hda hdb kx ky dxy dx dy k1 k2 hb1 hb2; by_cases h3 : da ≤ db
    ·have t4 : decide (da ≤ db) = true := decide_eq_true h3; have HI := Lib.hid (HMI.out.left HSo.out.1 HKX.out.1 (lt_rest HSo.out.2 HKX.out.2 (by have h4 := HKK.out.1; have h5 := HKK.out.2; have h6 := HXY.out; show key h.v.hs x < key h.v.hs y ∨ (key h.v.hs x = key h.v.hs y ∧ x < y); omega))); clear h3
     go_wp2_with fail
     refine quietE (by kernel_rfl) (by kernel_rfl) ?_
     repeat (first | go_big_quiet_skip | quiet_step (fail))
     refine wpQuiet_nil ?_; rintro _ ⟨p, rfl⟩; have HK := Lib.hid (show MS w p.W h A (i + j) c o from ⟨HK.out.x.next p.b, HK.out.o.below p.b⟩); have hsz := HK.out.x.x.lt; have kk : p.W.cell? (ad1.add i) = some (.int .i64 x) := KL p.b; generalize p.W = W at HK hsz kk ⊢
     go_wp2_with (at_builtin; refine wpList_app_i _ rfl _ _ rfl (w.heap.size + 1) A (i + j) c o rfl (HK.out.o.below (alloc_ _ _)) (· = W.heap.size) (some ⟨W.heap.size, 0, none⟩) 1 1 [x] rfl (ins_one (Bx.new W 3 #[.int .i64 x])) (fun e => by cases e) (i + 1 + j) (by omega) (by omega) (by simp; omega) ?_; intro A4 c4 w4 hO4 hg4; have HN := Lib.hid (HK.out.grow hO4 hg4); clear hO4 hg4)
     go_roundw
     case rel => exact ⟨i + 1, j, A4, c4, _, w4, by omega, by omega, rfl, by go_num, rfl, rfl, HN, HI⟩
     case measure => simp [intOf]; omega
    ·have t4 : decide (da ≤ db) = false := decide_eq_false h3; have HI := Lib.hid (HMI.out.right HSo.out.2 HKX.out.2 (lt_rest HSo.out.1 HKX.out.1 (by have h4 := HKK.out.1; have h5 := HKK.out.2; have h6 := HXY.out; show key h.v.hs y < key h.v.hs x ∨ (key h.v.hs y = key h.v.hs x ∧ y < x); omega))); clear h3
     go_wp2_with fail
     refine quietE (by kernel_rfl) (by kernel_rfl) ?_
     repeat (first | go_big_quiet_skip | quiet_step (fail))
     refine wpQuiet_nil ?_; rintro _ ⟨p, rfl⟩; have HK := Lib.hid (show MS w p.W h A (i + j) c o from ⟨HK.out.x.next p.b, HK.out.o.below p.b⟩); have hsz := HK.out.x.x.lt; have kk : p.W.cell? (ad2.add j) = some (.int .i64 y) := KR p.b; generalize p.W = W at HK hsz kk ⊢
     go_wp2_with (at_builtin; refine wpList_app_i _ rfl _ _ rfl (w.heap.size + 1) A (i + j) c o rfl (HK.out.o.below (alloc_ _ _)) (· = W.heap.size) (some ⟨W.heap.size, 0, none⟩) 1 1 [y] rfl (ins_one (Bx.new W 3 #[.int .i64 y])) (fun e => by cases e) (i + (j + 1)) (by omega) (by omega) (by simp; omega) ?_; intro A4 c4 w4 hO4 hg4; have HN := Lib.hid (HK.out.grow hO4 hg4); clear hO4 hg4)
     go_roundw
     case rel => exact ⟨i, j + 1, A4, c4, _, w4, by omega, by omega, rfl, rfl, by go_num, rfl, HN, HI⟩
     case measure => simp [intOf]; omega
   ·-- the second row is through
    have t2 : decide ((j : Int) < (n2 : Int)) = false := decide_eq_false (by omega); have t2' : decide (j < n2) = false := decide_eq_false (by omega); have t3 : decide ((j : Int) = (n2 : Int)) = true := decide_eq_true (by omega); have t3' : decide (j = n2) = true := decide_eq_true (by omega); have t3b : ((j : Int) == (n2 : Int)) = true := by simp; omega
    have t3c : (j == n2) = true := by simp; omega
    have ne : Nonempty (Ext W) := ⟨⟨W, Below.refl _ _⟩⟩; have HI := Lib.hid (HMI.out.left HSo.out.1 hx (fun y hy => by rw [List.drop_of_length_le (by have := HL.out.2; omega)] at hy; cases hy)); have x1 := dx.1; have x2 := dx.2; clear hx dx hb1
    go_wp2_with fail
    refine quietE (by kernel_rfl) (by kernel_rfl) ?_
    repeat (first | go_big_quiet_skip | quiet_step (fail))
    refine wpQuiet_nil ?_; rintro _ ⟨p, rfl⟩; have HK := Lib.hid (show MS w p.W h A (i + j) c o from ⟨HK.out.x.next p.b, HK.out.o.below p.b⟩); have hsz := HK.out.x.x.lt; have kk : p.W.cell? (ad1.add i) = some (.int .i64 x) := KL p.b; generalize p.W = W at HK hsz kk ⊢
    go_wp2_with (at_builtin; refine wpList_app_i _ rfl _ _ rfl (w.heap.size + 1) A (i + j) c o rfl (HK.out.o.below (alloc_ _ _)) (· = W.heap.size) (some ⟨W.heap.size, 0, none⟩) 1 1 [x] rfl (ins_one (Bx.new W 3 #[.int .i64 x])) (fun e => by cases e) (i + 1 + j) (by omega) (by omega) (by simp; omega) ?_; intro A4 c4 w4 hO4 hg4; have HN := Lib.hid (HK.out.grow hO4 hg4); clear hO4 hg4)
    go_roundw
    case rel => exact ⟨i + 1, j, A4, c4, _, w4, by omega, by omega, rfl, by go_num, rfl, rfl, HN, HI⟩
    case measure => simp [intOf]; omega
  ·by_cases h2 : j < n2
   ·obtain ⟨ad2, y, rfl, hb2, hy, k2⟩ := (HIb.out.below HB0.out).get h2; have dy := HD.out.2.1 y (List.mem_of_getElem? hy); have KR := fun {w2 : World} (b : Below W.heap.size W w2) => (b.cell (p := ad2.add j) (by rw [add_block]; exact hb2)).trans k2
    have t1 : decide ((i : Int) < (n1 : Int)) = false := decide_eq_false (by omega); have t1' : decide (i < n1) = false := decide_eq_false (by omega); have t2 : decide ((j : Int) < (n2 : Int)) = true := decide_eq_true (by omega); have t2' : decide (j < n2) = true := decide_eq_true (by omega); have t3 : decide ((j : Int) = (n2 : Int)) = false := decide_eq_false (by omega); have t3' : decide (j = n2) = false := decide_eq_false (by omega); have t3b : ((j : Int) == (n2 : Int)) = false := by simp; omega
    have t3c : (j == n2) = false := by simp; omega
    have ne : Nonempty (Ext W) := ⟨⟨W, Below.refl _ _⟩⟩; have HI := Lib.hid (HMI.out.right HSo.out.2 hy (fun x hx => by rw [List.drop_of_length_le (by have := HL.out.1; omega)] at hx; cases hx)); have y1 := dy.1; have y2 := dy.2; clear hy dy hb2
    go_wp2_with fail
    refine quietE (by kernel_rfl) (by kernel_rfl) ?_
    repeat (first | go_big_quiet_skip | quiet_step (fail))
    refine wpQuiet_nil ?_; rintro _ ⟨p, rfl⟩; have HK := Lib.hid (show MS w p.W h A (i + j) c o from ⟨HK.out.x.next p.b, HK.out.o.below p.b⟩); have hsz := HK.out.x.x.lt; have kk : p.W.cell? (ad2.add j) = some (.int .i64 y) := KR p.b; generalize p.W = W at HK hsz kk ⊢
    go_wp2_with (at_builtin; refine wpList_app_i _ rfl _ _ rfl (w.heap.size + 1) A (i + j) c o rfl (HK.out.o.below (alloc_ _ _)) (· = W.heap.size) (some ⟨W.heap.size, 0, none⟩) 1 1 [y] rfl (ins_one (Bx.new W 3 #[.int .i64 y])) (fun e => by cases e) (i + (j + 1)) (by omega) (by omega) (by simp; omega) ?_; intro A4 c4 w4 hO4 hg4; have HN := Lib.hid (HK.out.grow hO4 hg4); clear hO4 hg4)
    go_roundw
    case rel => exact ⟨i, j + 1, A4, c4, _, w4, by omega, by omega, rfl, rfl, by go_num, rfl, HN, HI⟩
    case measure => simp [intOf]; omega
   ·have HF := Lib.hid (HMI.out.done (by have := HL.out.1; omega) (by have := HL.out.2; omega)); have hij : i + j = n1 + n2 := by omega
    have t1 : decide ((i : Int) < (n1 : Int)) = false := decide_eq_false (by omega); have t1' : decide (i < n1) = false := decide_eq_false (by omega); have t2 : decide ((j : Int) < (n2 : Int)) = false := decide_eq_false (by omega); have t2' : decide (j < n2) = false := decide_eq_false (by omega); rw [hij] at HK ⊢; go_wp2; go_ret; exact ⟨_, rfl, ⟨A, c, o, rfl, HK.out.o.row.keep (fun _ _ => rfl) fun b hb => hb.2, HF.out⟩, HK.out.x.b⟩
end Tm
end Go.Proofs.YtplenoaajokpjaaGreat
namespace Go.Proofs.YtplenoaajokpjaaGreat
open Go.RowKit Ba Cv Sp Te Ag
namespace Tm
set_option linter.unusedVariables false
def plcs (f n : Nat) : List Int := (List.range n).map fun (i : Nat) => ((f + i : Nat) : Int)
theorem plcs_zero (f : Nat) : plcs f 0 = [] := rfl
theorem plcs_one (f : Nat) : plcs f 1 = [(f : Int)] := by simp [plcs, List.range_succ]
theorem plcs_all (n : Nat) : plcs 0 n = plc n := by simp [plcs, plc]
theorem plcs_mem {f n : Nat} {x : Int} : x ∈ plcs f n ↔ (f : Int) ≤ x ∧ x < (f : Int) + n := by
 simp only [plcs, List.mem_map, List.mem_range]; constructor
 ·rintro ⟨a, h, rfl⟩; omega
 ·intro h; exact ⟨(x - f).toNat, by omega, by omega⟩
theorem plcs_split (f a b : Nat) : plcs f (a + b) = plcs f a ++ plcs (f + a) b := by
 simp only [plcs, List.range_add, List.map_append, List.map_map]
 congr 1
 exact List.map_congr_left fun i _ => by simp [Nat.add_assoc]
theorem merge_two (h : Hr) (hm : h.m ≤ 2001) (A1 A2 : Option Addr) (a a2 n f g t c1 c2 : Nat) (o1 o2 : List Int) (w : World) (M : HM w (· < w.heap.size) h) (i1 : Ins w (· < w.heap.size) A1 a o1) (i2 : Ins w (· < w.heap.size) A2 a2 o2)
  (g1 : St.Good (key h.v.hs) o1 (plcs f a)) (g2 : St.Good (key h.v.hs) o2 (plcs g a2)) (e1 : f + a = g) (e2 : g + a2 = t) (e3 : a + a2 = n) (hl : t ≤ h.m) :
  Calls Tryz.prog 102 #[hg h, .slice A1 a c1, .slice A2 a2 c2] w (OrdG (key h.v.hs) (plcs f n) n w) := by
 have m1 := fun x (hx : x ∈ o1) => plcs_mem.1 (g1.mem hx)
 have m2 := fun x (hx : x ∈ o2) => plcs_mem.1 (g2.mem hx)
 refine (merge_ h A1 A2 a a2 c1 c2 o1 o2 w M hm i1 i2 g1.2 g2.2 (fun x hx => by have := m1 x hx; omega) (fun x hx => by have := m2 x hx; omega) (fun x hx y hy => by have := m1 x hx; have := m2 y hy; omega) (by omega) (by omega)).mono ?_; rintro e w' ⟨v, rfl, ⟨A, c, o, rfl, hi, hgo⟩, hb⟩; subst e3 e1; exact ⟨_, rfl, ⟨A, c, o, rfl, hi, hgo.perm (by rw [plcs_split]; exact g1.1.append g2.1)⟩, hb⟩
structure RG (W : World) (h : Hr) (f g t a a2 n : Nat) (L : Nat → Bool) (w' : World) (v22 v23 v24 v25 v26 v27 v28 v29 v30 v31 v6 : Value) : Prop where
 b : Below W.heap.size W w'
 f0 : L 0 = true → v22 = hg h
 f1 : L 1 = true → v23 = hg h
 f2 : L 2 = true → v24 = .int .i64 (f : Int)
 f3 : L 3 = true → v25 = .int .i64 (g : Int)
 f4 : L 4 = true → OrdR (key h.v.hs) (plcs f a) a w' v26
 f5 : L 5 = true → v27 = hg h
 f6 : L 6 = true → v28 = .int .i64 (g : Int)
 f7 : L 7 = true → v29 = .int .i64 (t : Int)
 f8 : L 8 = true → OrdR (key h.v.hs) (plcs g a2) a2 w' v30
 f9 : L 9 = true → OrdR (key h.v.hs) (plcs f n) n w' v31
 f10 : L 10 = true → OrdR (key h.v.hs) (plcs f n) n w' v6
theorem RG.up {W : World} {h : Hr} {f g t a a2 n : Nat} {L : Nat → Bool} {w' w2 : World} {v22 v23 v24 v25 v26 v27 v28 v29 v30 v31 v6 : Value} (H : RG W h f g t a a2 n L w' v22 v23 v24 v25 v26 v27 v28 v29 v30 v31 v6) (hb : Below w'.heap.size w' w2) : RG W h f g t a a2 n L w2 v22 v23 v24 v25 v26 v27 v28 v29 v30 v31 v6 :=
 ⟨H.b.trans (hb.mono H.b.size), H.f0, H.f1, H.f2, H.f3, fun l => (H.f4 l).below hb, H.f5, H.f6, H.f7, fun l => (H.f8 l).below hb, fun l => (H.f9 l).below hb, fun l => (H.f10 l).below hb⟩
theorem RG.s0 {W : World} {h : Hr} {f g t a a2 n : Nat} {L : Nat → Bool} {w' : World} {v22 v23 v24 v25 v26 v27 v28 v29 v30 v31 v6 : Value} (H : RG W h f g t a a2 n L w' v22 v23 v24 v25 v26 v27 v28 v29 v30 v31 v6) {z : Value} (k : z = hg h) : RG W h f g t a a2 n (fun j => j == 0 || L j) w' z v23 v24 v25 v26 v27 v28 v29 v30 v31 v6 := ⟨H.b, fun _ => k, H.f1, H.f2, H.f3, H.f4, H.f5, H.f6, H.f7, H.f8, H.f9, H.f10⟩
theorem RG.s1 {W : World} {h : Hr} {f g t a a2 n : Nat} {L : Nat → Bool} {w' : World} {v22 v23 v24 v25 v26 v27 v28 v29 v30 v31 v6 : Value} (H : RG W h f g t a a2 n L w' v22 v23 v24 v25 v26 v27 v28 v29 v30 v31 v6) {z : Value} (k : z = hg h) : RG W h f g t a a2 n (fun j => j == 1 || L j) w' v22 z v24 v25 v26 v27 v28 v29 v30 v31 v6 := ⟨H.b, H.f0, fun _ => k, H.f2, H.f3, H.f4, H.f5, H.f6, H.f7, H.f8, H.f9, H.f10⟩
theorem RG.s2 {W : World} {h : Hr} {f g t a a2 n : Nat} {L : Nat → Bool} {w' : World} {v22 v23 v24 v25 v26 v27 v28 v29 v30 v31 v6 : Value} (H : RG W h f g t a a2 n L w' v22 v23 v24 v25 v26 v27 v28 v29 v30 v31 v6) {z : Value} (k : z = .int .i64 (f : Int)) : RG W h f g t a a2 n (fun j => j == 2 || L j) w' v22 v23 z v25 v26 v27 v28 v29 v30 v31 v6 := ⟨H.b, H.f0, H.f1, fun _ => k, H.f3, H.f4, H.f5, H.f6, H.f7, H.f8, H.f9, H.f10⟩
theorem RG.s3 {W : World} {h : Hr} {f g t a a2 n : Nat} {L : Nat → Bool} {w' : World} {v22 v23 v24 v25 v26 v27 v28 v29 v30 v31 v6 : Value} (H : RG W h f g t a a2 n L w' v22 v23 v24 v25 v26 v27 v28 v29 v30 v31 v6) {z : Value} (k : z = .int .i64 (g : Int)) : RG W h f g t a a2 n (fun j => j == 3 || L j) w' v22 v23 v24 z v26 v27 v28 v29 v30 v31 v6 := ⟨H.b, H.f0, H.f1, H.f2, fun _ => k, H.f4, H.f5, H.f6, H.f7, H.f8, H.f9, H.f10⟩
theorem RG.s4 {W : World} {h : Hr} {f g t a a2 n : Nat} {L : Nat → Bool} {w' : World} {v22 v23 v24 v25 v26 v27 v28 v29 v30 v31 v6 : Value} (H : RG W h f g t a a2 n L w' v22 v23 v24 v25 v26 v27 v28 v29 v30 v31 v6) {z : Value} (k : OrdR (key h.v.hs) (plcs f a) a w' z) : RG W h f g t a a2 n (fun j => j == 4 || L j) w' v22 v23 v24 v25 z v27 v28 v29 v30 v31 v6 := ⟨H.b, H.f0, H.f1, H.f2, H.f3, fun _ => k, H.f5, H.f6, H.f7, H.f8, H.f9, H.f10⟩
theorem RG.s5 {W : World} {h : Hr} {f g t a a2 n : Nat} {L : Nat → Bool} {w' : World} {v22 v23 v24 v25 v26 v27 v28 v29 v30 v31 v6 : Value} (H : RG W h f g t a a2 n L w' v22 v23 v24 v25 v26 v27 v28 v29 v30 v31 v6) {z : Value} (k : z = hg h) : RG W h f g t a a2 n (fun j => j == 5 || L j) w' v22 v23 v24 v25 v26 z v28 v29 v30 v31 v6 := ⟨H.b, H.f0, H.f1, H.f2, H.f3, H.f4, fun _ => k, H.f6, H.f7, H.f8, H.f9, H.f10⟩
theorem RG.s6 {W : World} {h : Hr} {f g t a a2 n : Nat} {L : Nat → Bool} {w' : World} {v22 v23 v24 v25 v26 v27 v28 v29 v30 v31 v6 : Value} (H : RG W h f g t a a2 n L w' v22 v23 v24 v25 v26 v27 v28 v29 v30 v31 v6) {z : Value} (k : z = .int .i64 (g : Int)) : RG W h f g t a a2 n (fun j => j == 6 || L j) w' v22 v23 v24 v25 v26 v27 z v29 v30 v31 v6 := ⟨H.b, H.f0, H.f1, H.f2, H.f3, H.f4, H.f5, fun _ => k, H.f7, H.f8, H.f9, H.f10⟩
theorem RG.s7 {W : World} {h : Hr} {f g t a a2 n : Nat} {L : Nat → Bool} {w' : World} {v22 v23 v24 v25 v26 v27 v28 v29 v30 v31 v6 : Value} (H : RG W h f g t a a2 n L w' v22 v23 v24 v25 v26 v27 v28 v29 v30 v31 v6) {z : Value} (k : z = .int .i64 (t : Int)) : RG W h f g t a a2 n (fun j => j == 7 || L j) w' v22 v23 v24 v25 v26 v27 v28 z v30 v31 v6 := ⟨H.b, H.f0, H.f1, H.f2, H.f3, H.f4, H.f5, H.f6, fun _ => k, H.f8, H.f9, H.f10⟩
theorem RG.s8 {W : World} {h : Hr} {f g t a a2 n : Nat} {L : Nat → Bool} {w' : World} {v22 v23 v24 v25 v26 v27 v28 v29 v30 v31 v6 : Value} (H : RG W h f g t a a2 n L w' v22 v23 v24 v25 v26 v27 v28 v29 v30 v31 v6) {z : Value} (k : OrdR (key h.v.hs) (plcs g a2) a2 w' z) : RG W h f g t a a2 n (fun j => j == 8 || L j) w' v22 v23 v24 v25 v26 v27 v28 v29 z v31 v6 := ⟨H.b, H.f0, H.f1, H.f2, H.f3, H.f4, H.f5, H.f6, H.f7, fun _ => k, H.f9, H.f10⟩
theorem RG.s9 {W : World} {h : Hr} {f g t a a2 n : Nat} {L : Nat → Bool} {w' : World} {v22 v23 v24 v25 v26 v27 v28 v29 v30 v31 v6 : Value} (H : RG W h f g t a a2 n L w' v22 v23 v24 v25 v26 v27 v28 v29 v30 v31 v6) {z : Value} (k : OrdR (key h.v.hs) (plcs f n) n w' z) : RG W h f g t a a2 n (fun j => j == 9 || L j) w' v22 v23 v24 v25 v26 v27 v28 v29 v30 z v6 := ⟨H.b, H.f0, H.f1, H.f2, H.f3, H.f4, H.f5, H.f6, H.f7, H.f8, fun _ => k, H.f10⟩
theorem RG.s10 {W : World} {h : Hr} {f g t a a2 n : Nat} {L : Nat → Bool} {w' : World} {v22 v23 v24 v25 v26 v27 v28 v29 v30 v31 v6 : Value} (H : RG W h f g t a a2 n L w' v22 v23 v24 v25 v26 v27 v28 v29 v30 v31 v6) {z : Value} (k : OrdR (key h.v.hs) (plcs f n) n w' z) : RG W h f g t a a2 n (fun j => j == 10 || L j) w' v22 v23 v24 v25 v26 v27 v28 v29 v30 v31 z := ⟨H.b, H.f0, H.f1, H.f2, H.f3, H.f4, H.f5, H.f6, H.f7, H.f8, H.f9, fun _ => k⟩
def Ords (h : Hr) (n : Nat) : Prop := ∀ (k f t : Nat) (w : World), k < n → f + k = t → t ≤ h.m → HM w (· < w.heap.size) h → Calls Tryz.prog 75 #[hg h, .int .i64 (f : Int), .int .i64 (t : Int)] w (OrdG (key h.v.hs) (plcs f k) k w)
set_option maxRecDepth 100000 in
set_option maxHeartbeats 4000000 in
theorem rorder_two (h : Hr) (hm : h.m ≤ 2001) (n f t : Nat) (w : World) (hn : 2 ≤ n) (ht : f + n = t) (hl : t ≤ h.m) (M : HM w (· < w.heap.size) h) (ih : Ords h n) : Calls Tryz.prog 75 #[hg h, .int .i64 (f : Int), .int .i64 (t : Int)] w (OrdG (key h.v.hs) (plcs f n) n w) := by
 obtain ⟨W, hW⟩ : ∃ W, w.alloc (.cells (hc h) 35) = W := ⟨_, rfl⟩; have H0 := Lib.hid (show HX w W h by rw [← hW]; exact HX.start w h); have HW := Lib.hid hW; have HM0 := Lib.hid M; have HIH := Lib.hid ih; obtain ⟨s, hs⟩ : ∃ s, f + t = s := ⟨_, rfl⟩; obtain ⟨g, hg⟩ : ∃ g, s / 2 = g := ⟨_, rfl⟩; obtain ⟨a, ha⟩ : ∃ a, n / 2 = a := ⟨_, rfl⟩; obtain ⟨a2, ha2⟩ : ∃ a2, n - a = a2 := ⟨_, rfl⟩; have HN := Lib.hid (show f + a = g ∧ g + a2 = t ∧ a < n ∧ a2 < n ∧ a + a2 = n from ⟨by omega, by omega, by omega, by omega, by omega⟩); have b1 : s ≤ 10000 := by omega
 have b2 : g ≤ 10000 := by omega
 have b3 : t ≤ 10000 := by omega
 have b4 : f ≤ 10000 := by omega
 have b5 : n ≤ 10000 := by omega
 have e1 : (t : Int) - (f : Int) = (n : Int) := by omega
 have e2 : (f : Int) + (t : Int) = (s : Int) := by omega
 have e3 : (s : Int).tdiv 2 = (g : Int) := by rw [Int.tdiv_eq_ediv_of_nonneg (by omega)]; omega
 have e4 : (s : Int) / 2 = (g : Int) := by omega
 have t1 : decide ((n : Int) < 1) = false := decide_eq_false (by omega); have t1' : decide (n < 1) = false := decide_eq_false (by omega); have t2 : decide ((n : Int) = 1) = false := decide_eq_false (by omega); have t2' : decide (n = 1) = false := decide_eq_false (by omega); have t2b : ((n : Int) == 1) = false := by simp; omega
 have t2c : (n == 1) = false := by simp; omega
 have HLM := Lib.hid (And.intro hm hl); clear hW M ih hs hg ha ha2 hn ht hl hm; go_enter Tryz.func75, Tryz.ntmps75
 go_wp2_with fail
 rw [HW.out]; clear HW; refine wp_region_steps (fun L_ a_ w_ => ∃ (v22 v23 v24 v25 v26 v27 v28 v29 v30 v31 v6 : Value), a_ = { tmps := #[hg h, .int .i64 (f : Int), .int .i64 (t : Int), .pointer (some ⟨w.heap.size, 0, none⟩), undef, undef, v6, .int .i64 (g : Int), .int .i64 (t : Int), .int .i64 (f : Int), .int .i64 (n : Int), .bool false, .int .i64 (t : Int), .int .i64 (f : Int), .int .i64 (n : Int), .bool false, undef, undef, .int .i64 (f : Int), .int .i64 (t : Int), .int .i64 (s : Int), .int .i64 (g : Int), v22, v23, v24, v25, v26, v27, v28, v29, v30, v31], defers := [] } ∧ Hid (RG W h f g t a a2 n L_ w_ v22 v23 v24 v25 v26 v27 v28 v29 v30 v31 v6)) (by kernel_rfl) (by kernel_rfl) ?_ (AllSteps.cons ?_ (AllSteps.cons ?_ (AllSteps.cons ?_ (AllSteps.cons ?_ (AllSteps.cons ?_ (AllSteps.cons ?_ (AllSteps.cons ?_ (AllSteps.cons ?_ (AllSteps.cons ?_ (AllSteps.cons ?_ (AllSteps.cons ?_ AllSteps.nil))))))))))) ?_
 ·exact ⟨_, _, _, _, _, _, _, _, _, _, _, rfl, Lib.hid ⟨⟨rfl, rfl, rfl, Nat.le_refl _, fun _ _ => rfl⟩, (fun h => by cases h), (fun h => by cases h), (fun h => by cases h), (fun h => by cases h), (fun h => by cases h), (fun h => by cases h), (fun h => by cases h), (fun h => by cases h), (fun h => by cases h), (fun h => by cases h), (fun h => by cases h)⟩⟩
 ·rintro L_ a_ w_ hL hd ⟨v22, v23, v24, v25, v26, v27, v28, v29, v30, v31, v6, rfl, HR⟩ K hK; have hx := (H0.out.next HR.out.b).x; have x0 := hx.c 0; have x1 := hx.c 1; have x2 := hx.c 2; have x3 := hx.c 3; have x4 := hx.c 4; have x5 := hx.c 5; have x6 := hx.c 6; have x7 := hx.c 7; have x8 := hx.c 8; have x9 := hx.c 9; simp at x0 x1 x2 x3 x4 x5 x6 x7 x8 x9; clear hd hx; go_simp; exact hK.out _ _ ⟨_, _, _, _, _, _, _, _, _, _, _, rfl, Lib.hid (HR.out.s0 rfl)⟩
 ·rintro L_ a_ w_ hL hd ⟨v22, v23, v24, v25, v26, v27, v28, v29, v30, v31, v6, rfl, HR⟩ K hK; have hx := (H0.out.next HR.out.b).x; have x0 := hx.c 0; have x1 := hx.c 1; have x2 := hx.c 2; have x3 := hx.c 3; have x4 := hx.c 4; have x5 := hx.c 5; have x6 := hx.c 6; have x7 := hx.c 7; have x8 := hx.c 8; have x9 := hx.c 9; simp at x0 x1 x2 x3 x4 x5 x6 x7 x8 x9; clear hd hx; go_simp; exact hK.out _ _ ⟨_, _, _, _, _, _, _, _, _, _, _, rfl, Lib.hid (HR.out.s1 rfl)⟩
 ·rintro L_ a_ w_ hL hd ⟨v22, v23, v24, v25, v26, v27, v28, v29, v30, v31, v6, rfl, HR⟩ K hK; clear hd; go_simp; exact hK.out _ _ ⟨_, _, _, _, _, _, _, _, _, _, _, rfl, Lib.hid (HR.out.s2 rfl)⟩
 ·rintro L_ a_ w_ hL hd ⟨v22, v23, v24, v25, v26, v27, v28, v29, v30, v31, v6, rfl, HR⟩ K hK; clear hd; go_simp; exact hK.out _ _ ⟨_, _, _, _, _, _, _, _, _, _, _, rfl, Lib.hid (HR.out.s3 rfl)⟩
 ·rintro L_ a_ w_ hL hd ⟨v22, v23, v24, v25, v26, v27, v28, v29, v30, v31, v6, rfl, HR⟩ K hK; have e1 := HR.out.f1 (hd ⟨1, .data⟩ (by simp) rfl); subst e1; have e2 := HR.out.f2 (hd ⟨2, .data⟩ (by simp) rfl); subst e2; have e3 := HR.out.f3 (hd ⟨3, .data⟩ (by simp) rfl); subst e3; clear hd; go_simp; refine (HIH.out a f g w_ HN.out.2.2.1 HN.out.1 (by have := HN.out; have := HLM.out; omega) (HM0.out.below (H0.out.next HR.out.b).b)).mono ?_; rintro e w5 ⟨z, rfl, hO, hb⟩; exact hK.out _ _ ⟨_, _, _, _, _, _, _, _, _, _, _, rfl, Lib.hid ((HR.out.up hb).s4 hO)⟩
 ·rintro L_ a_ w_ hL hd ⟨v22, v23, v24, v25, v26, v27, v28, v29, v30, v31, v6, rfl, HR⟩ K hK; have hx := (H0.out.next HR.out.b).x; have x0 := hx.c 0; have x1 := hx.c 1; have x2 := hx.c 2; have x3 := hx.c 3; have x4 := hx.c 4; have x5 := hx.c 5; have x6 := hx.c 6; have x7 := hx.c 7; have x8 := hx.c 8; have x9 := hx.c 9; simp at x0 x1 x2 x3 x4 x5 x6 x7 x8 x9; clear hd hx; go_simp; exact hK.out _ _ ⟨_, _, _, _, _, _, _, _, _, _, _, rfl, Lib.hid (HR.out.s5 rfl)⟩
 ·rintro L_ a_ w_ hL hd ⟨v22, v23, v24, v25, v26, v27, v28, v29, v30, v31, v6, rfl, HR⟩ K hK; clear hd; go_simp; exact hK.out _ _ ⟨_, _, _, _, _, _, _, _, _, _, _, rfl, Lib.hid (HR.out.s6 rfl)⟩
 ·rintro L_ a_ w_ hL hd ⟨v22, v23, v24, v25, v26, v27, v28, v29, v30, v31, v6, rfl, HR⟩ K hK; clear hd; go_simp; exact hK.out _ _ ⟨_, _, _, _, _, _, _, _, _, _, _, rfl, Lib.hid (HR.out.s7 rfl)⟩
 ·rintro L_ a_ w_ hL hd ⟨v22, v23, v24, v25, v26, v27, v28, v29, v30, v31, v6, rfl, HR⟩ K hK; have e5 := HR.out.f5 (hd ⟨5, .data⟩ (by simp) rfl); subst e5; have e6 := HR.out.f6 (hd ⟨6, .data⟩ (by simp) rfl); subst e6; have e7 := HR.out.f7 (hd ⟨7, .data⟩ (by simp) rfl); subst e7; clear hd; go_simp; refine (HIH.out a2 g t w_ HN.out.2.2.2.1 HN.out.2.1 HLM.out.2 (HM0.out.below (H0.out.next HR.out.b).b)).mono ?_; rintro e w5 ⟨z, rfl, hO, hb⟩; exact hK.out _ _ ⟨_, _, _, _, _, _, _, _, _, _, _, rfl, Lib.hid ((HR.out.up hb).s8 hO)⟩
 ·rintro L_ a_ w_ hL hd ⟨v22, v23, v24, v25, v26, v27, v28, v29, v30, v31, v6, rfl, HR⟩ K hK; have e0 := HR.out.f0 (hd ⟨0, .data⟩ (by simp) rfl); subst e0; obtain ⟨A1, c1, o1, q1, i1, g1⟩ := HR.out.f4 (hd ⟨4, .data⟩ (by simp) rfl); subst q1; obtain ⟨A2, c2, o2, q2, i2, g2⟩ := HR.out.f8 (hd ⟨8, .data⟩ (by simp) rfl); subst q2; have CM := Lib.hid (merge_two h HLM.out.1 A1 A2 a a2 n f g t c1 c2 o1 o2 w_ (HM0.out.below (H0.out.next HR.out.b).b) i1 i2 g1 g2 HN.out.1 HN.out.2.1 HN.out.2.2.2.2 HLM.out.2); clear i1 i2 g1 g2; clear hd; go_simp; refine CM.out.mono ?_; rintro e w5 ⟨z, rfl, hO, hb⟩; exact hK.out _ _ ⟨_, _, _, _, _, _, _, _, _, _, _, rfl, Lib.hid ((HR.out.up hb).s9 hO)⟩
 ·rintro L_ a_ w_ hL hd ⟨v22, v23, v24, v25, v26, v27, v28, v29, v30, v31, v6, rfl, HR⟩ K hK; have e9 := HR.out.f9 (hd ⟨9, .data⟩ (by simp) rfl); clear hd; go_simp; exact hK.out _ _ ⟨_, _, _, _, _, _, _, _, _, _, _, rfl, Lib.hid (HR.out.s10 e9)⟩
 ·rintro L_ a_ w_ hL ⟨v22, v23, v24, v25, v26, v27, v28, v29, v30, v31, v6, rfl, HR⟩; have hO := HR.out.f10 (hL 10 (by decide)); have HO := Lib.hid hO; have HB := Lib.hid (H0.out.next HR.out.b).b; clear hL hO HR; go_wp2; go_ret; exact ⟨_, rfl, HO.out, HB.out⟩
set_option maxRecDepth 100000 in
set_option maxHeartbeats 4000000 in
theorem rorder_few (h : Hr) (n f t : Nat) (w : World) (hn : n < 2) (ht : f + n = t) (hl : t ≤ 10000) : Calls Tryz.prog 75 #[hg h, .int .i64 (f : Int), .int .i64 (t : Int)] w (OrdG (key h.v.hs) (plcs f n) n w) := by
 obtain ⟨W, hW⟩ : ∃ W, w.alloc (.cells (hc h) 35) = W := ⟨_, rfl⟩; have H0 := Lib.hid (show HX w W h by rw [← hW]; exact HX.start w h); have HW := Lib.hid hW; have hz : W.heap.size = w.heap.size + 1 := by rw [← hW]; exact World.size_alloc _ _
 clear hW; have b3 : t ≤ 10000 := by omega
 have b4 : f ≤ 10000 := by omega
 rcases (by omega : n = 0 ∨ n = 1) with rfl | rfl
 ·have e1 : (t : Int) - (f : Int) = 0 := by omega
  have HR := Lib.hid (show OrdG (key h.v.hs) (plcs f 0) 0 w (.returned (.slice none 0 0)) W from ⟨_, rfl, ⟨none, 0, [], rfl, Ins.nil, St.Good.nil⟩, H0.out.b⟩); clear ht hl hn hz; go_enter Tryz.func75, Tryz.ntmps75
  go_wp2_with fail
  rw [HW.out]; go_ret; exact HR.out
 ·have e1 : (t : Int) - (f : Int) = 1 := by omega
  have HR := Lib.hid (show OrdG (key h.v.hs) (plcs f 1) 1 w (.returned (.slice (some ⟨W.heap.size, 0, none⟩) 1 1)) (W.alloc (.cells #[.int .i64 (f : Int)] 3)) from
   ⟨_, rfl, ⟨_, _, [(f : Int)], rfl, (ins_one (Bx.new W 3 #[.int .i64 (f : Int)])).keep (fun _ _ => rfl) (fun b hb => by subst hb; simp), by rw [plcs_one]; exact ⟨List.Perm.refl _, List.pairwise_singleton _ _⟩⟩, (H0.out.next (alloc_ _ _)).b⟩)
  rw [hz] at HR; clear ht hl hn hz; go_enter Tryz.func75, Tryz.ntmps75
  go_wp2_with fail
  rw [HW.out]; go_ret; exact HR.out
theorem rorder_ (h : Hr) (hm : h.m ≤ 2001) (n : Nat) : ∀ (f t : Nat) (w : World), f + n = t → t ≤ h.m → HM w (· < w.heap.size) h → Calls Tryz.prog 75 #[hg h, .int .i64 (f : Int), .int .i64 (t : Int)] w (OrdG (key h.v.hs) (plcs f n) n w) := by
 induction n using Nat.strongRecOn with
 | ind n ih =>
  intro f t w ht hl M; rcases Nat.lt_or_ge n 2 with hn | hn
  ·exact rorder_few h n f t w hn ht (by omega)
  ·exact rorder_two h hm n f t w hn ht hl M fun k f t w hk ht hl M => ih k hk f t w ht hl M
set_option maxRecDepth 100000 in
set_option maxHeartbeats 4000000 in
theorem rorder (h : Hr) (w : World) (M : HM w (· < w.heap.size) h) (hm : h.m ≤ 2001) : Calls Tryz.prog 53 #[hg h] w (OrdG (key h.v.hs) (plc h.v.hs.length) h.m w) := by
 obtain ⟨W, hW⟩ : ∃ W, w.alloc (.cells (hc h) 35) = W := ⟨_, rfl⟩; have H0 := Lib.hid (show HX w W h by rw [← hW]; exact HX.start w h); have HW := Lib.hid hW; have C := Lib.hid (rorder_ h hm h.m 0 h.m W (Nat.zero_add _) (Nat.le_refl _) (M.below H0.out.b)); have HE := Lib.hid (show plcs 0 h.m = plc h.v.hs.length by rw [plcs_all, M.len]); clear hW M; go_enter Tryz.func53, Tryz.ntmps53
 go_wp2_with fail
 rw [HW.out]; refine C.out.mono ?_; rw [HE.out]; rintro e w1 ⟨v, rfl, hO, hb⟩; have HO := Lib.hid hO; have HB := Lib.hid (H0.out.next hb).b; clear hO hb; go_wp2; go_ret; exact ⟨_, rfl, HO.out, HB.out⟩
end Tm
end Go.Proofs.YtplenoaajokpjaaGreat

namespace Go.Proofs.YtplenoaajokpjaaGreat
open Go.RowKit Ba Tf
namespace Trf
set_option linter.unusedVariables false
structure D0 (w w1 : World) (A : Option Addr) (n c : Nat) : Prop where
 b : Below w.heap.size w w1
 x : Bx w1 w.heap.size 38 #[.slice A n c]
 z : Bx w1 (w.heap.size + 1) 70 zc
theorem D0.start {w : World} {A : Option Addr} {n c : Nat} : D0 w ((w.alloc (.cells #[.slice A n c] 38)).alloc (.cells zc 70)) A n c := by
 refine ⟨(alloc_ _ _).alloc (by simp) _, (Bx.new _ _ _).alloc _, ?_⟩; have := Bx.new (w.alloc (.cells #[.slice A n c] 38)) 70 zc; rw [World.size_alloc] at this; exact this
set_option maxRecDepth 100000 in
set_option maxHeartbeats 4000000 in
theorem rat (A : Option Addr) (n c : Nat) (rs : List Rw) (day : Int) (w : World) (hS : Vers w A n rs) (hn : n ≤ 1000) :
  Calls Tryz.prog 52 #[tg A n c, .int .i64 day] w (AtTo w day (rs.map Rw.v)) := by
 have hl := hS.len; have HS := Lib.hid hS; have HL := Lib.hid hl; obtain ⟨W, hW⟩ : ∃ W, (w.alloc (.cells #[.slice A n c] 38)).alloc (.cells zc 70) = W := ⟨_, rfl⟩; have HW := Lib.hid (show D0 w W A n c by rw [← hW]; exact D0.start); have HE := Lib.hid hW; clear hS hl hW; go_enter Tryz.func52, Tryz.ntmps52; go_wp2; rw [HE.out]; have x0 := HW.out.x.c 0; simp at x0; have v0 := HW.out.z.c 0; have g0 := HW.out.z.f 0; have v1 := HW.out.z.c 1; have g1 := HW.out.z.f 1; have v2 := HW.out.z.c 2; have g2 := HW.out.z.f 2; have v3 := HW.out.z.c 3; have g3 := HW.out.z.f 3; have v4 := HW.out.z.c 4; have g4 := HW.out.z.f 4; have v5 := HW.out.z.c 5; have g5 := HW.out.z.f 5; have v6 := HW.out.z.c 6; have g6 := HW.out.z.f 6; have v7 := HW.out.z.c 7; have g7 := HW.out.z.f 7; have v8 := HW.out.z.c 8; have g8 := HW.out.z.f 8; simp at v0 v1 v2 v3 v4 v5 v6 v7 v8
 go_loop [6] (fun i => ∃ (k : Nat), k ≤ n ∧ i = .int .i64 ((k : Int) - 1) ∧ Hid (lst day ((rs.map Rw.v).drop k) = none)) (fun i => ((intOf i) + 1).toNat)
 case atStart => exact ⟨n, Nat.le_refl _, rfl, Lib.hid (by rw [List.drop_of_length_le (by rw [HL.out]; omega)]; rfl)⟩
 case round =>
  obtain ⟨k, hk, rfl, HB⟩ := hrel; cases k with
  | zero =>
   have HT := Lib.hid (tol_none (show lst day (rs.map Rw.v) = none from HB.out)); have HZ := Lib.hid (nine_bx HW.out.z zr); have HK := Lib.hid (nine_below HW.out.b (b := w.heap.size + 1) (by omega) 0 zr); rw [show ((0 : Nat) : Int) - 1 = -1 from rfl]; go_wp2; change bodyPost _ _ _ _ _ (nine W (w.heap.size + 1) 0 zr); refine bodyPost_ret (v := .tuple #[vg zr, .int .i64 7]) ?_ rfl ⟨zr, by rw [HT.out.2], HT.out.1.symm, zr_mean _ _, zr_sm, HK.out⟩; have hx : Bx (nine W (w.heap.size + 1) 0 zr) (w.heap.size + 1) 70 zc := HZ.out; have x0 := hx.c 0; have x1 := hx.c 1; have x2 := hx.c 2; have x3 := hx.c 3; have x4 := hx.c 4; have x5 := hx.c 5; have x6 := hx.c 6; have x7 := hx.c 7; have x8 := hx.c 8; simp at x0 x1 x2 x3 x4 x5 x6 x7 x8; simp [results, Tryz.results52, go_sem, x0, x1, x2, x3, x4, x5, x6, x7, x8]; exact ⟨rfl, rfl, rfl, rfl, rfl, ⟨rfl, rfl, rfl⟩, ⟨rfl, rfl, rfl⟩, ⟨rfl, rfl, rfl⟩, rfl⟩
  | succ j =>
   have hj : j < n := by omega
   obtain ⟨ad, r, rfl, hb, hx, hN0, hM, hSm⟩ := HS.out.get hj; have hN : Nin W (ad.add (j * 9)) r := hN0.keep fun p hp => HW.out.b.cell (by rw [hp, add_block]; exact hb)
   have hj2 : (j : Int) < (n : Int) := by omega
   have e1 : ((j + 1 : Nat) : Int) - 1 = (j : Int) := by omega
   rw [e1]; clear e1 hN0; by_cases h1 : r.v.fr ≤ day
   ·have HT := Lib.hid (tol_some (lst_at (map_get hx) HB.out h1)); have t1 : decide (r.v.fr ≤ day) = true := decide_eq_true h1; obtain ⟨c0, c1, c2, c3, c4, c5, c6, c7, c8⟩ := hN; have HZ := Lib.hid (nine_bx HW.out.z r); have HK := Lib.hid (nine_below HW.out.b (b := w.heap.size + 1) (by omega) 0 r)
    have HF := Lib.hid (show Mean (nine W (w.heap.size + 1) 0 r) (· < (nine W (w.heap.size + 1) 0 r).heap.size) r by
     have h2 := HW.out.z.lt; refine hM.keep (fun p hp => (nine_other _ _ _ _ _ fun k _ e => ?_).trans (HW.out.b.cell hp)) fun b hb => by rw [nine_size]; exact Nat.lt_of_lt_of_le hb HW.out.b.size
     rw [e] at hp; simp only at hp; omega)
    clear h1 hx hM hb; go_wp2; change bodyPost _ _ _ _ _ (nine W (w.heap.size + 1) 0 r); refine bodyPost_ret (v := .tuple #[vg r, .int .i64 0]) ?_ rfl ⟨r, by rw [HT.out.2], HT.out.1.symm, HF.out, hSm, HK.out⟩; have hx := HZ.out; have x0 := hx.c 0; have x1 := hx.c 1; have x2 := hx.c 2; have x3 := hx.c 3; have x4 := hx.c 4; have x5 := hx.c 5; have x6 := hx.c 6; have x7 := hx.c 7; have x8 := hx.c 8; simp at x0 x1 x2 x3 x4 x5 x6 x7 x8; simp [results, Tryz.results52, go_sem, x0, x1, x2, x3, x4, x5, x6, x7, x8]
   ·have HN := Lib.hid (lst_not (map_get hx) HB.out h1); have t1 : decide (r.v.fr ≤ day) = false := decide_eq_false h1; have c0 := hN.c0; clear h1 hx hM hb hN; go_wp2
    go_round
    case rel => exact ⟨j, by omega, rfl, HN⟩
    case measure => simp [intOf]
end Trf
end Go.Proofs.YtplenoaajokpjaaGreat

namespace Go.Proofs.YtplenoaajokpjaaGreat
open Go.RowKit Ba Cv Sp Te Ag Sl Tm
namespace Slc
set_option linter.unusedVariables false
set_option maxRecDepth 100000 in
set_option maxHeartbeats 4000000 in
theorem rrightS (h : Hr) (w : World) (M : HM w (· < w.heap.size) h) (S : HS h) : Calls Tryz.prog 51 #[hg h] w (Yes w (hrt h.v)) := by
 obtain ⟨W, hW⟩ : ∃ W, w.alloc (.cells (hc h) 35) = W := ⟨_, rfl⟩; have H0 := Lib.hid (show HX w W h by rw [← hW]; exact HX.start w h); have HW := Lib.hid hW; have HMM := Lib.hid M; have HSS := Lib.hid S; have hmm := S.m; have hlen : h.v.hs.length = h.m := by show (h.rs.map Tm.Rw.v).length = _; rw [List.length_map]; exact M.r.1
 have CT := Lib.hid (Tm.rright_ h.s h.r h.A h.n h.c h.cs W (M.t.below H0.out.b) (hs_lens S).1); obtain ⟨R, hR⟩ : ∃ R, hrt h.v = R := ⟨_, rfl⟩; rw [hR]
 have HR := Lib.hid (show (te h.s h.r h.cs && h.v.hs.all fun c => rch c && inn h.s c.dy) = R by
  rw [← hR]; unfold hrt; rw [decide_eq_true (by omega : h.v.hs.length ≤ 2000), Bool.true_and]; rfl)
 obtain ⟨Bv, hBv⟩ : ∃ Bv, h.B = Bv := ⟨_, rfl⟩; have x0 := H0.out.x.c 0; have x1 := H0.out.x.c 1; have x2 := H0.out.x.c 2; have x3 := H0.out.x.c 3; have x4 := H0.out.x.c 4; have x5 := H0.out.x.c 5; have x6 := H0.out.x.c 6; have x7 := H0.out.x.c 7; have x8 := H0.out.x.c 8; have x9 := H0.out.x.c 9; simp at x0 x1 x2 x3 x4 x5 x6 x7 x8 x9; rw [hBv] at x9; have HBv := Lib.hid hBv; clear hW M S hR hBv hlen; cases ht : te h.s h.r h.cs
 ·have HQ := Lib.hid (show R = false by rw [← HR.out, ht]; rfl); rw [ht] at CT; clear ht; go_enter Tryz.func51, Tryz.ntmps51
  go_wp2_with fail
  rw [HW.out]
  go_wp2_with fail
  refine CT.out.mono ?_; rintro e w1 ⟨rfl, hb1⟩; have H1 := Lib.hid (H0.out.next hb1); clear hb1 CT x0 x1 x2 x3 x4 x5 x6 x7 x8 x9; have x9 := H1.out.x.c 9; simp at x9; rw [HBv.out] at x9; go_wp2; go_ret; exact ⟨congrArg (fun b => Ending.returned (.bool b)) HQ.out.symm, H1.out.b⟩
 ·have HR2 := Lib.hid (show ((h.v.hs.drop 0).all fun c => rch c && inn h.s c.dy) = R by rw [← HR.out, ht]; rfl); rw [ht] at CT; clear ht HR; have tm : decide (2000 < h.m) = false := decide_eq_false (by omega); have tm' : decide (2000 < (h.m : Int)) = false := decide_eq_false (by omega); go_enter Tryz.func51, Tryz.ntmps51
  go_wp2_with fail
  rw [HW.out]
  go_wp2_with fail
  refine CT.out.mono ?_; rintro e w1 ⟨rfl, hb1⟩; have H1 := Lib.hid (H0.out.next hb1); clear hb1 CT x0 x1 x2 x3 x4 x5 x6 x7 x8 x9 H0 HW; have x9 := H1.out.x.c 9; simp at x9; rw [HBv.out] at x9; go_wp2
  go_loopw [4] (fun vi w' => ∃ (i : Nat) (W : World), i ≤ h.m ∧ vi = .int .i64 (i : Int) ∧ W = w' ∧ Hid (HX w W h) ∧ Hid (((h.v.hs.drop i).all fun c => rch c && inn h.s c.dy) = R)) (fun vi _ => h.m - (intOf vi).toNat)
  case atStart => exact ⟨0, w1, Nat.zero_le _, rfl, rfl, H1, HR2⟩
  case round =>
   obtain ⟨i, W1, him, rfl, rfl, HK, HA⟩ := hrel; clear H1 x9 HR2; have x9 := HK.out.x.c 9; simp at x9; rw [HBv.out] at x9; by_cases hlt : i < h.m
   ·have hMW := HMM.out.below HK.out.b; obtain ⟨ad, r, hB, hb, hr, N, hcv, hv⟩ := hMW.get hlt; rw [HBv.out] at hB; subst hB; have hlt2 : (i : Int) < (h.m : Int) := by omega
    have HA2 := Lib.hid (all_drop (p := fun c => rch c && inn h.s c.dy) hv); have CC := Lib.hid (rright11 r W1 hcv ((hs_lens HSS.out).2.2 r (List.mem_of_getElem? hr))); have HN := Lib.hid N; have HBB := Lib.hid hb; obtain ⟨c0, c1, c2, c3, c4, c5, c6, c7, c8⟩ := N; clear hr hv hcv hb hMW; obtain ⟨q1, hq1⟩ : ∃ q1, rch r.v = q1 := ⟨_, rfl⟩; obtain ⟨q2, hq2⟩ : ∃ q2, inn h.s r.v.dy = q2 := ⟨_, rfl⟩; have HQ1 := Lib.hid hq1; have HQ2 := Lib.hid hq2; rw [hq1] at CC
    go_wp2_with fail
    refine CC.out.mono ?_; rintro e w3 ⟨rfl, hb3⟩; have H3 := Lib.hid (HK.out.next hb3); have CI := fun p : Ext w3 => Lib.hid (rspan_in h.s r.v.dy p.W)
    rw [hq2] at CI; have k2 : ∀ p : Ext w3, p.W.cell? ⟨w.heap.size, 2, none⟩ = some (.int .i64 h.s.1) := fun p => H3.out.x.ext p 2
    have k3 : ∀ p : Ext w3, p.W.cell? ⟨w.heap.size, 3, none⟩ = some (.int .i64 h.s.2) := fun p => H3.out.x.ext p 3
    have k9 : ∀ p : Ext w3, p.W.cell? ⟨w.heap.size, 9, none⟩ = some (.slice (some ad) h.m h.d) := fun p => by rw [← HBv.out]; exact H3.out.x.ext p 9
    have kd : ∀ p : Ext w3, p.W.cell? ⟨(ad.add (i * 9)).block, (ad.add (i * 9)).off + 1, none⟩ = some (.int .i64 r.v.dy) := fun p => ((hb3.trans (p.b.mono hb3.size)).cell (p := ⟨(ad.add (i * 9)).block, (ad.add (i * 9)).off + 1, none⟩) (by show (ad.add (i * 9)).block < _; rw [add_block]; exact HBB.out)).trans HN.out.c1
    clear hb3 CC c0 c1 c2 c3 c4 c5 c6 c7 c8 hq1 hq2 x9
    go_upto_region 8 with fail
    have ne : Nonempty (Ext w3) := ⟨⟨w3, Below.refl _ _⟩⟩; refine quietE (by kernel_rfl) (by kernel_rfl) ?_
    repeat (first | go_big_quiet_skip | quiet_step (first
     | (go_at_call 41; with_reducible exact ext_of (CI _).out)
     | fail))
    refine wpQuiet_nil ?_; rintro _ ⟨p, rfl⟩; clear k2 k3 k9 kd CI ne; have HP := Lib.hid (H3.out.next p.b); generalize p.W = w4 at HP ⊢; cases q1
    ·have HQ := Lib.hid (show R = false by rw [← HA.out, HA2.out, HQ1.out]; rfl); go_wp2; go_ret; exact ⟨congrArg (fun b => Ending.returned (.bool b)) HQ.out.symm, HP.out.b⟩
    ·cases q2
     ·have HQ := Lib.hid (show R = false by rw [← HA.out, HA2.out, HQ1.out, HQ2.out]; rfl); go_wp2; go_ret; exact ⟨congrArg (fun b => Ending.returned (.bool b)) HQ.out.symm, HP.out.b⟩
     ·have HA3 := Lib.hid (show ((h.v.hs.drop (i + 1)).all fun c => rch c && inn h.s c.dy) = R by rw [← HA.out, HA2.out, HQ1.out, HQ2.out]; rfl); go_wp2; go_roundw
      case rel => exact ⟨i + 1, _, by omega, by go_num, rfl, HP, HA3⟩
      case measure => simp [intOf]; omega
   ·have HQ := Lib.hid (show R = true by rw [← HA.out, List.drop_of_length_le (by show (h.rs.map Tm.Rw.v).length ≤ i; rw [List.length_map, HMM.out.r.1]; omega)]; rfl); go_wp2; go_ret; exact ⟨congrArg (fun b => Ending.returned (.bool b)) HQ.out.symm, HK.out.b⟩
theorem ups_yes {l : List Ch} {k : Nat} {c : Ch} {d : Int} (h : l[k]? = some c) (hd : c.dy ≤ d) : ups (l.take (k + 1)) d = ups (l.take k) d ++ [c] := by
 unfold ups; rw [take_get h, List.filter_append]; simp [hd]
theorem ups_no {l : List Ch} {k : Nat} {c : Ch} {d : Int} (h : l[k]? = some c) (hd : ¬ c.dy ≤ d) : ups (l.take (k + 1)) d = ups (l.take k) d := by
 unfold ups; rw [take_get h, List.filter_append]; simp [hd]
def HoTo (w0 w : World) (h : Hr) (o : List Int) (d : Int) (e : Ending) (w' : World) : Prop := ∃ r : Rw, e = .returned (vg r) ∧ r.v = ⟨(0, 0), hld (ini h.v) (ordl h.v.hs o) d, 0⟩ ∧ Cvs w0 (· < w0.heap.size) r.A r.n r.v.h.cs ∧ r.n ≤ 1000 ∧ Below w.heap.size w w'
structure HJ (w0 w W : World) (h : Hr) (l : List Ch) (d : Int) (k : Nat) (nw : Rw) : Prop where
 b : Below w.heap.size w W
 x : Bx W w.heap.size 35 (hc h)
 z : Bx W (w.heap.size + 1) 60 zc
 y : Bx W (w.heap.size + 2) 60 (vc nw)
 cv : Cvs w0 (· < w0.heap.size) nw.A nw.n nw.v.h.cs
 n : nw.n ≤ 1000
 st : nw.v = ⟨(0, 0), (ups (l.take k) d).foldl don (ini h.v), 0⟩
theorem HJ.next {w0 w W W' : World} {h : Hr} {l : List Ch} {d : Int} {k : Nat} {nw : Rw} (H : HJ w0 w W h l d k nw) (hb : Below W.heap.size W W') : HJ w0 w W' h l d k nw := ⟨H.b.trans (hb.mono H.b.size), H.x.keep hb, H.z.keep hb, H.y.keep hb, H.cv, H.n, H.st⟩
theorem HJ.skip {w0 w W : World} {h : Hr} {l : List Ch} {d : Int} {k : Nat} {nw : Rw} {c : Ch} (H : HJ w0 w W h l d k nw) (hl : l[k]? = some c) (hd : ¬ c.dy ≤ d) : HJ w0 w W h l d (k + 1) nw := ⟨H.b, H.x, H.z, H.y, H.cv, H.n, by rw [ups_no hl hd]; exact H.st⟩
theorem grown_setsG {W w' : World} {b : Nat} (hg : W.grownBy w' (some b)) (l : List Value) (o : Nat) : W.grownBy (sets b o l w') (some b) := by
 have h := sets_below (w0 := w') l (Nat.le_refl b) o w' (Below.refl _ _); exact ⟨h.os.trans hg.os, h.tape.trans hg.tape, h.output.trans hg.output, by rw [sets_size]; exact hg.size, fun k hk hne => (sets_heap l (fun e => hne (by rw [e])) o w').trans (hg.block k hk hne)⟩
theorem HJ.put {w0 w W : World} {h : Hr} {l : List Ch} {d : Int} {k : Nat} {nw : Rw} {r : Tm.Rw} (H : HJ w0 w W h l d k nw) (hl : l[k]? = some r.v) (hd : r.v.dy ≤ d) (hcv : Cvs w0 (· < w0.heap.size) r.A r.n r.v.cs) (hn : r.n ≤ 1000) (ls : List Value) (o : Nat) (e : setl o ls (vc nw) = vc (dn nw r)) : HJ w0 w (sets (w.heap.size + 2) o ls W) h l d (k + 1) (dn nw r) := by
 have hg := grown_setsG (World.grownBy.refl W (some (w.heap.size + 2))) ls o; have h0 := H.x.lt; have h1 := H.z.lt; refine ⟨H.b.grown hg H.b.size (fun j hj => by injection hj with hj; omega), H.x.sets_far (by omega) _ _, H.z.sets_far (by omega) _ _, ?_, dn_good H.cv hcv, dn_n H.n hn, ?_⟩
 ·have := H.y.sets ls o W _; rw [← e]; exact H.y.sets ls o W _
 ·rw [dn_v, ups_yes hl hd, List.foldl_append, H.st]; rfl
theorem dn_1 {nw : Rw} {r : Tm.Rw} (h : r.v.kd = 1) : setl 3 [.int .i64 r.v.r.k, .int .i64 r.v.r.v, .int .i64 r.v.r.a, .int .i64 r.v.r.z] (vc nw) = vc (dn nw r) := by simp [setl, dn, don, h]
theorem dn_2 {nw : Rw} {r : Tm.Rw} (h : r.v.kd = 2) : setl 7 [.slice r.A r.n r.c] (vc nw) = vc (dn nw r) := by simp [setl, dn, don, h]
theorem dn_3 {nw : Rw} {r : Tm.Rw} (h : r.v.kd = 3) : setl 2 [.bool false] (vc nw) = vc (dn nw r) := by simp [setl, dn, don, h]
theorem dn_4 {nw : Rw} {r : Tm.Rw} (h : r.v.kd = 4) : setl 2 [.bool true] (vc nw) = vc (dn nw r) := by simp [setl, dn, don, h]
theorem dn_0 {nw : Rw} {r : Tm.Rw} (h1 : r.v.kd ≠ 1) (h2 : r.v.kd ≠ 2) (h3 : r.v.kd ≠ 3) (h4 : r.v.kd ≠ 4) : setl 0 [] (vc nw) = vc (dn nw r) := by simp [setl, dn, don, h1, h2, h3, h4]
structure R5 (W : World) (h : Hr) (r : Tm.Rw) (aB aO : Addr) (P n c kk i : Nat) (L : Nat → Bool) (w' : World) (v23 v24 v25 v26 v27 v28 v29 v30 v9 : Value) : Prop where
 b : Below W.heap.size W w'
 f0 : L 0 = true → v23 = .pointer (some ⟨P, 9, none⟩)
 f1 : L 1 = true → v24 = .slice (some aB) h.m h.d
 f2 : L 2 = true → v25 = .slice (some aO) n c
 f3 : L 3 = true → v26 = .int .i64 (kk : Int)
 f4 : L 4 = true → v27 = .pointer (some (aO.add kk))
 f5 : L 5 = true → v28 = .int .i64 (i : Int)
 f6 : L 6 = true → v29 = .pointer (some (aB.add (i * 9)))
 f7 : L 7 = true → v30 = Tm.vg r
 f8 : L 8 = true → ∃ g, v9 = .pointer (some ⟨g, 0, none⟩) ∧ W.heap.size ≤ g ∧ ∃ x0 x1 x2 x3 x4 x5 x6 x7 x8 : Value, Bx w' g 52 #[x0, x1, x2, x3, x4, x5, x6, x7, x8]
 f9 : L 9 = true → ∃ g, v9 = .pointer (some ⟨g, 0, none⟩) ∧ W.heap.size ≤ g ∧ Bx w' g 52 (Tm.vc r)
 d9_8 : L 9 = true → L 8 = true
theorem R5.up {W : World} {h : Hr} {r : Tm.Rw} {aB aO : Addr} {P n c kk i : Nat} {L : Nat → Bool} {w' w2 : World} {v23 v24 v25 v26 v27 v28 v29 v30 v9 : Value} (H : R5 W h r aB aO P n c kk i L w' v23 v24 v25 v26 v27 v28 v29 v30 v9) (hb : Below w'.heap.size w' w2) : R5 W h r aB aO P n c kk i L w2 v23 v24 v25 v26 v27 v28 v29 v30 v9 :=
 ⟨H.b.trans (hb.mono H.b.size), H.f0, H.f1, H.f2, H.f3, H.f4, H.f5, H.f6, H.f7, (fun l => by obtain ⟨g, e, hg, x0, x1, x2, x3, x4, x5, x6, x7, x8, hx⟩ := H.f8 l; exact ⟨g, e, hg, _, _, _, _, _, _, _, _, _, hx.keep hb⟩), (fun l => by obtain ⟨g, e, hg, hx⟩ := H.f9 l; exact ⟨g, e, hg, hx.keep hb⟩), H.d9_8⟩
theorem R5.s0 {W : World} {h : Hr} {r : Tm.Rw} {aB aO : Addr} {P n c kk i : Nat} {L : Nat → Bool} {w' : World} {v23 v24 v25 v26 v27 v28 v29 v30 v9 : Value} (H : R5 W h r aB aO P n c kk i L w' v23 v24 v25 v26 v27 v28 v29 v30 v9) {z : Value} (k : z = .pointer (some ⟨P, 9, none⟩)) : R5 W h r aB aO P n c kk i (fun j => j == 0 || L j) w' z v24 v25 v26 v27 v28 v29 v30 v9 := ⟨H.b, fun _ => k, H.f1, H.f2, H.f3, H.f4, H.f5, H.f6, H.f7, H.f8, H.f9, H.d9_8⟩
theorem R5.s1 {W : World} {h : Hr} {r : Tm.Rw} {aB aO : Addr} {P n c kk i : Nat} {L : Nat → Bool} {w' : World} {v23 v24 v25 v26 v27 v28 v29 v30 v9 : Value} (H : R5 W h r aB aO P n c kk i L w' v23 v24 v25 v26 v27 v28 v29 v30 v9) {z : Value} (k : z = .slice (some aB) h.m h.d) : R5 W h r aB aO P n c kk i (fun j => j == 1 || L j) w' v23 z v25 v26 v27 v28 v29 v30 v9 := ⟨H.b, H.f0, fun _ => k, H.f2, H.f3, H.f4, H.f5, H.f6, H.f7, H.f8, H.f9, H.d9_8⟩
theorem R5.s2 {W : World} {h : Hr} {r : Tm.Rw} {aB aO : Addr} {P n c kk i : Nat} {L : Nat → Bool} {w' : World} {v23 v24 v25 v26 v27 v28 v29 v30 v9 : Value} (H : R5 W h r aB aO P n c kk i L w' v23 v24 v25 v26 v27 v28 v29 v30 v9) {z : Value} (k : z = .slice (some aO) n c) : R5 W h r aB aO P n c kk i (fun j => j == 2 || L j) w' v23 v24 z v26 v27 v28 v29 v30 v9 := ⟨H.b, H.f0, H.f1, fun _ => k, H.f3, H.f4, H.f5, H.f6, H.f7, H.f8, H.f9, H.d9_8⟩
theorem R5.s3 {W : World} {h : Hr} {r : Tm.Rw} {aB aO : Addr} {P n c kk i : Nat} {L : Nat → Bool} {w' : World} {v23 v24 v25 v26 v27 v28 v29 v30 v9 : Value} (H : R5 W h r aB aO P n c kk i L w' v23 v24 v25 v26 v27 v28 v29 v30 v9) {z : Value} (k : z = .int .i64 (kk : Int)) : R5 W h r aB aO P n c kk i (fun j => j == 3 || L j) w' v23 v24 v25 z v27 v28 v29 v30 v9 := ⟨H.b, H.f0, H.f1, H.f2, fun _ => k, H.f4, H.f5, H.f6, H.f7, H.f8, H.f9, H.d9_8⟩
theorem R5.s4 {W : World} {h : Hr} {r : Tm.Rw} {aB aO : Addr} {P n c kk i : Nat} {L : Nat → Bool} {w' : World} {v23 v24 v25 v26 v27 v28 v29 v30 v9 : Value} (H : R5 W h r aB aO P n c kk i L w' v23 v24 v25 v26 v27 v28 v29 v30 v9) {z : Value} (k : z = .pointer (some (aO.add kk))) : R5 W h r aB aO P n c kk i (fun j => j == 4 || L j) w' v23 v24 v25 v26 z v28 v29 v30 v9 := ⟨H.b, H.f0, H.f1, H.f2, H.f3, fun _ => k, H.f5, H.f6, H.f7, H.f8, H.f9, H.d9_8⟩
theorem R5.s5 {W : World} {h : Hr} {r : Tm.Rw} {aB aO : Addr} {P n c kk i : Nat} {L : Nat → Bool} {w' : World} {v23 v24 v25 v26 v27 v28 v29 v30 v9 : Value} (H : R5 W h r aB aO P n c kk i L w' v23 v24 v25 v26 v27 v28 v29 v30 v9) {z : Value} (k : z = .int .i64 (i : Int)) : R5 W h r aB aO P n c kk i (fun j => j == 5 || L j) w' v23 v24 v25 v26 v27 z v29 v30 v9 := ⟨H.b, H.f0, H.f1, H.f2, H.f3, H.f4, fun _ => k, H.f6, H.f7, H.f8, H.f9, H.d9_8⟩
theorem R5.s6 {W : World} {h : Hr} {r : Tm.Rw} {aB aO : Addr} {P n c kk i : Nat} {L : Nat → Bool} {w' : World} {v23 v24 v25 v26 v27 v28 v29 v30 v9 : Value} (H : R5 W h r aB aO P n c kk i L w' v23 v24 v25 v26 v27 v28 v29 v30 v9) {z : Value} (k : z = .pointer (some (aB.add (i * 9)))) : R5 W h r aB aO P n c kk i (fun j => j == 6 || L j) w' v23 v24 v25 v26 v27 v28 z v30 v9 := ⟨H.b, H.f0, H.f1, H.f2, H.f3, H.f4, H.f5, fun _ => k, H.f7, H.f8, H.f9, H.d9_8⟩
theorem R5.s7 {W : World} {h : Hr} {r : Tm.Rw} {aB aO : Addr} {P n c kk i : Nat} {L : Nat → Bool} {w' : World} {v23 v24 v25 v26 v27 v28 v29 v30 v9 : Value} (H : R5 W h r aB aO P n c kk i L w' v23 v24 v25 v26 v27 v28 v29 v30 v9) {z : Value} (k : z = Tm.vg r) : R5 W h r aB aO P n c kk i (fun j => j == 7 || L j) w' v23 v24 v25 v26 v27 v28 v29 z v9 := ⟨H.b, H.f0, H.f1, H.f2, H.f3, H.f4, H.f5, H.f6, fun _ => k, H.f8, H.f9, H.d9_8⟩
theorem R5.s8 {W : World} {h : Hr} {r : Tm.Rw} {aB aO : Addr} {P n c kk i : Nat} {L : Nat → Bool} {w' : World} {v23 v24 v25 v26 v27 v28 v29 v30 v9 : Value} (H : R5 W h r aB aO P n c kk i L w' v23 v24 v25 v26 v27 v28 v29 v30 v9) {z : Value} (k : ∃ g, z = .pointer (some ⟨g, 0, none⟩) ∧ W.heap.size ≤ g ∧ ∃ x0 x1 x2 x3 x4 x5 x6 x7 x8 : Value, Bx w' g 52 #[x0, x1, x2, x3, x4, x5, x6, x7, x8]) (hf : L 8 = false) : R5 W h r aB aO P n c kk i (fun j => j == 8 || L j) w' v23 v24 v25 v26 v27 v28 v29 v30 z := ⟨H.b, H.f0, H.f1, H.f2, H.f3, H.f4, H.f5, H.f6, H.f7, fun _ => k, fun l => absurd (H.d9_8 l) (by rw [hf]; decide), fun _ => rfl⟩
theorem R5.s9 {W : World} {h : Hr} {r : Tm.Rw} {aB aO : Addr} {P n c kk i : Nat} {L : Nat → Bool} {w' : World} {v23 v24 v25 v26 v27 v28 v29 v30 v9 : Value} {g : Nat} {x0 x1 x2 x3 x4 x5 x6 x7 x8 : Value} (H : R5 W h r aB aO P n c kk i L w' v23 v24 v25 v26 v27 v28 v29 v30 v9) (e : v9 = .pointer (some ⟨g, 0, none⟩)) (hg : W.heap.size ≤ g) (hx : Bx w' g 52 #[x0, x1, x2, x3, x4, x5, x6, x7, x8]) (h8 : L 8 = true) : R5 W h r aB aO P n c kk i (fun j => j == 9 || L j) (sets g 0 (Tm.cl r) w') v23 v24 v25 v26 v27 v28 v29 v30 v9 := by
 have h1 := hx.sets (Tm.cl r) 0 w' _; unfold Tm.cl at h1; rw [setl9] at h1; exact ⟨sets_below _ hg 0 w' H.b, H.f0, H.f1, H.f2, H.f3, H.f4, H.f5, H.f6, H.f7, fun _ => ⟨g, e, hg, _, _, _, _, _, _, _, _, _, h1⟩, fun _ => ⟨g, e, hg, h1⟩, fun _ => h8⟩
set_option maxRecDepth 100000 in
set_option maxHeartbeats 4000000 in
theorem holds12 (h : Hr) (O : Option Addr) (n c : Nat) (o : List Int) (d : Int) (w0 w : World) (B : Below w0.heap.size w0 w) (M0 : HM w0 (· < w0.heap.size) h) (hN : h.n ≤ 1000 ∧ ∀ r ∈ h.rs, r.n ≤ 1000) (I : Tm.Ins w (· < w.heap.size) O n o) (hO : Ag.Ord h.v.hs o) (hn : n ≤ 3000) : Calls Tryz.prog 54 #[hg h, .slice O n c, .int .i64 d] w (HoTo w0 w h o d) := by
 have M := M0.below B; have HM0 := Lib.hid M0; have HNN := Lib.hid hN; obtain ⟨W, hW⟩ : ∃ W, ((w.alloc (.cells (hc h) 35)).alloc (.cells zc 60)).alloc (.cells (vc ⟨⟨(0, 0), ⟨true, h.r, h.cs⟩, 0⟩, h.A, h.n, h.c⟩) 60) = W := ⟨_, rfl⟩; have hnl : o.length = n := I.1
 have H0 := Lib.hid (show HJ w0 w W h (ordl h.v.hs o) d 0 ⟨⟨(0, 0), ⟨true, h.r, h.cs⟩, 0⟩, h.A, h.n, h.c⟩ from by
  rw [← hW]; have b1 := alloc_ w (.cells (hc h) 35); have x1 := Bx.new w 35 (hc h); have x2 := Bx.new (w.alloc (.cells (hc h) 35)) 60 zc; have x3 := Bx.new ((w.alloc (.cells (hc h) 35)).alloc (.cells zc 60)) 60 (vc ⟨⟨(0, 0), ⟨true, h.r, h.cs⟩, 0⟩, h.A, h.n, h.c⟩); rw [World.size_alloc] at x2; rw [World.size_alloc, World.size_alloc] at x3; exact ⟨alloc3 _ _ _ _, (x1.alloc _).alloc _, x2.alloc _, x3, M0.t, hN.1, rfl⟩)
 have HW := Lib.hid hW; have HMM := Lib.hid M; have HI := Lib.hid I; have HOO := Lib.hid hO; have hlo : (ordl h.v.hs o).length = n := by rw [ordl_len]; exact hnl
 have HLO := Lib.hid hlo; clear hW M M0 hN B I hO hlo; go_enter Tryz.func54, Tryz.ntmps54
 go_upto_region 2 with fail
 rw [HW.out]; clear HW; go_wp2
 go_loopw [8] (fun vi w' => ∃ (k : Nat) (W : World) (nw : Rw), k ≤ n ∧ vi = .int .i64 (k : Int) ∧ W = w' ∧ Hid (HJ w0 w W h (ordl h.v.hs o) d k nw)) (fun vi _ => n - (intOf vi).toNat)
 case atStart => exact ⟨0, _, _, Nat.zero_le _, rfl, rfl, H0⟩
 case round =>
  obtain ⟨k, W, nw, hk, rfl, rfl, H⟩ := hrel; clear H0; by_cases hlt : k < n
  ·obtain ⟨aO, rfl, hbO, hcO⟩ := HI.out.2 (by omega); obtain ⟨x, hox⟩ : ∃ x, o[k]? = some x := ⟨o[k]'(by omega), List.getElem?_eq_getElem (by omega)⟩; obtain ⟨hx0, hx1⟩ := ord_at HOO.out (List.mem_of_getElem? hox); obtain ⟨i, rfl⟩ := Int.eq_ofNat_of_zero_le hx0; have hcx := hcO k _ hox; have hhs : h.v.hs.length = h.m := by show (h.rs.map Tm.Rw.v).length = _; rw [List.length_map]; exact HMM.out.r.1
   have hi : i < h.m := by omega
   have hi2 : (i : Int) < (h.m : Int) := by omega
   have hlt2 : (k : Int) < (n : Int) := by omega
   obtain ⟨aB, r, hB, hbB, hr, N, hcv, hv⟩ := HMM.out.get hi; have HV := Lib.hid (show (ordl h.v.hs o)[k]? = some r.v from ordl_get hox (by rw [Int.toNat_natCast]; exact hv)); have HN := Lib.hid N; have HCV := Lib.hid (HM0.out.k r (List.mem_of_getElem? hr)); have HRN := Lib.hid (HNN.out.2 r (List.mem_of_getElem? hr)); have HBB := Lib.hid (And.intro hbB hbO); have HCX := Lib.hid hcx; have hHB := Lib.hid hB; clear hbO hcO hox hx0 hx1 hcx hhs hB hbB hr N hcv hv
   go_upto_region 5 with fail
   refine wp_region_steps (fun L_ a_ w_ => ∃ (v23 v24 v25 v26 v27 v28 v29 v30 v9 : Value), a_ = { tmps := #[hg h, .slice (some aO) n c, .int .i64 d, .pointer (some ⟨w.heap.size, 0, none⟩), undef, undef, .pointer (some ⟨w.heap.size + 1, 0, none⟩), .pointer (some ⟨w.heap.size + 1 + 1, 0, none⟩), .int .i64 (k : Int), v9, .pointer (some ⟨w.heap.size, 2, none⟩), .pointer (some ⟨w.heap.size, 4, none⟩), .agg #[.int .i64 h.r.k, .int .i64 h.r.v, .int .i64 h.r.a, .int .i64 h.r.z], .pointer (some ⟨w.heap.size, 2, none⟩), .pointer (some ⟨w.heap.size, 8, none⟩), .slice h.A h.n h.c, .agg #[.int .i64 0, .int .i64 0, .bool true, .int .i64 h.r.k, .int .i64 h.r.v, .int .i64 h.r.a, .int .i64 h.r.z, .slice h.A h.n h.c, .int .i64 0], .int .i64 (k : Int), .slice (some aO) n c, .int .i64 (n : Int), .bool true, u21, u22, v23, v24, v25, v26, v27, v28, v29, v30, u31, u32, u33, u34, u35, u36, u37, u38, u39, u40, u41, u42, u43, u44, u45, u46, u47, u48, u49, u50, u51, u52, undef], defers := [] } ∧ Hid (R5 W h r aB aO w.heap.size n c k i L_ w_ v23 v24 v25 v26 v27 v28 v29 v30 v9)) (by kernel_rfl) (by kernel_rfl) ?_ (AllSteps.cons ?_ (AllSteps.cons ?_ (AllSteps.cons ?_ (AllSteps.cons ?_ (AllSteps.cons ?_ (AllSteps.cons ?_ (AllSteps.cons ?_ (AllSteps.cons ?_ (AllSteps.cons ?_ (AllSteps.cons ?_ AllSteps.nil)))))))))) ?_
   ·exact ⟨_, _, _, _, _, _, _, _, _, rfl, Lib.hid ⟨⟨rfl, rfl, rfl, Nat.le_refl _, fun _ _ => rfl⟩, (fun h => by cases h), (fun h => by cases h), (fun h => by cases h), (fun h => by cases h), (fun h => by cases h), (fun h => by cases h), (fun h => by cases h), (fun h => by cases h), (fun h => by cases h), (fun h => by cases h), (fun h => by cases h)⟩⟩
   ·rintro L_ a_ w_ hL hd ⟨v23, v24, v25, v26, v27, v28, v29, v30, v9, rfl, HR⟩ K hK; clear hd; go_simp; exact hK.out _ _ ⟨_, _, _, _, _, _, _, _, _, rfl, Lib.hid (HR.out.s0 rfl)⟩
   ·rintro L_ a_ w_ hL hd ⟨v23, v24, v25, v26, v27, v28, v29, v30, v9, rfl, HR⟩ K hK; have e0 := HR.out.f0 (hd ⟨0, .data⟩ (by simp) rfl); subst e0; have hx := H.out.x.keep HR.out.b; have x9 := hx.c 9; simp at x9; rw [hHB.out] at x9; clear hd; go_simp; exact hK.out _ _ ⟨_, _, _, _, _, _, _, _, _, rfl, Lib.hid (HR.out.s1 rfl)⟩
   ·rintro L_ a_ w_ hL hd ⟨v23, v24, v25, v26, v27, v28, v29, v30, v9, rfl, HR⟩ K hK; clear hd; go_simp; exact hK.out _ _ ⟨_, _, _, _, _, _, _, _, _, rfl, Lib.hid (HR.out.s2 rfl)⟩
   ·rintro L_ a_ w_ hL hd ⟨v23, v24, v25, v26, v27, v28, v29, v30, v9, rfl, HR⟩ K hK; clear hd; go_simp; exact hK.out _ _ ⟨_, _, _, _, _, _, _, _, _, rfl, Lib.hid (HR.out.s3 rfl)⟩
   ·rintro L_ a_ w_ hL hd ⟨v23, v24, v25, v26, v27, v28, v29, v30, v9, rfl, HR⟩ K hK; have e2 := HR.out.f2 (hd ⟨2, .data⟩ (by simp) rfl); subst e2; have e3 := HR.out.f3 (hd ⟨3, .data⟩ (by simp) rfl); subst e3; clear hd; go_simp; exact hK.out _ _ ⟨_, _, _, _, _, _, _, _, _, rfl, Lib.hid (HR.out.s4 rfl)⟩
   ·rintro L_ a_ w_ hL hd ⟨v23, v24, v25, v26, v27, v28, v29, v30, v9, rfl, HR⟩ K hK; have e4 := HR.out.f4 (hd ⟨4, .data⟩ (by simp) rfl); subst e4; have hBw : Below w.heap.size w w_ := H.out.b.trans (HR.out.b.mono H.out.b.size); have hX : w_.cell? (aO.add k) = some (.int .i64 (i : Int)) := (hBw.cell (by rw [add_block]; exact HBB.out.2)).trans HCX.out; clear hd; go_simp; exact hK.out _ _ ⟨_, _, _, _, _, _, _, _, _, rfl, Lib.hid (HR.out.s5 rfl)⟩
   ·rintro L_ a_ w_ hL hd ⟨v23, v24, v25, v26, v27, v28, v29, v30, v9, rfl, HR⟩ K hK; have e1 := HR.out.f1 (hd ⟨1, .data⟩ (by simp) rfl); subst e1; have e5 := HR.out.f5 (hd ⟨5, .data⟩ (by simp) rfl); subst e5; clear hd; go_simp; exact hK.out _ _ ⟨_, _, _, _, _, _, _, _, _, rfl, Lib.hid (HR.out.s6 rfl)⟩
   ·rintro L_ a_ w_ hL hd ⟨v23, v24, v25, v26, v27, v28, v29, v30, v9, rfl, HR⟩ K hK; have e6 := HR.out.f6 (hd ⟨6, .data⟩ (by simp) rfl); subst e6; have hBw : Below w.heap.size w w_ := H.out.b.trans (HR.out.b.mono H.out.b.size); obtain ⟨n0, n1, n2, n3, n4, n5, n6, n7, n8⟩ := HN.out.keep (w' := w_) (fun a ha => hBw.cell (by rw [ha, add_block]; exact HBB.out.1)); clear hd; go_simp; exact hK.out _ _ ⟨_, _, _, _, _, _, _, _, _, rfl, Lib.hid (HR.out.s7 rfl)⟩
   ·rintro L_ a_ w_ hL hd ⟨v23, v24, v25, v26, v27, v28, v29, v30, v9, rfl, HR⟩ K hK; have HR2 := Lib.hid (HR.out.up (alloc_ w_ (.cells Tm.zc 52))); have HSZ := Lib.hid HR.out.b.size; clear hd; go_simp; exact hK.out _ _ ⟨_, _, _, _, _, _, _, _, _, rfl, Lib.hid (HR2.out.s8 ⟨_, rfl, HSZ.out, _, _, _, _, _, _, _, _, _, Bx.new _ _ _⟩ hL)⟩
   ·rintro L_ a_ w_ hL hd ⟨v23, v24, v25, v26, v27, v28, v29, v30, v9, rfl, HR⟩ K hK; have e7 := HR.out.f7 (hd ⟨7, .data⟩ (by simp) rfl); subst e7; have h8 := hd ⟨8, .data⟩ (by simp) rfl; obtain ⟨g, e8, hg, x0, x1, x2, x3, x4, x5, x6, x7, x8, hy⟩ := HR.out.f8 h8; subst e8; have fy := hy.f; have z0 := hy.c 0; have z1 := hy.c 1; have z2 := hy.c 2; have z3 := hy.c 3; have z4 := hy.c 4; have z5 := hy.c 5; have z6 := hy.c 6; have z7 := hy.c 7; have z8 := hy.c 8; simp at z0 z1 z2 z3 z4 z5 z6 z7 z8; clear hd; go_simp; exact hK.out _ _ ⟨_, _, _, _, _, _, _, _, _, rfl, Lib.hid (HR.out.s9 rfl hg hy h8)⟩
   ·rintro L_ a_ w_ hL ⟨v23, v24, v25, v26, v27, v28, v29, v30, v9, rfl, HR⟩; obtain rfl := HR.out.f0 (hL 0 (by decide)); obtain rfl := HR.out.f1 (hL 1 (by decide)); obtain rfl := HR.out.f2 (hL 2 (by decide)); obtain rfl := HR.out.f3 (hL 3 (by decide)); obtain rfl := HR.out.f4 (hL 4 (by decide)); obtain rfl := HR.out.f5 (hL 5 (by decide)); obtain rfl := HR.out.f6 (hL 6 (by decide)); obtain rfl := HR.out.f7 (hL 7 (by decide)); obtain ⟨g, e9, hg, HY0⟩ := HR.out.f9 (hL 9 (by decide)); subst e9; have HY := Lib.hid HY0; have H2 := Lib.hid (H.out.next HR.out.b); clear hL HR hg HY0 H; have c0 := HY.out.c 0; have c1 := HY.out.c 1; have c2 := HY.out.c 2; have c3 := HY.out.c 3; have c4 := HY.out.c 4; have c5 := HY.out.c 5; have c6 := HY.out.c 6; have c7 := HY.out.c 7; have c8 := HY.out.c 8; simp at c0 c1 c2 c3 c4 c5 c6 c7 c8; have y0 := H2.out.y.c 0; have y1 := H2.out.y.c 1; have y2 := H2.out.y.c 2; have y3 := H2.out.y.c 3; have y4 := H2.out.y.c 4; have y5 := H2.out.y.c 5; have y6 := H2.out.y.c 6; have y7 := H2.out.y.c 7; have y8 := H2.out.y.c 8; simp at y0 y1 y2 y3 y4 y5 y6 y7 y8; have fy := H2.out.y.f; dsimp only [Exit.then]; go_step; by_cases hd : r.v.dy ≤ d
    ·have t1 : decide (d < r.v.dy) = false := decide_eq_false (by omega); have HD := Lib.hid hd; clear hd; by_cases hk1 : r.v.kd = 1
     ·have HJ2 := Lib.hid (H2.out.put HV.out HD.out HCV.out HRN.out [.int .i64 r.v.r.k, .int .i64 r.v.r.v, .int .i64 r.v.r.a, .int .i64 r.v.r.z] 3 (dn_1 hk1)); rw [hk1] at c2; have s1 : decide ((1 : Int) = 1) = true := by decide
      have s2 : decide ((1 : Int) = 2) = false := by decide
      have s3 : decide ((1 : Int) = 3) = false := by decide
      have s4 : decide ((1 : Int) = 4) = false := by decide
      clear HV HD HCV HRN; go_wp2; go_roundw
      case rel => exact ⟨k + 1, _, _, by omega, by go_num, rfl, HJ2⟩
      case measure => simp [intOf]; omega
     by_cases hk2 : r.v.kd = 2
     ·have HJ2 := Lib.hid (H2.out.put HV.out HD.out HCV.out HRN.out [.slice r.A r.n r.c] 7 (dn_2 hk2)); rw [hk2] at c2; have s1 : decide ((2 : Int) = 1) = false := by decide
      have s2 : decide ((2 : Int) = 2) = true := by decide
      have s3 : decide ((2 : Int) = 3) = false := by decide
      have s4 : decide ((2 : Int) = 4) = false := by decide
      clear HV HD HCV HRN; go_wp2; go_roundw
      case rel => exact ⟨k + 1, _, _, by omega, by go_num, rfl, HJ2⟩
      case measure => simp [intOf]; omega
     by_cases hk3 : r.v.kd = 3
     ·have HJ2 := Lib.hid (H2.out.put HV.out HD.out HCV.out HRN.out [.bool false] 2 (dn_3 hk3)); rw [hk3] at c2; have s1 : decide ((3 : Int) = 1) = false := by decide
      have s2 : decide ((3 : Int) = 2) = false := by decide
      have s3 : decide ((3 : Int) = 3) = true := by decide
      have s4 : decide ((3 : Int) = 4) = false := by decide
      clear HV HD HCV HRN; go_wp2; go_roundw
      case rel => exact ⟨k + 1, _, _, by omega, by go_num, rfl, HJ2⟩
      case measure => simp [intOf]; omega
     by_cases hk4 : r.v.kd = 4
     ·have HJ2 := Lib.hid (H2.out.put HV.out HD.out HCV.out HRN.out [.bool true] 2 (dn_4 hk4)); rw [hk4] at c2; have s1 : decide ((4 : Int) = 1) = false := by decide
      have s2 : decide ((4 : Int) = 2) = false := by decide
      have s3 : decide ((4 : Int) = 3) = false := by decide
      have s4 : decide ((4 : Int) = 4) = true := by decide
      clear HV HD HCV HRN; go_wp2; go_roundw
      case rel => exact ⟨k + 1, _, _, by omega, by go_num, rfl, HJ2⟩
      case measure => simp [intOf]; omega
     ·have HJ2 := Lib.hid (H2.out.put HV.out HD.out HCV.out HRN.out [] 0 (dn_0 hk1 hk2 hk3 hk4)); have s1 : decide (r.v.kd = 1) = false := decide_eq_false hk1; have s2 : decide (r.v.kd = 2) = false := decide_eq_false hk2; have s3 : decide (r.v.kd = 3) = false := decide_eq_false hk3; have s4 : decide (r.v.kd = 4) = false := decide_eq_false hk4; clear HV HD HCV HRN; go_wp2; go_roundw
      case rel => exact ⟨k + 1, _, _, by omega, by go_num, rfl, HJ2⟩
      case measure => simp [intOf]; omega
    ·have t1 : decide (d < r.v.dy) = true := decide_eq_true (by omega); have HJ2 := Lib.hid (H2.out.skip HV.out hd); clear HV hd; go_wp2; go_roundw
     case rel => exact ⟨k + 1, _, _, by omega, by go_num, rfl, HJ2⟩
     case measure => simp [intOf]; omega
  ·obtain rfl : k = n := by omega
   have HST := Lib.hid (show nw.v = ⟨(0, 0), hld (ini h.v) (ordl h.v.hs o) d, 0⟩ by
    have := H.out.st; rwa [List.take_of_length_le (Nat.le_of_eq HLO.out)] at this)
   have fz := H.out.z.f; have y0 := H.out.y.c 0; have y1 := H.out.y.c 1; have y2 := H.out.y.c 2; have y3 := H.out.y.c 3; have y4 := H.out.y.c 4; have y5 := H.out.y.c 5; have y6 := H.out.y.c 6; have y7 := H.out.y.c 7; have y8 := H.out.y.c 8; simp at y0 y1 y2 y3 y4 y5 y6 y7 y8; have z0 := H.out.z.c 0; have z1 := H.out.z.c 1; have z2 := H.out.z.c 2; have z3 := H.out.z.c 3; have z4 := H.out.z.c 4; have z5 := H.out.z.c 5; have z6 := H.out.z.c 6; have z7 := H.out.z.c 7; have z8 := H.out.z.c 8; simp at z0 z1 z2 z3 z4 z5 z6 z7 z8; go_wp2; change bodyPost _ _ _ _ _ (sets (w.heap.size + 1) 0 [.int .i64 nw.v.s.1, .int .i64 nw.v.s.2, .bool nw.v.h.on, .int .i64 nw.v.h.r.k, .int .i64 nw.v.h.r.v, .int .i64 nw.v.h.r.a, .int .i64 nw.v.h.r.z, .slice nw.A nw.n nw.c, .int .i64 nw.v.y] W); have hz := H.out.z.sets [.int .i64 nw.v.s.1, .int .i64 nw.v.s.2, .bool nw.v.h.on, .int .i64 nw.v.h.r.k, .int .i64 nw.v.h.r.v, .int .i64 nw.v.h.r.a, .int .i64 nw.v.h.r.z, .slice nw.A nw.n nw.c, .int .i64 nw.v.y] 0 W _; rw [setl9] at hz; have HB := Lib.hid (sets_below (w0 := w) [.int .i64 nw.v.s.1, .int .i64 nw.v.s.2, .bool nw.v.h.on, .int .i64 nw.v.h.r.k, .int .i64 nw.v.h.r.v, .int .i64 nw.v.h.r.a, .int .i64 nw.v.h.r.z, .slice nw.A nw.n nw.c, .int .i64 nw.v.y] (Nat.le_succ w.heap.size) 0 W H.out.b); generalize sets (w.heap.size + 1) 0 [.int .i64 nw.v.s.1, .int .i64 nw.v.s.2, .bool nw.v.h.on, .int .i64 nw.v.h.r.k, .int .i64 nw.v.h.r.v, .int .i64 nw.v.h.r.a, .int .i64 nw.v.h.r.z, .slice nw.A nw.n nw.c, .int .i64 nw.v.y] W = W2 at hz HB ⊢; clear fz y0 y1 y2 y3 y4 y5 y6 y7 y8 z0 z1 z2 z3 z4 z5 z6 z7 z8; refine bodyPost_ret (v := vg nw) ?res rfl ⟨nw, rfl, HST.out, H.out.cv, H.out.n, HB.out⟩
   case res =>
    have x0 := hz.c 0; have x1 := hz.c 1; have x2 := hz.c 2; have x3 := hz.c 3; have x4 := hz.c 4; have x5 := hz.c 5; have x6 := hz.c 6; have x7 := hz.c 7; have x8 := hz.c 8; simp at x0 x1 x2 x3 x4 x5 x6 x7 x8; simp [results, Tryz.results54, go_sem, x0, x1, x2, x3, x4, x5, x6, x7, x8]
end Slc
end Go.Proofs.YtplenoaajokpjaaGreat

namespace Go.Proofs.YtplenoaajokpjaaGreat
open Go.RowKit Ba Cv Sp Te Ag Tf Sl Tm
namespace Slc
set_option linter.unusedVariables false
theorem cutd_app {g : Int → Hd} {a f t : Int} {L : List (Sp × Hd)} {h : Hd} (H : Cutd g a f L) (hm : f < t) (hg : ∀ d, f ≤ d → d < t → g d = h) (hx : ∀ x M, L = M ++ [x] → x.2 ≠ h) : Cutd g a t (L ++ [((f, t), h)]) := by
 rcases List.eq_nil_or_concat L with rfl | ⟨M, x, rfl⟩
 ·have e : a = f := H.ch; subst e; exact Cutd.one hm hg
 ·rw [List.concat_eq_append] at H hx ⊢; exact H.more hm hg (hx x M rfl)
structure Fr (i0 : Hd) (l : List Ch) (s : Sp) (k : Nat) (f : Int) (L : List (Sp × Hd)) : Prop where
 c : Cutd (hld i0 l) s.1 f L
 x : ∀ x M, L = M ++ [x] → x.2 ≠ hld i0 l f
 m : ∃ m, f ≤ m ∧ (∀ d, f ≤ d → d ≤ m → hld i0 l d = hld i0 l f) ∧ (∀ c ∈ l.take k, c.dy ≤ m) ∧ (∀ c ∈ l.drop k, m ≤ c.dy)
 e : f < s.2
theorem Fr.start {i0 : Hd} {l : List Ch} {s : Sp} (hs : s.1 < s.2) (hl : ∀ c ∈ l, s.1 ≤ c.dy) : Fr i0 l s 0 s.1 [] :=
 ⟨Cutd.nil, (fun x M e => by simp at e), ⟨s.1, Int.le_refl _, (fun d h1 h2 => by rw [Int.le_antisymm h2 h1]), (fun c hc => by simp at hc), fun c hc => hl c (by simpa using hc)⟩, hs⟩
section
variable {i0 : Hd} {l : List Ch} {s : Sp} {k : Nat} {f : Int} {L : List (Sp × Hd)} {c : Ch}
theorem Fr.step (H : Fr i0 l s k f L) (hr : l.Pairwise fun a b => a.dy ≤ b.dy) (hc : l[k]? = some c) : f ≤ c.dy ∧ (∀ d, f ≤ d → d < c.dy → hld i0 l d = hld i0 l f) ∧ (∀ x ∈ l.take (k + 1), x.dy ≤ c.dy) ∧ (∀ x ∈ l.drop (k + 1), c.dy ≤ x.dy) := by
 obtain ⟨m, h1, h2, h3, h4⟩ := H.m; have hcm : c ∈ l.drop k := by rw [drop_get hc]; exact List.mem_cons_self
 have h5 := h4 c hcm
 have hd : ∀ x ∈ l.drop (k + 1), c.dy ≤ x.dy := by
  have hp : (l.drop k).Pairwise fun a b => a.dy ≤ b.dy := hr.sublist (List.drop_sublist k l)
  rw [drop_get hc] at hp; exact (List.pairwise_cons.1 hp).1
 refine ⟨by omega, fun d hd1 hd2 => ?_, ?_, hd⟩
 ·by_cases hm : d ≤ m
  ·exact h2 d hd1 hm
  ·rw [← h2 m h1 (Int.le_refl _)]; refine hld_same (by omega) fun x hx hq => ?_
   rw [← List.take_append_drop k l] at hx; rcases List.mem_append.1 hx with hx | hx
   ·have := h3 x hx; omega
   ·rw [drop_get hc] at hx; rcases List.mem_cons.1 hx with rfl | hx
    ·omega
    ·have := hd x hx; omega
 ·rw [take_get hc]; intro x hx; rcases List.mem_append.1 hx with hx | hx
  ·have := h3 x hx; omega
  ·rw [List.mem_singleton] at hx; subst hx; exact Int.le_refl _
theorem Fr.same (H : Fr i0 l s k f L) (hr : l.Pairwise fun a b => a.dy ≤ b.dy) (hc : l[k]? = some c) (e : hld i0 l f = hld i0 l c.dy) : Fr i0 l s (k + 1) f L := by
 obtain ⟨h1, h2, h3, h4⟩ := H.step hr hc; refine ⟨H.c, H.x, ⟨c.dy, h1, fun d hd1 hd2 => ?_, h3, h4⟩, H.e⟩; by_cases hd : d < c.dy
 ·exact h2 d hd1 hd
 ·rw [show d = c.dy by omega, e]
theorem Fr.more (H : Fr i0 l s k f L) (hr : l.Pairwise fun a b => a.dy ≤ b.dy) (hc : l[k]? = some c) (hin : c.dy < s.2) (e : hld i0 l f ≠ hld i0 l c.dy) : Fr i0 l s (k + 1) c.dy (L ++ [((f, c.dy), hld i0 l f)]) := by
 obtain ⟨h1, h2, h3, h4⟩ := H.step hr hc
 have hlt : f < c.dy := by
  rcases Int.lt_or_eq_of_le h1 with h | h
  ·exact h
  ·exact absurd (by rw [h]) e
 refine ⟨cutd_app H.c hlt h2 H.x, fun x M ex => ?_, ⟨c.dy, Int.le_refl _, (fun d hd1 hd2 => by rw [Int.le_antisymm hd2 hd1]), h3, h4⟩, hin⟩; have := (List.append_inj' ex rfl).2; injection this with this
 subst this; exact e
theorem Fr.done (H : Fr i0 l s k f L) (hk : l.length ≤ k) : Cutd (hld i0 l) s.1 s.2 (L ++ [((f, s.2), hld i0 l f)]) := by
 obtain ⟨m, h1, h2, h3, h4⟩ := H.m; refine cutd_app H.c H.e (fun d hd1 hd2 => ?_) H.x; by_cases hm : d ≤ m
 ·exact h2 d hd1 hm
 ·rw [← h2 m h1 (Int.le_refl _)]; refine hld_same (by omega) fun x hx hq => ?_
  rw [List.take_of_length_le hk] at h3; have := h3 x hx; omega
end
def noy (x : Sp × Hd) : Sc := ⟨x.1, x.2, 0⟩
structure FJ (w : World) (h : Hr) (r7 : Trf.Rw) (g7 g12 base no : Nat) (O : Option Addr) (o : List Int) (W : World) (A : Option Addr) (n c : Nat) (rs : List Rw) (nw : Rw) : Prop where
 b : Below w.heap.size w W
 lo : w.heap.size + 2 ≤ g7 ∧ g7 < g12 ∧ g12 < base ∧ base ≤ W.heap.size
 x : Bx W w.heap.size 35 (hc h)
 v : Bx W g7 70 (Trf.vc r7)
 m : Trf.Mean W (· < g12) r7
 i : Tm.Ins W (· < g12) O no o
 y : Bx W g12 60 (vc nw)
 o : Own W base A n c rs
 k : ∀ r ∈ rs, Cvs w (· < w.heap.size) r.A r.n r.v.h.cs ∧ r.n ≤ 1000
 cv : Cvs w (· < w.heap.size) nw.A nw.n nw.v.h.cs
 nn : nw.n ≤ 1000
section
variable {w W W' : World} {h : Hr} {r7 : Trf.Rw} {g7 g12 base no n c n' c' : Nat} {O A A' : Option Addr} {o : List Int} {rs rs' : List Rw} {nw nw' : Rw}
theorem FJ.move (H : FJ w h r7 g7 g12 base no O o W A n c rs nw) (hs : W.heap.size ≤ W'.heap.size) (hB : Below w.heap.size w W') (hk : ∀ b, b < base → b ≠ g12 → W'.heap[b]? = W.heap[b]?) (hy : Bx W' g12 60 (vc nw')) (ho : Own W' base A' n' c' rs') (hkk : ∀ r ∈ rs', Cvs w (· < w.heap.size) r.A r.n r.v.h.cs ∧ r.n ≤ 1000) (hcv : Cvs w (· < w.heap.size) nw'.A nw'.n nw'.v.h.cs) (hnn : nw'.n ≤ 1000) : FJ w h r7 g7 g12 base no O o W' A' n' c' rs' nw' := by
 obtain ⟨l1, l2, l3, l4⟩ := H.lo; have hc : ∀ a : Addr, a.block < g12 → W'.cell? a = W.cell? a := fun a ha => World.cell?_of_block (hk _ (by omega) (by omega))
 exact ⟨hB, ⟨l1, l2, l3, Nat.le_trans l4 hs⟩, (hk _ (by omega) (by omega)).trans H.x, (hk _ (by omega) (by omega)).trans H.v, H.m.keep hc (fun _ h => h), H.i.keep hc (fun _ h => h), hy, ho, hkk, hcv, hnn⟩
theorem FJ.next (H : FJ w h r7 g7 g12 base no O o W A n c rs nw) (hb : Below W.heap.size W W') : FJ w h r7 g7 g12 base no O o W' A n c rs nw :=
 H.move hb.size (H.b.trans (hb.mono H.b.size)) (fun b h1 _ => hb.block b (Nat.lt_of_lt_of_le h1 H.lo.2.2.2)) (H.y.keep hb) (H.o.below hb) H.k H.cv H.nn
theorem FJ.sety (H : FJ w h r7 g7 g12 base no O o W A n c rs nw) (l : List Value) (e : setl 0 l (vc nw) = vc nw') (hcv : Cvs w (· < w.heap.size) nw'.A nw'.n nw'.v.h.cs) (hnn : nw'.n ≤ 1000) : FJ w h r7 g7 g12 base no O o (sets g12 0 l W) A n c rs nw' := by
 obtain ⟨l1, l2, l3, l4⟩ := H.lo; have hg := grown_setsG (World.grownBy.refl W (some g12)) l 0; refine H.move hg.size (H.b.grown hg H.b.size (fun j hj => by injection hj with hj; omega)) (fun b h1 h2 => sets_heap l h2 0 W) (by rw [← e]; exact H.y.sets l 0 W _) ?_ H.k hcv hnn; refine ⟨H.o.1, ?_⟩; rcases H.o.2 with h | ⟨g, cap, cur, e2, hb, hh, r⟩
 ·exact .inl h
 ·exact .inr ⟨g, cap, cur, e2, hb, (sets_heap l (by omega) 0 W).trans hh, r⟩
theorem FJ.app (H : FJ w h r7 g7 g12 base no O o W A n c rs nw) (ho : Own W' base A' n' c' rs') (hg : W.grownBy W' (Value.slice A n c).ownBlock) (hkk : ∀ r ∈ rs', Cvs w (· < w.heap.size) r.A r.n r.v.h.cs ∧ r.n ≤ 1000) : FJ w h r7 g7 g12 base no O o W' A' n' c' rs' nw := by
 obtain ⟨l1, l2, l3, l4⟩ := H.lo; have hne : ∀ b, b < base → some b ≠ (Value.slice A n c).ownBlock := fun b hb e => by have := (H.o.lt b e.symm).1; omega
 exact H.move hg.size (H.b.grown hg H.b.size (fun j hj => by have := (H.o.lt j hj).1; omega)) (fun b h1 h2 => hg.block b (by omega) (hne b h1)) ((hg.block _ (by omega) (hne _ l3)).trans H.y) ho hkk H.cv H.nn
theorem FJ.good (H : FJ w h r7 g7 g12 base no O o W A n c rs nw) : Gd W nw := ⟨H.cv.keep (fun a ha => H.b.cell ha) (fun b hb => Nat.lt_of_lt_of_le hb H.b.size), Nat.le_trans H.nn (by omega)⟩
theorem FJ.sls (H : FJ w h r7 g7 g12 base no O o W A n c rs nw) : Sls W A n rs := ⟨H.o.raws.keep (fun _ _ => rfl) (fun b hb => hb.2), fun r hr => ⟨(H.k r hr).1.keep (fun a ha => H.b.cell ha) (fun b hb => Nat.lt_of_lt_of_le hb H.b.size), Nat.le_trans (H.k r hr).2 (by omega)⟩⟩
theorem FJ.setc {g i : Nat} {r : Rw} (H : FJ w h r7 g7 g12 base no O o W (some ⟨g, 0, none⟩) n c rs nw) (hr : rs[i]? = some r) (y : Int) : FJ w h r7 g7 g12 base no O o (W.setCell ⟨g, i * 9 + 8, none⟩ (.int .i64 y)) (some ⟨g, 0, none⟩) n c (rs.set i (r.setY y)) nw :=
 H.app (H.o.putY hr y) (grown_set _ _ _ _) fun q hq => by
  rcases List.mem_or_eq_of_mem_set hq with h' | h'
  ·exact H.k q h'
  ·subst h'; exact H.k r (List.mem_of_getElem? hr)
end
theorem ordl_in {h : Hr} {o : List Int} (hO : Ag.Ord h.v.hs o) (hr : hrt h.v = true) : ∀ c ∈ ordl h.v.hs o, h.s.1 ≤ c.dy ∧ c.dy < h.s.2 := by
 intro c hc; exact ((inn_iff _ _).1 ((hrt_iff.1 hr).2.2 c ((ordl_mem hO).1 hc)).2).2.2
set_option maxRecDepth 100000 in
set_option maxHeartbeats 4000000 in
theorem rof (h : Hr) (T : Option Addr) (nt ct : Nat) (vs : List Trf.Rw) (w : World) (M : HM w (· < w.heap.size) h) (S : HS h) (hm : h.m ≤ 100) (hN : h.n ≤ 1000 ∧ ∀ r ∈ h.rs, r.n ≤ 1000) (V : Trf.Vers w T nt vs) (hnt : nt ≤ 1000) : Calls Tryz.prog 40 #[hg h, Trf.tg T nt ct] w (OfTo w h.v (vs.map Trf.Rw.v)) := by
 obtain ⟨W, hW⟩ : ∃ W, (w.alloc (.cells (hc h) 35)).alloc (.cells #[.slice T nt ct] 38) = W := ⟨_, rfl⟩; have H0 := Lib.hid (show O2 w W h T nt ct by rw [← hW]; exact O2.start w h T nt ct); have HW := Lib.hid hW; have HMM := Lib.hid M; have HSS := Lib.hid S; have HNN := Lib.hid hN; have HV := Lib.hid V; have CR := Lib.hid (rrightS h W (M.below H0.out.b) S); have x0 := H0.out.x.c 0; have x1 := H0.out.x.c 1; have x2 := H0.out.x.c 2; have x3 := H0.out.x.c 3; have x4 := H0.out.x.c 4; have x5 := H0.out.x.c 5; have x6 := H0.out.x.c 6; have x7 := H0.out.x.c 7; have x8 := H0.out.x.c 8; have x9 := H0.out.x.c 9; simp at x0 x1 x2 x3 x4 x5 x6 x7 x8 x9; clear hW M S V hN; obtain ⟨u, hu⟩ : ∃ u, hrt h.v = u := ⟨_, rfl⟩; have HU := Lib.hid hu; rw [hu] at CR; clear hu; go_enter Tryz.func40, Tryz.ntmps40
 go_upto_region 1 with fail
 rw [HW.out]; clear HW
 go_wp2_with fail
 refine CR.out.mono ?_; rintro e w1 ⟨rfl, hb1⟩; have H1 := Lib.hid (H0.out.next hb1); clear hb1 CR H0 x0 x1 x2 x3 x4 x5 x6 x7 x8 x9; cases u
 ·go_wp2; go_ret2; exact ⟨none, 0, 0, [], 1, rfl, Sls.nil, Nat.zero_le _, Nat.le_refl _, .wrong HU.out rfl rfl, H1.out.b⟩
 ·have CA := Lib.hid (Trf.rat T nt ct vs h.s.1 w1 (HV.out.below H1.out.b) hnt); have y0 := H1.out.y.c 0; simp at y0; have x0 := H1.out.x.c 0; have x1 := H1.out.x.c 1; have x2 := H1.out.x.c 2; have x3 := H1.out.x.c 3; have x4 := H1.out.x.c 4; have x5 := H1.out.x.c 5; have x6 := H1.out.x.c 6; have x7 := H1.out.x.c 7; have x8 := H1.out.x.c 8; have x9 := H1.out.x.c 9; simp at x0 x1 x2 x3 x4 x5 x6 x7 x8 x9
  go_wp2_with fail
  refine CA.out.mono ?_; rintro e w2 ⟨r, rfl, hrv, hM, hS, hb2⟩; have H2 := Lib.hid (H1.out.next hb2); have HR9 := Lib.hid hrv; have HM2 := Lib.hid hM; have HS2 := Lib.hid hS; clear hb2 CA y0 x0 x1 x2 x3 x4 x5 x6 x7 x8 x9 hrv hM hS; obtain ⟨cd, hcd⟩ : ∃ cd, Trf.cod h.s.1 (vs.map Trf.Rw.v) = cd := ⟨_, rfl⟩; have HCD := Lib.hid hcd; rw [hcd]; clear hcd; by_cases h0 : cd = 0
  ·subst h0; obtain ⟨W6, hW6⟩ : ∃ W6, w2.alloc (.cells (Trf.vc r) 70) = W6 := ⟨_, rfl⟩; have hb6 : Below w2.heap.size w2 W6 := hW6 ▸ alloc_ _ _; have H6 := Lib.hid (H2.out.next hb6); have HX6 := Lib.hid (show Bx W6 w2.heap.size 70 (Trf.vc r) from hW6 ▸ Bx.new w2 70 (Trf.vc r)); have HM6 := Lib.hid (HM2.out.below hb6); have HG7 := Lib.hid (show w.heap.size + 2 ≤ w2.heap.size from H2.out.y.lt); obtain ⟨g7, hg7⟩ : ∃ g7, w2.heap.size = g7 := ⟨_, rfl⟩; have HW6 := Lib.hid hW6; rw [hg7] at HX6 HG7; have HG7E := Lib.hid hg7; clear hW6 hb6; have CO := Lib.hid (rorder h W6 (HMM.out.below H6.out.b) (by omega)); have x0 := H6.out.x.c 0; have x1 := H6.out.x.c 1; have x2 := H6.out.x.c 2; have x3 := H6.out.x.c 3; have x4 := H6.out.x.c 4; have x5 := H6.out.x.c 5; have x6 := H6.out.x.c 6; have x7 := H6.out.x.c 7; have x8 := H6.out.x.c 8; have x9 := H6.out.x.c 9; simp at x0 x1 x2 x3 x4 x5 x6 x7 x8 x9
   go_upto_region 5 with fail
   rw [HW6.out]; clear H2 HM2 HW6 hg7 HG7E
   go_wp2_with fail
   refine CO.out.mono ?_; rintro e w3 ⟨v3, rfl, ⟨O, co, o, rfl, hI, hO⟩, hb3⟩; have H3 := Lib.hid (H6.out.next hb3); have HX3 := Lib.hid (HX6.out.keep hb3); have HM3 := Lib.hid (HM6.out.below hb3); have HI3 := Lib.hid hI; have HO := Lib.hid (show Ag.Ord h.v.hs o from hO); have HOL := Lib.hid (show o.length = h.m from hI.1); clear hb3 hI hO CO x0 x1 x2 x3 x4 x5 x6 x7 x8 x9 H6 HX6 HM6; have x0 := H3.out.x.c 0; have x1 := H3.out.x.c 1; have x2 := H3.out.x.c 2; have x3 := H3.out.x.c 3; have x4 := H3.out.x.c 4; have x5 := H3.out.x.c 5; have x6 := H3.out.x.c 6; have x7 := H3.out.x.c 7; have x8 := H3.out.x.c 8; have x9 := H3.out.x.c 9; simp at x0 x1 x2 x3 x4 x5 x6 x7 x8 x9; have CH1 := Lib.hid (holds12 h O h.m co o h.s.1 w w3 H3.out.b HMM.out HNN.out HI3.out HO.out (by omega))
   go_wp2_with fail
   refine CH1.out.mono ?_; rintro e w4 ⟨r1, rfl, hr1, hc1, hn1, hb4⟩; obtain ⟨W5, hW5⟩ : ∃ W5, w4.alloc (.cells (vc r1) 60) = W5 := ⟨_, rfl⟩; have hb5 : Below w4.heap.size w4 W5 := hW5 ▸ alloc_ _ _; have hb45 : Below w3.heap.size w3 W5 := hb4.trans (hb5.mono hb4.size); obtain ⟨g12, hg12⟩ : ∃ g12, w4.heap.size = g12 := ⟨_, rfl⟩; obtain ⟨base, hbase⟩ : ∃ base, W5.heap.size = base := ⟨_, rfl⟩; have hsz : base = g12 + 1 := by rw [← hbase, ← hW5, World.size_alloc, hg12]
   have hlt7 : g7 < g12 := by rw [← hg12]; exact Nat.lt_of_lt_of_le HX3.out.lt hb4.size
   have HFJ := Lib.hid (show FJ w h r g7 g12 base h.m O o W5 none 0 0 [] r1 from
    ⟨(H3.out.next hb45).b, ⟨HG7.out, hlt7, by omega, by omega⟩, (H3.out.next hb45).x, HX3.out.keep hb45, HM3.out.keep (fun a ha => hb45.cell ha) (fun b hb => by rw [← hg12]; exact Nat.lt_of_lt_of_le hb hb4.size), HI3.out.keep (fun a ha => hb45.cell ha) (fun b hb => by rw [← hg12]; exact Nat.lt_of_lt_of_le hb hb4.size), by rw [← hg12, ← hW5]; exact Bx.new _ _ _, Own.nil, (fun r h => by cases h), hc1, hn1⟩)
   have HRS := Lib.hid (ordl_rise HO.out); have HIN := Lib.hid (ordl_in HO.out HU.out); have hlen : (ordl h.v.hs o).length = h.m := by rw [ordl_len]; exact HOL.out
   have HLEN := Lib.hid hlen; have HFR := Lib.hid (show Fr (ini h.v) (ordl h.v.hs o) h.s 0 h.s.1 [] from Fr.start ((Sp.has_iff _).1 (hrt_has HU.out)).2.1 (fun c hc => (HIN.out c hc).1)); have HNW := Lib.hid (show r1.v = ⟨(0, 0), hld (ini h.v) (ordl h.v.hs o) h.s.1, 0⟩ from hr1); have HW5 := Lib.hid hW5; have HG12E := Lib.hid hg12; clear hb4 CH1 x0 x1 x2 x3 x4 x5 x6 x7 x8 x9 hr1 hc1 hn1 hW5 hb5 hb45 hbase hsz hlt7 hlen H3 HX3 HM3 HI3 H1
   go_upto_region 11 with fail
   rw [HW5.out]; clear HW5 HG12E hg12; go_wp2
   go_loopw [10, 11, 13] (fun s10 s11 vi w' => ∃ (k : Nat) (f : Int) (W : World) (A : Option Addr) (n c : Nat) (rs : List Rw) (nw : Rw) (L : List (Sp × Hd)), k ≤ h.m ∧ s10 = .slice A n c ∧ s11 = .int .i64 f ∧ vi = .int .i64 (k : Int) ∧ W = w' ∧ n ≤ k ∧ Hid (FJ w h r g7 g12 base h.m O o W A n c rs nw) ∧ Hid (Fr (ini h.v) (ordl h.v.hs o) h.s k f L) ∧ Hid (rs.map Rw.v = L.map noy) ∧ Hid (nw.v.h = hld (ini h.v) (ordl h.v.hs o) f ∧ nw.v.y = 0)) (fun _ _ vi _ => h.m - (intOf vi).toNat)
   case atStart => exact ⟨0, h.s.1, _, none, 0, 0, [], r1, [], Nat.zero_le _, rfl, rfl, rfl, rfl, Nat.le_refl _, HFJ, HFR, Lib.hid rfl, Lib.hid ⟨by rw [HNW.out], by rw [HNW.out]⟩⟩
   case round =>
    obtain ⟨k, f, W, A, n, c, rs, nw, L, hk, rfl, rfl, rfl, rfl, hnk, HJ, HF, HMAP, HN⟩ := hrel; clear HFJ HFR HNW; by_cases hlt : k < h.m
    ·obtain ⟨aO, rfl, hbO, hcO⟩ := HJ.out.i.2 (by omega); have hol := HOL.out; obtain ⟨x, hox⟩ : ∃ x, o[k]? = some x := ⟨o[k]'(by omega), List.getElem?_eq_getElem (by omega)⟩; obtain ⟨hx0, hx1⟩ := ord_at HO.out (List.mem_of_getElem? hox); obtain ⟨i, rfl⟩ := Int.eq_ofNat_of_zero_le hx0; have hcx := hcO k _ hox; have hhs : h.v.hs.length = h.m := by show (h.rs.map Tm.Rw.v).length = _; rw [List.length_map]; exact HMM.out.r.1
     have hi : i < h.m := by omega
     have hi2 : (i : Int) < (h.m : Int) := by omega
     have hlt2 : (k : Int) < (h.m : Int) := by omega
     obtain ⟨aB, r2, hB, hbB, hr2, N, hcv, hv⟩ := HMM.out.get hi; obtain ⟨day, hday⟩ : ∃ day, r2.v.dy = day := ⟨_, rfl⟩; have HV2 := Lib.hid (show (ordl h.v.hs o)[k]? = some r2.v from ordl_get hox (by rw [Int.toNat_natCast]; exact hv)); have HDAY := Lib.hid hday; have hHB := Lib.hid hB; have hnb : n ≤ 100 := by omega
     have k9 : ∀ p : Ext W, p.W.cell? ⟨w.heap.size, 9, none⟩ = some (.slice (some aB) h.m h.d) := fun p => by rw [← hB]; exact HJ.out.x.ext p 9
     have hlo := HJ.out.lo; have kX : ∀ p : Ext W, p.W.cell? (aO.add k) = some (.int .i64 ((i : Nat) : Int)) := fun p => (p.b.cell (by rw [add_block]; have : aO.block < g12 := hbO; omega)).trans hcx
     have kd : ∀ p : Ext W, p.W.cell? ⟨(aB.add (i * 9)).block, (aB.add (i * 9)).off + 1, none⟩ = some (.int .i64 day) := fun p => by rw [← hday]; exact ((HJ.out.b.trans (p.b.mono HJ.out.b.size)).cell (p := ⟨(aB.add (i * 9)).block, (aB.add (i * 9)).off + 1, none⟩) (by show (aB.add (i * 9)).block < _; rw [add_block]; exact hbB)).trans N.c1
     clear hbO hcO hox hx0 hx1 hcx hhs hB hbB hr2 N hcv hv hday hlo hol
     go_upto_region 14 with fail
     have ne : Nonempty (Ext W) := ⟨⟨W, Below.refl _ _⟩⟩; refine quietE (by kernel_rfl) (by kernel_rfl) ?_
     repeat (first | go_big_quiet_skip | quiet_step (fail))
     refine wpQuiet_nil ?_; rintro _ ⟨p2, rfl⟩; clear k9 kX kd ne; have HJ2 := Lib.hid (HJ.out.next p2.b); generalize p2.W = w2' at HJ2 ⊢; clear HJ; have CH2 := Lib.hid (holds12 h (some aO) h.m co o day w w2' HJ2.out.b HMM.out HNN.out (HJ2.out.i.keep (fun _ _ => rfl) (fun b hb => by have := HJ2.out.lo; omega)) HO.out (by omega)); have x0 := HJ2.out.x.c 0; have x1 := HJ2.out.x.c 1; have x2 := HJ2.out.x.c 2; have x3 := HJ2.out.x.c 3; have x4 := HJ2.out.x.c 4; have x5 := HJ2.out.x.c 5; have x6 := HJ2.out.x.c 6; have x7 := HJ2.out.x.c 7; have x8 := HJ2.out.x.c 8; have x9 := HJ2.out.x.c 9; simp at x0 x1 x2 x3 x4 x5 x6 x7 x8 x9
     go_wp2_with fail
     refine CH2.out.mono ?_; rintro e w3' ⟨q, rfl, hqv, hqc, hqn, hb3⟩; obtain ⟨W4, hW4⟩ : ∃ W4, w3'.alloc (.cells (vc q) 60) = W4 := ⟨_, rfl⟩; have hb4 : Below w3'.heap.size w3' W4 := hW4 ▸ alloc_ _ _; have hb34 := hb3.trans (hb4.mono hb3.size); have HJ4 := Lib.hid (HJ2.out.next hb34); obtain ⟨g15, hg15⟩ : ∃ g15, w3'.heap.size = g15 := ⟨_, rfl⟩; have HQ4 := Lib.hid (show Bx W4 g15 60 (vc q) by rw [← hg15, ← hW4]; exact Bx.new _ _ _); have HQV := Lib.hid hqv; have HQG := Lib.hid (And.intro hqc hqn); have HG15 := Lib.hid (show base ≤ g15 ∧ ∀ b, (Value.slice A n c).ownBlock = some b → b < g15 from ⟨by have := HJ2.out.lo; have := hb3.size; omega, fun b hb => by have := (HJ2.out.o.lt b hb).2; have := hb3.size; omega⟩); have HW4 := Lib.hid hW4; have HG15E := Lib.hid hg15; have CL := Lib.hid (like_ nw q W4 HJ4.out.good ⟨hqc.keep (fun a ha => HJ4.out.b.cell ha) (fun b hb => Nat.lt_of_lt_of_le hb HJ4.out.b.size), Nat.le_trans hqn (by omega)⟩); obtain ⟨u, hu⟩ : ∃ u, decide (nw.v.h = q.v.h) = u := ⟨_, rfl⟩; rw [hu] at CL; have HUU := Lib.hid hu; clear hb3 CH2 x0 x1 x2 x3 x4 x5 x6 x7 x8 x9 hqv hqc hqn hW4 hb4 hb34 hu
     go_upto_region 16 with fail
     rw [HW4.out]; clear HW4 HG15E hg15 HJ2; have y0 := HJ4.out.y.c 0; have y1 := HJ4.out.y.c 1; have y2 := HJ4.out.y.c 2; have y3 := HJ4.out.y.c 3; have y4 := HJ4.out.y.c 4; have y5 := HJ4.out.y.c 5; have y6 := HJ4.out.y.c 6; have y7 := HJ4.out.y.c 7; have y8 := HJ4.out.y.c 8; simp at y0 y1 y2 y3 y4 y5 y6 y7 y8; have z0 := HQ4.out.c 0; have z1 := HQ4.out.c 1; have z2 := HQ4.out.c 2; have z3 := HQ4.out.c 3; have z4 := HQ4.out.c 4; have z5 := HQ4.out.c 5; have z6 := HQ4.out.c 6; have z7 := HQ4.out.c 7; have z8 := HQ4.out.c 8; simp at z0 z1 z2 z3 z4 z5 z6 z7 z8
     go_wp2_with fail
     refine CL.out.mono ?_; rintro e w5' ⟨rfl, hb5⟩; have HJ5 := Lib.hid (HJ4.out.next hb5); have HQ5 := Lib.hid (HQ4.out.keep hb5); clear hb5 CL y0 y1 y2 y3 y4 y5 y6 y7 y8 z0 z1 z2 z3 z4 z5 z6 z7 z8 HJ4 HQ4; cases u
     ·have HF2 := Lib.hid (HF.out.more HRS.out HV2.out (HIN.out r2.v (List.mem_of_getElem? HV2.out)).2 (by rw [← HN.out.1, HDAY.out]; have := of_decide_eq_false HUU.out; rw [HQV.out] at this; exact this)); rw [HDAY.out] at HF2; have hy := HJ5.out.y.f; have y0 := HJ5.out.y.c 0; have y1 := HJ5.out.y.c 1; have y2 := HJ5.out.y.c 2; have y3 := HJ5.out.y.c 3; have y4 := HJ5.out.y.c 4; have y5 := HJ5.out.y.c 5; have y6 := HJ5.out.y.c 6; have y7 := HJ5.out.y.c 7; have y8 := HJ5.out.y.c 8; simp at y0 y1 y2 y3 y4 y5 y6 y7 y8; obtain ⟨W6', hW6'⟩ : ∃ W6', sets g12 0 [.int .i64 f, .int .i64 day] w5' = W6' := ⟨_, rfl⟩; have HJ6 := Lib.hid (show FJ w h r g7 g12 base h.m (some aO) o W6' A n c rs (Rw.mk ⟨(f, day), nw.v.h, nw.v.y⟩ nw.A nw.n nw.c) by rw [← hW6']; exact HJ5.out.sety [.int .i64 f, .int .i64 day] (by rw [setl2]) HJ5.out.cv HJ5.out.nn); have HQ6 := Lib.hid (show Bx W6' g15 60 (vc q) by rw [← hW6']; exact HQ5.out.sets_far (by have := HG15.out.1; have := HJ5.out.lo; omega) _ _); have HW6' := Lib.hid (show (w5'.setCell ⟨g12, 0, none⟩ (.int .i64 f)).setCell ⟨g12, 1, none⟩ (.int .i64 day) = W6' from hW6'); clear hW6'
      go_upto_region 18 with fail
      rw [HW6'.out]; clear HW6' y0 y1 y2 y3 y4 y5 y6 y7 y8 hy HJ5 HQ5; have y0 := HJ6.out.y.c 0; have y1 := HJ6.out.y.c 1; have y2 := HJ6.out.y.c 2; have y3 := HJ6.out.y.c 3; have y4 := HJ6.out.y.c 4; have y5 := HJ6.out.y.c 5; have y6 := HJ6.out.y.c 6; have y7 := HJ6.out.y.c 7; have y8 := HJ6.out.y.c 8; simp at y0 y1 y2 y3 y4 y5 y6 y7 y8
      have KQ := Lib.hid (show ∀ w5 : World, (W6'.alloc (.cells (vc (Rw.mk ⟨(f, day), nw.v.h, nw.v.y⟩ nw.A nw.n nw.c)) 60)).grownBy w5 (Value.slice A n c).ownBlock → Bx w5 g15 60 (vc q) ∧ Bx w5 g12 60 (vc (Rw.mk ⟨(f, day), nw.v.h, nw.v.y⟩ nw.A nw.n nw.c)) from fun w5 hg5 => by
       have hal := alloc_ W6' (.cells (vc (Rw.mk ⟨(f, day), nw.v.h, nw.v.y⟩ nw.A nw.n nw.c)) 60); exact ⟨(hg5.block g15 (HQ6.out.keep hal).lt (fun e => by have := HG15.out.2 g15 e.symm; omega)).trans (HQ6.out.keep hal), (hg5.block g12 (HJ6.out.y.keep hal).lt (fun e => by have := (HJ6.out.o.lt g12 e.symm).1; have := HJ6.out.lo; omega)).trans (HJ6.out.y.keep hal)⟩)
      go_wp2_with (at_builtin; refine wpList_app _ rfl _ _ rfl base A n c rs rfl (HJ6.out.o.below (alloc_ _ _)) (fun b => W6'.heap.size ≤ b ∧ b < (W6'.alloc (.cells (vc (Rw.mk ⟨(f, day), nw.v.h, nw.v.y⟩ nw.A nw.n nw.c)) 60)).heap.size) (some ⟨W6'.heap.size, 0, none⟩) 1 1 [(Rw.mk ⟨(f, day), nw.v.h, nw.v.y⟩ nw.A nw.n nw.c)] rfl (raws_one W6' (Rw.mk ⟨(f, day), nw.v.h, nw.v.y⟩ nw.A nw.n nw.c)) (fun e => by cases e) (n + 1) rfl (by have := hnb; omega) (by have := HJ6.out.lo.2.2.2; simp; omega) ?_; intro A5 c5 w5 hO5 hg5; have HO5 := Lib.hid hO5; have HG5 := Lib.hid hg5; clear hO5 hg5; have hq7 := (KQ.out w5 HG5.out).1; have hy7 := (KQ.out w5 HG5.out).2; have fy := hy7.f; have z0 := hq7.c 0; have v0 := hy7.c 0; have z1 := hq7.c 1; have v1 := hy7.c 1; have z2 := hq7.c 2; have v2 := hy7.c 2; have z3 := hq7.c 3; have v3 := hy7.c 3; have z4 := hq7.c 4; have v4 := hy7.c 4; have z5 := hq7.c 5; have v5 := hy7.c 5; have z6 := hq7.c 6; have v6 := hy7.c 6; have z7 := hq7.c 7; have v7 := hy7.c 7; have z8 := hq7.c 8; have v8 := hy7.c 8; simp at z0 z1 z2 z3 z4 z5 z6 z7 z8 v0 v1 v2 v3 v4 v5 v6 v7 v8; clear hq7 hy7)
      have hal := alloc_ W6' (.cells (vc (Rw.mk ⟨(f, day), nw.v.h, nw.v.y⟩ nw.A nw.n nw.c)) 60)
      have HJ7 := Lib.hid ((HJ6.out.next hal).app HO5.out HG5.out (fun r hr => by
       rcases List.mem_append.1 hr with hr | hr
       ·exact HJ6.out.k r hr
       ·rw [List.mem_singleton] at hr; subst hr; exact ⟨HJ6.out.cv, HJ6.out.nn⟩))
      have HQ7 := Lib.hid (show Bx w5 g15 60 (vc q) from (HG5.out.block g15 (HQ6.out.keep hal).lt (fun e => by have := HG15.out.2 g15 e.symm; omega)).trans (HQ6.out.keep hal)); have HMAP2 := Lib.hid (show (rs ++ [(Rw.mk ⟨(f, day), nw.v.h, nw.v.y⟩ nw.A nw.n nw.c)]).map Rw.v = (L ++ [((f, day), hld (ini h.v) (ordl h.v.hs o) f)]).map noy by rw [List.map_append, List.map_append, HMAP.out, ← HN.out.1]; show _ ++ [Sc.mk (f, day) nw.v.h nw.v.y] = _; rw [HN.out.2]; rfl); clear hal y0 y1 y2 y3 y4 y5 y6 y7 y8 z0 z1 z2 z3 z4 z5 z6 z7 z8 v0 v1 v2 v3 v4 v5 v6 v7 v8 HJ6 HQ6 HO5 HG5; have HJ8 := Lib.hid (HJ7.out.sety [.int .i64 q.v.s.1, .int .i64 q.v.s.2, .bool q.v.h.on, .int .i64 q.v.h.r.k, .int .i64 q.v.h.r.v, .int .i64 q.v.h.r.a, .int .i64 q.v.h.r.z, .slice q.A q.n q.c, .int .i64 q.v.y] (nw' := q) (by rw [setl9]) HQG.out.1 HQG.out.2); clear HJ7 HQ7 KQ fy
      try go_wp2
      go_roundw
      case rel => exact ⟨k + 1, day, _, A5, n + 1, c5, _, q, _, by omega, rfl, rfl, by go_num, rfl, by omega, HJ8, HF2, HMAP2, Lib.hid ⟨by rw [HQV.out], by rw [HQV.out]⟩⟩
      case measure => simp [intOf]; omega
     ·have HF2 := Lib.hid (HF.out.same HRS.out HV2.out (by rw [← HN.out.1, HDAY.out]; have := of_decide_eq_true HUU.out; rw [HQV.out] at this; exact this)); clear HQ5; go_wp2; go_roundw
      case rel => exact ⟨k + 1, f, _, A, n, c, rs, nw, L, by omega, rfl, rfl, by go_num, rfl, by omega, HJ5, HF2, HMAP, HN⟩
      case measure => simp [intOf]; omega
    ·obtain rfl : k = h.m := by omega
     have HCU := Lib.hid (HF.out.done (Nat.le_of_eq HLEN.out)); have hy := HJ.out.y.f; have hnb : n ≤ 100 := by omega
     have y0 := HJ.out.y.c 0; have y1 := HJ.out.y.c 1; have y2 := HJ.out.y.c 2; have y3 := HJ.out.y.c 3; have y4 := HJ.out.y.c 4; have y5 := HJ.out.y.c 5; have y6 := HJ.out.y.c 6; have y7 := HJ.out.y.c 7; have y8 := HJ.out.y.c 8; simp at y0 y1 y2 y3 y4 y5 y6 y7 y8; have x0 := HJ.out.x.c 0; have x1 := HJ.out.x.c 1; have x2 := HJ.out.x.c 2; have x3 := HJ.out.x.c 3; have x4 := HJ.out.x.c 4; have x5 := HJ.out.x.c 5; have x6 := HJ.out.x.c 6; have x7 := HJ.out.x.c 7; have x8 := HJ.out.x.c 8; have x9 := HJ.out.x.c 9; simp at x0 x1 x2 x3 x4 x5 x6 x7 x8 x9; obtain ⟨W6', hW6'⟩ : ∃ W6', sets g12 0 [.int .i64 f, .int .i64 h.s.2] W = W6' := ⟨_, rfl⟩; have HJ6 := Lib.hid (show FJ w h r g7 g12 base h.m O o W6' A n c rs (Rw.mk ⟨(f, h.s.2), nw.v.h, nw.v.y⟩ nw.A nw.n nw.c) by rw [← hW6']; exact HJ.out.sety [.int .i64 f, .int .i64 h.s.2] (by rw [setl2]) HJ.out.cv HJ.out.nn); have HW6' := Lib.hid (show (W.setCell ⟨g12, 0, none⟩ (.int .i64 f)).setCell ⟨g12, 1, none⟩ (.int .i64 h.s.2) = W6' from hW6'); clear hW6'
     go_upto_region 22 with fail
     rw [HW6'.out]; clear HW6' y0 y1 y2 y3 y4 y5 y6 y7 y8 x0 x1 x2 x3 x4 x5 x6 x7 x8 x9 hy HJ; have y0 := HJ6.out.y.c 0; have y1 := HJ6.out.y.c 1; have y2 := HJ6.out.y.c 2; have y3 := HJ6.out.y.c 3; have y4 := HJ6.out.y.c 4; have y5 := HJ6.out.y.c 5; have y6 := HJ6.out.y.c 6; have y7 := HJ6.out.y.c 7; have y8 := HJ6.out.y.c 8; simp at y0 y1 y2 y3 y4 y5 y6 y7 y8
     go_wp2_with (at_builtin; refine wpList_app _ rfl _ _ rfl base A n c rs rfl (HJ6.out.o.below (alloc_ _ _)) (fun b => W6'.heap.size ≤ b ∧ b < (W6'.alloc (.cells (vc (Rw.mk ⟨(f, h.s.2), nw.v.h, nw.v.y⟩ nw.A nw.n nw.c)) 60)).heap.size) (some ⟨W6'.heap.size, 0, none⟩) 1 1 [(Rw.mk ⟨(f, h.s.2), nw.v.h, nw.v.y⟩ nw.A nw.n nw.c)] rfl (raws_one W6' (Rw.mk ⟨(f, h.s.2), nw.v.h, nw.v.y⟩ nw.A nw.n nw.c)) (fun e => by cases e) (n + 1) rfl (by have := hnb; omega) (by have := HJ6.out.lo.2.2.2; simp; omega) ?_; intro A5 c5 w5 hO5 hg5; have HO5 := Lib.hid hO5; have HG5 := Lib.hid hg5; clear hO5 hg5)
     have hal := alloc_ W6' (.cells (vc (Rw.mk ⟨(f, h.s.2), nw.v.h, nw.v.y⟩ nw.A nw.n nw.c)) 60); obtain ⟨rs0, hrs0⟩ : ∃ rs0, rs ++ [(Rw.mk ⟨(f, h.s.2), nw.v.h, nw.v.y⟩ nw.A nw.n nw.c)] = rs0 := ⟨_, rfl⟩; obtain ⟨K, hK⟩ : ∃ K, L ++ [((f, h.s.2), hld (ini h.v) (ordl h.v.hs o) f)] = K := ⟨_, rfl⟩
     have HJ7 := Lib.hid (show FJ w h r g7 g12 base h.m O o w5 A5 (n + 1) c5 rs0 (Rw.mk ⟨(f, h.s.2), nw.v.h, nw.v.y⟩ nw.A nw.n nw.c) by
      rw [← hrs0]; refine (HJ6.out.next hal).app HO5.out HG5.out (fun r hr => ?_); rcases List.mem_append.1 hr with hr | hr
      ·exact HJ6.out.k r hr
      ·rw [List.mem_singleton] at hr; subst hr; exact ⟨HJ6.out.cv, HJ6.out.nn⟩)
     obtain ⟨qq, hqq⟩ : ∃ qq : Ri → List Co → Int × Int, qf r.v = qq := ⟨_, rfl⟩
     have HMAP2 := Lib.hid (show rs0.map Rw.v = st qq K 0 by
      rw [← hrs0, ← hK, st_zero, List.map_append, List.map_append, HMAP.out, ← HN.out.1]; show _ ++ [Sc.mk (f, h.s.2) nw.v.h nw.v.y] = _
      rw [HN.out.2]; rfl)
     have HCK := Lib.hid (show Cutd (hld (ini h.v) (ordl h.v.hs o)) h.s.1 h.s.2 K by rw [← hK]; exact HCU.out); obtain ⟨nn, hnn⟩ : ∃ nn, n + 1 = nn := ⟨_, rfl⟩; rw [hnn] at HJ7 ⊢; have hnb2 : nn ≤ 101 := by omega
     have HKL := Lib.hid (show K.length = nn by
      have h1 := HJ7.out.o.len; have h2 := congrArg List.length HMAP2.out; rw [st_zero, List.length_map, List.length_map] at h2; omega)
     have HQQ := Lib.hid hqq; have HQY := Lib.hid (show ∀ x cs, Qm.yr (Qm.qd r.v x) 0 cs = qq x cs from fun x cs => by rw [← hqq]; rfl); clear hal y0 y1 y2 y3 y4 y5 y6 y7 y8 HJ6 HO5 HG5 hrs0 hK hnn hqq HCU HMAP HN HF hnb; go_wp2
     go_loopw [16] (fun vi w' => ∃ (i : Nat) (W : World) (rs : List Rw), i ≤ nn ∧ vi = .int .i64 (i : Int) ∧ W = w' ∧ Hid (FJ w h r g7 g12 base h.m O o W A5 nn c5 rs (Rw.mk ⟨(f, h.s.2), nw.v.h, nw.v.y⟩ nw.A nw.n nw.c)) ∧ Hid (rs.map Rw.v = st qq K i) ∧ Hid (bad qq K = bad qq (K.drop i))) (fun vi _ => nn - (intOf vi).toNat)
     case atStart => exact ⟨0, _, rs0, Nat.zero_le _, rfl, rfl, HJ7, HMAP2, Lib.hid (by rw [List.drop_zero])⟩
     case round =>
      obtain ⟨i, W, rs, hi, rfl, rfl, HJ, HMAP, HBAD⟩ := hrel; clear HJ7 HMAP2; by_cases hlt : i < nn
      ·have hlt2 : (i : Int) < (nn : Int) := by omega
       obtain ⟨g, rfl, hg1, hg2⟩ := HJ.out.o.form (by omega); have hrl := HJ.out.o.len; obtain ⟨r2, hr2⟩ : ∃ r2, rs[i]? = some r2 := ⟨rs[i]'(by omega), List.getElem?_eq_getElem (by omega)⟩; have hkl := HKL.out; obtain ⟨x, hx⟩ : ∃ x, K[i]? = some x := ⟨K[i]'(by omega), List.getElem?_eq_getElem (by omega)⟩; have HV := Lib.hid (st_get hx HMAP.out hr2); have HX := Lib.hid hx; have HR := Lib.hid hr2; have HDR := Lib.hid (bad_drop (q := qq) hx); have N := HJ.out.o.raws.at hr2; obtain ⟨c0, c1, c2, c3, c4, c5', c6, c7, c8⟩ := N; simp only at c1 c2 c3 c4 c5' c6 c7 c8; have hron : r2.v.h.on = x.2.on := by rw [HV.out]
       clear hr2 hx hrl hkl; cases hon : x.2.on
       ·have HMAP2 := Lib.hid (show rs.map Rw.v = st qq K (i + 1) by rw [st_off HX.out hon]; exact HMAP.out); have HBAD2 := Lib.hid (show bad qq K = bad qq (K.drop (i + 1)) by rw [HBAD.out, HDR.out, bad_off hon]); rw [hron, hon] at c2; clear hron hon; go_wp2; go_roundw
        case rel => exact ⟨i + 1, W, rs, by omega, by go_num, rfl, HJ, HMAP2, HBAD2⟩
        case measure => simp [intOf]; omega
       ·rw [hron, hon] at c2; have HON := Lib.hid hon; have HRK := Lib.hid (HJ.out.k r2 (List.mem_of_getElem? HR.out)); have hlo := HJ.out.lo; have CY := fun p : Ext W => Lib.hid (Qo.ryear (qv r) r2.v.h.r r2.A r2.n r2.c r2.v.h.cs p.W (vmean (HJ.out.m.keep (fun a ha => p.b.cell (by have := hlo; omega)) (fun b hb => by have := p.b.size; omega))) (vlow HS2.out) (qcvs (HRK.out.1.keep (fun a ha => (HJ.out.b.trans (p.b.mono HJ.out.b.size)).cell ha) (fun b hb => Nat.lt_of_lt_of_le hb (Nat.le_trans HJ.out.b.size p.b.size)))) HRK.out.2)
        rw [HQY.out] at CY; have HRX := Lib.hid (show qq r2.v.h.r r2.v.h.cs = qq x.2.r x.2.cs by rw [HV.out]); rw [HRX.out] at CY; obtain ⟨a, hqa⟩ : ∃ a, qq x.2.r x.2.cs = a := ⟨_, rfl⟩; rw [hqa] at CY; obtain ⟨cost, cd⟩ := a; have HQA := Lib.hid hqa; have N : ∀ p : Ext W, Nin p.W ⟨g, i * 9, none⟩ r2 := fun p => ((HJ.out.o.below p.b).raws).at HR.out
        have n3 : ∀ p : Ext W, p.W.cell? ⟨g, i * 9 + 3, none⟩ = _ := fun p => (N p).c3
        have n4 : ∀ p : Ext W, p.W.cell? ⟨g, i * 9 + 4, none⟩ = _ := fun p => (N p).c4
        have n5 : ∀ p : Ext W, p.W.cell? ⟨g, i * 9 + 5, none⟩ = _ := fun p => (N p).c5
        have n6 : ∀ p : Ext W, p.W.cell? ⟨g, i * 9 + 6, none⟩ = _ := fun p => (N p).c6
        have n7 : ∀ p : Ext W, p.W.cell? ⟨g, i * 9 + 7, none⟩ = _ := fun p => (N p).c7
        have v0 : ∀ p : Ext W, p.W.cell? ⟨g7, 0, none⟩ = some (.int .i64 r.v.fr) := fun p => HJ.out.v.ext p 0
        have v1 : ∀ p : Ext W, p.W.cell? ⟨g7, 1, none⟩ = some (.int .i64 r.v.b0) := fun p => HJ.out.v.ext p 1
        have v2 : ∀ p : Ext W, p.W.cell? ⟨g7, 2, none⟩ = some (.int .i64 r.v.b1) := fun p => HJ.out.v.ext p 2
        have v3 : ∀ p : Ext W, p.W.cell? ⟨g7, 3, none⟩ = some (.int .i64 r.v.b2) := fun p => HJ.out.v.ext p 3
        have v4 : ∀ p : Ext W, p.W.cell? ⟨g7, 4, none⟩ = some (.int .i64 r.v.b3) := fun p => HJ.out.v.ext p 4
        have v5 : ∀ p : Ext W, p.W.cell? ⟨g7, 5, none⟩ = some (.slice r.A r.la r.ca) := fun p => HJ.out.v.ext p 5
        have v6 : ∀ p : Ext W, p.W.cell? ⟨g7, 6, none⟩ = some (.slice r.Z r.lz r.cz) := fun p => HJ.out.v.ext p 6
        have v7 : ∀ p : Ext W, p.W.cell? ⟨g7, 7, none⟩ = some (.slice r.P r.lp r.cp) := fun p => HJ.out.v.ext p 7
        have v8 : ∀ p : Ext W, p.W.cell? ⟨g7, 8, none⟩ = some (.int .i64 r.v.mn) := fun p => HJ.out.v.ext p 8
        clear hqa hron hon N hlo
        go_upto_region 27 with fail
        have ne : Nonempty (Ext W) := ⟨⟨W, Below.refl _ _⟩⟩; refine quietE (by kernel_rfl) (by kernel_rfl) ?_
        repeat (first | go_big_quiet_skip | quiet_step (first
         | (go_at_call 56; with_reducible exact ext_of (CY _).out)
         | fail))
        refine wpQuiet_nil ?_; rintro _ ⟨p, rfl⟩; have HJ3 := Lib.hid (HJ.out.next p.b); generalize p.W = w3 at HJ3 ⊢; clear CY ne n3 n4 n5 n6 n7 v0 v1 v2 v3 v4 v5 v6 v7 v8 c0 c1 c2 c3 c4 c5' c6 c7 c8 HJ; by_cases hcd : cd = 0
        ·subst hcd; have N := HJ3.out.o.raws.at HR.out; have c8 := N.c8; simp only at c8; have fg := HJ3.out.o.frozen; clear N; have HJ4 := Lib.hid (HJ3.out.setc HR.out cost); have HMAP2 := Lib.hid (show (rs.set i (r2.setY cost)).map Rw.v = st qq K (i + 1) by have := st_set HX.out HMAP.out HR.out HON.out; rwa [HQA.out] at this); have HBAD2 := Lib.hid (show bad qq K = bad qq (K.drop (i + 1)) by rw [HBAD.out, HDR.out, bad_ok (by rw [HQA.out])]); go_wp2; go_roundw
         case rel => exact ⟨i + 1, _, _, by omega, by go_num, rfl, HJ4, HMAP2, HBAD2⟩
         case measure => simp [intOf]; omega
        ·have t1 : decide (cd = 0) = false := decide_eq_false hcd; have HBD := Lib.hid (show bad qq K = cd by rw [HBAD.out, HDR.out, bad_is HON.out (by rw [HQA.out]; exact hcd), HQA.out]); have HNE := Lib.hid hcd; have HVV := Lib.hid (show qf (Trf.tol h.v.s.1 (vs.map Trf.Rw.v)) = qq by rw [← HQQ.out, HR9.out]; rfl); go_wp2; go_ret2; exact ⟨none, 0, 0, [], cd, rfl, Sls.nil, Nat.zero_le _, Nat.le_refl _, .some HU.out HCD.out o K HO.out HCK.out (by rw [HVV.out]; exact HBD.out.symm) (by rw [HVV.out, HBD.out, if_neg HNE.out]; rfl), HJ3.out.b⟩
      ·obtain rfl : i = nn := by omega
       have HBD := Lib.hid (show bad qq K = 0 by rw [HBAD.out, List.drop_of_length_le (Nat.le_of_eq HKL.out)]; rfl); have HVV := Lib.hid (show qf (Trf.tol h.v.s.1 (vs.map Trf.Rw.v)) = qq by rw [← HQQ.out, HR9.out]; rfl); go_wp2; go_ret2; exact ⟨A5, i, c5, rs, 0, rfl, HJ.out.sls, by omega, HJ.out.o.fits.1, .some HU.out HCD.out o K HO.out HCK.out (by rw [HVV.out]; exact HBD.out.symm) (by rw [HVV.out, if_pos HBD.out, HMAP.out, st_end (Nat.le_of_eq HKL.out)]), HJ.out.b⟩
  ·have t1 : decide (cd = 0) = false := decide_eq_false h0; have HNE := Lib.hid h0; go_wp2; go_ret2; exact ⟨none, 0, 0, [], cd, rfl, Sls.nil, Nat.zero_le _, Nat.le_refl _, .none HU.out (by rw [show h.v.s = h.s from rfl, HCD.out]; exact HNE.out) HCD.out.symm rfl, H2.out.b.alloc H2.out.b.size _⟩
end Slc
end Go.Proofs.YtplenoaajokpjaaGreat
