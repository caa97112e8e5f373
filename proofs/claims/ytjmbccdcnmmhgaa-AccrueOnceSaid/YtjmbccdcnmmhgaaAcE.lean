/-
  AccrueEven over what Curve, Written and Between tell. Conditions: those of each theorem.
-/
import Derived.Test.YtjmbccdcnmmhgaaAcL
import Derived.Test.YtjmbccdcnmmhgaaZSum
namespace Go.Proofs.Ytjmbccdcnmmhgaa
open Go.RowKit Ba Cv Sp Te Ag Sl Tm Slc
namespace Acr
set_option linter.unusedVariables false

def CuTo (w : World) (l : List Sc) (e : Ending) (w' : World) : Prop := ∃ A k c V d code, e = .returned (.tuple #[Stp.sg A k c V k d, .int .i64 code]) ∧ code = (if may l = true then 0 else 1) ∧ (may l = true → ∃ ps, Stp.Sr w' w'.heap.size A V k ps ∧ k ≤ 10000 ∧ Crv l ps) ∧ Below w.heap.size w w'
/-- Curve tells so. -/
def CuC : Prop := ∀ (A : Option Addr) (n c : Nat) (rs : List Rw) (w : World), Raws w (· < w.heap.size) A n rs → n ≤ 1100 → n ≤ c → Calls Try.prog 14 #[.slice A n c] w (CuTo w (rs.map Rw.v))
def ful4 (s : Sp) : Bool := decide (1 ≤ s.1 ∧ s.1 < s.2 ∧ s.2 ≤ 292195)
set_option maxHeartbeats 1000000 in
theorem full4 (s : Sp) (w : World) : Calls Try.prog 13 #[sg s] w (Yes w (ful4 s)) := by
  obtain ⟨a, b⟩ := s
  by_cases h1 : 1 ≤ a
  · have t1 : decide (1 ≤ a) = true := by simpa using h1
    by_cases h2 : a < b
    · have t2 : decide (a < b) = true := by simpa using h2
      by_cases h3 : b ≤ 292195
      · have t3 : decide (b ≤ 292195) = true := by simpa using h3
        rw [show ful4 (a, b) = true from decide_eq_true ⟨h1, h2, h3⟩]
        clear h1 h2 h3
        go_enter Try.func13, Try.ntmps13
        go_wp2
        go_ret
        exact ⟨rfl, alloc_ _ _⟩
      · have t3 : decide (b ≤ 292195) = false := by simpa using h3
        rw [show ful4 (a, b) = false from decide_eq_false (by simp only; omega)]
        clear h1 h2 h3
        go_enter Try.func13, Try.ntmps13
        go_wp2
        go_ret
        exact ⟨rfl, alloc_ _ _⟩
    · have t2 : decide (a < b) = false := by simpa using h2
      rw [show ful4 (a, b) = false from decide_eq_false (by simp only; omega)]
      clear h1 h2
      go_enter Try.func13, Try.ntmps13
      go_wp2
      go_ret
      exact ⟨rfl, alloc_ _ _⟩
  · have t1 : decide (1 ≤ a) = false := by simpa using h1
    rw [show ful4 (a, b) = false from decide_eq_false (by simp only; omega)]
    clear h1
    go_enter Try.func13, Try.ntmps13
    go_wp2
    go_ret
    exact ⟨rfl, alloc_ _ _⟩
set_option maxRecDepth 100000 in
set_option maxHeartbeats 4000000 in
theorem walk_AccrueEven (HU : UpC) (HR : WrC) (HC : CuC) (HT : BtC) {w : World} (A : Option Addr) (n c : Nat) (rs : List Rw) (G : Raws w (· < w.heap.size) A n rs) (hm : n ≤ 140737488355328) (hf : n ≤ c) (z0 z1 : Int) (hz0 : -9223372036854775808 ≤ z0 ∧ z0 ≤ 9223372036854775807) (hz1 : -9223372036854775808 ≤ z1 ∧ z1 ≤ 9223372036854775807) : Calls Try.prog 5 #[.slice A n c, .agg #[.int .i64 z0, .int .i64 z1]] w (Yes w true) := by
  obtain ⟨W, hW⟩ : ∃ W, w.alloc (.cells #[.int .i64 z0, .int .i64 z1] 30) = W := ⟨_, rfl⟩
  have H0 := Lib.hid (show Below w.heap.size w W from hW ▸ alloc_ _ _)
  have X0 := Lib.hid (show Bx W w.heap.size 30 #[.int .i64 z0, .int .i64 z1] from hW ▸ Bx.new w 30 _)
  have HW := Lib.hid hW
  have HG := Lib.hid G
  have HF := Lib.hid hf
  have HZ := Lib.hid (And.intro hz0 hz1)
  clear G hf hW hz0 hz1
  have CA := Lib.hid (awake14 HU HR W)
  go_enter Try.func5, Try.ntmps5
  go_upto_region 1 with fail
  rw [HW.out]
  clear HW
  go_wp2_with fail
  refine CA.out.mono ?_
  rintro e w1 ⟨rfl, hb⟩
  have H1 := Lib.hid (H0.out.trans (hb.mono H0.out.size))
  have X1 := Lib.hid (X0.out.keep hb)
  clear hb CA H0 X0
  have CF := Lib.hid (full4 (z0, z1) w1)
  obtain ⟨q, hq⟩ : ∃ q, ful4 (z0, z1) = q := ⟨_, rfl⟩
  rw [hq] at CF
  have c0 := X1.out.c 0
  have c1 := X1.out.c 1
  simp at c0 c1
  go_wp2_with fail
  refine CF.out.mono ?_
  rintro e w2 ⟨rfl, hb⟩
  have H2 := Lib.hid (H1.out.trans (hb.mono H1.out.size))
  have X2 := Lib.hid (X1.out.keep hb)
  clear hb CF H1 X1 c0 c1
  by_cases hn : n ≤ 100
  case neg =>
    have t1 : decide ((100 : Int) < (n : Int)) = true := decide_eq_true (by omega)
    go_wp2
    go_ret
    exact ⟨rfl, H2.out⟩
  have t1 : decide ((100 : Int) < (n : Int)) = false := decide_eq_false (by omega)
  cases q
  · go_wp2
    go_ret
    exact ⟨rfl, H2.out⟩
  have hs := of_decide_eq_true hq
  have HS := Lib.hid hs
  have HN := Lib.hid (show n ≤ 1100 by omega)
  clear hn hs hq
  have C1 := Lib.hid (HR A n c rs w2 (HG.out.below H2.out) HN.out HF.out)
  go_wp2_with fail
  refine C1.out.mono ?_
  rintro e w3 ⟨rfl, hb⟩
  have H3 := Lib.hid (H2.out.trans (hb.mono H2.out.size))
  have X3 := Lib.hid (X2.out.keep hb)
  clear hb C1 H2 X2 t1
  have C1 := Lib.hid (HC A n c rs w3 (HG.out.below H3.out) HN.out HF.out)
  go_wp2_with fail
  refine C1.out.mono ?_
  rintro e w4 ⟨A4, k4, c4, V4, d4, cd, rfl, hcd, hps, hb⟩
  have H4 := Lib.hid (H3.out.trans (hb.mono H3.out.size))
  have X4 := Lib.hid (X3.out.keep hb)
  have HP := Lib.hid hps
  have HCD := Lib.hid hcd
  clear hb C1 H3 X3 hps hcd
  obtain ⟨W5, hW5⟩ : ∃ W, w4.alloc (.cells #[.slice A4 k4 c4, .slice V4 k4 d4] 38) = W := ⟨_, rfl⟩
  have hb5 : Below w4.heap.size w4 W5 := hW5 ▸ alloc_ _ _
  have H5 := Lib.hid (H4.out.trans (hb5.mono H4.out.size))
  have X5 := Lib.hid (X4.out.keep hb5)
  have Y5 := Lib.hid (show Bx W5 w4.heap.size 38 #[.slice A4 k4 c4, .slice V4 k4 d4] from hW5 ▸ Bx.new w4 38 _)
  have P5 := Lib.hid (show may (rs.map Rw.v) = true → ∃ ps, Stp.Sr W5 W5.heap.size A4 V4 k4 ps ∧ k4 ≤ 10000 ∧ Crv (rs.map Rw.v) ps from fun hm => by obtain ⟨ps, p1, p2, p3⟩ := HP.out hm; exact ⟨ps, p1.keep_ hb5, p2, p3⟩)
  have HW5 := Lib.hid hW5
  clear hb5 hW5 H4 X4 HP
  go_upto_region 7 with fail
  rw [HW5.out]
  clear HW5
  obtain ⟨g, hg⟩ : ∃ g, w4.heap.size = g := ⟨_, rfl⟩
  rw [hg] at Y5 ⊢
  clear hg
  obtain ⟨k, hk⟩ : ∃ k, upc (rs.map Rw.v) 292195 = k := ⟨_, rfl⟩
  rw [hk]
  by_cases h0 : k = 0
  case neg =>
    have t1 : decide (k = 0) = false := decide_eq_false h0
    have t2 : (k == 0) = false := beq_eq_false_iff_ne.2 h0
    have t3 : (k != 0) = true := bne_iff_ne.2 h0
    go_wp2
    go_ret
    exact ⟨rfl, H5.out⟩
  subst h0
  have hmay := upc_may hk
  obtain rfl : cd = 0 := by have := HCD.out; rwa [if_pos hmay.1] at this
  obtain ⟨ps, hp1, hp2, hp3⟩ := P5.out hmay.1
  have HB := Lib.hid (bt_ok hk (s := (z0, z1)) ((rt_iff _).2 ⟨HS.out.1, Int.le_of_lt HS.out.2.1, HS.out.2.2⟩))
  have HSUM := Lib.hid (hp3.sum (may_iff.1 hmay.1).2 (s := (z0, z1)) HS.out.1 HS.out.2.1 HS.out.2.2)
  have HEV := Lib.hid (even (l := rs.map Rw.v) z0 z1)
  have HLE := Lib.hid (And.intro (ern_nonneg (may_iff.1 hmay.1).2 (d := z0)) (Int.le_trans (ern_all (may_iff.1 hmay.1).2 (d := z1)) hmay.2))
  have HMO := Lib.hid (ern_mono (may_iff.1 hmay.1).2 (Int.le_of_lt HS.out.2.1))
  have HPS := Lib.hid hp1
  have HPK := Lib.hid hp2
  have HPR := Lib.hid hp3.1
  clear hp1 hp2 hp3 hmay hk P5 HCD
  have C1 := Lib.hid (HT A n c rs (z0, z1) W5 (HG.out.below H5.out) HN.out HF.out HZ.out.1 HZ.out.2)
  have c0 := X5.out.c 0
  have c1 := X5.out.c 1
  simp at c0 c1
  go_wp2_with fail
  refine C1.out.mono ?_
  rintro e w6 ⟨rfl, hb⟩
  have H6 := Lib.hid (H5.out.trans (hb.mono H5.out.size))
  have X6 := Lib.hid (X5.out.keep hb)
  have Y6 := Lib.hid (Y5.out.keep hb)
  have P6 := Lib.hid (HPS.out.keep_ hb)
  clear hb C1 H5 X5 Y5 HPS c0 c1
  obtain ⟨b1, b2, b3⟩ := HB.out
  rw [b1, b2]
  clear b1 b2 b3 HB
  have C1 := Lib.hid (Stp.sum_yes A4 k4 c4 V4 d4 ps (z0, z1) w6 P6.out HPK.out HPR.out ((Stm.full_iff _).2 HS.out))
  rw [show Stm.pieces (Stm.val 0 ps) (Stm.cuts (z0, z1) ps) (z0, z1).2 = Stm.PL ps (z0, z1) from rfl, Stm.sv_ok (by rw [HSUM.out.2]; have := HLE.out; omega), Stm.se_ok (by rw [HSUM.out.2]; have := HLE.out; omega), HSUM.out.1] at C1
  have c0 := X6.out.c 0
  have c1 := X6.out.c 1
  have y0 := Y6.out.c 0
  have y1 := Y6.out.c 1
  simp at c0 c1 y0 y1
  go_wp2_with fail
  refine C1.out.mono ?_
  rintro e w7 ⟨rfl, hb⟩
  have H7 := Lib.hid (H6.out.trans (hb.mono H6.out.size))
  have Y7 := Lib.hid (Y6.out.keep hb)
  have P7 := Lib.hid (P6.out.keep_ hb)
  clear hb C1 H6 X6 Y6 P6 c0 c1 y0 y1
  have hev := HEV.out
  have hle := HLE.out
  have hmo := HMO.out
  simp only
  obtain ⟨x, hx⟩ : ∃ x, hf (ern (rs.map Rw.v) z1) - hf (ern (rs.map Rw.v) z0) = x := ⟨_, rfl⟩
  obtain ⟨y, hy⟩ : ∃ y, ern (rs.map Rw.v) z1 - ern (rs.map Rw.v) z0 = y := ⟨_, rfl⟩
  rw [hx, hy] at hev ⊢
  have hyb : 0 ≤ y ∧ y ≤ 4000000000000000000 := by omega
  clear hx hy hle hmo
  by_cases hbig : 10928961748633879 < x
  · have t1 : decide ((10928961748633879 : Int) < x) = true := decide_eq_true hbig
    go_wp2
    go_ret
    exact ⟨rfl, H7.out⟩
  have t1 : decide ((10928961748633879 : Int) < x) = false := decide_eq_false hbig
  obtain ⟨p, hp⟩ : ∃ p, 365 * x = p := ⟨_, rfl⟩
  rw [hp] at hev
  have hpb : -9223372036854775808 ≤ p ∧ p ≤ 9223372036854775807 := by omega
  have e1 : wrap64 p = p := IntWalk.wrap64_in _ hpb
  have e2 : wrap64 (p - y) = p - y := IntWalk.wrap64_in _ (by omega)
  have e3 : wrap64 (y - p) = y - p := IntWalk.wrap64_in _ (by omega)
  have t2 : decide (p - y ≤ 365) = true := decide_eq_true hev.1
  have t3 : decide (y - p ≤ 365) = true := decide_eq_true hev.2
  have CR := Lib.hid (Stp.right_eq A4 k4 c4 V4 d4 _ _ w7 P7.out (by have := HPK.out; omega))
  rw [Stm.rg_of HPR.out] at CR
  have y0 := Y7.out.c 0
  have y1 := Y7.out.c 1
  simp at y0 y1
  clear hbig hev hyb hpb
  go_wp2_with fail
  refine CR.out.mono ?_
  rintro e w8 ⟨rfl, hb⟩
  have H8 := Lib.hid (H7.out.trans (hb.mono H7.out.size))
  clear hb CR y0 y1
  go_wp2
  go_ret
  exact ⟨rfl, H8.out⟩

end Acr
end Go.Proofs.Ytjmbccdcnmmhgaa
