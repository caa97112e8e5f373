/-
  What Upto, Written and Between are to tell, and the example. Conditions: those of each theorem.
-/
import Derived.Test.YtjmbccdcnmmhgaaSw
import Derived.Test.YtjmbccdcnmmhgaaAc
namespace Go.Proofs.Ytjmbccdcnmmhgaa
open Go.RowKit Ba Cv Sp Te Ag Sl Tm Slc
namespace Acr
set_option linter.unusedVariables false

def UpTo (w : World) (l : List Sc) (d : Int) (e : Ending) (w' : World) : Prop := e = .returned (.tuple #[.int .i64 (upv l d), .int .i64 (upc l d)]) ∧ Below w.heap.size w w'
def BtTo (w : World) (l : List Sc) (s : Sp) (e : Ending) (w' : World) : Prop := e = .returned (.tuple #[.int .i64 (btv l s), .int .i64 (btc l s)]) ∧ Below w.heap.size w w'
/-- Upto, Written and Between tell so. -/
def UpC : Prop := ∀ (A : Option Addr) (n c : Nat) (rs : List Rw) (d : Int) (w : World), Raws w (· < w.heap.size) A n rs → n ≤ 1100 → n ≤ c → (-9223372036854775808 ≤ d ∧ d ≤ 9223372036854775807) → Calls Try.prog 9 #[.slice A n c, .int .i64 d] w (UpTo w (rs.map Rw.v) d)
def WrC : Prop := ∀ (A : Option Addr) (n c : Nat) (rs : List Rw) (w : World), Raws w (· < w.heap.size) A n rs → n ≤ 1100 → n ≤ c → Calls Try.prog 8 #[.slice A n c] w (UpTo w (rs.map Rw.v) 292195)
def BtC : Prop := ∀ (A : Option Addr) (n c : Nat) (rs : List Rw) (s : Sp) (w : World), Raws w (· < w.heap.size) A n rs → n ≤ 1100 → n ≤ c → (-9223372036854775808 ≤ s.1 ∧ s.1 ≤ 9223372036854775807) → (-9223372036854775808 ≤ s.2 ∧ s.2 ≤ 9223372036854775807) → Calls Try.prog 11 #[.slice A n c, sg s] w (BtTo w (rs.map Rw.v) s)
def exr : Rw := ⟨⟨(1, 366), ⟨true, ⟨0, 0, 0, 0⟩, []⟩, 365⟩, none, 0, 0⟩
theorem ex1 : upv [exr.v] 1 = 0 ∧ upc [exr.v] 1 = 0 ∧ upv [exr.v] 11 = 10 ∧ upc [exr.v] 11 = 0 ∧ upv [exr.v] 292195 = 365 ∧ upc [exr.v] 292195 = 0 := by decide
theorem exraws (w : World) : Raws (w.alloc (.cells (vc exr) 49)) (· < (w.alloc (.cells (vc exr) 49)).heap.size) (some ⟨w.heap.size, 0, none⟩) 1 [exr] := (Own.one w exr).raws.keep (fun _ _ => rfl) fun b hb => hb.2
set_option maxRecDepth 100000 in
set_option maxHeartbeats 4000000 in
theorem awake14 (HU : UpC) (HR : WrC) (w : World) : Calls Try.prog 7 #[] w (Yes w true) := by
  obtain ⟨W, hW⟩ : ∃ W, w.alloc (.cells (vc exr) 49) = W := ⟨_, rfl⟩
  have hb0 : Below w.heap.size w W := hW ▸ alloc_ _ _
  have hr0 := exraws w
  rw [hW] at hr0
  have H0 := Lib.hid hb0
  have R0 := Lib.hid hr0
  have HW := Lib.hid (show w.alloc (.cells #[.int .i64 1, .int .i64 366, .bool true, .int .i64 0, .int .i64 0, .int .i64 0, .int .i64 0, .slice none 0 0, .int .i64 365] 49) = W from hW)
  have EX := Lib.hid ex1
  clear hW hb0 hr0
  go_enter Try.func7, Try.ntmps7
  go_upto_region 2 with fail
  rw [HW.out]
  clear HW
  have C1 := Lib.hid (HU _ 1 1 _ 1 W R0.out (by omega) (Nat.le_refl _) (by omega))
  go_wp2_with fail
  refine C1.out.mono ?_
  rintro e w1 ⟨rfl, hb⟩
  have H1 := Lib.hid (H0.out.trans (hb.mono H0.out.size))
  have R1 := Lib.hid (R0.out.below hb)
  clear hb C1
  have C1 := Lib.hid (HU _ 1 1 _ 11 w1 R1.out (by omega) (Nat.le_refl _) (by omega))
  go_wp2_with fail
  refine C1.out.mono ?_
  rintro e w2 ⟨rfl, hb⟩
  have H2 := Lib.hid (H1.out.trans (hb.mono H1.out.size))
  have R2 := Lib.hid (R1.out.below hb)
  clear hb C1 H1 R1
  have C1 := Lib.hid (HR _ 1 1 _ w2 R2.out (by omega) (Nat.le_refl _))
  go_wp2_with fail
  refine C1.out.mono ?_
  rintro e w3 ⟨rfl, hb⟩
  have H3 := Lib.hid (H2.out.trans (hb.mono H2.out.size))
  clear hb C1 H2 R2 H0 R0
  obtain ⟨e1, e2, e3, e4, e5, e6⟩ := EX.out
  rw [show [exr].map Rw.v = [exr.v] from rfl, e1, e2, e3, e4, e5, e6]
  clear e1 e2 e3 e4 e5 e6 EX
  go_wp2
  go_ret
  exact ⟨rfl, H3.out⟩
set_option maxRecDepth 100000 in
set_option maxHeartbeats 4000000 in
theorem walk_AccrueRises (HU : UpC) (HR : WrC) {w : World} (A : Option Addr) (n c : Nat) (rs : List Rw) (G : Raws w (· < w.heap.size) A n rs) (hm : n ≤ 140737488355328) (hf : n ≤ c) (a : Int) (ha : -9223372036854775808 ≤ a ∧ a ≤ 9223372036854775807) (b : Int) (hb : -9223372036854775808 ≤ b ∧ b ≤ 9223372036854775807) : Calls Try.prog 3 #[.slice A n c, .int .i64 a, .int .i64 b] w (Yes w true) := by
  have HG := Lib.hid G
  have HA := Lib.hid ha
  have HB := Lib.hid hb
  have HF := Lib.hid hf
  clear G ha hb hf
  have CA := Lib.hid (awake14 HU HR w)
  go_enter Try.func3, Try.ntmps3
  go_wp2_with fail
  refine CA.out.mono ?_
  rintro e w1 ⟨rfl, hb⟩
  have H1 := Lib.hid hb
  clear hb CA
  by_cases hn : n ≤ 100
  case neg =>
    have t1 : decide ((100 : Int) < (n : Int)) = true := decide_eq_true (by omega)
    go_wp2
    go_ret
    exact ⟨rfl, H1.out⟩
  have t1 : decide ((100 : Int) < (n : Int)) = false := decide_eq_false (by omega)
  by_cases hab : a ≤ b
  case neg =>
    have t2 : decide (b < a) = true := decide_eq_true (by omega)
    go_wp2
    go_ret
    exact ⟨rfl, H1.out⟩
  have t2 : decide (b < a) = false := decide_eq_false (by omega)
  have HN := Lib.hid (show n ≤ 1100 by omega)
  have HAB := Lib.hid hab
  clear hn hab
  have C1 := Lib.hid (HR A n c rs w1 (HG.out.below H1.out) HN.out HF.out)
  go_wp2_with fail
  refine C1.out.mono ?_
  rintro e w2 ⟨rfl, hb⟩
  have H2 := Lib.hid (H1.out.trans (hb.mono H1.out.size))
  clear hb C1 H1 t1 t2
  obtain ⟨x, hx⟩ : ∃ x, upv (rs.map Rw.v) 292195 = x := ⟨_, rfl⟩
  obtain ⟨k, hk⟩ : ∃ k, upc (rs.map Rw.v) 292195 = k := ⟨_, rfl⟩
  rw [hx, hk]
  by_cases h0 : k = 0
  case neg =>
    have t1 : decide (k = 0) = false := decide_eq_false h0
    have t2 : (k == 0) = false := beq_eq_false_iff_ne.2 h0
    have t3 : (k != 0) = true := bne_iff_ne.2 h0
    go_wp2
    go_ret
    exact ⟨rfl, H2.out⟩
  subst h0
  have HRS := Lib.hid (rises hk HAB.out)
  rw [hx] at HRS
  clear hx hk
  have C1 := Lib.hid (HU A n c rs a w2 (HG.out.below H2.out) HN.out HF.out HA.out)
  go_wp2_with fail
  refine C1.out.mono ?_
  rintro e w3 ⟨rfl, hb⟩
  have H3 := Lib.hid (H2.out.trans (hb.mono H2.out.size))
  clear hb C1 H2
  have C1 := Lib.hid (HU A n c rs b w3 (HG.out.below H3.out) HN.out HF.out HB.out)
  go_wp2_with fail
  refine C1.out.mono ?_
  rintro e w4 ⟨rfl, hb⟩
  have H4 := Lib.hid (H3.out.trans (hb.mono H3.out.size))
  clear hb C1 H3
  obtain ⟨e1, e2, e3, e4, e5⟩ := HRS.out
  rw [e1, e2]
  obtain ⟨p, hp⟩ : ∃ p, upv (rs.map Rw.v) a = p := ⟨_, rfl⟩
  obtain ⟨q, hq⟩ : ∃ q, upv (rs.map Rw.v) b = q := ⟨_, rfl⟩
  rw [hp] at e3 e4 ⊢
  rw [hq] at e4 e5 ⊢
  have t1 : decide ((0 : Int) ≤ p) = true := decide_eq_true e3
  have t2 : decide (p ≤ q) = true := decide_eq_true e4
  have t3 : decide (q ≤ x) = true := decide_eq_true e5
  clear hp hq e1 e2 e3 e4 e5 HRS
  go_wp2
  go_ret
  exact ⟨rfl, H4.out⟩

end Acr
end Go.Proofs.Ytjmbccdcnmmhgaa
