/-
  earned: what the days ahead of a day cost. Conditions: those of each theorem.
-/
import Derived.Test.YtjmbccdcnmmhgaaAcC
namespace Go.Proofs.Ytjmbccdcnmmhgaa
open Go.RowKit Ba Cv Sp Te Ag Sl Tm Slc
namespace Acr
set_option linter.unusedVariables false

theorem quo_hf (n : Nat) : Num.quo Num.nearB n 1 365 = (n + 182) / 365 := by
  unfold Num.quo Num.nearB
  rw [Nat.mul_one]
  have h1 := Nat.div_add_mod n 365
  have h2 := Nat.mod_lt n (show 0 < 365 by omega)
  generalize n / 365 = q at h1 ⊢
  generalize n % 365 = r at h1 h2 ⊢
  by_cases h : 365 < 2 * r
  · simp [h]; omega
  · have h3 : ¬ 365 = 2 * r := by omega
    simp [h, h3]; omega
theorem even_hf {n : Int} (h0 : 0 ≤ n) (h1 : n ≤ 4000000000000000000) : Num.evV n 1 365 = hf n := by
  obtain ⟨m, rfl⟩ := Int.eq_ofNat_of_zero_le h0
  unfold Num.evV
  rw [show (1 : Int) = ((1 : Nat) : Int) from rfl, show (365 : Int) = ((365 : Nat) : Int) from rfl, Num.nums_ok (by omega) (by rw [quo_hf]; omega), quo_hf]
  unfold hf
  simp only
  omega
/-- What earned tells. -/
def EaTo (w : World) (x : Int) (e : Ending) (w' : World) : Prop := (x ≤ 4000000000000000000 ∧ e = .returned (.int .i64 (hf x)) ∨ 4000000000000000000 < x ∧ e = pnc 5) ∧ Below w.heap.size w w'
theorem ern_min {l : List Sc} {day : Int} (h : Rr 1 l) : ern l (min day 292195) = ern l day := by
  rcases Int.le_total day 292195 with h1 | h1
  · rw [Int.min_eq_left h1]
  · rw [Int.min_eq_right h1, ern_hi (fun x hx => (h.mem x hx).2.2.1) h1]
set_option maxRecDepth 100000 in
set_option maxHeartbeats 4000000 in
theorem earned_ (w : World) (A : Option Addr) (n c : Nat) (V : Option Addr) (d : Nat) (l : List Sc) (ps : List Stm.Pr) (day : Int) (hS : Stp.Sr w w.heap.size A V n ps) (hn : n ≤ 10000) (hC : Crv l ps) (hr : Rr 1 l) (hd : -9223372036854775808 ≤ day ∧ day ≤ 9223372036854775807) :
    Calls Try.prog 19 #[Stp.sg A n c V n d, .int .i64 day] w (EaTo w (ern l day)) := by
  by_cases h2 : day < 2
  · have t1 : decide (day < 2) = true := decide_eq_true h2
    rw [ern_lo hr (by omega)]
    clear hS hC hr hd h2 hn
    go_enter Try.func19, Try.ntmps19
    go_wp2
    go_ret
    exact ⟨.inl ⟨by decide, rfl⟩, alloc_ _ _⟩
  · have t1 : decide (day < 2) = false := decide_eq_false h2
    obtain ⟨t, ht⟩ : ∃ t, min day 292195 = t := ⟨_, rfl⟩
    have ht1 : 2 ≤ t := by omega
    have ht2 : t ≤ 292195 := by omega
    have hx := ern_min (day := day) hr
    rw [ht] at hx
    rw [← hx]
    obtain ⟨h3, h4⟩ := hC.upto hr (t := t) (by omega) ht2
    obtain ⟨x, hx2⟩ : ∃ x, ern l t = x := ⟨_, rfl⟩
    have hx0 : 0 ≤ x := by rw [← hx2]; exact ern_nonneg hr
    rw [hx2] at h3 h4 ⊢
    obtain ⟨W, hW⟩ : ∃ W, w.alloc (.cells #[.slice A n c, .slice V n d] 38) = W := ⟨_, rfl⟩
    have HB := Lib.hid (show Below w.heap.size w W from hW ▸ alloc_ _ _)
    have HX := Lib.hid (show Stp.Bx W w.heap.size 38 (.slice A n c) (.slice V n d) from hW ▸ Stp.Bx.new w _ _ _)
    have CS := Lib.hid (Stp.sum_yes A n c V d ps (1, t) W (hS.keep_ HB.out) hn hC.1 ((Stm.full_iff _).2 ⟨Int.le_refl _, by show (1 : Int) < t; omega, ht2⟩))
    rw [show Stm.pieces (Stm.val 0 ps) (Stm.cuts (1, t) ps) (1, t).2 = Stm.PL ps (1, t) from rfl] at CS
    have HW := Lib.hid hW
    have HT := Lib.hid ht
    have c0 := HX.out.c0
    have c1 := HX.out.c1
    by_cases ho : x ≤ 4000000000000000000
    · rw [Stm.sv_ok (by rw [h4]; exact ho), Stm.se_ok (by rw [h4]; exact ho), h3] at CS
      have CN := fun w => Lib.hid (need_yes 0 w)
      have CE := fun w => Lib.hid (Num.even x 1 365 w (by omega) (by omega) (by omega))
      rw [even_hf hx0 ho] at CE
      clear hS hC hr hd h2 hn hx hW h3 h4 hx2
      go_enter Try.func19, Try.ntmps19
      go_upto_region 1 with fail
      rw [HW.out]
      go_wp2_with fail
      refine CS.out.mono ?_
      rintro e' w1 ⟨rfl, hb1⟩
      have H1 := Lib.hid (HB.out.trans (hb1.mono HB.out.size))
      clear hb1 CS c0 c1
      go_wp2_with (go_at_call 22; refine (CN _).out.mono ?_; rintro e w' ⟨rfl, rfl⟩)
      refine (CE _).out.mono ?_
      rintro e' w2 ⟨rfl, hb2⟩
      have H2 := Lib.hid (H1.out.trans (hb2.mono H1.out.size))
      clear hb2 CE
      go_wp2
      go_ret
      exact ⟨.inl ⟨ho, rfl⟩, H2.out⟩
    · rw [Stm.sv_no (by rw [h4]; omega), Stm.se_no (by rw [h4]; omega)] at CS
      have CN := fun w => Lib.hid (need_no 5 w)
      clear hS hC hr hd h2 hn hx hW h3 h4 hx2
      go_enter Try.func19, Try.ntmps19
      go_upto_region 1 with fail
      rw [HW.out]
      go_wp2_with fail
      refine CS.out.mono ?_
      rintro e' w1 ⟨rfl, hb1⟩
      have H1 := Lib.hid (HB.out.trans (hb1.mono HB.out.size))
      clear hb1 CS c0 c1
      go_wp2_with fail
      refine (CN _).out.mono ?_
      rintro e' w2 ⟨rfl, rfl⟩
      go_wp2
      exact ⟨rfl, .inr ⟨by omega, rfl⟩, H1.out⟩

end Acr
end Go.Proofs.Ytjmbccdcnmmhgaa
