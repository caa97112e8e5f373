/-
  taken of package quote: parts taken one behind the other. Conditions: the row reads as a list of factors, the amount is a sum.
-/
import Derived.Test.YtinhhphnbbdoeaaOne
import Derived.WalkMore
import Derived.ScopeJumps
namespace Go.Proofs.Ytinhhphnbbdoeaa
open Go.RowKit Ba Tf Cv Qm
namespace Qo
set_option linter.unusedVariables false

theorem ev_all (x s : Nat) : Num.nums Num.nearB (x : Int) (s : Int) 10000 = if 4000000000000000000 < prt x s then (0, 5) else (prt x s, 0) := by
  have e : Num.quo Num.nearB x s 10000 = rnd (x * s) := by
    unfold Num.quo rnd Num.nearB
    by_cases h : 5000 < x * s % 10000 ∨ (x * s % 10000 = 5000 ∧ x * s / 10000 % 2 = 1)
    · rw [if_pos h, if_pos (by simp; omega)]
    · rw [if_neg h, if_neg (by simp; omega)]
  rw [prt_nat]
  by_cases h : 4000000000000000000 < ((rnd (x * s) : Nat) : Int)
  · rw [if_pos h]
    exact Num.nums_over (up := Num.nearB) (a := x) (b := s) (c := 10000) (by omega) (by rw [e]; omega)
  · rw [if_neg h]
    have k := Num.nums_ok (up := Num.nearB) (a := x) (b := s) (c := 10000) (by omega) (by rw [e]; omega)
    rw [e] at k
    exact k
theorem ev_over {x s : Int} (hx : 0 ≤ x) (hs : 0 ≤ s) (h : 4000000000000000000 < prt x s) : Num.evV x s 10000 = 0 ∧ Num.evE x s 10000 = 5 := by
  obtain ⟨x, rfl⟩ := Int.eq_ofNat_of_zero_le hx
  obtain ⟨s, rfl⟩ := Int.eq_ofNat_of_zero_le hs
  unfold Num.evV Num.evE
  rw [ev_all, if_pos h]
  exact ⟨rfl, rfl⟩
theorem ev_ok {x s : Int} (hx : 0 ≤ x) (hs : 0 ≤ s) (h : ¬ 4000000000000000000 < prt x s) : Num.evV x s 10000 = prt x s ∧ Num.evE x s 10000 = 0 := by
  obtain ⟨x, rfl⟩ := Int.eq_ofNat_of_zero_le hx
  obtain ⟨s, rfl⟩ := Int.eq_ofNat_of_zero_le hs
  unfold Num.evV Num.evE
  rw [ev_all, if_neg h]
  exact ⟨rfl, rfl⟩

/-- The number and the code that are told of what is taken. -/
def tkN : Option Int → Int
  | none => 0
  | some x => x
def tkE : Option Int → Int
  | none => 5
  | some _ => 0

set_option maxRecDepth 100000 in
set_option maxHeartbeats 2000000 in
theorem taken (L : Option Addr) (m c : Nat) (xs : List Int) (a : Int) (w : World) (hS : Ins w (· < w.heap.size) L m xs) (hm : m ≤ maxLen) (ha : 0 ≤ a ∧ a ≤ 4000000000000000000) (hx : ∀ x ∈ xs, 0 ≤ x ∧ x ≤ 100000) :
    Calls Try.prog 22 #[.int .i64 a, .slice L m c] w fun e w' => e = .returned (.tuple #[.int .i64 (tkN (tk a xs)), .int .i64 (tkE (tk a xs))]) ∧ Below w.heap.size w w' := by
  unfold maxLen at hm
  have HS := Lib.hid hS
  have HX := Lib.hid hx
  obtain ⟨R, hR⟩ : ∃ R, tk a xs = R := ⟨_, rfl⟩
  rw [hR]
  have HR := Lib.hid hR
  clear hS hR hx
  go_enter Try.func22, Try.ntmps22
  go_wp2
  go_step3
  go_wp2
  go_step3
  go_wp2
  go_loopw [0, 12] (fun s0 i w' => ∃ (k : Nat) (x : Int) (w1 : World), k ≤ m ∧ 0 ≤ x ∧ x ≤ 4000000000000000000 ∧ i = .int .i64 (k : Int) ∧ s0 = .int .i64 x ∧ w1 = w' ∧ Hid (tk x (xs.drop k) = R) ∧ Hid (Below w.heap.size w w1)) (fun _ i _ => m - (intOf i).toNat)
  case atStart => exact ⟨0, a, _, Nat.zero_le _, ha.1, ha.2, rfl, rfl, rfl, HR, Lib.hid (Below.refl _ _)⟩
  case round =>
    obtain ⟨k, x, w1, hk, hx0, hx1, rfl, rfl, rfl, HT, HB⟩ := hrel
    by_cases hlt : k < m
    · obtain ⟨ad, y, rfl, hb, hy, hc0⟩ := (HS.out.below HB.out).get hlt
      have HD := Lib.hid (drop_get hy)
      have hy2 := HX.out y (List.mem_of_getElem? hy)
      have hlt2 : (k : Int) < (m : Int) := by omega
      have C := fun w => Lib.hid (Num.bp x y w (by omega) (by omega))
      clear hy hb
      by_cases ho : 4000000000000000000 < prt x y
      · obtain ⟨e1, e2⟩ := ev_over hx0 hy2.1 ho
        rw [e1, e2] at C
        have HF := Lib.hid (show R = none by rw [← HT.out, HD.out, tk_over ho])
        clear e1 e2 ho hy2
        go_wp2_with (go_at_call 35; refine (C _).out.mono ?_; rintro e w2 ⟨rfl, hb2⟩; have HB2 := Lib.hid (HB.out.trans (hb2.mono HB.out.size)); clear hb2)
        simp only [Exit.noGoto]
        go_ret2
        exact ⟨by rw [HF.out]; rfl, HB2.out⟩
      · obtain ⟨e1, e2⟩ := ev_ok hx0 hy2.1 ho
        rw [e1, e2] at C
        have HN := Lib.hid (show tk (prt x y) (xs.drop (k + 1)) = R by rw [← HT.out, HD.out, tk_next ho])
        have hn := prt_nn x y
        clear e1 e2 hy2
        generalize prt x y = z at C HN ho hn
        by_cases hz : z = 0
        · have t1 : (z == 0) = true := by rw [beq_iff_eq]; exact hz
          have HF := Lib.hid (show R = some 0 by rw [← HN.out, hz, tk_zero])
          clear hz ho hn
          go_wp2_with (go_at_call 35; refine (C _).out.mono ?_; rintro e w2 ⟨rfl, hb2⟩; have HB2 := Lib.hid (HB.out.trans (hb2.mono HB.out.size)); clear hb2)
          simp only [Exit.noGoto]
          go_ret2
          exact ⟨by rw [HF.out]; rfl, HB2.out⟩
        · have t1 : (z == 0) = false := by rw [beq_eq_false_iff_ne]; exact hz
          have ho2 : z ≤ 4000000000000000000 := by omega
          clear hz ho
          go_wp2_with (go_at_call 35; refine (C _).out.mono ?_; rintro e w2 ⟨rfl, hb2⟩; have HB2 := Lib.hid (HB.out.trans (hb2.mono HB.out.size)); clear hb2)
          go_roundw
          case rel => exact ⟨k + 1, z, _, by omega, hn, ho2, by go_num, rfl, rfl, HN, HB2⟩
          case measure => simp [intOf]; omega
    · have HF := Lib.hid (show R = some x by rw [← HT.out, List.drop_of_length_le (by rw [HS.out.1]; omega)]; rfl)
      go_wp2
      simp only [Exit.noGoto]
      go_ret2
      exact ⟨by rw [HF.out]; rfl, HB.out⟩
end Qo
end Go.Proofs.Ytinhhphnbbdoeaa
