/-
  One entry: isAmount, formed, sum, amount, Right of package post; the document's Formed, Sum, of, Right. Conditions: the lines read as a list.
-/
import Derived.Test.YtheamhjgohacdaaBase
namespace Go.Proofs.Ytheamhjgohacdaa
open Go.RowKit Bk
namespace Pst
set_option linter.unusedVariables false

set_option maxHeartbeats 1000000 in
theorem isAmount (x : Int) (w : World) : Calls Try.prog 36 #[.int .i64 x] w fun e w' => e = .returned (.bool (okA x)) ∧ w = w' := by
  by_cases h1 : x = 0
  · have t1 : (x == 0) = true := by simpa using h1
    have t1' : (x != 0) = false := by simpa using h1
    rw [okA_no (by omega)]
    clear h1
    go_enter Try.func36, Try.ntmps36
    go_wp2
    go_ret
    exact ⟨rfl, rfl⟩
  · have t1 : (x == 0) = false := by simpa using h1
    have t1' : (x != 0) = true := by simpa using h1
    by_cases h2 : -1000000000000000 ≤ x
    · have t2 : decide (-1000000000000000 ≤ x) = true := by simpa using h2
      by_cases h3 : x ≤ 1000000000000000
      · have t3 : decide (x ≤ 1000000000000000) = true := by simpa using h3
        rw [(okA_iff x).2 ⟨h1, h2, h3⟩]
        clear h1 h2 h3
        go_enter Try.func36, Try.ntmps36
        go_wp2
        go_ret
        exact ⟨rfl, rfl⟩
      · have t3 : decide (x ≤ 1000000000000000) = false := by simpa using h3
        rw [okA_no (by omega)]
        clear h1 h2 h3
        go_enter Try.func36, Try.ntmps36
        go_wp2
        go_ret
        exact ⟨rfl, rfl⟩
    · have t2 : decide (-1000000000000000 ≤ x) = false := by simpa using h2
      rw [okA_no (by omega)]
      clear h1 h2
      go_enter Try.func36, Try.ntmps36
      go_wp2
      go_ret
      exact ⟨rfl, rfl⟩

abbrev Yes (w : World) (b : Bool) (e : Ending) (w' : World) : Prop := e = .returned (.bool b) ∧ Below w.heap.size w w'
abbrev Num (w : World) (x : Int) (e : Ending) (w' : World) : Prop := e = .returned (.int .i64 x) ∧ Below w.heap.size w w'

set_option maxRecDepth 100000 in
set_option maxHeartbeats 2000000 in
theorem formed_hd (d f : Int) (L : Option Addr) (m c : Nat) (ls : List Pr) (w : World) (hS : Lns w (· < w.heap.size) L m ls) (hh : ¬ (1 ≤ d ∧ d ≤ 292194 ∧ 0 ≤ f ∧ f ≤ 1000000000 ∧ 2 ≤ m ∧ m ≤ 9)) :
    Calls Try.prog 25 #[eg d f L m c] w (Yes w (fm ⟨d, f, ls⟩)) := by
  rw [fm_no (e := ⟨d, f, ls⟩) (by rw [show (⟨d, f, ls⟩ : En).ls.length = m from hS.1]; exact hh)]
  clear hS
  by_cases h1 : d < 1
  · have t1 : decide (d < 1) = true := by simpa using h1
    clear h1 hh
    go_enter Try.func25, Try.ntmps25
    go_wp2
    go_ret
    exact ⟨rfl, alloc_ _ _⟩
  · have t1 : decide (d < 1) = false := by simpa using h1
    by_cases h2 : 292194 < d
    · have t2 : decide (292194 < d) = true := by simpa using h2
      clear h1 h2 hh
      go_enter Try.func25, Try.ntmps25
      go_wp2
      go_ret
      exact ⟨rfl, alloc_ _ _⟩
    · have t2 : decide (292194 < d) = false := by simpa using h2
      by_cases h3 : f < 0
      · have t3 : decide (f < 0) = true := by simpa using h3
        clear h1 h2 h3 hh
        go_enter Try.func25, Try.ntmps25
        go_wp2
        go_ret
        exact ⟨rfl, alloc_ _ _⟩
      · have t3 : decide (f < 0) = false := by simpa using h3
        by_cases h4 : 1000000000 < f
        · have t4 : decide (1000000000 < f) = true := by simpa using h4
          clear h1 h2 h3 h4 hh
          go_enter Try.func25, Try.ntmps25
          go_wp2
          go_ret
          exact ⟨rfl, alloc_ _ _⟩
        · have t4 : decide (1000000000 < f) = false := by simpa using h4
          by_cases h5 : m < 2
          · have t5 : decide ((m : Int) < 2) = true := by simpa using (show (m : Int) < 2 by omega)
            have t5' : decide (m < 2) = true := by simpa using h5
            clear h1 h2 h3 h4 h5 hh
            go_enter Try.func25, Try.ntmps25
            go_wp2
            go_ret
            exact ⟨rfl, alloc_ _ _⟩
          · have t5 : decide ((m : Int) < 2) = false := by simpa using (show ¬ (m : Int) < 2 by omega)
            have t6 : decide (9 < (m : Int)) = true := by simpa using (show 9 < (m : Int) by omega)
            have t6' : decide (9 < m) = true := by simpa using (show 9 < m by omega)
            clear h1 h2 h3 h4 h5 hh
            go_enter Try.func25, Try.ntmps25
            go_wp2
            go_ret
            exact ⟨rfl, alloc_ _ _⟩

set_option maxRecDepth 100000 in
set_option maxHeartbeats 2000000 in
theorem formed_ln (d f : Int) (L : Option Addr) (m c : Nat) (ls : List Pr) (w : World) (hS : Lns w (· < w.heap.size) L m ls) (hh : 1 ≤ d ∧ d ≤ 292194 ∧ 0 ≤ f ∧ f ≤ 1000000000 ∧ 2 ≤ m ∧ m ≤ 9) :
    Calls Try.prog 25 #[eg d f L m c] w (Yes w (fm ⟨d, f, ls⟩)) := by
  have hl := hS.1
  rw [fm_yes (e := ⟨d, f, ls⟩) (by rw [show (⟨d, f, ls⟩ : En).ls.length = m from hS.1]; exact hh)]
  show Calls _ _ _ _ (Yes w (lnB 0 ls))
  obtain ⟨g1, g2, g3, g4, g5, g6⟩ := hh
  have t1 : decide (d < 1) = false := by simpa using (show ¬ d < 1 by omega)
  have t2 : decide (292194 < d) = false := by simpa using (show ¬ 292194 < d by omega)
  have t3 : decide (f < 0) = false := by simpa using (show ¬ f < 0 by omega)
  have t4 : decide (1000000000 < f) = false := by simpa using (show ¬ 1000000000 < f by omega)
  have t5 : decide ((m : Int) < 2) = false := by simpa using (show ¬ (m : Int) < 2 by omega)
  have t6 : decide (9 < (m : Int)) = false := by simpa using (show ¬ 9 < (m : Int) by omega)
  have HS := Lib.hid hS
  have HL := Lib.hid hl
  have CA := fun x w => Lib.hid (isAmount x w)
  obtain ⟨R, hR⟩ : ∃ R, lnB 0 ls = R := ⟨_, rfl⟩
  rw [hR]
  have HR := Lib.hid hR
  clear hS hl hR g1 g2 g3 g4
  go_enter Try.func25, Try.ntmps25
  go_wp2
  go_loopw [3, 5, 37] (fun sl s5 i w' => ∃ (k : Nat) (last : Int) (w1 : World), k ≤ m ∧ i = .int .i64 (k : Int) ∧ sl = .int .i64 last ∧ w1 = w' ∧ Hid (lnB last (ls.drop k) = R) ∧ Hid (Below w.heap.size w w1)) (fun _ _ i _ => m - (intOf i).toNat)
  case atStart => exact ⟨0, 0, _, Nat.zero_le _, rfl, rfl, rfl, HR, Lib.hid (alloc_ _ _)⟩
  case round =>
    obtain ⟨k, last, w1, hk, rfl, rfl, rfl, HB, HW⟩ := hrel
    by_cases hlt : k < m
    · obtain ⟨ad, x, y, rfl, hb, hx, hc0, hc1⟩ := (HS.out.keep (ok' := (· < w.heap.size)) (fun p hp => HW.out.cell hp) fun _ h => h).get hlt
      have HD := Lib.hid (drop_get hx)
      have hlt2 : (k : Int) < (m : Int) := by omega
      have hxl : ad.block < w1.heap.size := by have := HW.out.size; omega
      clear hx hb
      by_cases e1 : x ≤ last
      · have t7 : decide (x ≤ last) = true := by simpa using e1
        have HF := Lib.hid (show R = false by rw [← HB.out, HD.out]; exact lnB_no (fun h => by have := h.1; simp only at this; omega))
        clear e1
        go_wp2
        go_ret
        exact ⟨by rw [HF.out]; rfl, HW.out.alloc HW.out.size _⟩
      · have t7 : decide (x ≤ last) = false := by simpa using e1
        by_cases e2 : 9 < x
        · have t8 : decide (9 < x) = true := by simpa using e2
          have HF := Lib.hid (show R = false by rw [← HB.out, HD.out]; exact lnB_no (fun h => by have := h.2.1; simp only at this; omega))
          clear e1 e2
          go_wp2
          go_ret
          exact ⟨by rw [HF.out]; rfl, HW.out.alloc HW.out.size _⟩
        · have t8 : decide (9 < x) = false := by simpa using e2
          have CV := fun w => CA y w
          cases e3 : okA y
          · rw [e3] at CV
            have HF := Lib.hid (show R = false by rw [← HB.out, HD.out]; exact lnB_no (fun h => by have := h.2.2; simp only at this; rw [e3] at this; cases this))
            clear e1 e2 e3 CA
            go_wp2_with (go_at_call 36; refine (CV _).out.mono ?_; rintro e w' ⟨rfl, rfl⟩)
            go_ret
            exact ⟨by rw [HF.out]; rfl, HW.out.alloc HW.out.size _⟩
          · rw [e3] at CV
            have HN := Lib.hid (show lnB x (ls.drop (k + 1)) = R by rw [← HB.out, HD.out]; exact (lnB_yes (l := (x, y)) (by simp only; omega) (by simp only; omega) e3).symm)
            clear e1 e2 e3 CA
            go_wp2_with (go_at_call 36; refine (CV _).out.mono ?_; rintro e w' ⟨rfl, rfl⟩)
            go_roundw
            case rel => exact ⟨k + 1, x, _, by omega, by go_num, rfl, rfl, HN, Lib.hid (HW.out.alloc HW.out.size _)⟩
            case measure => simp [intOf]; omega
    · have HF := Lib.hid (show R = true by rw [← HB.out, List.drop_of_length_le (by rw [HL.out]; omega)]; rfl)
      go_wp2
      go_ret
      exact ⟨by rw [HF.out]; rfl, HW.out⟩

theorem formed (d f : Int) (L : Option Addr) (m c : Nat) (ls : List Pr) (w : World) (hS : Lns w (· < w.heap.size) L m ls) :
    Calls Try.prog 25 #[eg d f L m c] w (Yes w (fm ⟨d, f, ls⟩)) := by
  by_cases hh : 1 ≤ d ∧ d ≤ 292194 ∧ 0 ≤ f ∧ f ≤ 1000000000 ∧ 2 ≤ m ∧ m ≤ 9
  · exact formed_ln d f L m c ls w hS hh
  · exact formed_hd d f L m c ls w hS hh

end Pst
end Go.Proofs.Ytheamhjgohacdaa
