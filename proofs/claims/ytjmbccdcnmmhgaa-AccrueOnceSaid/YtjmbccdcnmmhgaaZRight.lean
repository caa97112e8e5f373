/-
  Right of package step. Conditions: the rows read as lists of ints.
-/
import Derived.Test.YtjmbccdcnmmhgaaZBase
namespace Go.Proofs.Ytjmbccdcnmmhgaa
open Go.RowKit Stm
namespace Stp
set_option linter.unusedVariables false

theorem bx_ints {w w1 : World} {n m c d : Nat} {A V : Option Addr} {xs vs : List Int} (h : Sx w w.heap.size A n V m xs vs) : Sx (w.alloc (.cells #[.slice A n c, .slice V m d] 38)) w.heap.size A n V m xs vs :=
  h.below ((Below.refl _ _).alloc (Nat.le_refl _) _) (Nat.le_refl _)

set_option maxRecDepth 100000 in
set_option maxHeartbeats 1000000 in
theorem right_ne (A : Option Addr) (n c : Nat) (V : Option Addr) (m d : Nat) (xs vs : List Int) (w : World) (hS : Sx w w.heap.size A n V m xs vs) (h : n ≠ m) :
    Calls Try.prog 16 #[sg A n c V m d] w fun e w' => e = .returned (.bool (rg xs vs)) ∧ Below w.heap.size w w' := by
  rw [rg_ne (by rw [hS.a.1, hS.v.1]; exact h)]
  have t1 : ((n : Int) == (m : Int)) = false := by rw [beq_eq_false_iff_ne]; omega
  have t2 : (n == m) = false := by rw [beq_eq_false_iff_ne]; exact h
  have t3 : ((n : Int) != (m : Int)) = true := by rw [bne_iff_ne]; omega
  have t4 : (n != m) = true := by rw [bne_iff_ne]; exact h
  clear hS
  go_enter Try.func16, Try.ntmps16
  go_wp2
  go_ret
  exact ⟨rfl, (Below.refl _ _).alloc (Nat.le_refl _) _⟩

set_option maxRecDepth 100000 in
set_option maxHeartbeats 2000000 in
theorem right_eq (A : Option Addr) (n c : Nat) (V : Option Addr) (d : Nat) (xs vs : List Int) (w : World) (hS : Sx w w.heap.size A n V n xs vs) (hn : n ≤ 1000000) :
    Calls Try.prog 16 #[sg A n c V n d] w fun e w' => e = .returned (.bool (rg xs vs)) ∧ Below w.heap.size w w' := by
  rw [rg_eq (by rw [hS.a.1, hS.v.1])]
  have hzl : (xs.zip vs).length = n := by simp [hS.a.1, hS.v.1]
  have HL := Lib.hid hzl
  have CF := fun v w => Lib.hid (fits_ v w)
  have HS := Lib.hid (bx_ints (c := c) (d := d) (w1 := w) hS)
  have HSv := Lib.hid hS
  clear hS hzl
  obtain ⟨R, hR⟩ : ∃ R, rb 0 0 (xs.zip vs) = R := ⟨_, rfl⟩
  rw [hR]
  have HR := Lib.hid hR
  clear hR
  go_enter Try.func16, Try.ntmps16
  go_wp2
  go_loopw [3, 4, 17] (fun sd sh i w' => ∃ (k nd : Nat) (day held : Int), k ≤ n ∧ i = .int .i64 (k : Int) ∧ sd = .int .i64 day ∧ sh = .int .i64 held ∧ Hid (rb day held ((xs.zip vs).drop k) = R) ∧ w' = (w.alloc (.cells #[.slice A n c, .slice V n d] 38)).drewN nd) (fun _ _ i _ => n - (intOf i).toNat)
  case atStart => exact ⟨0, 0, 0, 0, Nat.zero_le _, rfl, rfl, rfl, HR, rfl⟩
  case round =>
    obtain ⟨k, nd, day, held, hk, rfl, rfl, rfl, HB, rfl⟩ := hrel
    by_cases hlt : k < n
    · obtain ⟨ad, x, rfl, hb, hx, hc⟩ := HS.out.a.get hlt
      obtain ⟨av, v, rfl, hbv, hv, hcv⟩ := HS.out.v.get hlt
      have HD := Lib.hid (drop_get (zip_get hx hv))
      have hlt2 : (k : Int) < (n : Int) := by omega
      have hxl : ad.block < w.heap.size := hb
      have hvl : av.block < w.heap.size := hbv
      clear hx hv
      by_cases g1 : x ≤ day
      · have t1 : decide (x ≤ day) = true := by simpa using g1
        have HF := Lib.hid (show R = false by rw [← HB.out, HD.out]; exact rb_no (fun h => by have := h.1; simp only at this; omega))
        clear g1
        go_wp2
        go_ret
        exact ⟨(by rw [HF.out]; rfl), below_drewN ((Below.refl _ _).alloc (Nat.le_refl _) _) _⟩
      · have t1 : decide (x ≤ day) = false := by simpa using g1
        by_cases g2 : 292194 < x
        · have t2 : decide (292194 < x) = true := by simpa using g2
          have HF := Lib.hid (show R = false by rw [← HB.out, HD.out]; exact rb_no (fun h => by have := h.2.1; simp only at this; omega))
          clear g1 g2
          go_wp2
          go_ret
          exact ⟨(by rw [HF.out]; rfl), below_drewN ((Below.refl _ _).alloc (Nat.le_refl _) _) _⟩
        · have t2 : decide (292194 < x) = false := by simpa using g2
          have CV := fun w => CF v w
          cases g3 : Stm.fits v
          · have HF := Lib.hid (show R = false by rw [← HB.out, HD.out]; exact rb_no (fun h => by have := h.2.2.1; simp only at this; rw [g3] at this; cases this))
            rw [g3] at CV
            clear g1 g2 g3 CF
            go_wp2_with (go_at_call 29; refine (CV _).out.mono ?_; rintro e w' ⟨rfl, rfl⟩)
            go_ret
            exact ⟨(by rw [HF.out]; rfl), below_drewN ((Below.refl _ _).alloc (Nat.le_refl _) _) _⟩
          · by_cases g4 : v = held
            · have t4 : (v == held) = true := by simpa using g4
              have HF := Lib.hid (show R = false by rw [← HB.out, HD.out]; exact rb_no (fun h => h.2.2.2 g4))
              rw [g3] at CV
              clear g1 g2 g3 g4 CF
              go_wp2_with (go_at_call 29; refine (CV _).out.mono ?_; rintro e w' ⟨rfl, rfl⟩)
              go_ret
              exact ⟨(by rw [HF.out]; rfl), below_drewN ((Below.refl _ _).alloc (Nat.le_refl _) _) _⟩
            · have t4 : (v == held) = false := by simpa using g4
              have HN := Lib.hid (show rb x v ((xs.zip vs).drop (k + 1)) = R by rw [← HB.out, HD.out]; exact (rb_yes (x := (x, v)) (by simp only; omega) (by simp only; omega) g3 g4).symm)
              rw [g3] at CV
              clear g1 g2 g3 g4 CF
              go_wp2_with (go_at_call 29; refine (CV _).out.mono ?_; rintro e w' ⟨rfl, rfl⟩)
              go_quiet (fail)
              go_wp2
              go_roundw
              case rel => exact ⟨k + 1, _, x, v, by omega, by go_num, rfl, rfl, HN, rfl⟩
              case measure => simp [intOf]; omega
    · have HF := Lib.hid (show R = true by rw [← HB.out, List.drop_of_length_le (by rw [HL.out]; omega)]; rfl)
      go_wp2
      go_ret
      exact ⟨(by rw [HF.out]; rfl), below_drewN ((Below.refl _ _).alloc (Nat.le_refl _) _) _⟩

theorem right (A : Option Addr) (n c : Nat) (V : Option Addr) (m d : Nat) (xs vs : List Int) (w : World) (hS : Sx w w.heap.size A n V m xs vs) (hn : n ≤ 1000000) :
    Calls Try.prog 16 #[sg A n c V m d] w fun e w' => e = .returned (.bool (rg xs vs)) ∧ Below w.heap.size w w' := by
  by_cases h : n = m
  · subst h; exact right_eq A n c V d xs vs w hS hn
  · exact right_ne A n c V m d xs vs w hS h

end Stp
end Go.Proofs.Ytjmbccdcnmmhgaa
