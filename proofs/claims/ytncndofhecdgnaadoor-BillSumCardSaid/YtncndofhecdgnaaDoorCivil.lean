/-
  package day: the year and the calendar's day of a number, a day's number. Conditions: those of each theorem (numbers of 64 bits; the table of months reads as it is laid).
-/
import Derived.Test.YtncndofhecdgnaaDoorDay
namespace Go.Proofs.YtncndofhecdgnaaDoor
open Go.RowKit Cal
namespace Day
set_option linter.unusedVariables false

theorem bcell {W w1 : World} (hb : Below W.heap.size W w1) : (∀ b o, b < W.heap.size → w1.cell? ⟨b, o, none⟩ = W.cell? ⟨b, o, none⟩) ∧ (∀ b o, b < W.heap.size → w1.frozen? ⟨b, o, none⟩ = W.frozen? ⟨b, o, none⟩) :=
  ⟨fun b o h => hb.cell (p := ⟨b, o, none⟩) h, fun b o h => hb.frozen (p := ⟨b, o, none⟩) h⟩

theorem guess {n y : Int} (h1 : 1 ≤ n) (y1 : 1601 ≤ y) (h : n ≤ da (y + 1)) : 1601 + (n - 1) / 366 ≤ y := by
  have := da_hi (y := y + 1) (by omega)
  omega

set_option maxHeartbeats 1000000 in
theorem yearOf (n y : Int) (w : World) (h1 : 1 ≤ n) (h2 : n ≤ 292194) (y1 : 1601 ≤ y) (y2 : y ≤ 2400) (ha : da y < n) (hb : n ≤ da (y + 1)) :
    Calls Tryd.prog 47 #[.int .i64 n] w fun e w' => e = .returned (.int .i64 y) ∧ w = w' := by
  have g := guess h1 y1 hb
  go_enter Tryd.func47, Tryd.ntmps47
  go_wp2
  go_loop [3] (fun t => ∃ z : Int, 1601 ≤ z ∧ z ≤ y ∧ t = .int .i64 z) (fun t => (y - intOf t).toNat)
  case atStart => exact ⟨_, by omega, g, rfl⟩
  case round =>
    obtain ⟨z, z1, z2, rfl⟩ := hrel
    have hz := da_hi (y := z + 1) (by omega)
    have hz' := da_lo (y := z + 1) (by omega)
    by_cases hc : z < y
    · have hm := da_mono (a := z + 1) (b := y) (by omega) (by omega)
      have t : decide (da (z + 1) < n) = true := by simp; omega
      clear hm hz hz'
      go_wp2_with (go_at_call 48; refine (daysAhead _ _ (by omega) (by omega)).mono ?_; rintro e w' ⟨rfl, rfl⟩)
      go_round
      case rel => exact ⟨z + 1, by omega, by omega, rfl⟩
      case measure => simp [intOf]; omega
    · obtain rfl : y = z := by omega
      have t : decide (da (y + 1) < n) = false := by simp; omega
      clear hz hz'
      go_wp2_with (go_at_call 48; refine (daysAhead _ _ (by omega) (by omega)).mono ?_; rintro e w' ⟨rfl, rfl⟩)
      go_ret
      exact ⟨rfl, rfl⟩

set_option maxHeartbeats 2000000 in
theorem civil (n y m d : Int) (w : World) (hT : Tab w) (h : Ymd n y m d) :
    Calls Tryd.prog 37 #[.int .i64 n] w fun e w' => e = .returned (.agg #[.int .i64 y, .int .i64 m, .int .i64 d]) ∧ Below w.heap.size w w' := by
  obtain ⟨n1, n2⟩ := h.day
  obtain ⟨u1, u2, u3, u4⟩ := h.up
  have y1 := h.y1
  have y2 := h.y2
  have m1 := h.m1
  have m2 := h.m2
  have d1 := h.d1
  have d2 := h.d2
  have heq := Lib.hid h.eq
  have hl := ml_bd y m
  have cb := cm_bd (y := y) m1 (by omega : m ≤ 13)
  have cY := fun w => Lib.hid (yearOf n y w n1 n2 y1 y2 u1 u2)
  have cD := fun w => Lib.hid (daysAhead y w y1 (by omega))
  have hl1 := da_lo y1
  have hl2 := da_hi y1
  have HT := Lib.hid hT
  clear h hT
  go_enter Tryd.func37, Tryd.ntmps37
  go_wp2_with (first | (go_at_call 47; refine (cY _).out.mono ?_; rintro e w' ⟨rfl, rfl⟩) | (go_at_call 48; refine (cD _).out.mono ?_; rintro e w' ⟨rfl, rfl⟩))
  go_loop [4, 5] (fun k r => ∃ z : Int, 1 ≤ z ∧ z ≤ m ∧ k = .int .i64 z ∧ r = .int .i64 (n - da y - cm y z)) (fun k _ => (m - intOf k).toNat)
  case atStart => exact ⟨1, by omega, by omega, rfl, by rw [cm_1]; simp⟩
  case round =>
    obtain ⟨z, z1, z2, rfl, rfl⟩ := hrel
    have cz := cm_bd (y := y) z1 (by omega : z ≤ 13)
    have cs := cm_succ (y := y) z1 (by omega : z ≤ 12)
    have lz := ml_bd y z
    have cM := fun w hT => Lib.hid (monthLength y z w hT z1 (by omega))
    by_cases hc : z < m
    · have hm := cm_mono (y := y) (a := z + 1) (b := m) (by omega) (by omega) (by omega)
      have hE := heq.out
      have t : decide (ml y z < n - da y - cm y z) = true := by simp; omega
      have CS := Lib.hid cs
      clear hm hE cs
      go_wp2_with (go_at_call 39; refine (cM _ (HT.out.alloc _)).out.mono ?_; rintro e w' ⟨rfl, rfl⟩)
      go_round
      case rel => exact ⟨z + 1, by omega, by omega, rfl, by rw [CS.out]; go_num⟩
      case measure => simp [intOf]; omega
    · obtain rfl : m = z := by omega
      have hE := heq.out
      have t : decide (ml y m < n - da y - cm y m) = false := by simp; omega
      have eD : n - da y - cm y m = d := by omega
      clear hE cs hc
      go_wp2_with (go_at_call 39; refine (cM _ (HT.out.alloc _)).out.mono ?_; rintro e w' ⟨rfl, rfl⟩)
      exact bodyPost_ret (v := .agg #[.int .i64 y, .int .i64 m, .int .i64 d]) (by simp [results, Tryd.results37, go_sem]) rfl ⟨rfl, (Below.refl _ _).alloc (Nat.le_refl _) _⟩

end Day
end Go.Proofs.YtncndofhecdgnaaDoor
