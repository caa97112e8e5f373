/-
  The document's own answers of layer 2: Of, First, In. Conditions: those of each theorem.
-/
import Derived.Test.YtncndofhecdgnaaDoorRef
namespace Go.Proofs.YtncndofhecdgnaaDoor
open Go.RowKit Cal
namespace Day
set_option linter.unusedVariables false

theorem rof_no (n : Int) (w : World) (h : n < 1 ∨ 292194 < n) :
    Calls Tryd.prog 44 #[.int .i64 n] w fun e w' => e = .returned (.tuple #[.agg #[.int .i64 0, .int .i64 0, .int .i64 0], .int .i64 3]) ∧ Below w.heap.size w w' := by
  rcases h with h | h
  · go_enter Tryd.func44, Tryd.ntmps44
    go_wp2
    refine bodyPost_ret (v := .tuple #[.agg #[.int .i64 0, .int .i64 0, .int .i64 0], .int .i64 3]) (by simp [results, Tryd.results44, go_sem]) rfl ⟨rfl, ?_⟩
    exact (Below.refl _ _).alloc (Nat.le_refl _) _
  · have h1 : 1 ≤ n := by omega
    go_enter Tryd.func44, Tryd.ntmps44
    go_wp2
    refine bodyPost_ret (v := .tuple #[.agg #[.int .i64 0, .int .i64 0, .int .i64 0], .int .i64 3]) (by simp [results, Tryd.results44, go_sem]) rfl ⟨rfl, ?_⟩
    exact (Below.refl _ _).alloc (Nat.le_refl _) _

set_option maxHeartbeats 2000000 in
theorem rof_yes (n y m d : Int) (w : World) (h : Ymd n y m d) :
    Calls Tryd.prog 44 #[.int .i64 n] w fun e w' => e = .returned (.tuple #[.agg #[.int .i64 y, .int .i64 m, .int .i64 d], .int .i64 0]) ∧ Below w.heap.size w w' := by
  obtain ⟨n1, n2⟩ := h.day
  obtain ⟨u1, u2, u3, u4⟩ := h.up
  have y1 := h.y1
  have y2 := h.y2
  have m1 := h.m1
  have m2 := h.m2
  have d1 := h.d1
  have d2 := h.d2
  have heq := Lib.hid h.eq
  have hl := ml_bd y m
  have cb := cm_bd (y := y) m1 (by omega : m ≤ 13)
  have hl1 := da_lo y1
  have hl2 := da_hi y1
  clear h
  go_enter Tryd.func44, Tryd.ntmps44
  go_wp2
  go_loop [0, 4] (fun s k => ∃ z : Int, 1601 ≤ z ∧ z ≤ y ∧ k = .int .i64 z ∧ s = .int .i64 (n - da z)) (fun _ k => (y - intOf k).toNat)
  case atStart => exact ⟨1601, by omega, by omega, rfl, by rw [da_1601]; simp⟩
  case round =>
    obtain ⟨z, z1, z2, rfl, rfl⟩ := hrel
    have dz1 := da_lo z1
    have dz2 := da_hi z1
    have hs := da_succ z
    have hy := yl_lb z
    have hb := lb_bd z
    have yb : 365 ≤ yl z ∧ yl z ≤ 366 := by omega
    obtain ⟨yb1, yb2⟩ := yb
    clear hy hb
    by_cases hc : z < y
    · have hm := da_mono (a := z + 1) (b := y) (by omega) (by omega)
      have t : decide (yl z < n - da z) = true := by simp; omega
      have cs := Lib.hid hs
      clear hs hm
      go_wp2_with (go_at_call 54; refine (ryear _ _).mono ?_; rintro e w' ⟨rfl, rfl⟩)
      go_round
      case rel => exact ⟨z + 1, by omega, by omega, rfl, by rw [cs.out]; go_num⟩
      case measure => simp [intOf]; omega
    · obtain rfl : y = z := by omega
      have t : decide (yl y < n - da y) = false := by simp; omega
      clear hc hs
      go_wp2_with (go_at_call 54; refine (ryear _ _).mono ?_; rintro e w' ⟨rfl, rfl⟩)
      go_loop [0, 5] (fun s k => ∃ z : Int, 1 ≤ z ∧ z ≤ m ∧ k = .int .i64 z ∧ s = .int .i64 (n - da y - cm y z)) (fun _ k => (m - intOf k).toNat)
      case atStart => exact ⟨1, by omega, by omega, rfl, by rw [cm_1]; simp⟩
      case round =>
        obtain ⟨z, z1, z2, rfl, rfl⟩ := hrel
        have cz := cm_bd (y := y) z1 (by omega : z ≤ 13)
        have cs := cm_succ (y := y) z1 (by omega : z ≤ 12)
        have lz := ml_bd y z
        by_cases hc : z < m
        · have hm := cm_mono (y := y) (a := z + 1) (b := m) (by omega) (by omega) (by omega)
          have hE := heq.out
          have t : decide (ml y z < n - da y - cm y z) = true := by simp; omega
          have CS := Lib.hid cs
          clear hm hE cs
          go_wp2_with (go_at_call 45; refine (rmonth _ _ _).mono ?_; rintro e w' ⟨rfl, rfl⟩)
          go_round
          case rel => exact ⟨z + 1, by omega, by omega, rfl, by rw [CS.out]; go_num⟩
          case measure => simp [intOf]; omega
        · obtain rfl : m = z := by omega
          have hE := heq.out
          have t : decide (ml y m < n - da y - cm y m) = false := by simp; omega
          have eD : n - da y - cm y m = d := by omega
          clear hE cs hc
          go_wp2_with (go_at_call 45; refine (rmonth _ _ _).mono ?_; rintro e w' ⟨rfl, rfl⟩)
          exact bodyPost_ret (v := .tuple #[.agg #[.int .i64 y, .int .i64 m, .int .i64 d], .int .i64 0]) (by simp [results, Tryd.results44, go_sem]) rfl ⟨rfl, (Below.refl _ _).alloc (Nat.le_refl _) _⟩

/-- A year's first day, or 0; or 3. -/
def fiV (y : Int) : Int := if 1601 ≤ y ∧ y ≤ 2401 then da y + 1 else 0
def fiE (y : Int) : Int := if 1601 ≤ y ∧ y ≤ 2401 then 0 else 3
end Day
end Go.Proofs.YtncndofhecdgnaaDoor
