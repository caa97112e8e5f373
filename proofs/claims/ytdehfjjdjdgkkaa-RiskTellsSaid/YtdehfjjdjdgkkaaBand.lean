/-
  Band of package risk: searched from a label on, by goto. Conditions: the row reads as a list.
-/
import Derived.Test.YtdehfjjdjdgkkaaBands
import Derived.WalkMore
import Derived.ScopeJumps
namespace Go.Proofs.Ytdehfjjdjdgkkaa
open Go.RowKit Ba
namespace Rsk
set_option linter.unusedVariables false

/-- A scope whose label is come to at first, and by every jump. -/
theorem scope_from {P : Program} {a : Act} {w : World} {Q : Exit → Act → World → Prop} {c rest : Code} (l : Nat) (J : Act → World → Prop) (μ : Act → World → Nat) (hf : findLabel c l = some (.seq .skip rest))
    (first : Hid (∀ a w, J a w → rest.wp P (Exit.jump l J Q) a w) → c.wp P (Exit.jump l J Q) a w)
    (pass : ∀ a w, J a w → rest.wp P (Exit.jump l (fun a' w' => J a' w' ∧ μ a' w' < μ a w) Q) a w) : (Code.scope c).wp P Q a w :=
  wp_scope_jumps l J μ hf (first (Lib.hid fun a w h => wp_mono (pass a w h) fun e a w h => by
    cases e with
    | goto l' => exact ⟨h.1, h.2.1⟩
    | _ => exact h)) fun a w h => wp_seq (wp_skip (pass a w h))

set_option maxRecDepth 100000 in
set_option maxHeartbeats 2000000 in
theorem band (L : Option Addr) (m c : Nat) (ls : List Pr) (age : Int) (w : World) (ok : Nat → Prop) (hS : Lns w ok L m ls) (hm : m ≤ maxLen) :
    Calls Try.prog 14 #[.slice L m c, .int .i64 age] w fun e w' => e = .returned (.int .i64 (bnd age ls)) ∧ w = w' := by
  have hl := hS.1
  unfold maxLen at hm
  have HS := Lib.hid hS
  have HL := Lib.hid hl
  obtain ⟨R, hR⟩ : ∃ R, bnd age ls = R := ⟨_, rfl⟩
  rw [hR]
  have HR := Lib.hid hR
  clear hS hl hR
  go_enter Try.func14, Try.ntmps14
  go_wp2
  refine scope_from 0 (fun a' w' => w = w' ∧ ∃ (k : Nat) (u5 u6 u7 u8 u9 u10 u11 u12 u13 u14 u15 u16 u17 u18 : Value), a' = { tmps := #[.slice L m c, .int .i64 age, undef, undef, .int .i64 0, u5, u6, u7, u8, u9, u10, u11, u12, u13, u14, u15, u16, u17, u18, undef, undef, undef, undef, undef], defers := [] } ∧ u5 = .int .i64 (k : Int) ∧ k ≤ m ∧ Hid (bnd age (ls.drop k) = R)) (fun a' _ => m - (intOf (a'.tmps.getD 5 undef)).toNat) rfl (fun HP => ?_) ?_
  · go_wp2
    go_step3
    rename_i hK
    exact hK _ _ (HP.out _ _ ⟨rfl, 0, _, _, _, _, _, _, _, _, _, _, _, _, _, _, rfl, rfl, Nat.zero_le _, HR⟩)
  · rintro a' w' ⟨rfl, k, u5, u6, u7, u8, u9, u10, u11, u12, u13, u14, u15, u16, u17, u18, rfl, rfl, hk, HB⟩
    by_cases hlt : k < m
    · obtain ⟨ad, x, y, rfl, hb, hx, hc0, hc1⟩ := HS.out.get hlt
      have HD := Lib.hid (drop_get hx)
      have hlt2 : (k : Int) < (m : Int) := by omega
      have t0 : ((k : Int) == (m : Int)) = false := by rw [beq_eq_false_iff_ne]; omega
      have t0' : (k == m) = false := by rw [beq_eq_false_iff_ne]; omega
      clear hx hb
      by_cases h1 : x < age
      · have t1 : decide (x < age) = true := by simpa using h1
        have HN := Lib.hid (show bnd age (ls.drop (k + 1)) = R by rw [← HB.out, HD.out]; exact (bnd_up (x := (x, y)) h1).symm)
        clear h1
        go_wp2
        go_step3
        refine ⟨rfl, ⟨rfl, k + 1, _, _, _, _, _, _, _, _, _, _, _, _, _, _, rfl, by go_num, by omega, HN⟩, ?_⟩
        · simp [intOf]; omega
      · have t1 : decide (x < age) = false := by simpa using h1
        have HF := Lib.hid (show R = y by rw [← HB.out, HD.out]; exact bnd_at (x := (x, y)) h1)
        clear h1
        go_wp2
        simp only [Exit.jump]
        go_ret
        exact ⟨by rw [HF.out]; rfl, rfl⟩
    · have HF := Lib.hid (show R = 10000 by rw [← HB.out, List.drop_of_length_le (by rw [HL.out]; omega)]; rfl)
      have t0 : ((k : Int) == (m : Int)) = true := by rw [beq_iff_eq]; omega
      have t0' : (k == m) = true := by rw [beq_iff_eq]; omega
      go_wp2
      simp only [Exit.jump]
      go_ret
      exact ⟨by rw [HF.out]; rfl, rfl⟩
end Rsk
end Go.Proofs.Ytdehfjjdjdgkkaa
