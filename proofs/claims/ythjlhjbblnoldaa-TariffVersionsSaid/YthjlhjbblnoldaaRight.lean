/-
  Right of package tariff. Conditions: the version's lists read as lists, and are short.
-/
import Derived.Test.YthjlhjbblnoldaaVer
namespace Go.Proofs.Ythjlhjbblnoldaa
open Go.RowKit Ba Tf
namespace Trf
set_option linter.unusedVariables false

set_option maxRecDepth 100000 in
set_option maxHeartbeats 4000000 in
theorem right_ (A : Option Addr) (n c : Nat) (rs : List Rw) (w : World) (hS : Vers w A n rs) (hn : n ≤ 1000) :
    Calls Try.prog 12 #[tg A n c] w (Yes w (rgt (rs.map Rw.v))) := by
  have hl := hS.len
  by_cases hf : 100 < n
  · rw [rgt_far (by omega)]
    have t1 : decide (100 < (n : Int)) = true := decide_eq_true (by omega)
    have t1' : decide (100 < n) = true := decide_eq_true hf
    clear hS hl hf
    go_enter Try.func12, Try.ntmps12
    go_wp2
    go_ret
    exact ⟨rfl, alloc_ _ _⟩
  rw [rgt_near (by omega)]
  have t1 : decide (100 < (n : Int)) = false := decide_eq_false (by omega)
  have t1' : decide (100 < n) = false := decide_eq_false hf
  have HS := Lib.hid hS
  have HL := Lib.hid hl
  obtain ⟨R, hR⟩ : ∃ R, rise 0 (rs.map Rw.v) = R := ⟨_, rfl⟩
  rw [hR]
  have HR := Lib.hid hR
  have HA := Lib.hid (alloc_ w (.cells #[.slice A n c] 29))
  clear hS hl hR hf
  go_enter Try.func12, Try.ntmps12
  go_wp2
  go_loopw [3, 5, 13] (fun sl s5 i w' => ∃ (k : Nat) (last : Int) (w1 : World), k ≤ n ∧ i = .int .i64 (k : Int) ∧ sl = .int .i64 last ∧ w1 = w' ∧ Hid (rise last ((rs.map Rw.v).drop k) = R) ∧ Hid (Below w.heap.size w w1)) (fun _ _ i _ => n - (intOf i).toNat)
  case atStart => exact ⟨0, 0, _, Nat.zero_le _, rfl, rfl, rfl, HR, HA⟩
  case round =>
    obtain ⟨k, last, w1, hk, rfl, rfl, rfl, HB, HW⟩ := hrel
    by_cases hlt : k < n
    · obtain ⟨ad, r, rfl, hb, hx, hN, hM, hSm⟩ := (HS.out.below HW.out).get hlt
      have HD := Lib.hid (drop_get (map_get hx))
      have hlt2 : (k : Int) < (n : Int) := by omega
      obtain ⟨c0, c1, c2, c3, c4, c5, c6, c7, c8⟩ := hN
      have HW2 := Lib.hid (HW.out.alloc HW.out.size (.cells (vc r) 26))
      by_cases h1 : r.v.fr ≤ last
      · have q1 : decide (r.v.fr ≤ last) = true := decide_eq_true h1
        have HF := Lib.hid (show R = false by rw [← HB.out, HD.out]; exact rise_no1 h1)
        clear h1 hx hM hSm
        go_wp2
        go_ret
        exact ⟨by rw [HF.out]; rfl, HW2.out⟩
      · have q1 : decide (r.v.fr ≤ last) = false := decide_eq_false h1
        have C := Lib.hid (version_ r (w1.alloc (.cells (vc r) 26)) (hM.below (alloc_ _ _)) hSm)
        have HX := Lib.hid (Bx.new w1 26 (vc r))
        cases t2 : ver r.v
        · have HF := Lib.hid (show R = false by rw [← HB.out, HD.out]; exact rise_no2 t2)
          rw [t2] at C
          clear h1 hx hM hSm t2
          go_wp2_with (go_at_call 10; (with_reducible refine C.out.mono ?_); rintro e w2 ⟨rfl, hb2⟩; have HW3 := Lib.hid (HW2.out.trans (hb2.mono HW2.out.size)); clear hb2)
          go_ret
          exact ⟨by rw [HF.out]; rfl, HW3.out⟩
        · have HN := Lib.hid (show rise r.v.fr ((rs.map Rw.v).drop (k + 1)) = R by rw [← HB.out, HD.out]; exact (rise_yes h1 t2).symm)
          rw [t2] at C
          clear h1 hx hM hSm t2
          go_wp2_with (go_at_call 10; (with_reducible refine C.out.mono ?_); rintro e w2 ⟨rfl, hb2⟩; have HW3 := Lib.hid (HW2.out.trans (hb2.mono HW2.out.size)); have y0 := (HX.out.keep hb2).c 0; simp at y0; clear hb2)
          go_roundw
          case rel => exact ⟨k + 1, r.v.fr, _, by omega, by go_num, rfl, rfl, HN, HW3⟩
          case measure => simp [intOf]; omega
    · have HF := Lib.hid (show R = true by rw [← HB.out, List.drop_of_length_le (by rw [HL.out]; omega)]; rfl)
      go_wp2
      go_ret
      exact ⟨by rw [HF.out]; rfl, HW.out⟩

end Trf
end Go.Proofs.Ythjlhjbblnoldaa
