/-
  The document's Right. Conditions: the rows read as lists of ints.
-/
import Derived.Test.YtngpcabengmoiaaRight
namespace Go.Proofs.Ytngpcabengmoiaa
open Go.RowKit St
namespace Stp
set_option linter.unusedVariables false

theorem wrap_small (m : Nat) (h : m ≤ 1000000000) : IntKind.i64.wrap (m : Int) = (m : Int) := IntWalk.i64_in _ (by omega)

/-- What was read ahead of place k. -/
structure Ah (xs vs : List Int) (k : Nat) (day held : Int) : Prop where
  z : k = 0 → day = 0 ∧ held = 0
  s : ∀ j, k = j + 1 → xs[j]? = some day ∧ vs[j]? = some held

theorem Ah.next {xs vs : List Int} {k : Nat} {x v : Int} (hx : xs[k]? = some x) (hv : vs[k]? = some v) : Ah xs vs (k + 1) x v := by
  refine ⟨fun h => by omega, fun j h => ?_⟩
  obtain rfl : k = j := by omega
  exact ⟨hx, hv⟩

set_option maxRecDepth 100000 in
set_option maxHeartbeats 1000000 in
theorem rright_ne (A : Option Addr) (n c : Nat) (V : Option Addr) (m d : Nat) (xs vs : List Int) (w : World) (hS : Sx w w.heap.size A n V m xs vs) (h : n ≠ m) :
    Calls Try.prog 21 #[sg A n c V m d] w fun e w' => e = .returned (.bool (rg xs vs)) ∧ Below w.heap.size w w' := by
  rw [rg_ne (by rw [hS.a.1, hS.v.1]; exact h)]
  have t1 : ((n : Int) == (m : Int)) = false := by rw [beq_eq_false_iff_ne]; omega
  have t2 : (n == m) = false := by rw [beq_eq_false_iff_ne]; exact h
  have t3 : ((n : Int) != (m : Int)) = true := by rw [bne_iff_ne]; omega
  have t4 : (n != m) = true := by rw [bne_iff_ne]; exact h
  clear hS
  go_enter Try.func21, Try.ntmps21
  go_wp2
  go_ret
  exact ⟨rfl, (Below.refl _ _).alloc (Nat.le_refl _) _⟩

set_option maxRecDepth 100000 in
set_option maxHeartbeats 4000000 in
theorem rright_eq (A : Option Addr) (n c : Nat) (V : Option Addr) (d : Nat) (xs vs : List Int) (w : World) (hS : Sx w w.heap.size A n V n xs vs) (hn : n ≤ 1000000) :
    Calls Try.prog 21 #[sg A n c V n d] w fun e w' => e = .returned (.bool (rg xs vs)) ∧ Below w.heap.size w w' := by
  rw [rg_eq (by rw [hS.a.1, hS.v.1])]
  have hzl : (xs.zip vs).length = n := by simp [hS.a.1, hS.v.1]
  have HL := Lib.hid hzl
  have HS := Lib.hid (bx_ints (c := c) (d := d) (w1 := w) hS)
  clear hS hzl
  obtain ⟨R, hR⟩ : ∃ R, rb 0 0 (xs.zip vs) = R := ⟨_, rfl⟩
  rw [hR]
  have HR := Lib.hid hR
  clear hR
  go_enter Try.func21, Try.ntmps21
  go_wp2
  go_loopw [3] (fun i w' => ∃ (k nd : Nat) (day held : Int), k ≤ n ∧ i = .int .i64 (k : Int) ∧ 0 ≤ day ∧ Hid (Ah xs vs k day held) ∧ Hid (rb day held ((xs.zip vs).drop k) = R) ∧ w' = (w.alloc (.cells #[.slice A n c, .slice V n d] 24)).drewN nd) (fun i _ => n - (intOf i).toNat)
  case atStart => exact ⟨0, 0, 0, 0, Nat.zero_le _, rfl, Int.le_refl _, Lib.hid ⟨fun _ => ⟨rfl, rfl⟩, fun j h => by omega⟩, HR, rfl⟩
  case round =>
    obtain ⟨k, nd, day, held, hk, rfl, hd0, HA, HB, rfl⟩ := hrel
    by_cases hlt : k < n
    · obtain ⟨ad, x, rfl, hb, hx, hc⟩ := HS.out.a.get hlt
      obtain ⟨av, v, rfl, hbv, hv, hcv⟩ := HS.out.v.get hlt
      have HD := Lib.hid (drop_get (zip_get hx hv))
      have HX := Lib.hid (Ah.next hx hv)
      have hlt2 : (k : Int) < (n : Int) := by omega
      clear hx hv
      by_cases g1 : x < 1
      · have t1 : decide (x < 1) = true := by simpa using g1
        have HF := Lib.hid (show R = false by rw [← HB.out, HD.out]; exact rb_no (fun h => by have := h.1; simp only at this; omega))
        clear g1
        go_wp2
        go_ret
        exact ⟨(by rw [HF.out]; rfl), below_drewN ((Below.refl _ _).alloc (Nat.le_refl _) _) _⟩
      have t1 : decide (x < 1) = false := by simpa using g1
      by_cases g2 : 292194 < x
      · have t2 : decide (292194 < x) = true := by simpa using g2
        have HF := Lib.hid (show R = false by rw [← HB.out, HD.out]; exact rb_no (fun h => by have := h.2.1; simp only at this; omega))
        clear g1 g2
        go_wp2
        go_ret
        exact ⟨(by rw [HF.out]; rfl), below_drewN ((Below.refl _ _).alloc (Nat.le_refl _) _) _⟩
      have t2 : decide (292194 < x) = false := by simpa using g2
      by_cases g3 : v < -4000000000000000000
      · have t3 : decide (v < -4000000000000000000) = true := by simpa using g3
        have HF := Lib.hid (show R = false by rw [← HB.out, HD.out]; exact rb_no (fun h => by have := (fits_iff _).1 h.2.2.1; simp only at this; omega))
        clear g1 g2 g3
        go_wp2
        go_ret
        exact ⟨(by rw [HF.out]; rfl), below_drewN ((Below.refl _ _).alloc (Nat.le_refl _) _) _⟩
      have t3 : decide (v < -4000000000000000000) = false := by simpa using g3
      by_cases g4 : 4000000000000000000 < v
      · have t4 : decide (4000000000000000000 < v) = true := by simpa using g4
        have HF := Lib.hid (show R = false by rw [← HB.out, HD.out]; exact rb_no (fun h => by have := (fits_iff _).1 h.2.2.1; simp only at this; omega))
        clear g1 g2 g3 g4
        go_wp2
        go_ret
        exact ⟨(by rw [HF.out]; rfl), below_drewN ((Below.refl _ _).alloc (Nat.le_refl _) _) _⟩
      have t4 : decide (4000000000000000000 < v) = false := by simpa using g4
      have hfit : St.fits v = true := (fits_iff v).2 (by omega)
      by_cases g0 : k = 0
      · obtain ⟨rfl, rfl⟩ := HA.out.z g0
        have tk : ((k : Int) == 0) = true := by rw [beq_iff_eq]; omega
        have tk2 : (k == 0) = true := by rw [beq_iff_eq]; omega
        have hc0 : (w.alloc (.cells #[.slice (some ad) n c, .slice (some av) n d] 24)).cell? av = some (.int .i64 v) := by rw [g0, show av.add 0 = av by unfold Addr.add; simp] at hcv; exact hcv
        have hn0 : 0 < n := by omega
        by_cases g5 : v = 0
        · have t5 : (v == 0) = true := by simpa using g5
          have HF := Lib.hid (show R = false by rw [← HB.out, HD.out]; exact rb_no (fun h => h.2.2.2 g5))
          clear g1 g2 g3 g4 g5 hfit g0
          go_wp2
          go_ret
          exact ⟨(by rw [HF.out]; rfl), below_drewN ((Below.refl _ _).alloc (Nat.le_refl _) _) _⟩
        · have t5 : (v == 0) = false := by simpa using g5
          have HN := Lib.hid (show rb x v ((xs.zip vs).drop (k + 1)) = R by rw [← HB.out, HD.out]; exact (rb_yes (x := (x, v)) (by simp only; omega) (by simp only; omega) hfit g5).symm)
          have hx0 : 0 ≤ x := by omega
          clear g1 g2 g3 g4 g5 hfit g0
          go_wp2
          go_roundw
          case rel => exact ⟨k + 1, _, x, v, by omega, by go_num, hx0, HX, HN, rfl⟩
          case measure => simp [intOf]; omega
      · obtain ⟨j, hj⟩ : ∃ j, k = j + 1 := ⟨k - 1, by omega⟩
        obtain ⟨px, pv⟩ := HA.out.s j hj
        have hjn : j < n := by omega
        have qc : (w.alloc (.cells #[.slice (some ad) n c, .slice (some av) n d] 24)).cell? (ad.add j) = some (.int .i64 day) := by
          obtain ⟨a', e, _, hcc⟩ := HS.out.a.2 (by omega)
          injection e with e; subst e; exact hcc j _ px
        have qv : (w.alloc (.cells #[.slice (some ad) n c, .slice (some av) n d] 24)).cell? (av.add j) = some (.int .i64 held) := by
          obtain ⟨a', e, _, hcc⟩ := HS.out.v.2 (by omega)
          injection e with e; subst e; exact hcc j _ pv
        have tk : ((k : Int) == 0) = false := by rw [beq_eq_false_iff_ne]; omega
        have tk2 : (k == 0) = false := by rw [beq_eq_false_iff_ne]; omega
        have e1 : (k : Int) - 1 = (j : Int) := by omega
        have hjn2 : (j : Int) < (n : Int) := by omega
        have hj0 : (0 : Int) ≤ (j : Int) := by omega
        have ew := wrap_small j (by omega)
        clear px pv
        by_cases g5 : x ≤ day
        · have t5 : decide (x ≤ day) = true := by simpa using g5
          have HF := Lib.hid (show R = false by rw [← HB.out, HD.out]; exact rb_no (fun h => by have := h.1; simp only at this; omega))
          clear g1 g2 g3 g4 g5 hfit hj g0 hk
          go_wp2
          go_quiet (fail)
          go_wp2
          go_ret
          exact ⟨(by rw [HF.out]; rfl), below_drewN (below_drewN ((Below.refl _ _).alloc (Nat.le_refl _) _) _) _⟩
        · have t5 : decide (x ≤ day) = false := by simpa using g5
          by_cases g6 : v = held
          · have t6 : (v == held) = true := by simpa using g6
            have HF := Lib.hid (show R = false by rw [← HB.out, HD.out]; exact rb_no (fun h => h.2.2.2 g6))
            clear g1 g2 g3 g4 g5 g6 hfit hj g0 hk
            go_wp2
            go_quiet (fail)
            go_wp2
            go_ret
            exact ⟨(by rw [HF.out]; rfl), below_drewN (below_drewN ((Below.refl _ _).alloc (Nat.le_refl _) _) _) _⟩
          · have t6 : (v == held) = false := by simpa using g6
            have HN := Lib.hid (show rb x v ((xs.zip vs).drop (k + 1)) = R by rw [← HB.out, HD.out]; exact (rb_yes (x := (x, v)) (by simp only; omega) (by simp only; omega) hfit g6).symm)
            have hx0 : 0 ≤ x := by omega
            clear g1 g2 g3 g4 g5 g6 hfit hj g0 hk
            go_wp2
            go_quiet (fail)
            go_wp2
            go_roundw
            case rel => exact ⟨k + 1, _, x, v, by omega, by go_num, hx0, HX, HN, rfl⟩
            case measure => clear e1 ew; simp [intOf]; omega
    · have HF := Lib.hid (show R = true by rw [← HB.out, List.drop_of_length_le (by rw [HL.out]; omega)]; rfl)
      go_wp2
      go_ret
      exact ⟨(by rw [HF.out]; rfl), below_drewN ((Below.refl _ _).alloc (Nat.le_refl _) _) _⟩

theorem rright (A : Option Addr) (n c : Nat) (V : Option Addr) (m d : Nat) (xs vs : List Int) (w : World) (hS : Sx w w.heap.size A n V m xs vs) (hn : n ≤ 1000000) :
    Calls Try.prog 21 #[sg A n c V m d] w fun e w' => e = .returned (.bool (rg xs vs)) ∧ Below w.heap.size w w' := by
  by_cases h : n = m
  · subst h; exact rright_eq A n c V d xs vs w hS hn
  · exact rright_ne A n c V m d xs vs w hS h

end Stp
end Go.Proofs.Ytngpcabengmoiaa
