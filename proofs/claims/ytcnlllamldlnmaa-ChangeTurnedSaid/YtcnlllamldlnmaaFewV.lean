/-
  few of the laws, with one answer. Conditions: those of each theorem.
-/
import Derived.Test.YtcnlllamldlnmaaFew
namespace Go.Proofs.Ytcnlllamldlnmaa
open Go.RowKit Ba Cv Sp Te Ag
namespace Tm
set_option linter.unusedVariables false

/-- What few tells. -/
def fwv (h : Hr) : Bool := decide (h.m ≤ 100) && decide (h.n + tl h.rs ≤ 1000)
theorem fwv_yes {h : Hr} (hf : fwv h = true) : h.m ≤ 100 ∧ h.n ≤ 1000 ∧ ∀ r ∈ h.rs, r.n ≤ 1000 := by
  unfold fwv at hf
  rw [Bool.and_eq_true, decide_eq_true_eq, decide_eq_true_eq] at hf
  exact ⟨hf.1, by omega, fun r hr => by have := tl_mem hr; omega⟩
set_option maxRecDepth 100000 in
set_option maxHeartbeats 4000000 in
theorem fewv_many (h : Hr) (w : World) (M : HM w (· < w.heap.size) h) (g : h.m ≤ 140737488355328) (gn : h.n ≤ 140737488355328) (gk : ∀ r ∈ h.rs, r.n ≤ 140737488355328) (hm : 100 < h.m) : Calls Try.prog 10 #[hg h] w (Yes w (fwv h)) := by
  obtain ⟨W, hW⟩ : ∃ W, w.alloc (.cells (hc h) 33) = W := ⟨_, rfl⟩
  have H0 := Lib.hid (show FX w W h by rw [← hW]; exact FX.start w h)
  have HM0 := Lib.hid M
  have HGK := Lib.hid gk
  have HV := Lib.hid (show fwv h = false by unfold fwv; rw [decide_eq_false (by omega)]; rfl)
  have HLen := Lib.hid M.r.1
  have t1 : decide ((h.m : Int) ≤ 100) = false := decide_eq_false (by omega)
  have t1' : decide (h.m ≤ 100) = false := decide_eq_false (by omega)
  clear M gk
  have hx := H0.out.x
  have x0 := hx.c 0
  have x1 := hx.c 1
  have x2 := hx.c 2
  have x3 := hx.c 3
  have x4 := hx.c 4
  have x5 := hx.c 5
  have x6 := hx.c 6
  have x7 := hx.c 7
  have x8 := hx.c 8
  have x9 := hx.c 9
  simp at x0 x1 x2 x3 x4 x5 x6 x7 x8 x9
  have hlx := hx.lt
  clear hx
  have HW := Lib.hid hW
  obtain ⟨Bv, hBv⟩ : ∃ Bv, h.B = Bv := ⟨_, rfl⟩
  have HBv := Lib.hid hBv
  clear hW hBv
  go_enter Try.func10, Try.ntmps10
  go_wp2
  rw [HW.out, HBv.out]
  clear HW
  clear x0 x1 x2 x3 x4 x5 x6 x7 x8 x9 hlx
  go_loopw [3, 5, 13] (fun vx v5 vi w' => ∃ (k : Nat) (z : Int) (W1 : World), k ≤ h.m ∧ vi = .int .i64 (k : Int) ∧ vx = .int .i64 z ∧ W1 = w' ∧ Hid (FX w W1 h)) (fun _ _ vi _ => h.m - (intOf vi).toNat)
  case atStart => exact ⟨0, _, W, Nat.zero_le _, rfl, rfl, rfl, H0⟩
  case round =>
    obtain ⟨k, z, W1, hkm, rfl, rfl, rfl, HK⟩ := hrel
    clear H0
    have hx := HK.out.x
    have x0 := hx.c 0
    have x1 := hx.c 1
    have x2 := hx.c 2
    have x3 := hx.c 3
    have x4 := hx.c 4
    have x5 := hx.c 5
    have x6 := hx.c 6
    have x7 := hx.c 7
    have x8 := hx.c 8
    have x9 := hx.c 9
    simp at x0 x1 x2 x3 x4 x5 x6 x7 x8 x9
    have hlx := hx.lt
    clear hx
    by_cases hlt : k < h.m
    · have hMW := HM0.out.below HK.out.b
      obtain ⟨ad, r, hB, hb, hr, hn, hcv, hv⟩ := hMW.get hlt
      have eB := HBv.out
      rw [hB] at eB
      subst eB
      obtain ⟨c0, c1, c2, c3, c4, c5, c6, c7, c8⟩ := hn
      have hlt2 : (k : Int) < (h.m : Int) := by omega
      clear hr hv hcv hMW hB hlt
      go_wp2
      go_roundw
      case rel => exact ⟨k + 1, _, _, by omega, by go_num, rfl, rfl, Lib.hid (HK.out.next (alloc_ _ _))⟩
      case measure => simp [intOf]; omega
    · clear HM0 HGK HLen
      go_wp2
      go_ret
      exact ⟨by rw [HV.out]; rfl, HK.out.b⟩

set_option maxRecDepth 100000 in
set_option maxHeartbeats 4000000 in
theorem fewv_few (h : Hr) (w : World) (M : HM w (· < w.heap.size) h) (g : h.m ≤ 140737488355328) (gn : h.n ≤ 140737488355328) (gk : ∀ r ∈ h.rs, r.n ≤ 140737488355328) (hm : h.m ≤ 100) : Calls Try.prog 10 #[hg h] w (Yes w (fwv h)) := by
  obtain ⟨W, hW⟩ : ∃ W, w.alloc (.cells (hc h) 33) = W := ⟨_, rfl⟩
  have H0 := Lib.hid (show FX w W h by rw [← hW]; exact FX.start w h)
  have HM0 := Lib.hid M
  have HGK := Lib.hid gk
  have HLen := Lib.hid M.r.1
  have t1 : decide ((h.m : Int) ≤ 100) = true := decide_eq_true (by omega)
  have t1' : decide (h.m ≤ 100) = true := decide_eq_true hm
  clear M gk
  have hx := H0.out.x
  have x0 := hx.c 0
  have x1 := hx.c 1
  have x2 := hx.c 2
  have x3 := hx.c 3
  have x4 := hx.c 4
  have x5 := hx.c 5
  have x6 := hx.c 6
  have x7 := hx.c 7
  have x8 := hx.c 8
  have x9 := hx.c 9
  simp at x0 x1 x2 x3 x4 x5 x6 x7 x8 x9
  have hlx := hx.lt
  clear hx
  have HW := Lib.hid hW
  obtain ⟨Bv, hBv⟩ : ∃ Bv, h.B = Bv := ⟨_, rfl⟩
  have HBv := Lib.hid hBv
  clear hW hBv
  go_enter Try.func10, Try.ntmps10
  go_wp2
  rw [HW.out, HBv.out]
  clear HW
  clear x0 x1 x2 x3 x4 x5 x6 x7 x8 x9 hlx
  go_loopw [3, 5, 13] (fun vx v5 vi w' => ∃ (k : Nat) (x : Nat) (W1 : World), k ≤ h.m ∧ vi = .int .i64 (k : Int) ∧ vx = .int .i64 (x : Int) ∧ W1 = w' ∧ x ≤ 14214486323888128 ∧ Hid (FX w W1 h ∧ h.n + tl (h.rs.take k) = x)) (fun _ _ vi _ => h.m - (intOf vi).toNat)
  case atStart => exact ⟨0, h.n, W, Nat.zero_le _, rfl, rfl, rfl, by omega, Lib.hid ⟨H0.out, rfl⟩⟩
  case round =>
    obtain ⟨k, x, W1, hkm, rfl, rfl, rfl, hx5, HK0⟩ := hrel
    clear H0
    have HK := Lib.hid HK0.out.1
    have HX := Lib.hid HK0.out.2
    clear HK0
    have hx := HK.out.x
    have x0 := hx.c 0
    have x1 := hx.c 1
    have x2 := hx.c 2
    have x3 := hx.c 3
    have x4 := hx.c 4
    have x5 := hx.c 5
    have x6 := hx.c 6
    have x7 := hx.c 7
    have x8 := hx.c 8
    have x9 := hx.c 9
    simp at x0 x1 x2 x3 x4 x5 x6 x7 x8 x9
    have hlx := hx.lt
    clear hx
    by_cases hlt : k < h.m
    · have hMW := HM0.out.below HK.out.b
      obtain ⟨ad, r, hB, hb, hr, hn, hcv, hv⟩ := hMW.get hlt
      have eB := HBv.out
      rw [hB] at eB
      subst eB
      obtain ⟨c0, c1, c2, c3, c4, c5, c6, c7, c8⟩ := hn
      have hlt2 : (k : Int) < (h.m : Int) := by omega
      have lo := HGK.out r (List.mem_of_getElem? hr)
      have HN := Lib.hid (show h.n + tl (h.rs.take (k + 1)) = x + r.n by rw [take_get hr, tl_snoc]; have := HX.out; omega)
      have hx6 : x + r.n ≤ 14214486323888128 := by
        rw [← HN.out]
        have h1 := tl_le (rs := h.rs.take (k + 1)) fun r hr => HGK.out r (List.mem_of_mem_take hr)
        have h2 : (h.rs.take (k + 1)).length ≤ 100 := by rw [List.length_take]; have := HLen.out; omega
        have h3 := Nat.mul_le_mul_right 140737488355328 h2
        omega
      clear hr hv hcv hMW hB hlt
      go_wp2
      go_roundw
      case rel => exact ⟨k + 1, x + r.n, _, by omega, by go_num, by congr 1 <;> omega, rfl, hx6, Lib.hid ⟨HK.out.next (alloc_ _ _), HN.out⟩⟩
      case measure => simp [intOf]; omega
    · have HF := Lib.hid (show h.n + tl h.rs = x by have := HX.out; rwa [List.take_of_length_le (by have := HLen.out; omega)] at this)
      obtain ⟨u, hu⟩ : ∃ u, decide (x ≤ 1000) = u := ⟨_, rfl⟩
      have hu2 : decide ((x : Int) ≤ 1000) = u := by rw [← hu]; congr 1; simp; omega
      have HU := Lib.hid (show fwv h = u by
        have := HF.out
        unfold fwv
        rw [decide_eq_true hm, Bool.true_and, this, hu])
      clear HM0 HGK HLen
      go_wp2
      go_ret
      exact ⟨by rw [HU.out]; rfl, HK.out.b⟩


theorem fewv (h : Hr) (w : World) (g : GivenH w h) : Calls Try.prog 10 #[hg h] w (Yes w (fwv h)) := by
  rcases Nat.lt_or_ge 100 h.m with hm | hm
  · exact fewv_many h w g.M g.m g.n g.k hm
  · exact fewv_few h w g.M g.m g.n g.k hm

end Tm
end Go.Proofs.Ytcnlllamldlnmaa
