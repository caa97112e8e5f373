/-
  few of the law. Conditions: the version's lists read as lists, and are short.
-/
import Derived.Test.YthjlhjbblnoldaaApp
namespace Go.Proofs.Ythjlhjbblnoldaa
open Go.RowKit Ba Tf
namespace Trf
set_option linter.unusedVariables false

/-- How long all lists are together. -/
def tl : List Rw → Nat
  | [] => 0
  | r :: rs => r.la + r.lz + r.lp + tl rs
theorem tl_snoc (rs : List Rw) (r : Rw) : tl (rs ++ [r]) = tl rs + (r.la + r.lz + r.lp) := by
  induction rs with
  | nil => simp [tl]
  | cons x xs ih => simp only [List.cons_append, tl, ih]; omega
theorem tl_append (rs qs : List Rw) : tl (rs ++ qs) = tl rs + tl qs := by
  induction rs with
  | nil => simp [tl]
  | cons x xs ih => simp only [List.cons_append, tl, ih]; omega
theorem tl_mem {rs : List Rw} {r : Rw} (h : r ∈ rs) : r.la + r.lz + r.lp ≤ tl rs := by
  induction rs with
  | nil => cases h
  | cons x xs ih =>
    rcases List.mem_cons.1 h with rfl | h
    · simp only [tl]; omega
    · have := ih h; simp only [tl]; omega
theorem sm_of {rs : List Rw} (h : tl rs ≤ 3000) : ∀ r ∈ rs, Sm r := fun r hr => by
  have := tl_mem hr
  exact ⟨by omega, by omega, by omega⟩
/-- Lists are no longer than memory. -/
structure Lo (r : Rw) : Prop where
  a : r.la ≤ 140737488355328
  z : r.lz ≤ 140737488355328
  p : r.lp ≤ 140737488355328
def fw (n : Nat) (rs : List Rw) : Bool := decide (n ≤ 110) && decide (tl rs ≤ 3000)
theorem tl_le {rs : List Rw} (h : ∀ r ∈ rs, Lo r) : tl rs ≤ rs.length * (3 * 140737488355328) := by
  induction rs with
  | nil => exact Nat.zero_le _
  | cons x xs ih =>
    have h1 := ih fun r hr => h r (List.mem_cons_of_mem _ hr)
    have h2 := h x (by simp)
    have := h2.a
    have := h2.z
    have := h2.p
    simp only [tl, List.length_cons]
    omega

set_option maxRecDepth 100000 in
set_option maxHeartbeats 2000000 in
theorem few_many (A : Option Addr) (n c : Nat) (rs : List Rw) (w : World) (hR : Raws w (· < w.heap.size) A n rs) (hn : n ≤ 140737488355328) (h : 110 < n) :
    Calls Try.prog 8 #[.slice A n c] w (Yes w false) := by
  have HR := Lib.hid hR
  have t1 : decide ((n : Int) ≤ 110) = false := decide_eq_false (by omega)
  have t1' : decide (n ≤ 110) = false := decide_eq_false (by omega)
  clear hR h
  go_enter Try.func8, Try.ntmps8
  go_wp2
  go_loopw [3, 5, 8] (fun s3 s5 i w' => ∃ (k : Nat) (x : Int) (w1 : World), k ≤ n ∧ i = .int .i64 (k : Int) ∧ s3 = .int .i64 x ∧ w1 = w' ∧ Hid (Below w.heap.size w w1)) (fun _ _ i _ => n - (intOf i).toNat)
  case atStart => exact ⟨0, 0, _, Nat.zero_le _, rfl, rfl, rfl, Lib.hid (Below.refl _ _)⟩
  case round =>
    obtain ⟨k, x, w1, hk, rfl, rfl, rfl, HB⟩ := hrel
    by_cases hlt : k < n
    · obtain ⟨ad, r, rfl, hb, hx, hN⟩ := (HR.out.below HB.out).get hlt
      have hlt2 : (k : Int) < (n : Int) := by omega
      obtain ⟨c0, c1, c2, c3, c4, c5, c6, c7, c8⟩ := hN
      clear hx
      go_wp2
      go_roundw
      case rel => exact ⟨k + 1, _, _, by omega, by go_num, rfl, rfl, Lib.hid (HB.out.alloc HB.out.size _)⟩
      case measure => simp [intOf]; omega
    · go_wp2
      go_ret
      exact ⟨rfl, HB.out⟩

set_option maxRecDepth 100000 in
set_option maxHeartbeats 2000000 in
theorem few_few (A : Option Addr) (n c : Nat) (rs : List Rw) (w : World) (hR : Raws w (· < w.heap.size) A n rs) (hL : ∀ r ∈ rs, Lo r) (h : n ≤ 110) :
    Calls Try.prog 8 #[.slice A n c] w (Yes w (decide (tl rs ≤ 3000))) := by
  have HR := Lib.hid hR
  have HL := Lib.hid hL
  have t1 : decide ((n : Int) ≤ 110) = true := decide_eq_true (by omega)
  have t1' : decide (n ≤ 110) = true := decide_eq_true h
  obtain ⟨q, hq⟩ : ∃ q, decide (tl rs ≤ 3000) = q := ⟨_, rfl⟩
  rw [hq]
  have HQ := Lib.hid hq
  clear hR hL hq
  go_enter Try.func8, Try.ntmps8
  go_wp2
  go_loopw [3, 5, 8] (fun s3 s5 i w' => ∃ (k : Nat) (x : Nat) (w1 : World), k ≤ n ∧ i = .int .i64 (k : Int) ∧ s3 = .int .i64 (x : Int) ∧ w1 = w' ∧ Hid (Below w.heap.size w w1) ∧ x ≤ 46443371157258240 ∧ Hid (tl (rs.take k) = x)) (fun _ _ i _ => n - (intOf i).toNat)
  case atStart => exact ⟨0, 0, _, Nat.zero_le _, rfl, rfl, rfl, Lib.hid (Below.refl _ _), by omega, Lib.hid rfl⟩
  case round =>
    obtain ⟨k, x, w1, hk, rfl, rfl, rfl, HB, hx5, HX⟩ := hrel
    by_cases hlt : k < n
    · obtain ⟨ad, r, rfl, hb, hx, hN⟩ := (HR.out.below HB.out).get hlt
      have hlt2 : (k : Int) < (n : Int) := by omega
      obtain ⟨c0, c1, c2, c3, c4, c5, c6, c7, c8⟩ := hN
      have lo := HL.out r (List.mem_of_getElem? hx)
      have l1 := lo.a
      have l2 := lo.z
      have l3 := lo.p
      have HN := Lib.hid (show tl (rs.take (k + 1)) = x + (r.la + r.lz + r.lp) by rw [take_get hx, tl_snoc, HX.out])
      have hx6 : x + (r.la + r.lz + r.lp) ≤ 46443371157258240 := by
        rw [← HN.out]
        have h1 := tl_le (rs := rs.take (k + 1)) fun r hr => HL.out r (List.mem_of_mem_take hr)
        have h2 : (rs.take (k + 1)).length ≤ 110 := by rw [List.length_take, HR.out.1]; omega
        have h3 := Nat.mul_le_mul_right (3 * 140737488355328) h2
        omega
      clear hx lo
      go_wp2
      go_roundw
      case rel => exact ⟨k + 1, x + (r.la + r.lz + r.lp), _, by omega, by go_num, by congr 1 <;> omega, rfl, Lib.hid (HB.out.alloc HB.out.size _), hx6, HN⟩
      case measure => simp [intOf]; omega
    · have HF := Lib.hid (show tl rs = x by have := HX.out; rwa [List.take_of_length_le (by rw [HR.out.1]; omega)] at this)
      obtain ⟨u, hu⟩ : ∃ u, decide (x ≤ 3000) = u := ⟨_, rfl⟩
      have HU := Lib.hid (show q = u by rw [← HQ.out, HF.out, hu])
      have hu2 : decide ((x : Int) ≤ 3000) = u := by rw [← hu]; congr 1; simp; omega
      go_wp2
      go_ret
      exact ⟨by rw [HU.out]; rfl, HB.out⟩
theorem few_ (A : Option Addr) (n c : Nat) (rs : List Rw) (w : World) (hR : Raws w (· < w.heap.size) A n rs) (hn : n ≤ 140737488355328) (hL : ∀ r ∈ rs, Lo r) :
    Calls Try.prog 8 #[.slice A n c] w (Yes w (fw n rs)) := by
  unfold fw
  rcases Nat.lt_or_ge 110 n with h | h
  · rw [decide_eq_false (by omega)]
    exact few_many A n c rs w hR hn h
  · rw [decide_eq_true h]
    exact few_few A n c rs w hR hL h
theorem fw_yes {n : Nat} {rs : List Rw} (h : fw n rs = true) : n ≤ 110 ∧ tl rs ≤ 3000 := by
  unfold fw at h
  rw [Bool.and_eq_true, decide_eq_true_eq, decide_eq_true_eq] at h
  exact h

end Trf
end Go.Proofs.Ythjlhjbblnoldaa
