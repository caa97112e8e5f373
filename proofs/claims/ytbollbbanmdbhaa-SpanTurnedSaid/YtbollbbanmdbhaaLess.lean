/-
  Less of package span and of the document's own text. Conditions: none.
-/
import Derived.Test.YtbollbbanmdbhaaKeep
namespace Go.Proofs.Ytbollbbanmdbhaa
open Go.RowKit Sp
namespace Spn
set_option linter.unusedVariables false

/-- A new block of one span, of two, as rows. -/
theorem spans_new1 (w : World) (x y : Int) : Spans (w.alloc (.cells #[.int .i64 x, .int .i64 y] 23)) (w.alloc (.cells #[.int .i64 x, .int .i64 y] 23)).heap.size (some ⟨w.heap.size, 0, none⟩) 1 [(x, y)] := by
  refine ⟨rfl, fun _ => ⟨_, rfl, by simp, fun j z hz => ?_⟩⟩
  have X := Bx.new w x y
  match j, hz with
  | 0, hz => simp at hz; subst hz; exact ⟨X.c0, X.c1⟩
theorem spans_new (w : World) (xs : List Sp) (cs : Array Value) (e : cs.toList = cel xs) : Spans (w.alloc (.cells cs 23)) (w.alloc (.cells cs 23)).heap.size (some ⟨w.heap.size, 0, none⟩) xs.length xs := by
  refine ⟨rfl, fun _ => ⟨_, rfl, by simp, fun j z hz => ?_⟩⟩
  have hh : (w.alloc (.cells cs 23)).heap[w.heap.size]? = some (.cells cs 23 (0, 0)) := heap_alloc_new w _
  have c : ∀ i, (w.alloc (.cells cs 23)).cell? ((⟨w.heap.size, 0, none⟩ : Addr).add i) = (cel xs)[i]? := by
    intro i
    have ea : (⟨w.heap.size, 0, none⟩ : Addr).add i = ⟨w.heap.size, i, none⟩ := by unfold Addr.add; split <;> simp_all
    rw [ea, cell_of_row _ _ i _ _ _ hh, ← e]; simp
  rw [c, c]
  exact cel_get hz

set_option maxHeartbeats 1000000 in
theorem less_no (a b : Sp) (w : World) (h0 : ct a b = (0, 0)) : Calls Try.prog 21 #[ag a, ag b] w (Gives w (kp [a])) := by
  have C := fun w => Lib.hid (cut a b w)
  rw [h0] at C
  clear h0
  obtain ⟨a1, a2⟩ := a
  obtain ⟨b1, b2⟩ := b
  go_enter Try.func21, Try.ntmps21
  go_wp2_with fail
  refine (C _).out.mono ?_
  rintro e w1 ⟨rfl, hb⟩
  obtain ⟨X, Y, hB⟩ := bx2 hb
  have x0 := X.c0
  have x1 := X.c1
  have xl := X.lt
  have HB := Lib.hid hB
  clear hb hB X Y C
  have S := spans_new1 (w1.alloc (.cells #[.int .i64 0, .int .i64 0] 23)) a1 a2
  rw [World.size_alloc w1] at S
  have HS0 := Lib.hid S
  clear S
  go_wp2_with fail
  refine (keep _ 1 1 [(a1, a2)] _ HS0.out (by omega)).mono ?_
  rintro e w2 ⟨A, k, c, rfl, hS, hkc, hb⟩
  have HS := Lib.hid hS
  have HB2 := Lib.hid hb
  clear hS hb
  go_wp2
  go_ret
  exact ⟨A, k, c, rfl, HS.out, hkc, ((HB.out.alloc HB.out.size _).alloc (by have := HB.out.size; simp; omega) _).trans (HB2.out.mono (by have := HB.out.size; simp; omega))⟩

set_option maxHeartbeats 1000000 in
theorem less_yes (a b : Sp) (w : World) (h0 : ct a b ≠ (0, 0)) : Calls Try.prog 21 #[ag a, ag b] w (Gives w (kp [(a.1, (ct a b).1), ((ct a b).2, a.2)])) := by
  have C := fun w => Lib.hid (cut a b w)
  have h1 : 1 ≤ (ct a b).1 := by
    obtain ⟨_, _, hh, e⟩ := ct_yes h0
    rw [e]; exact ((has_iff _).1 hh).1
  clear h0
  generalize ct a b = k at C h1 ⊢
  obtain ⟨a1, a2⟩ := a
  obtain ⟨b1, b2⟩ := b
  obtain ⟨k1, k2⟩ := k
  simp only at h1
  have t1 : (k1 == 0) = false := by rw [beq_eq_false_iff_ne]; omega
  clear h1
  go_enter Try.func21, Try.ntmps21
  go_wp2_with fail
  refine (C _).out.mono ?_
  rintro e w1 ⟨rfl, hb⟩
  obtain ⟨X, Y, hB⟩ := bx2 hb
  have x0 := X.c0
  have x1 := X.c1
  have xl := X.lt
  have HB := Lib.hid hB
  clear hb hB X Y C
  have S := spans_new (w1.alloc (.cells #[.int .i64 k1, .int .i64 k2] 23)) [(a1, k1), (k2, a2)] #[.int .i64 a1, .int .i64 k1, .int .i64 k2, .int .i64 a2] rfl
  rw [World.size_alloc w1] at S
  have HS0 := Lib.hid S
  clear S
  go_wp2_with fail
  refine (keep _ 2 2 [(a1, k1), (k2, a2)] _ HS0.out (by omega)).mono ?_
  rintro e w2 ⟨A, k, c, rfl, hS, hkc, hb⟩
  have HS := Lib.hid hS
  have HB2 := Lib.hid hb
  clear hS hb
  go_wp2
  go_ret
  exact ⟨A, k, c, rfl, HS.out, hkc, ((HB.out.alloc HB.out.size _).alloc (by have := HB.out.size; simp; omega) _).trans (HB2.out.mono (by have := HB.out.size; simp; omega))⟩

theorem less (a b : Sp) (w : World) : Calls Try.prog 21 #[ag a, ag b] w (Gives w (ls a b)) := by
  by_cases h0 : ct a b = (0, 0)
  · rw [ls, if_pos h0]; exact less_no a b w h0
  · rw [ls, if_neg h0]; exact less_yes a b w h0

end Spn
end Go.Proofs.Ytbollbbanmdbhaa
