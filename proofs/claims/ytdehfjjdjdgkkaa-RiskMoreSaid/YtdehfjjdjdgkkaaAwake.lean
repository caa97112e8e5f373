/-
  The laws' own awake: it answers true. Conditions: none.
-/
import Derived.Test.YtdehfjjdjdgkkaaBand
namespace Go.Proofs.Ytdehfjjdjdgkkaa
open Go.RowKit Ba
namespace Rsk
set_option linter.unusedVariables false

theorem lns_new {w : World} {g : Nat} {t : TypeId} {a b c d : Int} (h : Bx w g t #[.int .i64 a, .int .i64 b, .int .i64 c, .int .i64 d]) : Lns w (· < w.heap.size) (some ⟨g, 0, none⟩) 2 [(a, b), (c, d)] := by
  refine ⟨rfl, fun _ => ⟨_, rfl, h.lt, fun j x hx => ?_⟩⟩
  match j, hx with
  | 0, hx => simp at hx; subst hx; rw [Addr.add_lit, Addr.add_lit, h.c, h.c]; exact ⟨rfl, rfl⟩
  | 1, hx => simp at hx; subst hx; rw [Addr.add_lit, Addr.add_lit, h.c, h.c]; exact ⟨rfl, rfl⟩

theorem ex24 : bnd 24 [(24, 15000), (69, 9000)] = 15000 := by decide
theorem ex25 : bnd 25 [(24, 15000), (69, 9000)] = 9000 := by decide
theorem ex70 : bnd 70 [(24, 15000), (69, 9000)] = 10000 := by decide
theorem exB : bds [(24, 15000), (69, 9000)] = true := by decide
theorem exR : rk 1 1 0 0 = true := by decide

set_option maxRecDepth 100000 in
set_option maxHeartbeats 2000000 in
theorem awake (w : World) : Calls Try.prog 9 #[] w (Yes w true) := by
  obtain ⟨W, hW⟩ : ∃ W, w.alloc (.cells #[.int .i64 24, .int .i64 15000, .int .i64 69, .int .i64 9000] 31) = W := ⟨_, rfl⟩
  have hL : Lns W (· < W.heap.size) (some ⟨w.heap.size, 0, none⟩) 2 [(24, 15000), (69, 9000)] := by rw [← hW]; exact lns_new (Bx.new _ _ _)
  have HB := Lib.hid (show Below w.heap.size w W by rw [← hW]; exact alloc_ _ _)
  have hm : 2 ≤ maxLen := by unfold maxLen; omega
  have C1 := Lib.hid (band _ 2 2 _ 24 W _ hL hm)
  have C2 := Lib.hid (band _ 2 2 _ 25 W _ hL hm)
  have C3 := Lib.hid (band _ 2 2 _ 70 W _ hL hm)
  have C4 := Lib.hid (bands_ _ 2 2 _ W hL hm)
  have C5 := fun w => Lib.hid (right_ 1 1 0 0 w)
  rw [ex24] at C1
  rw [ex25] at C2
  rw [ex70] at C3
  rw [exB] at C4
  rw [exR] at C5
  have HW := Lib.hid hW
  clear hL hm hW
  go_enter Try.func9, Try.ntmps9
  go_wp2_with fail
  rw [HW.out]
  refine C1.out.mono ?_
  rintro e w' ⟨rfl, rfl⟩
  go_wp2_with fail
  refine C2.out.mono ?_
  rintro e w' ⟨rfl, rfl⟩
  go_wp2_with fail
  refine C3.out.mono ?_
  rintro e w' ⟨rfl, rfl⟩
  go_wp2_with fail
  refine C4.out.mono ?_
  rintro e w1 ⟨rfl, hb1⟩
  have HB1 := Lib.hid (HB.out.trans (hb1.mono HB.out.size))
  clear hb1 HB
  go_wp2_with fail
  refine (C5 _).out.mono ?_
  rintro e w2 ⟨rfl, hb2⟩
  have HB2 := Lib.hid (HB1.out.trans (hb2.mono HB1.out.size))
  clear hb2 HB1
  go_wp2
  go_ret
  exact ⟨rfl, HB2.out⟩
end Rsk
end Go.Proofs.Ytdehfjjdjdgkkaa
