/-
  The document's SameCovers, SameChange and SameTerms, where both mean the same. Conditions: those of each theorem.
-/
import Derived.Test.YtcnlllamldlnmaaGiven
import Derived.BigQuiet
namespace Go.Proofs.Ytcnlllamldlnmaa
open Go.RowKit Ba Cv Sp Te Ag
namespace Tm
set_option linter.unusedVariables false

set_option maxRecDepth 100000 in
set_option maxHeartbeats 2000000 in
theorem same_covers (A A2 : Option Addr) (n c c2 : Nat) (cs : List Co) (w : World) (hS : Cvs w (· < w.heap.size) A n cs) (hS2 : Cvs w (· < w.heap.size) A2 n cs) (hm : n ≤ maxLen) :
    Calls Try.prog 44 #[.slice A n c, .slice A2 n c2] w (Yes w true) := by
  unfold maxLen at hm
  have HS := Lib.hid hS
  have HS2 := Lib.hid hS2
  clear hS hS2
  go_enter Try.func44, Try.ntmps44
  go_wp2
  go_loopw [5] (fun i w' => ∃ (k : Nat) (w1 : World), k ≤ n ∧ i = .int .i64 (k : Int) ∧ w1 = w' ∧ Hid (Below w.heap.size w w1)) (fun i _ => n - (intOf i).toNat)
  case atStart => exact ⟨0, _, Nat.zero_le _, rfl, rfl, Lib.hid (Below.refl _ _)⟩
  case round =>
    obtain ⟨k, w1, hk, rfl, rfl, HB⟩ := hrel
    by_cases hlt : k < n
    · obtain ⟨ad, x, rfl, hb, hx, hN⟩ := (HS.out.below HB.out).get hlt
      obtain ⟨ad2, y, rfl, hb2, hy, hN2⟩ := (HS2.out.below HB.out).get hlt
      have hlt2 : (k : Int) < (n : Int) := by omega
      rw [hx] at hy
      injection hy with hy
      subst hy
      obtain ⟨c0, c1, c2, c3, c4⟩ := hN
      obtain ⟨d0, d1, d2, d3, d4⟩ := hN2
      clear hx hb hb2
      go_wp2
      go_quiet (fail)
      go_wp2
      go_roundw
      case rel => exact ⟨k + 1, _, by omega, by go_num, rfl, Lib.hid (below_drewN HB.out _)⟩
      case measure => simp [intOf]; omega
    · go_wp2
      go_ret
      exact ⟨rfl, HB.out⟩

/-- Two changes in their boxes. -/
structure Two (t : TypeId) (xs ys : Array Value) (w W : World) : Prop where
  b : Below w.heap.size w W
  x : Bx W w.heap.size t xs
  y : Bx W (w.heap.size + 1) t ys
theorem Two.next {t : TypeId} {xs ys : Array Value} {w W W' : World} (h : Two t xs ys w W) (hb : Below W.heap.size W W') : Two t xs ys w W' := ⟨h.b.trans (hb.mono h.b.size), h.x.keep hb, h.y.keep hb⟩
theorem Two.start (t : TypeId) (xs ys : Array Value) (w : World) : Two t xs ys w ((w.alloc (.cells xs t)).alloc (.cells ys t)) := by
  refine ⟨(alloc_ _ _).alloc (by simp) _, (Bx.new _ _ _).alloc _, ?_⟩
  have := Bx.new (w.alloc (.cells xs t)) t ys
  rw [World.size_alloc] at this
  exact this

set_option maxRecDepth 100000 in
set_option maxHeartbeats 4000000 in
theorem same_change0 (v : Ch) (A A2 : Option Addr) (n c c2 : Nat) (w : World) (hS : Cvs w (· < w.heap.size) A n v.cs) (hS2 : Cvs w (· < w.heap.size) A2 n v.cs) (hm : n ≤ maxLen) :
    Calls Try.prog 23 #[.agg (vc ⟨v, A, n, c⟩), .agg (vc ⟨v, A2, n, c2⟩)] w (Yes w true) := by
  obtain ⟨W, hW⟩ : ∃ W, (w.alloc (.cells (vc ⟨v, A, n, c⟩) 26)).alloc (.cells (vc ⟨v, A2, n, c2⟩) 26) = W := ⟨_, rfl⟩
  have H0 := Lib.hid (show Two 26 (vc ⟨v, A, n, c⟩) (vc ⟨v, A2, n, c2⟩) w W by rw [← hW]; exact Two.start _ _ _ w)
  have CV := Lib.hid (same_covers _ _ _ c c2 _ W (hS.below H0.out.b) (hS2.below H0.out.b) hm)
  have HW := Lib.hid hW
  clear hW hS hS2 hm
  have hx := H0.out.x
  have x0 := hx.c 0
  have x1 := hx.c 1
  have x2 := hx.c 2
  have x3 := hx.c 3
  have x4 := hx.c 4
  have x5 := hx.c 5
  have x6 := hx.c 6
  have x7 := hx.c 7
  have x8 := hx.c 8
  simp at x0 x1 x2 x3 x4 x5 x6 x7 x8
  have hlx := hx.lt
  have hy := H0.out.y
  have y0 := hy.c 0
  have y1 := hy.c 1
  have y2 := hy.c 2
  have y3 := hy.c 3
  have y4 := hy.c 4
  have y5 := hy.c 5
  have y6 := hy.c 6
  have y7 := hy.c 7
  have y8 := hy.c 8
  simp at y0 y1 y2 y3 y4 y5 y6 y7 y8
  have hly := hy.lt
  clear hx hy
  go_enter Try.func23, Try.ntmps23
  go_wp2_with fail
  rw [HW.out]
  clear HW
  refine CV.out.mono ?_
  rintro e w1 ⟨rfl, hb1⟩
  have H1 := Lib.hid (H0.out.next hb1)
  clear hb1
  go_wp2
  go_ret
  exact ⟨rfl, H1.out.b⟩

theorem same_change (r r2 : Rw) (hv : r2.v = r.v) (w : World) (hS : Cvs w (· < w.heap.size) r.A r.n r.v.cs) (hS2 : Cvs w (· < w.heap.size) r2.A r2.n r2.v.cs) (hm : r.n ≤ maxLen) : Calls Try.prog 23 #[vg r, vg r2] w (Yes w true) := by
  obtain ⟨v, A, n, c⟩ := r
  obtain ⟨v2, A2, n2, c2⟩ := r2
  simp only at hv hS hS2 hm
  subst hv
  obtain rfl : n2 = n := by rw [← hS.1, ← hS2.1]
  exact same_change0 _ A A2 _ c c2 w hS hS2 hm

set_option maxRecDepth 100000 in
set_option maxHeartbeats 4000000 in
theorem same_terms (s : Sp) (r : Ri) (A A2 : Option Addr) (n c c2 : Nat) (cs : List Co) (w : World) (hS : Cvs w (· < w.heap.size) A n cs) (hS2 : Cvs w (· < w.heap.size) A2 n cs) (hm : n ≤ maxLen) :
    Calls Try.prog 37 #[.agg (tc s r A n c), .agg (tc s r A2 n c2)] w (Yes w true) := by
  obtain ⟨W, hW⟩ : ∃ W, (w.alloc (.cells (tc s r A n c) 30)).alloc (.cells (tc s r A2 n c2) 30) = W := ⟨_, rfl⟩
  have H0 := Lib.hid (show Two 30 (tc s r A n c) (tc s r A2 n c2) w W by rw [← hW]; exact Two.start _ _ _ w)
  have CV := Lib.hid (same_covers _ _ _ c c2 _ W (hS.below H0.out.b) (hS2.below H0.out.b) hm)
  have HW := Lib.hid hW
  clear hW hS hS2 hm
  have hx := H0.out.x
  have x0 := hx.c 0
  have x1 := hx.c 1
  have x2 := hx.c 2
  have x3 := hx.c 3
  have x4 := hx.c 4
  have x5 := hx.c 5
  have x6 := hx.c 6
  simp at x0 x1 x2 x3 x4 x5 x6
  have hlx := hx.lt
  have hy := H0.out.y
  have y0 := hy.c 0
  have y1 := hy.c 1
  have y2 := hy.c 2
  have y3 := hy.c 3
  have y4 := hy.c 4
  have y5 := hy.c 5
  have y6 := hy.c 6
  simp at y0 y1 y2 y3 y4 y5 y6
  have hly := hy.lt
  clear hx hy
  go_enter Try.func37, Try.ntmps37
  go_wp2_with fail
  rw [HW.out]
  clear HW
  refine CV.out.mono ?_
  rintro e w1 ⟨rfl, hb1⟩
  have H1 := Lib.hid (H0.out.next hb1)
  clear hb1
  go_wp2
  go_ret
  exact ⟨rfl, H1.out.b⟩

end Tm
end Go.Proofs.Ytcnlllamldlnmaa
