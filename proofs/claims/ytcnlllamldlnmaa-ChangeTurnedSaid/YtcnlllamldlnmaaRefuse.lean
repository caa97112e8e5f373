/-
  lastBooked and refusal of package change. Conditions: the history reads as meant, its lists are short.
-/
import Derived.Test.YtcnlllamldlnmaaBind
namespace Go.Proofs.Ytcnlllamldlnmaa
open Go.RowKit Ba Cv Sp Te Ag
namespace Tm
set_option linter.unusedVariables false

/-- The history's box. -/
structure HX (w W : World) (h : Hr) : Prop where
  b : Below w.heap.size w W
  x : Bx W w.heap.size 33 (hc h)
theorem HX.next {w W W' : World} {h : Hr} (H : HX w W h) (hb : Below W.heap.size W W') : HX w W' h := ⟨H.b.trans (hb.mono H.b.size), H.x.keep hb⟩
theorem HX.start (w : World) (h : Hr) : HX w (w.alloc (.cells (hc h) 33)) h := ⟨alloc_ _ _, Bx.new _ _ _⟩
/-- The history's box and the change's. -/
structure HC (w W : World) (h : Hr) (r : Rw) : Prop where
  h : HX w W h
  y : Bx W (w.heap.size + 1) 26 (vc r)
theorem HC.next {w W W' : World} {h : Hr} {r : Rw} (H : HC w W h r) (hb : Below W.heap.size W W') : HC w W' h r := ⟨H.h.next hb, H.y.keep hb⟩
theorem HC.start (w : World) (h : Hr) (r : Rw) : HC w ((w.alloc (.cells (hc h) 33)).alloc (.cells (vc r) 26)) h r := by
  refine ⟨(HX.start w h).next (alloc_ _ _), ?_⟩
  have := Bx.new (w.alloc (.cells (hc h) 33)) 26 (vc r)
  rw [World.size_alloc] at this
  exact this
theorem map_get {rs : List Rw} {k : Nat} {r : Rw} (h : rs[k]? = some r) : (rs.map Rw.v)[k]? = some r.v := by rw [List.getElem?_map, h]; rfl
theorem last_zero {b : Int} {hs : List Ch} (h : hs.length = 0) : last b hs = b := by rw [List.eq_nil_of_length_eq_zero h]; rfl

set_option maxRecDepth 100000 in
set_option maxHeartbeats 2000000 in
theorem lastBooked (h : Hr) (w : World) (M : HM w (· < w.heap.size) h) (hm : h.m ≤ 3000) : Calls Try.prog 51 #[hg h] w fun e w' => e = .returned (.int .i64 (last h.bk h.v.hs)) ∧ Below w.heap.size w w' := by
  have hl := M.len
  by_cases h0 : h.m = 0
  · rw [last_zero (by omega)]
    have t1 : decide (0 < (h.m : Int)) = false := decide_eq_false (by omega)
    have t1n : decide (0 < h.m) = false := decide_eq_false (by omega)
    have t2 : ((h.m : Int) == 0) = true := by rw [beq_iff_eq]; omega
    clear hl M hm h0
    go_enter Try.func51, Try.ntmps51
    go_wp2
    go_ret
    exact ⟨rfl, alloc_ _ _⟩
  · obtain ⟨k, hk⟩ : ∃ k, h.m = k + 1 := ⟨h.m - 1, by omega⟩
    obtain ⟨ad, r, hB, hb, hr, hn, _, hv⟩ := M.get (k := k) (by omega)
    rw [last_get hv (by omega)]
    have hn' := hn.keep (w' := w.alloc (.cells (hc h) 33)) fun p hp => (alloc_ w (.cells (hc h) 33)).cell (by rw [hp, add_block]; exact hb)
    have c0 := hn'.c0
    have e1 : (h.m : Int) - 1 = (k : Int) := by omega
    have t1 : decide (0 < (h.m : Int)) = true := decide_eq_true (by omega)
    have t1n : decide (0 < h.m) = true := decide_eq_true (by omega)
    have t2 : ((h.m : Int) == 0) = false := by rw [beq_eq_false_iff_ne]; omega
    have b1 : (k : Int) < (h.m : Int) := by omega
    have hk3 : k ≤ 3000 := by omega
    have hlb : ad.block < w.heap.size + 1 := by omega
    clear hl hk hr hn hn' hv h0 M
    go_enter Try.func51, Try.ntmps51
    go_wp2
    go_ret
    exact ⟨rfl, alloc_ _ _⟩

set_option maxRecDepth 100000 in
set_option maxHeartbeats 4000000 in
theorem refusal (h : Hr) (w : World) (M : HM w (· < w.heap.size) h) (hm : h.m ≤ 3000) (r : Rw) (hS : Cvs w (· < w.heap.size) r.A r.n r.v.cs) (hn : r.n ≤ 3000) : Calls Try.prog 34 #[hg h, vg r] w (fun e w' => e = .returned (.int .i64 (code h.s h.bk h.v.hs r.v)) ∧ Below w.heap.size w w') := by
  obtain ⟨W, hW⟩ : ∃ W, (w.alloc (.cells (hc h) 33)).alloc (.cells (vc r) 26) = W := ⟨_, rfl⟩
  have H0 := Lib.hid (show HC w W h r by rw [← hW]; exact HC.start w h r)
  have HW := Lib.hid hW
  clear hW
  obtain ⟨cd, hcd⟩ : ∃ cd, code h.s h.bk h.v.hs r.v = cd := ⟨_, rfl⟩
  rw [hcd]
  have HCD := Lib.hid hcd
  have HLL := Lib.hid M.len
  have C1 := Lib.hid (right0 r W (hS.below H0.out.h.b) (by unfold maxLen; omega))
  have C2 := fun w => Lib.hid (span_in h.s r.v.dy w)
  have C3 := fun (W' : World) (hb : Below w.heap.size w W') => Lib.hid (lastBooked h W' (M.below hb) hm)
  have HC3 := Lib.hid C3
  clear C3 hcd M hS hn
  have hx := H0.out.h.x
  have hy := H0.out.y
  have x0 := hx.c 0
  have x1 := hx.c 1
  have x2 := hx.c 2
  have x3 := hx.c 3
  have x4 := hx.c 4
  have x5 := hx.c 5
  have x6 := hx.c 6
  have x7 := hx.c 7
  have x8 := hx.c 8
  have x9 := hx.c 9
  simp at x0 x1 x2 x3 x4 x5 x6 x7 x8 x9
  have y0 := hy.c 0
  have y1 := hy.c 1
  have y2 := hy.c 2
  have y3 := hy.c 3
  have y4 := hy.c 4
  have y5 := hy.c 5
  have y6 := hy.c 6
  have y7 := hy.c 7
  have y8 := hy.c 8
  simp at y0 y1 y2 y3 y4 y5 y6 y7 y8
  have hlx := hx.lt
  have hly := hy.lt
  clear hx hy
  cases hq : rch r.v
  · have HQ := Lib.hid (show cd = 1 by rw [← HCD.out]; exact code_arg (by rw [hq]; rfl))
    rw [hq] at C1
    clear hq HC3
    go_enter Try.func34, Try.ntmps34
    go_wp2_with fail
    rw [HW.out]
    refine C1.out.mono ?_
    rintro e w1 ⟨rfl, hb1⟩
    have H1 := Lib.hid (H0.out.next hb1)
    clear hb1
    go_wp2
    go_ret
    exact ⟨by rw [HQ.out]; rfl, H1.out.h.b⟩
  rw [hq] at C1
  cases hi : inn h.s r.v.dy
  · have HQ := Lib.hid (show cd = 1 by rw [← HCD.out]; exact code_arg (by rw [hi]; simp))
    rw [hi] at C2
    clear hq HC3 hi
    go_enter Try.func34, Try.ntmps34
    go_wp2_with fail
    rw [HW.out]
    refine C1.out.mono ?_
    rintro e w1 ⟨rfl, hb1⟩
    have H1 := Lib.hid (H0.out.next hb1)
    have hx := H1.out.h.x
    have hy := H1.out.y
    have u2 := hx.c 2
    have u3 := hx.c 3
    simp at u2 u3
    have v1 := hy.c 1
    simp at v1
    clear hb1 hx hy x0 x1 x2 x3 x4 x5 x6 x7 x8 x9 y0 y1 y2 y3 y4 y5 y6 y7 y8
    go_wp2_with fail
    refine (C2 _).out.mono ?_
    rintro e w2 ⟨rfl, hb2⟩
    have H2 := Lib.hid (H1.out.next hb2)
    clear hb2
    go_wp2
    go_ret
    exact ⟨by rw [HQ.out]; rfl, H2.out.h.b⟩
  rw [hi] at C2
  have HG := Lib.hid (show (rch r.v && inn h.s r.v.dy) = true by rw [hq, hi]; rfl)
  obtain ⟨lb, hlb⟩ : ∃ lb, last h.bk h.v.hs = lb := ⟨_, rfl⟩
  rw [hlb] at HC3
  have HLB := Lib.hid hlb
  clear hq hi hlb
  have go : ∀ (P : Prop), P → P := fun _ h => h
  clear go
  by_cases h1 : r.v.bk < lb
  · have t1 : decide (r.v.bk < lb) = true := decide_eq_true h1
    have HQ := Lib.hid (show cd = 4 by rw [← HCD.out]; exact code_order HG.out (by rw [HLB.out]; exact h1))
    clear h1
    go_enter Try.func34, Try.ntmps34
    go_wp2_with fail
    rw [HW.out]
    refine C1.out.mono ?_
    rintro e w1 ⟨rfl, hb1⟩
    have H1 := Lib.hid (H0.out.next hb1)
    have hx := H1.out.h.x
    have hy := H1.out.y
    have u2 := hx.c 2
    have u3 := hx.c 3
    simp at u2 u3
    have v1 := hy.c 1
    simp at v1
    clear hb1 hx hy x0 x1 x2 x3 x4 x5 x6 x7 x8 x9 y0 y1 y2 y3 y4 y5 y6 y7 y8
    go_wp2_with fail
    refine (C2 _).out.mono ?_
    rintro e w2 ⟨rfl, hb2⟩
    have H2 := Lib.hid (H1.out.next hb2)
    clear hb2 u2 u3 v1
    go_wp2_with fail
    have x0 : ∀ p : Ext w2, p.W.cell? ⟨w.heap.size, 0, none⟩ = some (.int .i64 h.id) := fun p => H2.out.h.x.ext p 0
    have x1 : ∀ p : Ext w2, p.W.cell? ⟨w.heap.size, 1, none⟩ = some (.int .i64 h.bk) := fun p => H2.out.h.x.ext p 1
    have x2 : ∀ p : Ext w2, p.W.cell? ⟨w.heap.size, 2, none⟩ = some (.int .i64 h.s.1) := fun p => H2.out.h.x.ext p 2
    have x3 : ∀ p : Ext w2, p.W.cell? ⟨w.heap.size, 3, none⟩ = some (.int .i64 h.s.2) := fun p => H2.out.h.x.ext p 3
    have x4 : ∀ p : Ext w2, p.W.cell? ⟨w.heap.size, 4, none⟩ = some (.int .i64 h.r.k) := fun p => H2.out.h.x.ext p 4
    have x5 : ∀ p : Ext w2, p.W.cell? ⟨w.heap.size, 5, none⟩ = some (.int .i64 h.r.v) := fun p => H2.out.h.x.ext p 5
    have x6 : ∀ p : Ext w2, p.W.cell? ⟨w.heap.size, 6, none⟩ = some (.int .i64 h.r.a) := fun p => H2.out.h.x.ext p 6
    have x7 : ∀ p : Ext w2, p.W.cell? ⟨w.heap.size, 7, none⟩ = some (.int .i64 h.r.z) := fun p => H2.out.h.x.ext p 7
    have x8 : ∀ p : Ext w2, p.W.cell? ⟨w.heap.size, 8, none⟩ = some (.slice h.A h.n h.c) := fun p => H2.out.h.x.ext p 8
    have x9 : ∀ p : Ext w2, p.W.cell? ⟨w.heap.size, 9, none⟩ = some (.slice h.B h.m h.d) := fun p => H2.out.h.x.ext p 9
    have y0 : ∀ p : Ext w2, p.W.cell? ⟨w.heap.size + 1, 0, none⟩ = some (.int .i64 r.v.bk) := fun p => H2.out.y.ext p 0
    have CL := fun (p : Ext w2) => HC3.out p.W (H2.out.h.b.trans (p.b.mono H2.out.h.b.size))
    have ne : Nonempty (Ext w2) := ⟨⟨w2, Below.refl _ _⟩⟩
    refine quietE (by kernel_rfl) (by kernel_rfl) ?_
    repeat (first | go_big_quiet_skip | quiet_step (first
      | (go_at_call 51; with_reducible exact ext_of (CL _).out)
      | fail))
    refine wpQuiet_nil ?_
    rintro _ ⟨p, rfl⟩
    have H3 := Lib.hid (H2.out.next p.b)
    generalize p.W = w3 at H3 ⊢
    clear CL ne x0 x1 x2 x3 x4 x5 x6 x7 x8 x9 y0
    have x9 := H3.out.h.x.c 9
    simp at x9
    try rw [t1]
    go_wp2
    go_ret
    exact ⟨by rw [HQ.out]; rfl, H3.out.h.b⟩
  have t1 : decide (r.v.bk < lb) = false := decide_eq_false h1
  by_cases h2 : 2000 ≤ h.m
  · have t2 : decide (2000 ≤ (h.m : Int)) = true := decide_eq_true (by omega)
    have t2n : decide (2000 ≤ h.m) = true := decide_eq_true h2
    have HQ := Lib.hid (show cd = 2 by rw [← HCD.out]; exact code_bound HG.out (by rw [HLB.out]; exact h1) (by rw [HLL.out]; exact h2))
    clear h1 h2
    go_enter Try.func34, Try.ntmps34
    go_wp2_with fail
    rw [HW.out]
    refine C1.out.mono ?_
    rintro e w1 ⟨rfl, hb1⟩
    have H1 := Lib.hid (H0.out.next hb1)
    have hx := H1.out.h.x
    have hy := H1.out.y
    have u2 := hx.c 2
    have u3 := hx.c 3
    simp at u2 u3
    have v1 := hy.c 1
    simp at v1
    clear hb1 hx hy x0 x1 x2 x3 x4 x5 x6 x7 x8 x9 y0 y1 y2 y3 y4 y5 y6 y7 y8
    go_wp2_with fail
    refine (C2 _).out.mono ?_
    rintro e w2 ⟨rfl, hb2⟩
    have H2 := Lib.hid (H1.out.next hb2)
    clear hb2 u2 u3 v1
    go_wp2_with fail
    have x0 : ∀ p : Ext w2, p.W.cell? ⟨w.heap.size, 0, none⟩ = some (.int .i64 h.id) := fun p => H2.out.h.x.ext p 0
    have x1 : ∀ p : Ext w2, p.W.cell? ⟨w.heap.size, 1, none⟩ = some (.int .i64 h.bk) := fun p => H2.out.h.x.ext p 1
    have x2 : ∀ p : Ext w2, p.W.cell? ⟨w.heap.size, 2, none⟩ = some (.int .i64 h.s.1) := fun p => H2.out.h.x.ext p 2
    have x3 : ∀ p : Ext w2, p.W.cell? ⟨w.heap.size, 3, none⟩ = some (.int .i64 h.s.2) := fun p => H2.out.h.x.ext p 3
    have x4 : ∀ p : Ext w2, p.W.cell? ⟨w.heap.size, 4, none⟩ = some (.int .i64 h.r.k) := fun p => H2.out.h.x.ext p 4
    have x5 : ∀ p : Ext w2, p.W.cell? ⟨w.heap.size, 5, none⟩ = some (.int .i64 h.r.v) := fun p => H2.out.h.x.ext p 5
    have x6 : ∀ p : Ext w2, p.W.cell? ⟨w.heap.size, 6, none⟩ = some (.int .i64 h.r.a) := fun p => H2.out.h.x.ext p 6
    have x7 : ∀ p : Ext w2, p.W.cell? ⟨w.heap.size, 7, none⟩ = some (.int .i64 h.r.z) := fun p => H2.out.h.x.ext p 7
    have x8 : ∀ p : Ext w2, p.W.cell? ⟨w.heap.size, 8, none⟩ = some (.slice h.A h.n h.c) := fun p => H2.out.h.x.ext p 8
    have x9 : ∀ p : Ext w2, p.W.cell? ⟨w.heap.size, 9, none⟩ = some (.slice h.B h.m h.d) := fun p => H2.out.h.x.ext p 9
    have y0 : ∀ p : Ext w2, p.W.cell? ⟨w.heap.size + 1, 0, none⟩ = some (.int .i64 r.v.bk) := fun p => H2.out.y.ext p 0
    have CL := fun (p : Ext w2) => HC3.out p.W (H2.out.h.b.trans (p.b.mono H2.out.h.b.size))
    have ne : Nonempty (Ext w2) := ⟨⟨w2, Below.refl _ _⟩⟩
    refine quietE (by kernel_rfl) (by kernel_rfl) ?_
    repeat (first | go_big_quiet_skip | quiet_step (first
      | (go_at_call 51; with_reducible exact ext_of (CL _).out)
      | fail))
    refine wpQuiet_nil ?_
    rintro _ ⟨p, rfl⟩
    have H3 := Lib.hid (H2.out.next p.b)
    generalize p.W = w3 at H3 ⊢
    clear CL ne x0 x1 x2 x3 x4 x5 x6 x7 x8 x9 y0
    have x9 := H3.out.h.x.c 9
    simp at x9
    try rw [t1]
    go_wp2
    go_ret
    exact ⟨by rw [HQ.out]; rfl, H3.out.h.b⟩
  · have t2 : decide (2000 ≤ (h.m : Int)) = false := decide_eq_false (by omega)
    have t2n : decide (2000 ≤ h.m) = false := decide_eq_false h2
    have HQ := Lib.hid (show cd = 0 by rw [← HCD.out]; exact code_ok HG.out (by rw [HLB.out]; exact h1) (by rw [HLL.out]; exact h2))
    clear h1 h2
    go_enter Try.func34, Try.ntmps34
    go_wp2_with fail
    rw [HW.out]
    refine C1.out.mono ?_
    rintro e w1 ⟨rfl, hb1⟩
    have H1 := Lib.hid (H0.out.next hb1)
    have hx := H1.out.h.x
    have hy := H1.out.y
    have u2 := hx.c 2
    have u3 := hx.c 3
    simp at u2 u3
    have v1 := hy.c 1
    simp at v1
    clear hb1 hx hy x0 x1 x2 x3 x4 x5 x6 x7 x8 x9 y0 y1 y2 y3 y4 y5 y6 y7 y8
    go_wp2_with fail
    refine (C2 _).out.mono ?_
    rintro e w2 ⟨rfl, hb2⟩
    have H2 := Lib.hid (H1.out.next hb2)
    clear hb2 u2 u3 v1
    go_wp2_with fail
    have x0 : ∀ p : Ext w2, p.W.cell? ⟨w.heap.size, 0, none⟩ = some (.int .i64 h.id) := fun p => H2.out.h.x.ext p 0
    have x1 : ∀ p : Ext w2, p.W.cell? ⟨w.heap.size, 1, none⟩ = some (.int .i64 h.bk) := fun p => H2.out.h.x.ext p 1
    have x2 : ∀ p : Ext w2, p.W.cell? ⟨w.heap.size, 2, none⟩ = some (.int .i64 h.s.1) := fun p => H2.out.h.x.ext p 2
    have x3 : ∀ p : Ext w2, p.W.cell? ⟨w.heap.size, 3, none⟩ = some (.int .i64 h.s.2) := fun p => H2.out.h.x.ext p 3
    have x4 : ∀ p : Ext w2, p.W.cell? ⟨w.heap.size, 4, none⟩ = some (.int .i64 h.r.k) := fun p => H2.out.h.x.ext p 4
    have x5 : ∀ p : Ext w2, p.W.cell? ⟨w.heap.size, 5, none⟩ = some (.int .i64 h.r.v) := fun p => H2.out.h.x.ext p 5
    have x6 : ∀ p : Ext w2, p.W.cell? ⟨w.heap.size, 6, none⟩ = some (.int .i64 h.r.a) := fun p => H2.out.h.x.ext p 6
    have x7 : ∀ p : Ext w2, p.W.cell? ⟨w.heap.size, 7, none⟩ = some (.int .i64 h.r.z) := fun p => H2.out.h.x.ext p 7
    have x8 : ∀ p : Ext w2, p.W.cell? ⟨w.heap.size, 8, none⟩ = some (.slice h.A h.n h.c) := fun p => H2.out.h.x.ext p 8
    have x9 : ∀ p : Ext w2, p.W.cell? ⟨w.heap.size, 9, none⟩ = some (.slice h.B h.m h.d) := fun p => H2.out.h.x.ext p 9
    have y0 : ∀ p : Ext w2, p.W.cell? ⟨w.heap.size + 1, 0, none⟩ = some (.int .i64 r.v.bk) := fun p => H2.out.y.ext p 0
    have CL := fun (p : Ext w2) => HC3.out p.W (H2.out.h.b.trans (p.b.mono H2.out.h.b.size))
    have ne : Nonempty (Ext w2) := ⟨⟨w2, Below.refl _ _⟩⟩
    refine quietE (by kernel_rfl) (by kernel_rfl) ?_
    repeat (first | go_big_quiet_skip | quiet_step (first
      | (go_at_call 51; with_reducible exact ext_of (CL _).out)
      | fail))
    refine wpQuiet_nil ?_
    rintro _ ⟨p, rfl⟩
    have H3 := Lib.hid (H2.out.next p.b)
    generalize p.W = w3 at H3 ⊢
    clear CL ne x0 x1 x2 x3 x4 x5 x6 x7 x8 x9 y0
    have x9 := H3.out.h.x.c 9
    simp at x9
    try rw [t1]
    go_wp2
    go_ret
    exact ⟨by rw [HQ.out]; rfl, H3.out.h.b⟩

end Tm
end Go.Proofs.Ytcnlllamldlnmaa
