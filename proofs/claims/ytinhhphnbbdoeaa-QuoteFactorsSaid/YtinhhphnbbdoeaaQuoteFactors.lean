/-
  The statement QuoteFactors holds: for every input the call returns true, and each argument reads afterwards as it read before. Conditions: none beside those that the row itself bears.
-/
import Derived.Test.YtinhhphnbbdoeaaGiven
namespace Go.Proofs.Ytinhhphnbbdoeaa.quoteFactors
open Go.ChangeShapes Go.WideShapes Go.ChangeAt Go.RowKit Ba Tf Cv Qm Qo
set_option linter.unusedVariables false


/-- Appending to an empty slice: a new row. -/
theorem run_new (w : World) (ty : TypeId) (g0 : Addr) (ok : Nat → Prop) (ad : Addr) (m c : Nat) (xs : List Int) (hr : Ins w ok (some ad) m xs) (hm : 0 < m) (hlen : m ≤ 4000000) :
    ∃ g cap w', (Builtin.append_ #[24, 24] ty #[.slice (some g0) 0 0, .slice (some ad) m c]).run Try.prog w = .ok (.slice (some ⟨g, 0, none⟩) m cap) w' ∧ IOwn w' w.heap.size (some ⟨g, 0, none⟩) m cap xs ∧ Below w.heap.size w w' ∧ w.heap.size ≤ g ∧ g < w'.heap.size := by
  obtain ⟨i, hi, hz, h1, h2⟩ := info_parts info_int
  obtain ⟨v', w', hrun, r1, r2⟩ := run_append_arg_grows (P := Try.prog) w 24 ty 3 i _ 1 8 Try.underlying24 hi hz h1 h2 rfl (by omega) g0 0 0 [] rfl (by simp) ad m c (celi xs) (by rw [celi_length, hr.1]) (fun j u hu => Ins.cells hr j u (by unfold celi at hu; exact hu)) (by omega) (by unfold maxLen; omega) (by omega)
  rw [List.nil_append] at r1
  obtain ⟨g, cap, rfl, hlo, hlt⟩ := r1.form (by omega)
  rw [Nat.zero_add] at hrun r1
  exact ⟨g, cap, w', hrun, r1, below_of_grown r2, hlo, hlt⟩
theorem step_new (w : World) {ops : Array Oper} {o : Oper} {a : Act} {K : Act → World → Prop} {Q : Exit → Act → World → Prop} {E : Prop} (hgd : o.guard = none) (s x : Operand)
    (ho : o.op = .call { callee := .builtin .append, args := #[s, x], argTypes := #[24, 24] }) (g0 : Addr) (hs : a.eval s = .slice (some g0) 0 0)
    (ok : Nat → Prop) (ad : Addr) (m c : Nat) (xs : List Int) (hx : a.eval x = .slice (some ad) m c) (hr : Ins w ok (some ad) m xs) (hm : 0 < m) (hlen : m ≤ 4000000)
    (h : ∀ g cap w', IOwn w' w.heap.size (some ⟨g, 0, none⟩) m cap xs → Below w.heap.size w w' → w.heap.size ≤ g → g < w'.heap.size → K (a.put o.dst (.slice (some ⟨g, 0, none⟩) m cap)) w') :
    if Region.wanted o (yielded ops a.tmps) = true then Oper.wp Try.prog o a w K Q else E := by
  have hw : Region.wanted o (yielded ops a.tmps) = true := by simp [Region.wanted, hgd]
  rw [if_pos hw]
  obtain ⟨g, cap, w', hrun, r1, r2, r3, r4⟩ := run_new w o.type g0 ok ad m c xs hr hm hlen
  unfold Oper.wp execOp
  simp only [ho, resolve, invoke, builtin, Sem.run_bind, Sem.run_pure, Result.andThen_ok, List.map_toArray, List.map_cons, List.map_nil, hs, hx, hrun]
  exact h g cap w' r1 r2 r3 r4

/-- A row of ints in a block of its own. -/
structure Rr (W : World) (g : Nat) (xs : List Int) : Prop where
  c : ∀ (j : Nat) (x : Int), xs[j]? = some x → W.cell? ⟨g, j, none⟩ = some (.int .i64 x)
  f : ∀ j, W.frozen? ⟨g, j, none⟩ = false
  lt : g < W.heap.size
theorem Rr.of {W : World} {base g m cap : Nat} {xs : List Int} (h : IOwn W base (some ⟨g, 0, none⟩) m cap xs) (hlt : g < W.heap.size) : Rr W g xs := by
  refine ⟨fun j x hx => by have := World.ownsRow.cells (g := g) h rfl j (.int .i64 x) (by unfold celi; rw [List.getElem?_map, hx]; rfl); rwa [Addr.add_lit, Nat.zero_add] at this, fun j => ?_, hlt⟩
  rcases h.2 with ⟨e, _⟩ | ⟨g', cap', cur, e, _, hh, _⟩
  · cases e
  · injection e with e
    injection e with e
    injection e with e
    subst e
    simp [World.frozen?, hh]
theorem Rr.keep {W W' : World} {g : Nat} {xs : List Int} (h : Rr W g xs) (hb : Below W.heap.size W W') : Rr W' g xs :=
  ⟨fun j x hx => (hb.cell (p := ⟨g, j, none⟩) h.lt).trans (h.c j x hx), fun j => (hb.frozen (p := ⟨g, j, none⟩) h.lt).trans (h.f j), Nat.lt_of_lt_of_le h.lt hb.size⟩
theorem Rr.far {W : World} {g : Nat} {xs : List Int} (h : Rr W g xs) {a : Addr} (ha : a.block ≠ g) (u : Value) : Rr (W.setCell a u) g xs :=
  ⟨fun j x hx => (World.cell?_setCell_other _ _ _ _ (fun e => ha (by rw [e]))).trans (h.c j x hx), fun j => by have := h.f j; simpa using this, by have := h.lt; simpa using this⟩
theorem Rr.set {W : World} {g : Nat} {xs : List Int} (h : Rr W g xs) {k : Nat} (hk : k < xs.length) (z : Int) : Rr (W.setCell ⟨g, k, none⟩ (.int .i64 z)) g (xs.set k z) := by
  refine ⟨fun j x hx => ?_, fun j => by have := h.f j; simpa using this, by have := h.lt; simpa using this⟩
  by_cases e : k = j
  · subst e
    rw [List.getElem?_set_self hk] at hx
    injection hx with hx
    subst hx
    exact World.cell?_setCell_same _ _ _ (h.c k _ (List.getElem?_eq_getElem hk))
  · rw [List.getElem?_set_ne e] at hx
    exact (World.cell?_setCell_other _ _ _ _ (by intro e2; injection e2 with _ e3; exact e e3)).trans (h.c j x hx)
theorem Rr.ins {W : World} {g : Nat} {xs : List Int} (h : Rr W g xs) : Ins W (· < W.heap.size) (some ⟨g, 0, none⟩) xs.length xs :=
  ⟨rfl, fun _ => ⟨_, rfl, h.lt, fun j x hx => by rw [Addr.add_lit, Nat.zero_add]; exact h.c j x hx⟩⟩

/-- A version with another row of zones; of perils. -/
def rZ (r : Rw) (g c : Nat) (zs : List Int) : Rw := ⟨⟨r.v.fr, r.v.b0, r.v.b1, r.v.b2, r.v.b3, r.v.ag, zs, r.v.pe, r.v.mn⟩, r.A, r.la, r.ca, some ⟨g, 0, none⟩, r.lz, c, r.P, r.lp, r.cp⟩
def rP (r : Rw) (g c : Nat) (ps : List Int) : Rw := ⟨⟨r.v.fr, r.v.b0, r.v.b1, r.v.b2, r.v.b3, r.v.ag, r.v.zn, ps, r.v.mn⟩, r.A, r.la, r.ca, r.Z, r.lz, r.cz, some ⟨g, 0, none⟩, r.lp, c⟩

/-- The three boxes, and two copies of the version's. -/
structure QG (wo W : World) (rr : Rw) (xx : Ri) (qq : Co) (bw bu : Nat) : Prop extends B3 wo W rr xx qq where
  l1 : wo.heap.size + 3 ≤ bw
  l2 : wo.heap.size + 3 ≤ bu
  w : Bx W bw 26 (vc rr)
  u : Bx W bu 26 (vc rr)
  ne : bw ≠ bu
/-- The copies with a row of their own each. -/
structure QF (wo W : World) (rr : Rw) (xx : Ri) (qq : Co) (bw bu g1 c1 g2 c2 : Nat) (zs ps : List Int) : Prop extends B3 wo W rr xx qq where
  w : Bx W bw 26 (vc (rZ rr g1 c1 zs))
  u : Bx W bu 26 (vc (rP rr g2 c2 ps))
  z : Rr W g1 zs
  p : Rr W g2 ps
  l0 : wo.heap.size + 3 ≤ g1
  l1 : wo.heap.size + 3 ≤ g2
  l2 : bw < g1
  l3 : bu < g1
  l4 : g1 < g2
section
variable {w W W' : World} {r : Rw} {x : Ri} {c : Co} {bw bu g1 c1 g2 c2 : Nat} {zs ps : List Int}
theorem QG.next (h : QG w W r x c bw bu) (hb : Below W.heap.size W W') : QG w W' r x c bw bu := ⟨h.toB3.next hb, h.l1, h.l2, h.w.keep hb, h.u.keep hb, h.ne⟩
theorem QG.wu (h : B3 w W r x c) : QG w ((W.alloc (.cells (vc r) 26)).alloc (.cells (vc r) 26)) r x c W.heap.size (W.heap.size + 1) := by
  have hl := h.c.lt
  refine ⟨h.next ((alloc_ _ _).alloc (by simp) _), by omega, by omega, (Bx.new _ _ _).alloc _, ?_, by omega⟩
  have := Bx.new (W.alloc (.cells (vc r) 26)) 26 (vc r)
  rw [World.size_alloc] at this
  exact this
theorem QG.uw (h : B3 w W r x c) : QG w ((W.alloc (.cells (vc r) 26)).alloc (.cells (vc r) 26)) r x c (W.heap.size + 1) W.heap.size := by
  obtain ⟨a, b, d, e, f, g⟩ := QG.wu h
  exact ⟨a, d, b, f, e, fun q => g q.symm⟩
theorem QG.f1 (h : QG w W r x c bw bu) (u : Value) : B3 w (W.setCell ⟨bw, 6, none⟩ u) r x c := by
  have := h.l1
  exact ⟨h.b.setCell (p := ⟨bw, 6, none⟩) (by show w.heap.size ≤ bw; omega) _, h.v.far (by show w.heap.size ≠ bw; omega) _, h.r.far (by show w.heap.size + 1 ≠ bw; omega) _, h.c.far (by show w.heap.size + 1 + 1 ≠ bw; omega) _⟩
theorem QG.f2 (h : QG w W r x c bw bu) (u u' : Value) : B3 w ((W.setCell ⟨bw, 6, none⟩ u).setCell ⟨bu, 7, none⟩ u') r x c := by
  have := h.l2
  have h := h.f1 u
  exact ⟨h.b.setCell (p := ⟨bu, 7, none⟩) (by show w.heap.size ≤ bu; omega) _, h.v.far (by show w.heap.size ≠ bu; omega) _, h.r.far (by show w.heap.size + 1 ≠ bu; omega) _, h.c.far (by show w.heap.size + 1 + 1 ≠ bu; omega) _⟩
theorem QG.done (h : QG w W r x c bw bu) (h1 : Rr W g1 r.v.zn) (h2 : Rr W g2 r.v.pe) (k1 : bw < g1) (k2 : bu < g1) (k3 : g1 < g2) :
    QF w ((W.setCell ⟨bw, 6, none⟩ (.slice (some ⟨g1, 0, none⟩) r.lz c1)).setCell ⟨bu, 7, none⟩ (.slice (some ⟨g2, 0, none⟩) r.lp c2)) r x c bw bu g1 c1 g2 c2 r.v.zn r.v.pe := by
  have a1 := h.l1
  have a2 := h.l2
  have a3 := h.ne
  refine ⟨h.f2 _ _, ?_, ?_, (h1.far (by show bw ≠ g1; omega) _).far (by show bu ≠ g1; omega) _, (h2.far (by show bw ≠ g2; omega) _).far (by show bu ≠ g2; omega) _, by omega, by omega, k1, k2, k3⟩
  · exact (h.w.set 6 _).far (by show bw ≠ bu; omega) _
  · exact (h.u.far (by show bu ≠ bw; omega) _).set 7 _
theorem QF.next (h : QF w W r x c bw bu g1 c1 g2 c2 zs ps) (hb : Below W.heap.size W W') : QF w W' r x c bw bu g1 c1 g2 c2 zs ps := ⟨h.toB3.next hb, h.w.keep hb, h.u.keep hb, h.z.keep hb, h.p.keep hb, h.l0, h.l1, h.l2, h.l3, h.l4⟩
theorem QF.setz (h : QF w W r x c bw bu g1 c1 g2 c2 zs ps) {k : Nat} (hk : k < zs.length) (z : Int) : QF w (W.setCell ⟨g1, k, none⟩ (.int .i64 z)) r x c bw bu g1 c1 g2 c2 (zs.set k z) ps := by
  have a0 := h.l0
  have a2 := h.l2
  have a3 := h.l3
  have a4 := h.l4
  exact ⟨⟨h.b.setCell (p := ⟨g1, k, none⟩) (by show w.heap.size ≤ g1; omega) _, h.v.far (by show w.heap.size ≠ g1; omega) _, h.r.far (by show w.heap.size + 1 ≠ g1; omega) _, h.c.far (by show w.heap.size + 1 + 1 ≠ g1; omega) _⟩,
    h.w.far (by show bw ≠ g1; omega) _, h.u.far (by show bu ≠ g1; omega) _, h.z.set hk z, h.p.far (by show g1 ≠ g2; omega) _, h.l0, h.l1, h.l2, h.l3, h.l4⟩
theorem QF.setp (h : QF w W r x c bw bu g1 c1 g2 c2 zs ps) {k : Nat} (hk : k < ps.length) (z : Int) : QF w (W.setCell ⟨g2, k, none⟩ (.int .i64 z)) r x c bw bu g1 c1 g2 c2 zs (ps.set k z) := by
  have a0 := h.l1
  have a2 := h.l2
  have a3 := h.l3
  have a4 := h.l4
  exact ⟨⟨h.b.setCell (p := ⟨g2, k, none⟩) (by show w.heap.size ≤ g2; omega) _, h.v.far (by show w.heap.size ≠ g2; omega) _, h.r.far (by show w.heap.size + 1 ≠ g2; omega) _, h.c.far (by show w.heap.size + 1 + 1 ≠ g2; omega) _⟩,
    h.w.far (by show bw ≠ g2; omega) _, h.u.far (by show bu ≠ g2; omega) _, h.z.far (by show g2 ≠ g1; omega) _, h.p.set hk z, h.l0, h.l1, h.l2, h.l3, h.l4⟩
theorem QF.mw (h : QF w W r x c bw bu g1 c1 g2 c2 zs ps) (M : Mean w (· < w.heap.size) r) (hl : zs.length = r.lz) : Mean W (· < W.heap.size) (rZ r g1 c1 zs) :=
  ⟨M.a.below h.b, by have := h.z.ins; rw [hl] at this; exact this, M.p.below h.b⟩
theorem QF.mu (h : QF w W r x c bw bu g1 c1 g2 c2 zs ps) (M : Mean w (· < w.heap.size) r) (hl : ps.length = r.lp) : Mean W (· < W.heap.size) (rP r g2 c2 ps) :=
  ⟨M.a.below h.b, M.z.below h.b, by have := h.p.ins; rw [hl] at this; exact this⟩
end
set_option maxRecDepth 100000 in
set_option maxHeartbeats 4000000 in
theorem way_no (r : Rw) (x : Ri) (c : Co) (w : World) (m e0 : Int) (CF : ∀ W : World, Hid (Calls Try.prog 9 #[vg r, .slice none 0 0] W (Yes W false))) (CA : ∀ W : World, Hid (Calls Try.prog 10 #[] W (Yes W true))) (C1 : ∀ W : World, Below w.heap.size w W → Hid (Calls Try.prog 11 #[vg r, rg x, cg c] W (Tells W (m, e0)))) : Calls Try.prog 7 #[vg r, rg x, cg c] w (Yes w true) := by
  obtain ⟨W, hW⟩ : ∃ W, (((w.alloc (.cells (vc r) 26)).alloc (.cells (rc x) 28)).alloc (.cells (cc c) 30)) = W := ⟨_, rfl⟩
  have HB0 := Lib.hid (show B3 w W r x c by rw [← hW]; exact B3.start w r x c)
  have HW := Lib.hid hW
  clear hW
  go_enter Try.func7, Try.ntmps7
  go_wp2_with fail
  rw [HW.out]
  clear HW
  refine (C1 _ HB0.out.b).out.mono ?_
  rintro e w1 ⟨rfl, hb1⟩
  have HB1 := Lib.hid (HB0.out.next hb1)
  clear hb1 HB0 C1
  have x0 := HB1.out.v.c 0
  have x1 := HB1.out.v.c 1
  have x2 := HB1.out.v.c 2
  have x3 := HB1.out.v.c 3
  have x4 := HB1.out.v.c 4
  have x5 := HB1.out.v.c 5
  have x6 := HB1.out.v.c 6
  have x7 := HB1.out.v.c 7
  have x8 := HB1.out.v.c 8
  have y0 := HB1.out.r.c 0
  have y1 := HB1.out.r.c 1
  have y2 := HB1.out.r.c 2
  have y3 := HB1.out.r.c 3
  have z0 := HB1.out.c.c 0
  have z1 := HB1.out.c.c 1
  have z2 := HB1.out.c.c 2
  have z3 := HB1.out.c.c 3
  have z4 := HB1.out.c.c 4
  simp at x0 x1 x2 x3 x4 x5 x6 x7 x8 y0 y1 y2 y3 z0 z1 z2 z3 z4
  go_wp2_with fail
  refine (CF _).out.mono ?_
  rintro e w2 ⟨rfl, hb2⟩
  have HB2 := Lib.hid (HB1.out.next hb2)
  clear hb2 HB1 x0 x1 x2 x3 x4 x5 x6 x7 x8 y0 y1 y2 y3 z0 z1 z2 z3 z4
  clear CF
  go_wp2_with fail
  refine (CA _).out.mono ?_
  rintro e w3 ⟨rfl, hb3⟩
  have HB3 := Lib.hid (HB2.out.next hb3)
  clear hb3 HB2 CA
  go_wp2
  go_ret
  exact ⟨rfl, HB3.out.b⟩

set_option maxRecDepth 100000 in
set_option maxHeartbeats 4000000 in
theorem way_err (r : Rw) (x : Ri) (c : Co) (w : World) (m e0 : Int) (t0 : (e0 == 0) = false) (CF : ∀ W : World, Hid (Calls Try.prog 9 #[vg r, .slice none 0 0] W (Yes W true))) (CA : ∀ W : World, Hid (Calls Try.prog 10 #[] W (Yes W true))) (C1 : ∀ W : World, Below w.heap.size w W → Hid (Calls Try.prog 11 #[vg r, rg x, cg c] W (Tells W (m, e0)))) : Calls Try.prog 7 #[vg r, rg x, cg c] w (Yes w true) := by
  obtain ⟨W, hW⟩ : ∃ W, (((w.alloc (.cells (vc r) 26)).alloc (.cells (rc x) 28)).alloc (.cells (cc c) 30)) = W := ⟨_, rfl⟩
  have HB0 := Lib.hid (show B3 w W r x c by rw [← hW]; exact B3.start w r x c)
  have HW := Lib.hid hW
  clear hW
  go_enter Try.func7, Try.ntmps7
  go_wp2_with fail
  rw [HW.out]
  clear HW
  refine (C1 _ HB0.out.b).out.mono ?_
  rintro e w1 ⟨rfl, hb1⟩
  have HB1 := Lib.hid (HB0.out.next hb1)
  clear hb1 HB0 C1
  have x0 := HB1.out.v.c 0
  have x1 := HB1.out.v.c 1
  have x2 := HB1.out.v.c 2
  have x3 := HB1.out.v.c 3
  have x4 := HB1.out.v.c 4
  have x5 := HB1.out.v.c 5
  have x6 := HB1.out.v.c 6
  have x7 := HB1.out.v.c 7
  have x8 := HB1.out.v.c 8
  have y0 := HB1.out.r.c 0
  have y1 := HB1.out.r.c 1
  have y2 := HB1.out.r.c 2
  have y3 := HB1.out.r.c 3
  have z0 := HB1.out.c.c 0
  have z1 := HB1.out.c.c 1
  have z2 := HB1.out.c.c 2
  have z3 := HB1.out.c.c 3
  have z4 := HB1.out.c.c 4
  simp at x0 x1 x2 x3 x4 x5 x6 x7 x8 y0 y1 y2 y3 z0 z1 z2 z3 z4
  go_wp2_with fail
  refine (CF _).out.mono ?_
  rintro e w2 ⟨rfl, hb2⟩
  have HB2 := Lib.hid (HB1.out.next hb2)
  clear hb2 HB1 x0 x1 x2 x3 x4 x5 x6 x7 x8 y0 y1 y2 y3 z0 z1 z2 z3 z4
  clear CF
  go_wp2_with fail
  refine (CA _).out.mono ?_
  rintro e w3 ⟨rfl, hb3⟩
  have HB3 := Lib.hid (HB2.out.next hb3)
  clear hb3 HB2 CA
  go_wp2
  go_ret
  exact ⟨rfl, HB3.out.b⟩

set_option maxRecDepth 100000 in
set_option maxHeartbeats 4000000 in
theorem way_yes (r : Rw) (az ap : Addr) (eZ : Hid (r.Z = some az)) (eP : Hid (r.P = some ap)) (xk xv xa cl' cg' cd' cs' : Int) (z p : Nat) (w : World) (M : Mean w (· < w.heap.size) r) (hz : z < r.lz) (hp : p < r.lp) (hlz : r.lz ≤ 400) (hlp : r.lp ≤ 400) (zv Y : Int) (hzv : r.v.zn[z]? = some zv)
    (q1 : wrap64 (zv + 7) = zv + 7) (q2 : IntKind.i64.wrap (zv + 7) = zv + 7) (q3 : min (zv + 7) 100000 = Y)
    (m0 m1 f1 : Int) (CF : ∀ W : World, Hid (Calls Try.prog 9 #[vg r, .slice none 0 0] W (Yes W true))) (CA : ∀ W : World, Hid (Calls Try.prog 10 #[] W (Yes W true))) (C1 : ∀ W : World, Below w.heap.size w W → Hid (Calls Try.prog 11 #[vg r, rg ⟨xk, xv, xa, (z : Int)⟩, cg ⟨(p : Int), cl', cg', cd', cs'⟩] W (Tells W (m0, 0))))
    (C2 : ∀ (W : World) (g c : Nat), Mean W (· < W.heap.size) (rZ r g c (r.v.zn.set z Y)) → Hid (Calls Try.prog 11 #[vg (rZ r g c (r.v.zn.set z Y)), rg ⟨xk, xv, xa, (z : Int)⟩, cg ⟨(p : Int), cl', cg', cd', cs'⟩] W (Tells W (m1, f1))))
    (C3 : ∀ (W : World) (g c : Nat), Mean W (· < W.heap.size) (rP r g c (r.v.pe.set p 0)) → Hid (Calls Try.prog 11 #[vg (rP r g c (r.v.pe.set p 0)), rg ⟨xk, xv, xa, (z : Int)⟩, cg ⟨(p : Int), cl', cg', cd', cs'⟩] W (Tells W (r.v.mn, 0))))
    (C4 : ∀ (W : World) (g c : Nat), Mean W (· < W.heap.size) (rP r g c (r.v.pe.set p 0)) → Hid (Calls Try.prog 16 #[vg (rP r g c (r.v.pe.set p 0))] W (Yes W true)))
    (g1' : f1 = 0 → m0 ≤ m1) : Calls Try.prog 7 #[vg r, rg ⟨xk, xv, xa, (z : Int)⟩, cg ⟨(p : Int), cl', cg', cd', cs'⟩] w (Yes w true) := by
  have hl1 := M.z.1
  have hl2 := M.p.1
  obtain ⟨W, hW⟩ : ∃ W, (((w.alloc (.cells (vc r) 26)).alloc (.cells (rc ⟨xk, xv, xa, (z : Int)⟩) 28)).alloc (.cells (cc ⟨(p : Int), cl', cg', cd', cs'⟩) 30)) = W := ⟨_, rfl⟩
  have HB0 := Lib.hid (show B3 w W r ⟨xk, xv, xa, (z : Int)⟩ ⟨(p : Int), cl', cg', cd', cs'⟩ by rw [← hW]; exact B3.start w r ⟨xk, xv, xa, (z : Int)⟩ ⟨(p : Int), cl', cg', cd', cs'⟩)
  have HW := Lib.hid hW
  clear hW
  go_enter Try.func7, Try.ntmps7
  go_wp2_with fail
  rw [HW.out]
  clear HW
  refine (C1 _ HB0.out.b).out.mono ?_
  rintro e w1 ⟨rfl, hb1⟩
  have HB1 := Lib.hid (HB0.out.next hb1)
  clear hb1 HB0 C1
  have x0 := HB1.out.v.c 0
  have x1 := HB1.out.v.c 1
  have x2 := HB1.out.v.c 2
  have x3 := HB1.out.v.c 3
  have x4 := HB1.out.v.c 4
  have x5 := HB1.out.v.c 5
  have x6 := HB1.out.v.c 6
  have x7 := HB1.out.v.c 7
  have x8 := HB1.out.v.c 8
  have y0 := HB1.out.r.c 0
  have y1 := HB1.out.r.c 1
  have y2 := HB1.out.r.c 2
  have y3 := HB1.out.r.c 3
  have z0 := HB1.out.c.c 0
  have z1 := HB1.out.c.c 1
  have z2 := HB1.out.c.c 2
  have z3 := HB1.out.c.c 3
  have z4 := HB1.out.c.c 4
  simp at x0 x1 x2 x3 x4 x5 x6 x7 x8 y0 y1 y2 y3 z0 z1 z2 z3 z4
  go_wp2_with fail
  refine (CF _).out.mono ?_
  rintro e w2 ⟨rfl, hb2⟩
  have HB2 := Lib.hid (HB1.out.next hb2)
  clear hb2 HB1 x0 x1 x2 x3 x4 x5 x6 x7 x8 y0 y1 y2 y3 z0 z1 z2 z3 z4
  clear CF
  have x0' := HB2.out.v.c 0
  have x1' := HB2.out.v.c 1
  have x2' := HB2.out.v.c 2
  have x3' := HB2.out.v.c 3
  have x4' := HB2.out.v.c 4
  have x5' := HB2.out.v.c 5
  have x6' := HB2.out.v.c 6
  have x7' := HB2.out.v.c 7
  have x8' := HB2.out.v.c 8
  have y0' := HB2.out.r.c 0
  have y1' := HB2.out.r.c 1
  have y2' := HB2.out.r.c 2
  have y3' := HB2.out.r.c 3
  have z0' := HB2.out.c.c 0
  have z1' := HB2.out.c.c 1
  have z2' := HB2.out.c.c 2
  have z3' := HB2.out.c.c 3
  have z4' := HB2.out.c.c 4
  simp at x0' x1' x2' x3' x4' x5' x6' x7' x8' y0' y1' y2' y3' z0' z1' z2' z3' z4'
  have i1 : decide ((r.lz : Int) ≤ (z : Int)) = false := decide_eq_false (by omega)
  have i2 : decide ((r.lp : Int) ≤ (p : Int)) = false := decide_eq_false (by omega)
  have i1' : decide (r.lz ≤ z) = false := decide_eq_false (by omega)
  have i2' : decide (r.lp ≤ p) = false := decide_eq_false (by omega)
  go_wp2
  have HSV := Lib.hid (fun (W' : World) (h : B3 w W' r ⟨xk, xv, xa, (z : Int)⟩ ⟨(p : Int), cl', cg', cd', cs'⟩) => (show W'.cell? ⟨w.heap.size, 0, none⟩ = some (.int .i64 r.v.fr) ∧ W'.cell? ⟨w.heap.size, 1, none⟩ = some (.int .i64 r.v.b0) ∧ W'.cell? ⟨w.heap.size, 2, none⟩ = some (.int .i64 r.v.b1) ∧ W'.cell? ⟨w.heap.size, 3, none⟩ = some (.int .i64 r.v.b2) ∧ W'.cell? ⟨w.heap.size, 4, none⟩ = some (.int .i64 r.v.b3) ∧ W'.cell? ⟨w.heap.size, 5, none⟩ = some (.slice r.A r.la r.ca) ∧ W'.cell? ⟨w.heap.size, 6, none⟩ = some (.slice r.Z r.lz r.cz) ∧ W'.cell? ⟨w.heap.size, 7, none⟩ = some (.slice r.P r.lp r.cp) ∧ W'.cell? ⟨w.heap.size, 8, none⟩ = some (.int .i64 r.v.mn) from ⟨h.v.c 0, h.v.c 1, h.v.c 2, h.v.c 3, h.v.c 4, h.v.c 5, h.v.c 6, h.v.c 7, h.v.c 8⟩))
  have hd := Lib.hid (HB2.out.next (W' := w2.drew) ⟨rfl, rfl, rfl, Nat.le_refl _, fun _ _ => rfl⟩)
  go_cut [9, 10] (fun s9 s10 wx => ∃ (Wz : World) (bw bu : Nat), Wz = wx ∧ s9 = .pointer (some ⟨bw, 0, none⟩) ∧ s10 = .pointer (some ⟨bu, 0, none⟩) ∧ Hid (QG w Wz r ⟨xk, xv, xa, (z : Int)⟩ ⟨(p : Int), cl', cg', cd', cs'⟩ bw bu))
  case first =>
    go_region_held3 (fun w' => w'.cell? ⟨w.heap.size, 0, none⟩ = some (.int .i64 r.v.fr) ∧ w'.cell? ⟨w.heap.size, 1, none⟩ = some (.int .i64 r.v.b0) ∧ w'.cell? ⟨w.heap.size, 2, none⟩ = some (.int .i64 r.v.b1) ∧ w'.cell? ⟨w.heap.size, 3, none⟩ = some (.int .i64 r.v.b2) ∧ w'.cell? ⟨w.heap.size, 4, none⟩ = some (.int .i64 r.v.b3) ∧ w'.cell? ⟨w.heap.size, 5, none⟩ = some (.slice r.A r.la r.ca) ∧ w'.cell? ⟨w.heap.size, 6, none⟩ = some (.slice r.Z r.lz r.cz) ∧ w'.cell? ⟨w.heap.size, 7, none⟩ = some (.slice r.P r.lp r.cp) ∧ w'.cell? ⟨w.heap.size, 8, none⟩ = some (.int .i64 r.v.mn)) (first | exact HSV.out _ hd.out | exact HSV.out _ (hd.out.next (alloc_ _ _)) | exact HSV.out _ (hd.out.next ((alloc_ _ _).alloc (by simp) _)))
      (fail)
    all_goals
      go_wp2_with fail
      go_meet
      first
        | exact ⟨_, _, _, rfl, rfl, rfl, Lib.hid ((QG.wu HB2.out).next ⟨rfl, rfl, rfl, Nat.le_refl _, fun _ _ => rfl⟩)⟩
        | exact ⟨_, _, _, rfl, rfl, rfl, Lib.hid ((QG.uw HB2.out).next ⟨rfl, rfl, rfl, Nat.le_refl _, fun _ _ => rfl⟩)⟩
  case rest =>
    clear hd HB2 HSV x0' x1' x2' x3' x4' x5' x6' x7' x8' y0' y1' y2' y3' z0' z1' z2' z3' z4'
    obtain ⟨W3, bw, bu, rfl, rfl, rfl, HG⟩ := hcut
    go_wp2
    have HS7 := Lib.hid (fun (W' : World) (h : B3 w W' r ⟨xk, xv, xa, (z : Int)⟩ ⟨(p : Int), cl', cg', cd', cs'⟩) => (show W'.cell? ⟨w.heap.size, 6, none⟩ = some (.slice r.Z r.lz r.cz) ∧ W'.cell? ⟨w.heap.size, 7, none⟩ = some (.slice r.P r.lp r.cp) from ⟨h.v.c 6, h.v.c 7⟩))
    have hd := Lib.hid (HG.out.next (W' := W3.drew) ⟨rfl, rfl, rfl, Nat.le_refl _, fun _ _ => rfl⟩)
    have HIZ := Lib.hid (fun (W' : World) (h : QG w W' r ⟨xk, xv, xa, (z : Int)⟩ ⟨(p : Int), cl', cg', cd', cs'⟩ bw bu) => (show Ins W' (· < W'.heap.size) (some az) r.lz r.v.zn by rw [← eZ.out]; exact M.z.below h.b))
    have HIP := Lib.hid (fun (W' : World) (h : QG w W' r ⟨xk, xv, xa, (z : Int)⟩ ⟨(p : Int), cl', cg', cd', cs'⟩ bw bu) => (show Ins W' (· < W'.heap.size) (some ap) r.lp r.v.pe by rw [← eP.out]; exact M.p.below h.b))
    have EZ := Lib.hid (show Value.slice r.Z r.lz r.cz = Value.slice (some az) r.lz r.cz by rw [eZ.out])
    have EP := Lib.hid (show Value.slice r.P r.lp r.cp = Value.slice (some ap) r.lp r.cp by rw [eP.out])
    have HM1 := Lib.hid (show 0 < r.lz ∧ r.lz ≤ 4000000 by omega)
    have HM2 := Lib.hid (show 0 < r.lp ∧ r.lp ≤ 4000000 by omega)
    have HLT := Lib.hid (And.intro HG.out.w.lt HG.out.u.lt)
    go_cut [59, 63] (fun s1 s2 wx => ∃ (Wz : World) (g1 c1 g2 c2 : Nat), Wz = wx ∧ Hid (QF w Wz r ⟨xk, xv, xa, (z : Int)⟩ ⟨(p : Int), cl', cg', cd', cs'⟩ bw bu g1 c1 g2 c2 r.v.zn r.v.pe))
    case first =>
      go_region_held3 (fun w' => w'.cell? ⟨w.heap.size, 6, none⟩ = some (.slice r.Z r.lz r.cz) ∧ w'.cell? ⟨w.heap.size, 7, none⟩ = some (.slice r.P r.lp r.cp)) (first | exact HS7.out _ hd.out.toB3 | exact HS7.out _ (hd.out.next (alloc_ _ _)).toB3 | exact HS7.out _ (hd.out.next ((alloc_ _ _).alloc (by simp) _)).toB3 | exact HS7.out _ HG7.out.toB3 | exact HS7.out _ (HG7.out.next (alloc_ _ _)).toB3 | exact HS7.out _ HG8.out.toB3 | exact HS7.out _ (HG8.out.f1 _) | exact HS7.out _ (HG8.out.f2 _ _))
        (first
        | (refine step_new _ (by rfl) (.tmp 56) (.tmp 58) (by rfl) _ (by rfl) (· < _) az r.lz r.cz r.v.zn EZ.out (HIZ.out _ (by first | exact hd.out | exact hd.out.next (alloc_ _ _) | exact hd.out.next ((alloc_ _ _).alloc (by simp) _))) HM1.out.1 HM1.out.2 ?_; intro g1 c1 w7 hO1 hb1 hlo1 hlt1; have HG7 := Lib.hid (QG.next (by first | exact hd.out | exact hd.out.next (alloc_ _ _) | exact hd.out.next ((alloc_ _ _).alloc (by simp) _)) hb1); have HR1 := Lib.hid (And.intro (Rr.of hO1 hlt1) (show bw < g1 ∧ bu < g1 by have := HLT.out; (try simp at hlo1); constructor <;> omega)); clear hO1 hb1 hlo1 hlt1)
        | (refine step_new _ (by rfl) (.tmp 60) (.tmp 62) (by rfl) _ (by rfl) (· < _) ap r.lp r.cp r.v.pe EP.out (HIP.out _ (by first | exact HG7.out | exact HG7.out.next (alloc_ _ _))) HM2.out.1 HM2.out.2 ?_; intro g2 c2 w8 hO2 hb2 hlo2 hlt2; have HG8 := Lib.hid (QG.next (by first | exact HG7.out | exact HG7.out.next (alloc_ _ _)) hb2); have HR2 := Lib.hid (And.intro (Rr.of hO2 hlt2) (show Rr w8 g1 r.v.zn ∧ g1 < g2 from ⟨(by first | exact HR1.out.1.keep hb2 | exact (HR1.out.1.keep (alloc_ _ _)).keep hb2), by have := HR1.out.1.lt; (try simp at hlo2); omega⟩)); have n6 := HG8.out.w.c 6; have n7 := HG8.out.u.c 7; have n6f := HG8.out.w.f 6; have n7f := HG8.out.u.f 7; simp at n6 n7; clear hO2 hb2 hlo2 hlt2)
        | fail)
      all_goals
        go_wp2_with fail
        go_meet
        exact ⟨_, g1, c1, g2, c2, rfl, Lib.hid (HG8.out.done HR2.out.2.1 HR2.out.1 HR1.out.2.1 HR1.out.2.2 HR2.out.2.2)⟩
    case rest =>
      clear hd HS7 HIZ HIP HM1 HM2 HLT HG
      obtain ⟨W4, g1, c1, g2, c2, rfl, HF⟩ := hcut
      have kz : (z : Int) < (r.lz : Int) := by omega
      have kp : (p : Int) < (r.lp : Int) := by omega
      have HZS := Lib.hid (show z < r.v.zn.length by omega)
      have HPS := Lib.hid (show p < r.v.pe.length by omega)
      have HZ := Lib.hid (show Ins W4 (· < W4.heap.size) (some az) r.lz r.v.zn by rw [← eZ.out]; exact M.z.below HF.out.b)
      obtain ⟨ad, y, ead, _, gy, cz⟩ := HZ.out.get hz
      injection ead with ead
      subst ead
      rw [hzv] at gy
      injection gy with gy
      subst gy
      have x6' := HF.out.v.c 6
      have y3' := HF.out.r.c 3
      have p6' := HF.out.w.c 6
      simp [rZ] at x6' y3' p6'
      rw [EZ.out] at x6'
      clear HZ
      go_wp2
      refine wp_region_still_tail 12 (by kernel_rfl) (by kernel_rfl) ?_
      simp only [List.take_succ_cons, List.take_zero, List.drop_succ_cons, List.drop_zero]
      repeat still_step
      refine wpStill_nil ?_
      have HF5 := Lib.hid (HF.out.next (W' := W4.drew) ⟨rfl, rfl, rfl, Nat.le_refl _, fun _ _ => rfl⟩)
      change wpList _ _ _ _ _ W4.drew
      generalize W4.drew = W5 at HF5 ⊢
      clear HF x6' y3' p6' cz
      have HF6 := Lib.hid (HF5.out.setz HZS.out Y)
      have n1 := HF5.out.z.c z zv hzv
      have n2 := HF5.out.z.f z
      obtain ⟨pv, hpv⟩ : ∃ pv, r.v.pe[p]? = some pv := ⟨_, List.getElem?_eq_getElem HPS.out⟩
      have n3 := HF6.out.p.c p pv hpv
      have n4 := HF6.out.p.f p
      have q7' := HF6.out.u.c 7
      have z0'' := HF6.out.c.c 0
      simp [rP] at q7' z0''
      have HF8 := Lib.hid (HF6.out.setp HPS.out 0)
      clear HF5 HF6 hpv
      have y0' := HF8.out.r.c 0
      have y1' := HF8.out.r.c 1
      have y2' := HF8.out.r.c 2
      have y3' := HF8.out.r.c 3
      have z0' := HF8.out.c.c 0
      have z1' := HF8.out.c.c 1
      have z2' := HF8.out.c.c 2
      have z3' := HF8.out.c.c 3
      have z4' := HF8.out.c.c 4
      have p0' := HF8.out.w.c 0
      have p1' := HF8.out.w.c 1
      have p2' := HF8.out.w.c 2
      have p3' := HF8.out.w.c 3
      have p4' := HF8.out.w.c 4
      have p5' := HF8.out.w.c 5
      have p6' := HF8.out.w.c 6
      have p7' := HF8.out.w.c 7
      have p8' := HF8.out.w.c 8
      simp at y0' y1' y2' y3' z0' z1' z2' z3' z4' p0' p1' p2' p3' p4' p5' p6' p7' p8'
      go_wp2_with fail
      generalize (W5.setCell ⟨g1, z, none⟩ (.int .i64 Y)).setCell ⟨g2, p, none⟩ (.int .i64 0) = W8 at HF8 ⊢
      clear n1 n2 n3 n4 q7' z0'' y0' y1' y2' y3' z0' z1' z2' z3' z4' p0' p1' p2' p3' p4' p5' p6' p7' p8'
      have HLZ := Lib.hid (show (r.v.zn.set z Y).length = r.lz by rw [List.length_set]; exact hl1)
      have HLP := Lib.hid (show (r.v.pe.set p 0).length = r.lp by rw [List.length_set]; exact hl2)
      refine (C2 _ g1 c1 (HF8.out.mw M HLZ.out)).out.mono ?_
      rintro e w9 ⟨rfl, hb9⟩
      have HF9 := Lib.hid (HF8.out.next hb9)
      clear hb9 HF8 C2
      have y0' := HF9.out.r.c 0
      have y1' := HF9.out.r.c 1
      have y2' := HF9.out.r.c 2
      have y3' := HF9.out.r.c 3
      have z0' := HF9.out.c.c 0
      have z1' := HF9.out.c.c 1
      have z2' := HF9.out.c.c 2
      have z3' := HF9.out.c.c 3
      have z4' := HF9.out.c.c 4
      have q0' := HF9.out.u.c 0
      have q1' := HF9.out.u.c 1
      have q2' := HF9.out.u.c 2
      have q3' := HF9.out.u.c 3
      have q4' := HF9.out.u.c 4
      have q5' := HF9.out.u.c 5
      have q6' := HF9.out.u.c 6
      have q7' := HF9.out.u.c 7
      have q8' := HF9.out.u.c 8
      simp at y0' y1' y2' y3' z0' z1' z2' z3' z4' q0' q1' q2' q3' q4' q5' q6' q7' q8'
      go_wp2_with fail
      refine (C3 _ g2 c2 (HF9.out.mu M HLP.out)).out.mono ?_
      rintro e w10 ⟨rfl, hb10⟩
      have HF10 := Lib.hid (HF9.out.next hb10)
      clear hb10 HF9 C3 y0' y1' y2' y3' z0' z1' z2' z3' z4' q0' q1' q2' q3' q4' q5' q6' q7' q8'
      go_wp2_with fail
      refine (CA _).out.mono ?_
      rintro e w11 ⟨rfl, hb11⟩
      have HF11 := Lib.hid (HF10.out.next hb11)
      clear hb11 HF10 CA
      have x0' := HF11.out.v.c 0
      have x1' := HF11.out.v.c 1
      have x2' := HF11.out.v.c 2
      have x3' := HF11.out.v.c 3
      have x4' := HF11.out.v.c 4
      have x5' := HF11.out.v.c 5
      have x6' := HF11.out.v.c 6
      have x7' := HF11.out.v.c 7
      have x8' := HF11.out.v.c 8
      have q0' := HF11.out.u.c 0
      have q1' := HF11.out.u.c 1
      have q2' := HF11.out.u.c 2
      have q3' := HF11.out.u.c 3
      have q4' := HF11.out.u.c 4
      have q5' := HF11.out.u.c 5
      have q6' := HF11.out.u.c 6
      have q7' := HF11.out.u.c 7
      have q8' := HF11.out.u.c 8
      simp at x0' x1' x2' x3' x4' x5' x6' x7' x8' q0' q1' q2' q3' q4' q5' q6' q7' q8'
      by_cases h1 : f1 = 0
      · subst h1
        have t1 : decide (m0 ≤ m1) = true := decide_eq_true (g1' rfl)
        go_wp2_with fail
        refine (C4 _ g2 c2 (HF11.out.mu M HLP.out)).out.mono ?_
        rintro e w12 ⟨rfl, hb12⟩
        have HF12 := Lib.hid (HF11.out.next hb12)
        clear hb12 HF11 C4
        go_wp2
        go_ret
        exact ⟨rfl, HF12.out.b⟩
      · have t1 : (f1 == 0) = false := by rw [beq_eq_false_iff_ne]; exact h1
        go_wp2_with fail
        refine (C4 _ g2 c2 (HF11.out.mu M HLP.out)).out.mono ?_
        rintro e w12 ⟨rfl, hb12⟩
        have HF12 := Lib.hid (HF11.out.next hb12)
        clear hb12 HF11 C4
        go_wp2
        go_ret
        exact ⟨rfl, HF12.out.b⟩

theorem prt_none (x : Int) : prt x 0 = 0 := by simp [prt, rnd]
theorem fac_set {xs : List Int} (h : ∀ x ∈ xs, 0 ≤ x ∧ x ≤ 100000) (k : Nat) {y : Int} (hy : 0 ≤ y ∧ y ≤ 100000) : ∀ x ∈ xs.set k y, 0 ≤ x ∧ x ≤ 100000 := fun x hx => by
  rcases List.mem_or_eq_of_mem_set hx with hx | rfl
  · exact h x hx
  · exact hy
/-- With a greater zone's factor it costs no less. -/
theorem zone_more {v : Ve} {x : Ri} {c : Co} {zs : List Int} {m : Int} (ht : tk x.v (parts v x c) = some m) (hc : can v x c = true) (hz : v.zn.getD x.z.toNat 0 ≤ zs.getD x.z.toNat 0)
    (h2 : (qd ⟨v.fr, v.b0, v.b1, v.b2, v.b3, v.ag, zs, v.pe, v.mn⟩ x c).2 = 0) : max m v.mn ≤ (qd ⟨v.fr, v.b0, v.b1, v.b2, v.b3, v.ag, zs, v.pe, v.mn⟩ x c).1 := by
  rcases qd_cases ⟨v.fr, v.b0, v.b1, v.b2, v.b3, v.ag, zs, v.pe, v.mn⟩ x c with e | e | e | ⟨m', c2, _, t2, e⟩
  · rw [e] at h2; cases h2
  · rw [e] at h2; cases h2
  · rw [e] at h2; cases h2
  have b1 := parts_bd hc
  have hr := rk_iff.1 (can_iff.1 hc).2.1
  rw [e]
  have : m ≤ m' := by
    refine tk_mono (by omega) (Int.le_refl _) ?_ ht t2
    have k0 := (b1 (bs v x.k) (by simp [parts])).1
    have k1 := (b1 (bnd x.a v.ag) (by simp [parts])).1
    have k2 := (b1 (v.zn.getD x.z.toNat 0) (by simp [parts])).1
    have k3 := (b1 (v.pe.getD c.p.toNat 0) (by simp [parts])).1
    have k4 := (b1 c.s (by simp [parts])).1
    exact ⟨k0, Int.le_refl _, k1, Int.le_refl _, k2, hz, k3, Int.le_refl _, k4, Int.le_refl _, trivial⟩
  simp only
  omega
/-- A version that may be may be with 0 for a peril. -/
theorem ver_zero {v : Ve} (h : ver v = true) (p : Nat) : ver ⟨v.fr, v.b0, v.b1, v.b2, v.b3, v.ag, v.zn, v.pe.set p 0, v.mn⟩ = true := by
  unfold ver at h ⊢
  simp only [Bool.and_eq_true, decide_eq_true_eq, List.length_set] at h ⊢
  obtain ⟨h1, h2, h3, h4, h5, h6, h7, h8⟩ := h
  exact ⟨h1, h2, h3, h4, h5, h6, fac_iff.2 (fac_set (fac_iff.1 h7) p ⟨Int.le_refl _, by omega⟩), h8⟩
/-- With 0 for the peril it is the least that a year costs. -/
theorem peril_zero {v : Ve} {x : Ri} {c : Co} {m : Int} (ht : tk x.v (parts v x c) = some m) (hc : can v x c = true) (hz : ¬ (v.zn.length : Int) ≤ x.z) (hp : c.p.toNat < v.pe.length) :
    qd ⟨v.fr, v.b0, v.b1, v.b2, v.b3, v.ag, v.zn, v.pe.set c.p.toNat 0, v.mn⟩ x c = (v.mn, 0) := by
  obtain ⟨c1, c2, c3⟩ := can_iff.1 hc
  have hm := (vok c1).mn
  have hv := ver_zero c1 c.p.toNat
  have hcan : can ⟨v.fr, v.b0, v.b1, v.b2, v.b3, v.ag, v.zn, v.pe.set c.p.toNat 0, v.mn⟩ x c = true := can_iff.2 ⟨hv, c2, c3⟩
  have hget : (v.pe.set c.p.toNat 0).getD c.p.toNat 0 = 0 := by
    rw [List.getD_eq_getElem?_getD, List.getElem?_set_self hp]; rfl
  have ht2 : tk x.v (parts ⟨v.fr, v.b0, v.b1, v.b2, v.b3, v.ag, v.zn, v.pe.set c.p.toNat 0, v.mn⟩ x c) = some 0 := by
    unfold parts at ht ⊢
    simp only [hget]
    rw [show bs ⟨v.fr, v.b0, v.b1, v.b2, v.b3, v.ag, v.zn, v.pe.set c.p.toNat 0, v.mn⟩ x.k = bs v x.k from rfl]
    by_cases a1 : 4000000000000000000 < prt x.v (bs v x.k)
    · rw [tk_over a1] at ht; cases ht
    rw [tk_next a1] at ht ⊢
    by_cases a2 : 4000000000000000000 < prt (prt x.v (bs v x.k)) (bnd x.a v.ag)
    · rw [tk_over a2] at ht; cases ht
    rw [tk_next a2] at ht ⊢
    by_cases a3 : 4000000000000000000 < prt (prt (prt x.v (bs v x.k)) (bnd x.a v.ag)) (v.zn.getD x.z.toNat 0)
    · rw [tk_over a3] at ht; cases ht
    rw [tk_next a3] at ht ⊢
    rw [tk_next (by rw [prt_none]; omega), prt_none]
    exact tk_zero _
  rw [qd_ok hcan hz ht2, Int.max_eq_right hm.1]

theorem walk {w0 : World} (r : Rw) (g : GivenV w0 r) (x : Ri) (c : Co) : Calls Try.prog 7 #[vg r, rg x, cg c] w0 (Yes w0 true) := by
  have CF := fun W => Lib.hid (few_ r none 0 0 W g.l (by unfold maxLen; omega))
  have CA := fun W => Lib.hid (alive_ W)
  have C1 := fun W hb => Lib.hid (cost r x c W (g.m.below hb) g.l)
  cases h : fw r 0
  · rw [h] at CF
    exact way_no r x c w0 _ _ CF CA C1
  rw [h] at CF
  have hf := fw_yes h
  rcases qd_cases r.v x c with e | e | e | ⟨m, hc, hz, ht, e⟩
  · rw [e] at C1; exact way_err r x c w0 _ _ (by decide) CF CA C1
  · rw [e] at C1; exact way_err r x c w0 _ _ (by decide) CF CA C1
  · rw [e] at C1; exact way_err r x c w0 _ _ (by decide) CF CA C1
  rw [e] at C1
  obtain ⟨c1, c2, c3⟩ := can_iff.1 hc
  have hv := vok c1
  have l1 := g.m.z.1
  have l2 := g.m.p.1
  have lv1 := hv.zl
  have lv2 := hv.pl
  have hr := rk_iff.1 c2
  obtain ⟨o1, o2, _⟩ := c3
  obtain ⟨az, eZ, _, _⟩ := g.m.z.2 (by omega)
  obtain ⟨ap, eP, _, _⟩ := g.m.p.2 (by omega)
  have zm := fun zs hq h2 => zone_more (zs := zs) ht hc hq h2
  have pz := peril_zero ht hc hz (by omega)
  obtain ⟨xk, xv, xa, xz⟩ := x
  obtain ⟨p, cl', cg', cd', cs'⟩ := c
  simp only at hr o1 o2 hz zm pz
  obtain ⟨z, rfl⟩ := Int.eq_ofNat_of_zero_le hr.2.2.2.1
  obtain ⟨p, rfl⟩ := Int.eq_ofNat_of_zero_le o1
  simp only [Int.toNat_natCast] at zm pz
  have hzl : z < r.v.zn.length := by omega
  obtain ⟨zv, hzv⟩ : ∃ zv, r.v.zn[z]? = some zv := ⟨_, List.getElem?_eq_getElem hzl⟩
  have hzb := hv.z zv (List.mem_of_getElem? hzv)
  have q1 : wrap64 (zv + 7) = zv + 7 := IntWalk.wrap64_in _ ⟨by omega, by omega⟩
  have hL : ∀ gg cc, Lo (rZ r gg cc (r.v.zn.set z (min (zv + 7) 100000))) := fun _ _ => ⟨g.l.a, g.l.z, g.l.p⟩
  have hL2 : ∀ gg cc, Lo (rP r gg cc (r.v.pe.set p 0)) := fun _ _ => ⟨g.l.a, g.l.z, g.l.p⟩
  exact way_yes r az ap (Lib.hid eZ) (Lib.hid eP) xk xv xa cl' cg' cd' cs' z p w0 g.m (by omega) (by omega) (by omega) (by omega) zv _ hzv q1 ((IntWalk.i64_left _).trans q1) rfl _ _ _ CF CA C1
    (fun W gg cc M => Lib.hid (cost (rZ r gg cc _) _ _ W M (hL gg cc)))
    (fun W gg cc M => Lib.hid (by have := cost (rP r gg cc (r.v.pe.set p 0)) ⟨xk, xv, xa, z⟩ ⟨p, cl', cg', cd', cs'⟩ W M (hL2 gg cc); rw [show (rP r gg cc (r.v.pe.set p 0)).v = ⟨r.v.fr, r.v.b0, r.v.b1, r.v.b2, r.v.b3, r.v.ag, r.v.zn, r.v.pe.set p 0, r.v.mn⟩ from rfl, pz] at this; exact this))
    (fun W gg cc M => Lib.hid (by have := rversion (rP r gg cc (r.v.pe.set p 0)) W M (hL2 gg cc); rw [show (rP r gg cc (r.v.pe.set p 0)).v = ⟨r.v.fr, r.v.b0, r.v.b1, r.v.b2, r.v.b3, r.v.ag, r.v.zn, r.v.pe.set p 0, r.v.mn⟩ from rfl, ver_zero c1 p] at this; exact this))
    (fun h2 => zm _ (by rw [List.getD_eq_getElem?_getD, List.getD_eq_getElem?_getD, hzv, List.getElem?_set_self hzl]; simp only [Option.getD_some]; omega) h2)

set_option maxRecDepth 100000 in
theorem lifted (os : Os) (started : os.Started) (H : Type) (enc : TypeId × Value → H) :
    ReturnsInHanded {} Try.checked os 7 .any (Rows.quoteFactorsSpec.pre6 enc Try.prog Try.f7 Rows.quoteFactorsRow.domain false) (Rows.quoteFactorsSpec.post enc Try.prog Try.f7 false true false false) := by
  refine returnsInHanded_of_change_sized (C := Try.checked) Qo.own started (by kernel_rfl) Try.func7
    (ChangeSpec.witness6 (enc := enc) (C := Try.checked) false ⟨#[], #[.agg #[.int .i64 0, .int .i64 0, .int .i64 0, .int .i64 0, .int .i64 0, .slice none 0 0, .slice none 0 0, .slice none 0 0, .int .i64 0], .agg #[.int .i64 0, .int .i64 0, .int .i64 0, .int .i64 0], .agg #[.int .i64 0, .int .i64 0, .int .i64 0, .int .i64 0, .int .i64 0]], []⟩ 8 (by kernel_rfl) (by kernel_rfl) (by kernel_rfl) (by kernel_rfl)) ?_
  intro W base args ds gs before hval0 hW hcnd hsz0 _
  have hval : ∀ (j : Nat) t v, Try.f7.params[j]? = some t → args[j]? = some v → Value.okWide Try.prog W .any base t v := hval0
  have hW' := hW
  have hsz : (DataW.weightsEach Try.prog (Try.f7.params.toList ++ Rows.quoteFactorsSpec.plain.varTypes Try.prog) (ds ++ gs)).all (· ≤ reachBytes) = true := hsz0
  obtain ⟨p, q, hA0, hV, rfl, hfz, hnd⟩ := hW
  have hA : DataW.TrodAll enc Try.prog W 0 (fun _ => true) true Try.f7.params.toList args.toList ds p := hA0
  rw [Try.params7] at hA hval hsz
  obtain ⟨v0, vs0, d0, ds0, p0, q0, hargs, rfl, rfl, h0, r0⟩ := trodAll_cons hA
  obtain ⟨v1, vs1, d1, ds1, p1, q1, rfl, rfl, rfl, h1, r1⟩ := trodAll_cons r0
  obtain ⟨v2, vs2, d2, ds2, p2, q2, rfl, rfl, rfl, h2, r2⟩ := trodAll_cons r1
  obtain ⟨rfl, rfl, rfl⟩ := trodAll_nil r2
  obtain rfl : args = #[v0, v1, v2] := by cases args; simp_all
  obtain ⟨rfl, rfl⟩ := trodVars_none hV
  have k0 := h0
  have lt0 : ∀ x ∈ p0, x.block < W.heap.size := by obtain ⟨m, hm⟩ := k0; exact DataW.trod_lt m _ _ _ hm
  obtain ⟨z0, rfl, g0⟩ := Qo.open_version (hval 0 26 v0 rfl rfl) h0 (fun k hk => of_decide_eq_true (List.all_eq_true.1 hsz _ (DataW.weights_mem_each (j := 0) rfl rfl k hk)))
  have k1 := h1
  have lt1 : ∀ x ∈ p1, x.block < W.heap.size := by obtain ⟨m, hm⟩ := k1; exact DataW.trod_lt m _ _ _ hm
  obtain ⟨x1, rfl⟩ := Qo.open_risk (hval 1 28 v1 rfl rfl) h1 (fun k hk => of_decide_eq_true (List.all_eq_true.1 hsz _ (DataW.weights_mem_each (j := 1) rfl rfl k hk)))
  have k2 := h2
  have lt2 : ∀ x ∈ p2, x.block < W.heap.size := by obtain ⟨m, hm⟩ := k2; exact DataW.trod_lt m _ _ _ hm
  obtain ⟨c2, rfl⟩ := Qo.open_cover (hval 2 30 v2 rfl rfl) h2 (fun k hk => of_decide_eq_true (List.all_eq_true.1 hsz _ (DataW.weights_mem_each (j := 2) rfl rfl k hk)))
  clear hA0 hval0 hsz hsz0
  refine (walk z0 g0 x1 c2).mono fun e W' ⟨he, bel⟩ => ?_
  subst he
  exact ⟨_, rfl, _, _, _, [], _, [], hW', trodAll_mk1 (shut_bool Try.underlying4 _), (trodAll_cons_mk (Below.trod Qo.laidOut (by kernel_rfl) (of_decide_eq_true (by kernel_rfl)) k0 bel lt0) (trodAll_cons_mk (Below.trod Qo.laidOut (by kernel_rfl) (of_decide_eq_true (by kernel_rfl)) k1 bel lt1) (trodAll_cons_mk (Below.trod Qo.laidOut (by kernel_rfl) (of_decide_eq_true (by kernel_rfl)) k2 bel lt2) trodAll_mk0))), rfl, bel.frame _, fun h => by cases h⟩

theorem over : Rows.quoteFactorsRow.holds Try.pinned (OpenSpec.ofChange Rows.quoteFactorsSpec) :=
  OpenClaim.holds_of_wide 7 Try.f7 rfl rfl rfl rfl rfl rfl rfl ⟨rfl, rfl, rfl, rfl, rfl⟩ rfl rfl rfl rfl rfl (by kernel_rfl) Try.func7 (by kernel_rfl)
    (of_decide_eq_true (by kernel_rfl)) (by unfold Func.isWrapper; first | (rw [if_pos (by decide +kernel)]; kernel_rfl) | (rw [if_neg (by decide +kernel)]; exact ⟨rfl, rfl⟩))
    (fun os started H enc _ => lifted os started H enc)

theorem proved : Rows.QuoteFactorsSaid := over
end Go.Proofs.Ytinhhphnbbdoeaa.quoteFactors
