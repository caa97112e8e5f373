/-
  The statement QuoteMore holds: for every input the call returns true, and each argument reads afterwards as it read before. Conditions: none beside those that the row itself bears.
-/
import Derived.Test.YtinhhphnbbdoeaaGiven
namespace Go.Proofs.Ytinhhphnbbdoeaa.quoteMore
open Go.ChangeShapes Go.WideShapes Go.ChangeAt Go.RowKit Ba Tf Cv Qm Qo
set_option linter.unusedVariables false


theorem mask {z : Int} {m : Nat} (h : (BitVec.ofInt 64 (m : Int)).toNat = m) (hm : m ≤ 4095) : 0 ≤ bits .and .i64 z (m : Int) ∧ bits .and .i64 z (m : Int) ≤ m := by
  have hle : (BitVec.ofInt 64 z &&& BitVec.ofInt 64 (m : Int)).toNat ≤ m := by
    rw [BitVec.toNat_and]
    exact Nat.le_trans Nat.and_le_right (by rw [h]; exact Nat.le_refl _)
  have e : bits .and .i64 z (m : Int) = IntKind.i64.wrap (((BitVec.ofInt 64 z &&& BitVec.ofInt 64 (m : Int)).toNat : Nat) : Int) := rfl
  generalize (BitVec.ofInt 64 z &&& BitVec.ofInt 64 (m : Int)).toNat = k at e hle
  have hw : IntKind.i64.wrap (k : Int) = (k : Int) := (IntWalk.i64_left _).trans (IntWalk.wrap64_in _ ⟨by omega, by omega⟩)
  rw [e, hw]
  omega
theorem mask7 (z : Int) : 0 ≤ bits .and .i64 z 7 ∧ bits .and .i64 z 7 ≤ 7 := mask (m := 7) (by decide) (by omega)
theorem mask4095 (z : Int) : 0 ≤ bits .and .i64 z 4095 ∧ bits .and .i64 z 4095 ≤ 4095 := mask (m := 4095) (by decide) (by omega)

/-- The boxes of the version, the risk, the three numbers and the cover. -/
structure QM (w W : World) (r : Rw) (x : Ri) (a0 a1 a2 : Int) (q : Co) (bc : Nat) : Prop where
  b : Below w.heap.size w W
  v : Bx W w.heap.size 26 (vc r)
  r : Bx W (w.heap.size + 1) 28 (rc x)
  z : Bx W (w.heap.size + 1 + 1) 40 #[.int .i64 a0, .int .i64 a1, .int .i64 a2]
  c : Bx W bc 30 (cc q)
  lo : w.heap.size + 3 ≤ bc
/-- And those of the other risk and the other cover. -/
structure QD (w W : World) (r : Rw) (x : Ri) (a0 a1 a2 : Int) (q : Co) (bc : Nat) (y : Ri) (t : Co) (bs bd : Nat) : Prop extends QM w W r x a0 a1 a2 q bc where
  s : Bx W bs 28 (rc y)
  d : Bx W bd 30 (cc t)
  l1 : bc < bs
  l2 : bc < bd
  ne : bs ≠ bd
section
variable {w W W' : World} {r : Rw} {x y : Ri} {a0 a1 a2 : Int} {q t : Co} {bc bs bd : Nat}
theorem QM.next (h : QM w W r x a0 a1 a2 q bc) (hb : Below W.heap.size W W') : QM w W' r x a0 a1 a2 q bc := ⟨h.b.trans (hb.mono h.b.size), h.v.keep hb, h.r.keep hb, h.z.keep hb, h.c.keep hb, h.lo⟩
theorem QD.next (h : QD w W r x a0 a1 a2 q bc y t bs bd) (hb : Below W.heap.size W W') : QD w W' r x a0 a1 a2 q bc y t bs bd := ⟨h.toQM.next hb, h.s.keep hb, h.d.keep hb, h.l1, h.l2, h.ne⟩
theorem QM.start {w1 : World} (w : World) (r : Rw) (x : Ri) (a0 a1 a2 : Int) (q : Co) (hb : Below (((w.alloc (.cells (vc r) 26)).alloc (.cells (rc x) 28)).alloc (.cells #[.int .i64 a0, .int .i64 a1, .int .i64 a2] 40)).heap.size (((w.alloc (.cells (vc r) 26)).alloc (.cells (rc x) 28)).alloc (.cells #[.int .i64 a0, .int .i64 a1, .int .i64 a2] 40)) w1) :
    QM w (w1.alloc (.cells (cc q) 30)) r x a0 a1 a2 q w1.heap.size := by
  have hb' := hb.alloc hb.size (.cells (cc q) 30)
  have hw : Below w.heap.size w (((w.alloc (.cells (vc r) 26)).alloc (.cells (rc x) 28)).alloc (.cells #[.int .i64 a0, .int .i64 a1, .int .i64 a2] 40)) := ((alloc_ _ _).alloc (by simp) _).alloc (by simp; omega) _
  refine ⟨hw.trans (hb'.mono hw.size), (((Bx.new _ _ _).alloc _).alloc _).keep hb', ?_, ?_, Bx.new _ _ _, by have := hb.size; simp at this; omega⟩
  · have := (Bx.new (w.alloc (.cells (vc r) 26)) 28 (rc x)).alloc (.cells #[.int .i64 a0, .int .i64 a1, .int .i64 a2] 40)
    rw [World.size_alloc] at this
    exact Bx.keep this hb'
  · have := Bx.new ((w.alloc (.cells (vc r) 26)).alloc (.cells (rc x) 28)) 40 #[.int .i64 a0, .int .i64 a1, .int .i64 a2]
    rw [World.size_alloc, World.size_alloc] at this
    exact Bx.keep this hb'
/-- Copies made, in either order. -/
theorem QD.sd (h : QM w W r x a0 a1 a2 q bc) : QD w ((W.alloc (.cells (rc x) 28)).alloc (.cells (cc q) 30)) r x a0 a1 a2 q bc x q W.heap.size (W.heap.size + 1) := by
  have hl := h.c.lt
  refine ⟨h.next ((alloc_ _ _).alloc (by simp) _), (Bx.new _ _ _).alloc _, ?_, hl, by omega, by omega⟩
  have := Bx.new (W.alloc (.cells (rc x) 28)) 30 (cc q)
  rw [World.size_alloc] at this
  exact this
theorem QD.ds (h : QM w W r x a0 a1 a2 q bc) : QD w ((W.alloc (.cells (cc q) 30)).alloc (.cells (rc x) 28)) r x a0 a1 a2 q bc x q (W.heap.size + 1) W.heap.size := by
  have hl := h.c.lt
  refine ⟨h.next ((alloc_ _ _).alloc (by simp) _), ?_, (Bx.new _ _ _).alloc _, by omega, hl, by omega⟩
  have := Bx.new (W.alloc (.cells (cc q) 30)) 28 (rc x)
  rw [World.size_alloc] at this
  exact this
theorem QD.set1 (h : QD w W r x a0 a1 a2 q bc y t bs bd) (V : Int) : QM w (W.setCell ⟨bs, 1, none⟩ (.int .i64 V)) r x a0 a1 a2 q bc := by
  have h1 := h.lo
  have h2 := h.l1
  exact ⟨h.b.setCell (p := ⟨bs, 1, none⟩) (by show w.heap.size ≤ bs; omega) _, h.v.far (by show w.heap.size ≠ bs; omega) _, h.r.far (by show w.heap.size + 1 ≠ bs; omega) _, h.z.far (by show w.heap.size + 1 + 1 ≠ bs; omega) _, h.c.far (by show bc ≠ bs; omega) _, h.lo⟩
/-- Value and share set. -/
theorem QD.set (h : QD w W r x a0 a1 a2 q bc x q bs bd) (V D : Int) : QD w ((W.setCell ⟨bs, 1, none⟩ (.int .i64 V)).setCell ⟨bd, 4, none⟩ (.int .i64 D)) r x a0 a1 a2 q bc ⟨x.k, V, x.a, x.z⟩ ⟨q.p, q.l, q.g, q.d, D⟩ bs bd := by
  have h1 := h.lo
  have h2 := h.l1
  have h3 := h.l2
  have h4 := h.ne
  refine ⟨⟨(h.b.setCell (p := ⟨bs, 1, none⟩) (by show w.heap.size ≤ bs; omega) _).setCell (p := ⟨bd, 4, none⟩) (by show w.heap.size ≤ bd; omega) _, (h.v.far (by show w.heap.size ≠ bs; omega) _).far (by show w.heap.size ≠ bd; omega) _, (h.r.far (by show w.heap.size + 1 ≠ bs; omega) _).far (by show w.heap.size + 1 ≠ bd; omega) _, (h.z.far (by show w.heap.size + 1 + 1 ≠ bs; omega) _).far (by show w.heap.size + 1 + 1 ≠ bd; omega) _, (h.c.far (by show bc ≠ bs; omega) _).far (by show bc ≠ bd; omega) _, h.lo⟩, ?_, ?_, h.l1, h.l2, h.ne⟩
  · exact (h.s.set 1 _).far (by show bs ≠ bd; omega) _
  · exact (h.d.far (by show bd ≠ bs; omega) _).set 4 _
end
set_option maxRecDepth 100000 in
set_option maxHeartbeats 4000000 in
theorem way_no (r : Rw) (x : Ri) (a0 a1 a2 : Int) (w : World) (p q t : Int) (e1 : bits .and .i64 a2 7 = p) (e2 : max a1 1 = q) (e3 : min q 5000 = t) (CF : ∀ W : World, Hid (Calls Try.prog 9 #[vg r, .slice none 0 0] W (Yes W false))) (CA : ∀ W : World, Hid (Calls Try.prog 10 #[] W (Yes W true))) : Calls Try.prog 6 #[vg r, rg x, .agg #[.int .i64 a0, .int .i64 a1, .int .i64 a2]] w (Yes w true) := by
  have CO := fun W => Lib.hid (of_ p t W)
  go_enter Try.func6, Try.ntmps6
  go_wp2_with fail
  refine (CO _).out.mono ?_
  rintro e w1 ⟨rfl, hb1⟩
  have HB1 := Lib.hid (QM.start w r x a0 a1 a2 (ofC p t) hb1)
  clear hb1 CO
  have x0 := HB1.out.v.c 0
  have x1 := HB1.out.v.c 1
  have x2 := HB1.out.v.c 2
  have x3 := HB1.out.v.c 3
  have x4 := HB1.out.v.c 4
  have x5 := HB1.out.v.c 5
  have x6 := HB1.out.v.c 6
  have x7 := HB1.out.v.c 7
  have x8 := HB1.out.v.c 8
  have y0 := HB1.out.r.c 0
  have y1 := HB1.out.r.c 1
  have y2 := HB1.out.r.c 2
  have y3 := HB1.out.r.c 3
  have u0 := HB1.out.z.c 0
  have u1 := HB1.out.z.c 1
  have u2 := HB1.out.z.c 2
  have z0 := HB1.out.c.c 0
  have z1 := HB1.out.c.c 1
  have z2 := HB1.out.c.c 2
  have z3 := HB1.out.c.c 3
  have z4 := HB1.out.c.c 4
  simp at x0 x1 x2 x3 x4 x5 x6 x7 x8 y0 y1 y2 y3 u0 u1 u2 z0 z1 z2 z3 z4
  go_wp2_with fail
  refine (CF _).out.mono ?_
  rintro e w2 ⟨rfl, hb2⟩
  have HB2 := Lib.hid (HB1.out.next hb2)
  clear hb2 CF x0 x1 x2 x3 x4 x5 x6 x7 x8 y0 y1 y2 y3 u0 u1 u2 z0 z1 z2 z3 z4
  go_wp2_with fail
  refine (CA _).out.mono ?_
  rintro e w3 ⟨rfl, hb3⟩
  have HB3 := Lib.hid (HB2.out.next hb3)
  clear hb3 HB2 CA
  go_wp2
  go_ret
  exact ⟨rfl, HB3.out.b⟩

set_option maxRecDepth 100000 in
set_option maxHeartbeats 4000000 in
theorem way_yes (r : Rw) (x : Ri) (a0 a1 a2 : Int) (w : World) (p q t : Int) (e1 : bits .and .i64 a2 7 = p) (e2 : max a1 1 = q) (e3 : min q 5000 = t) (V D k0 : Int) (m0 f0 m1 f1 m2 f2 : Int) (CF : ∀ W : World, Hid (Calls Try.prog 9 #[vg r, .slice none 0 0] W (Yes W true))) (CA : ∀ W : World, Hid (Calls Try.prog 10 #[] W (Yes W true)))
    (C1 : ∀ W : World, Below w.heap.size w W → Hid (Calls Try.prog 11 #[vg r, rg x, cg (ofC p t)] W (Tells W (m0, f0)))) (C2 : ∀ W : World, Below w.heap.size w W → Hid (Calls Try.prog 11 #[vg r, rg ⟨x.k, V, x.a, x.z⟩, cg (ofC p t)] W (Tells W (m1, f1)))) (C3 : ∀ W : World, Below w.heap.size w W → Hid (Calls Try.prog 11 #[vg r, rg x, cg (ofC p D)] W (Tells W (m2, f2))))
    (e4 : max x.v a0 = V) (e5 : bits .and .i64 a1 4095 = k0) (e6 : IntKind.i64.wrap (t + k0) = D) (e7 : wrap64 (t + k0) = D)
    (g1 : f0 = 0 → f1 = 0 → m0 ≤ m1) (g2 : f0 = 0 → f2 = 0 → m0 ≤ m2) : Calls Try.prog 6 #[vg r, rg x, .agg #[.int .i64 a0, .int .i64 a1, .int .i64 a2]] w (Yes w true) := by
  have CO := fun W => Lib.hid (of_ p t W)
  go_enter Try.func6, Try.ntmps6
  go_wp2_with fail
  refine (CO _).out.mono ?_
  rintro e w1 ⟨rfl, hb1⟩
  have HB1 := Lib.hid (QM.start w r x a0 a1 a2 (ofC p t) hb1)
  clear hb1 CO
  have x0 := HB1.out.v.c 0
  have x1 := HB1.out.v.c 1
  have x2 := HB1.out.v.c 2
  have x3 := HB1.out.v.c 3
  have x4 := HB1.out.v.c 4
  have x5 := HB1.out.v.c 5
  have x6 := HB1.out.v.c 6
  have x7 := HB1.out.v.c 7
  have x8 := HB1.out.v.c 8
  have y0 := HB1.out.r.c 0
  have y1 := HB1.out.r.c 1
  have y2 := HB1.out.r.c 2
  have y3 := HB1.out.r.c 3
  have u0 := HB1.out.z.c 0
  have u1 := HB1.out.z.c 1
  have u2 := HB1.out.z.c 2
  have z0 := HB1.out.c.c 0
  have z1 := HB1.out.c.c 1
  have z2 := HB1.out.c.c 2
  have z3 := HB1.out.c.c 3
  have z4 := HB1.out.c.c 4
  simp at x0 x1 x2 x3 x4 x5 x6 x7 x8 y0 y1 y2 y3 u0 u1 u2 z0 z1 z2 z3 z4
  go_wp2_with fail
  refine (CF _).out.mono ?_
  rintro e w2 ⟨rfl, hb2⟩
  have HB2 := Lib.hid (HB1.out.next hb2)
  clear hb2 CF x0 x1 x2 x3 x4 x5 x6 x7 x8 y0 y1 y2 y3 u0 u1 u2 z0 z1 z2 z3 z4
  have x0 := HB2.out.v.c 0
  have x1 := HB2.out.v.c 1
  have x2 := HB2.out.v.c 2
  have x3 := HB2.out.v.c 3
  have x4 := HB2.out.v.c 4
  have x5 := HB2.out.v.c 5
  have x6 := HB2.out.v.c 6
  have x7 := HB2.out.v.c 7
  have x8 := HB2.out.v.c 8
  have y0 := HB2.out.r.c 0
  have y1 := HB2.out.r.c 1
  have y2 := HB2.out.r.c 2
  have y3 := HB2.out.r.c 3
  have u0 := HB2.out.z.c 0
  have u1 := HB2.out.z.c 1
  have u2 := HB2.out.z.c 2
  have z0 := HB2.out.c.c 0
  have z1 := HB2.out.c.c 1
  have z2 := HB2.out.c.c 2
  have z3 := HB2.out.c.c 3
  have z4 := HB2.out.c.c 4
  simp at x0 x1 x2 x3 x4 x5 x6 x7 x8 y0 y1 y2 y3 u0 u1 u2 z0 z1 z2 z3 z4
  go_wp2
  have HSP := Lib.hid (fun (W' : World) (h : QM w W' r x a0 a1 a2 (ofC p t) w1.heap.size) => (show W'.cell? ⟨w.heap.size + 1, 0, none⟩ = some (.int .i64 x.k) ∧ W'.cell? ⟨w.heap.size + 1, 1, none⟩ = some (.int .i64 x.v) ∧ W'.cell? ⟨w.heap.size + 1, 2, none⟩ = some (.int .i64 x.a) ∧ W'.cell? ⟨w.heap.size + 1, 3, none⟩ = some (.int .i64 x.z) ∧ W'.cell? ⟨w1.heap.size, 0, none⟩ = some (.int .i64 p) ∧ W'.cell? ⟨w1.heap.size, 1, none⟩ = some (.int .i64 1000) ∧ W'.cell? ⟨w1.heap.size, 2, none⟩ = some (.int .i64 2000) ∧ W'.cell? ⟨w1.heap.size, 3, none⟩ = some (.int .i64 0) ∧ W'.cell? ⟨w1.heap.size, 4, none⟩ = some (.int .i64 t) from ⟨h.r.c 0, h.r.c 1, h.r.c 2, h.r.c 3, h.c.c 0, h.c.c 1, h.c.c 2, h.c.c 3, h.c.c 4⟩))
  have hd := Lib.hid (HB2.out.next (W' := w2.drew) ⟨rfl, rfl, rfl, Nat.le_refl _, fun _ _ => rfl⟩)
  go_cut [8, 9] (fun s8 s9 wx => ∃ (Wz : World) (b8 b9 : Nat), Wz = wx ∧ s8 = .pointer (some ⟨b8, 0, none⟩) ∧ s9 = .pointer (some ⟨b9, 0, none⟩) ∧ Hid (QD w Wz r x a0 a1 a2 (ofC p t) w1.heap.size x (ofC p t) b8 b9))
  case first =>
    go_region_held3 (fun w' => w'.cell? ⟨w.heap.size + 1, 0, none⟩ = some (.int .i64 x.k) ∧ w'.cell? ⟨w.heap.size + 1, 1, none⟩ = some (.int .i64 x.v) ∧ w'.cell? ⟨w.heap.size + 1, 2, none⟩ = some (.int .i64 x.a) ∧ w'.cell? ⟨w.heap.size + 1, 3, none⟩ = some (.int .i64 x.z) ∧ w'.cell? ⟨w1.heap.size, 0, none⟩ = some (.int .i64 p) ∧ w'.cell? ⟨w1.heap.size, 1, none⟩ = some (.int .i64 1000) ∧ w'.cell? ⟨w1.heap.size, 2, none⟩ = some (.int .i64 2000) ∧ w'.cell? ⟨w1.heap.size, 3, none⟩ = some (.int .i64 0) ∧ w'.cell? ⟨w1.heap.size, 4, none⟩ = some (.int .i64 t)) (first | exact HSP.out _ hd.out | exact HSP.out _ (hd.out.next (alloc_ _ _)) | exact HSP.out _ (hd.out.next ((alloc_ _ _).alloc (by simp) _)))
      (fail)
    all_goals
      go_wp2_with fail
      go_meet
      first
        | exact ⟨_, _, _, rfl, rfl, rfl, Lib.hid ((QD.sd HB2.out).next ⟨rfl, rfl, rfl, Nat.le_refl _, fun _ _ => rfl⟩)⟩
        | exact ⟨_, _, _, rfl, rfl, rfl, Lib.hid ((QD.ds HB2.out).next ⟨rfl, rfl, rfl, Nat.le_refl _, fun _ _ => rfl⟩)⟩
  case rest =>
    clear HSP hd HB2 x0 x1 x2 x3 x4 x5 x6 x7 x8 y0 y1 y2 y3 u0 u1 u2 z0 z1 z2 z3 z4
    obtain ⟨W3, bs, bd, rfl, rfl, rfl, HQ⟩ := hcut
    have x0 := HQ.out.v.c 0
    have x1 := HQ.out.v.c 1
    have x2 := HQ.out.v.c 2
    have x3 := HQ.out.v.c 3
    have x4 := HQ.out.v.c 4
    have x5 := HQ.out.v.c 5
    have x6 := HQ.out.v.c 6
    have x7 := HQ.out.v.c 7
    have x8 := HQ.out.v.c 8
    have y0 := HQ.out.r.c 0
    have y1 := HQ.out.r.c 1
    have y2 := HQ.out.r.c 2
    have y3 := HQ.out.r.c 3
    have u0 := HQ.out.z.c 0
    have u1 := HQ.out.z.c 1
    have u2 := HQ.out.z.c 2
    have z0 := HQ.out.c.c 0
    have z1 := HQ.out.c.c 1
    have z2 := HQ.out.c.c 2
    have z3 := HQ.out.c.c 3
    have z4 := HQ.out.c.c 4
    have s0 := HQ.out.s.c 0
    have s1 := HQ.out.s.c 1
    have s2 := HQ.out.s.c 2
    have s3 := HQ.out.s.c 3
    have d0 := HQ.out.d.c 0
    have d1 := HQ.out.d.c 1
    have d2 := HQ.out.d.c 2
    have d3 := HQ.out.d.c 3
    have d4 := HQ.out.d.c 4
    simp at x0 x1 x2 x3 x4 x5 x6 x7 x8 y0 y1 y2 y3 u0 u1 u2 z0 z1 z2 z3 z4 s0 s1 s2 s3 d0 d1 d2 d3 d4
    go_wp2
    have hd4 := Lib.hid (HQ.out.next (W' := W3.drew) ⟨rfl, rfl, rfl, Nat.le_refl _, fun _ _ => rfl⟩)
    have HS5 := Lib.hid (fun (W' : World) (h : QM w W' r x a0 a1 a2 (ofC p t) w1.heap.size) => (show W'.cell? ⟨w.heap.size + 1, 1, none⟩ = some (.int .i64 x.v) ∧ W'.cell? ⟨w.heap.size + 1 + 1, 0, none⟩ = some (.int .i64 a0) ∧ W'.cell? ⟨w.heap.size + 1 + 1, 1, none⟩ = some (.int .i64 a1) ∧ W'.cell? ⟨w1.heap.size, 4, none⟩ = some (.int .i64 t) from ⟨h.r.c 1, h.z.c 0, h.z.c 1, h.c.c 4⟩))
    have sf := HQ.out.s.f 1
    have df := HQ.out.d.f 4
    go_cut [32] (fun s32 wx => ∃ (Wz : World), Wz = wx ∧ Hid (QD w Wz r x a0 a1 a2 (ofC p t) w1.heap.size ⟨x.k, V, x.a, x.z⟩ (ofC p D) bs bd))
    case first =>
      go_region_held3 (fun w' => w'.cell? ⟨w.heap.size + 1, 1, none⟩ = some (.int .i64 x.v) ∧ w'.cell? ⟨w.heap.size + 1 + 1, 0, none⟩ = some (.int .i64 a0) ∧ w'.cell? ⟨w.heap.size + 1 + 1, 1, none⟩ = some (.int .i64 a1) ∧ w'.cell? ⟨w1.heap.size, 4, none⟩ = some (.int .i64 t)) (first | exact HS5.out _ hd4.out.toQM | exact HS5.out _ (QD.set1 hd4.out V) | exact HS5.out _ (hd4.out.set V D).toQM)
        (fail)
      all_goals
        go_wp2_with fail
        go_meet
        exact ⟨_, rfl, Lib.hid (hd4.out.set V D)⟩
    case rest =>
      obtain ⟨W5, rfl, HQ5⟩ := hcut
      clear hd4 HS5 sf df HQ x0 x1 x2 x3 x4 x5 x6 x7 x8 y0 y1 y2 y3 u0 u1 u2 z0 z1 z2 z3 z4 s0 s1 s2 s3 d0 d1 d2 d3 d4
      have x0 := HQ5.out.v.c 0
      have x1 := HQ5.out.v.c 1
      have x2 := HQ5.out.v.c 2
      have x3 := HQ5.out.v.c 3
      have x4 := HQ5.out.v.c 4
      have x5 := HQ5.out.v.c 5
      have x6 := HQ5.out.v.c 6
      have x7 := HQ5.out.v.c 7
      have x8 := HQ5.out.v.c 8
      have y0 := HQ5.out.r.c 0
      have y1 := HQ5.out.r.c 1
      have y2 := HQ5.out.r.c 2
      have y3 := HQ5.out.r.c 3
      have z0 := HQ5.out.c.c 0
      have z1 := HQ5.out.c.c 1
      have z2 := HQ5.out.c.c 2
      have z3 := HQ5.out.c.c 3
      have z4 := HQ5.out.c.c 4
      simp at x0 x1 x2 x3 x4 x5 x6 x7 x8 y0 y1 y2 y3 z0 z1 z2 z3 z4
      go_wp2_with fail
      refine (C1 _ HQ5.out.b).out.mono ?_
      rintro e w6 ⟨rfl, hb6⟩
      have HQ6 := Lib.hid (HQ5.out.next hb6)
      clear hb6 HQ5 C1 x0 x1 x2 x3 x4 x5 x6 x7 x8 y0 y1 y2 y3 z0 z1 z2 z3 z4
      have x0 := HQ6.out.v.c 0
      have x1 := HQ6.out.v.c 1
      have x2 := HQ6.out.v.c 2
      have x3 := HQ6.out.v.c 3
      have x4 := HQ6.out.v.c 4
      have x5 := HQ6.out.v.c 5
      have x6 := HQ6.out.v.c 6
      have x7 := HQ6.out.v.c 7
      have x8 := HQ6.out.v.c 8
      have y0 := HQ6.out.r.c 0
      have y1 := HQ6.out.r.c 1
      have y2 := HQ6.out.r.c 2
      have y3 := HQ6.out.r.c 3
      have u0 := HQ6.out.z.c 0
      have u1 := HQ6.out.z.c 1
      have u2 := HQ6.out.z.c 2
      have z0 := HQ6.out.c.c 0
      have z1 := HQ6.out.c.c 1
      have z2 := HQ6.out.c.c 2
      have z3 := HQ6.out.c.c 3
      have z4 := HQ6.out.c.c 4
      have s0 := HQ6.out.s.c 0
      have s1 := HQ6.out.s.c 1
      have s2 := HQ6.out.s.c 2
      have s3 := HQ6.out.s.c 3
      have d0 := HQ6.out.d.c 0
      have d1 := HQ6.out.d.c 1
      have d2 := HQ6.out.d.c 2
      have d3 := HQ6.out.d.c 3
      have d4 := HQ6.out.d.c 4
      simp at x0 x1 x2 x3 x4 x5 x6 x7 x8 y0 y1 y2 y3 u0 u1 u2 z0 z1 z2 z3 z4 s0 s1 s2 s3 d0 d1 d2 d3 d4
      go_wp2_with fail
      refine (C2 _ HQ6.out.b).out.mono ?_
      rintro e w7 ⟨rfl, hb7⟩
      have HQ7 := Lib.hid (HQ6.out.next hb7)
      clear hb7 HQ6 C2 x0 x1 x2 x3 x4 x5 x6 x7 x8 y0 y1 y2 y3 u0 u1 u2 z0 z1 z2 z3 z4 s0 s1 s2 s3 d0 d1 d2 d3 d4
      have x0 := HQ7.out.v.c 0
      have x1 := HQ7.out.v.c 1
      have x2 := HQ7.out.v.c 2
      have x3 := HQ7.out.v.c 3
      have x4 := HQ7.out.v.c 4
      have x5 := HQ7.out.v.c 5
      have x6 := HQ7.out.v.c 6
      have x7 := HQ7.out.v.c 7
      have x8 := HQ7.out.v.c 8
      have y0 := HQ7.out.r.c 0
      have y1 := HQ7.out.r.c 1
      have y2 := HQ7.out.r.c 2
      have y3 := HQ7.out.r.c 3
      have u0 := HQ7.out.z.c 0
      have u1 := HQ7.out.z.c 1
      have u2 := HQ7.out.z.c 2
      have z0 := HQ7.out.c.c 0
      have z1 := HQ7.out.c.c 1
      have z2 := HQ7.out.c.c 2
      have z3 := HQ7.out.c.c 3
      have z4 := HQ7.out.c.c 4
      have s0 := HQ7.out.s.c 0
      have s1 := HQ7.out.s.c 1
      have s2 := HQ7.out.s.c 2
      have s3 := HQ7.out.s.c 3
      have d0 := HQ7.out.d.c 0
      have d1 := HQ7.out.d.c 1
      have d2 := HQ7.out.d.c 2
      have d3 := HQ7.out.d.c 3
      have d4 := HQ7.out.d.c 4
      simp at x0 x1 x2 x3 x4 x5 x6 x7 x8 y0 y1 y2 y3 u0 u1 u2 z0 z1 z2 z3 z4 s0 s1 s2 s3 d0 d1 d2 d3 d4
      go_wp2_with fail
      refine (C3 _ HQ7.out.b).out.mono ?_
      rintro e w8 ⟨rfl, hb8⟩
      have HQ8 := Lib.hid (HQ7.out.next hb8)
      clear hb8 HQ7 C3 x0 x1 x2 x3 x4 x5 x6 x7 x8 y0 y1 y2 y3 u0 u1 u2 z0 z1 z2 z3 z4 s0 s1 s2 s3 d0 d1 d2 d3 d4
      go_wp2_with fail
      refine (CA _).out.mono ?_
      rintro e w9 ⟨rfl, hb9⟩
      have HQ9 := Lib.hid (HQ8.out.next hb9)
      clear hb9 HQ8 CA
      by_cases h0 : f0 = 0
      · subst h0
        by_cases h1 : f1 = 0
        · subst h1
          have u1 : decide (m0 ≤ m1) = true := decide_eq_true (g1 rfl rfl)
          by_cases h2 : f2 = 0
          · subst h2
            have u2 : decide (m0 ≤ m2) = true := decide_eq_true (g2 rfl rfl)
            clear g1 g2
            go_wp2
            go_ret
            exact ⟨rfl, HQ9.out.b⟩
          · have v2 : (f2 == 0) = false := by rw [beq_eq_false_iff_ne]; exact h2
            clear g1 g2
            go_wp2
            go_ret
            exact ⟨rfl, HQ9.out.b⟩
        · have v1 : (f1 == 0) = false := by rw [beq_eq_false_iff_ne]; exact h1
          by_cases h2 : f2 = 0
          · subst h2
            have u2 : decide (m0 ≤ m2) = true := decide_eq_true (g2 rfl rfl)
            clear g1 g2
            go_wp2
            go_ret
            exact ⟨rfl, HQ9.out.b⟩
          · have v2 : (f2 == 0) = false := by rw [beq_eq_false_iff_ne]; exact h2
            clear g1 g2
            go_wp2
            go_ret
            exact ⟨rfl, HQ9.out.b⟩
      · have v0 : (f0 == 0) = false := by rw [beq_eq_false_iff_ne]; exact h0
        clear g1 g2
        go_wp2
        go_ret
        exact ⟨rfl, HQ9.out.b⟩

/-- More value, or a greater share, costs no less. -/
theorem more {v : Ve} {x y : Ri} {c t : Co} (hk : bs v x.k = bs v y.k) (ha : x.a = y.a) (hz : x.z = y.z) (hv : x.v ≤ y.v) (hp : c.p = t.p) (hs : c.s ≤ t.s) (h1 : (qd v x c).2 = 0) (h2 : (qd v y t).2 = 0) : (qd v x c).1 ≤ (qd v y t).1 := by
  rcases qd_cases v x c with e | e | e | ⟨m, c1, _, t1, e⟩
  · rw [e] at h1; cases h1
  · rw [e] at h1; cases h1
  · rw [e] at h1; cases h1
  rcases qd_cases v y t with e' | e' | e' | ⟨m', c2, _, t2, e'⟩
  · rw [e'] at h2; cases h2
  · rw [e'] at h2; cases h2
  · rw [e'] at h2; cases h2
  have b1 := parts_bd c1
  have hr := rk_iff.1 (can_iff.1 c1).2.1
  rw [e, e']
  have : m ≤ m' := by
    refine tk_mono (by omega) hv ?_ t1 t2
    have k0 := (b1 (bs v x.k) (by simp [parts])).1
    have k1 := (b1 (bnd x.a v.ag) (by simp [parts])).1
    have k2 := (b1 (v.zn.getD x.z.toNat 0) (by simp [parts])).1
    have k3 := (b1 (v.pe.getD c.p.toNat 0) (by simp [parts])).1
    have k4 := (b1 c.s (by simp [parts])).1
    unfold parts
    rw [← hk, ← ha, ← hz, ← hp]
    exact ⟨k0, Int.le_refl _, k1, Int.le_refl _, k2, Int.le_refl _, k3, Int.le_refl _, k4, hs, trivial⟩
  simp only
  omega

theorem walk {w0 : World} (r : Rw) (g : GivenV w0 r) (x : Ri) (a0 a1 a2 : Int) (b : (-9223372036854775808 ≤ a0 ∧ a0 ≤ 9223372036854775807) ∧ (-9223372036854775808 ≤ a1 ∧ a1 ≤ 9223372036854775807) ∧ (-9223372036854775808 ≤ a2 ∧ a2 ≤ 9223372036854775807)) : Calls Try.prog 6 #[vg r, rg x, .agg #[.int .i64 a0, .int .i64 a1, .int .i64 a2]] w0 (Yes w0 true) := by
  have CF := fun W => Lib.hid (few_ r none 0 0 W g.l (by unfold maxLen; omega))
  have CA := fun W => Lib.hid (alive_ W)
  have hk := mask4095 a1
  cases h : fw r 0
  · rw [h] at CF
    exact way_no r x a0 a1 a2 w0 _ _ _ rfl rfl rfl CF CA
  rw [h] at CF
  have ht : 1 ≤ min (max a1 1) 5000 ∧ min (max a1 1) 5000 ≤ 5000 := by omega
  have hw : wrap64 (min (max a1 1) 5000 + bits .and .i64 a1 4095) = min (max a1 1) 5000 + bits .and .i64 a1 4095 := IntWalk.wrap64_in _ ⟨by omega, by omega⟩
  exact way_yes r x a0 a1 a2 w0 _ _ _ rfl rfl rfl _ _ _ _ _ _ _ _ _ CF CA (fun W hb => Lib.hid (cost r x _ W (g.m.below hb) g.l)) (fun W hb => Lib.hid (cost r _ _ W (g.m.below hb) g.l)) (fun W hb => Lib.hid (cost r x _ W (g.m.below hb) g.l))
    rfl rfl ((IntWalk.i64_left _).trans hw) hw (fun p1 p2 => more rfl rfl rfl (by simp only; omega) rfl (Int.le_refl _) p1 p2) (fun p1 p2 => more rfl rfl rfl (Int.le_refl _) rfl (by simp only; omega) p1 p2)

set_option maxRecDepth 100000 in
theorem lifted (os : Os) (started : os.Started) (H : Type) (enc : TypeId × Value → H) :
    ReturnsInHanded {} Try.checked os 6 .any (Rows.quoteMoreSpec.pre6 enc Try.prog Try.f6 Rows.quoteMoreRow.domain false) (Rows.quoteMoreSpec.post enc Try.prog Try.f6 false true false false) := by
  refine returnsInHanded_of_change_sized (C := Try.checked) Qo.own started (by kernel_rfl) Try.func6
    (ChangeSpec.witness6 (enc := enc) (C := Try.checked) false ⟨#[], #[.agg #[.int .i64 0, .int .i64 0, .int .i64 0, .int .i64 0, .int .i64 0, .slice none 0 0, .slice none 0 0, .slice none 0 0, .int .i64 0], .agg #[.int .i64 0, .int .i64 0, .int .i64 0, .int .i64 0], .agg #[.int .i64 0, .int .i64 0, .int .i64 0]], []⟩ 8 (by kernel_rfl) (by kernel_rfl) (by kernel_rfl) (by kernel_rfl)) ?_
  intro W base args ds gs before hval0 hW hcnd hsz0 _
  have hval : ∀ (j : Nat) t v, Try.f6.params[j]? = some t → args[j]? = some v → Value.okWide Try.prog W .any base t v := hval0
  have hW' := hW
  have hsz : (DataW.weightsEach Try.prog (Try.f6.params.toList ++ Rows.quoteMoreSpec.plain.varTypes Try.prog) (ds ++ gs)).all (· ≤ reachBytes) = true := hsz0
  obtain ⟨p, q, hA0, hV, rfl, hfz, hnd⟩ := hW
  have hA : DataW.TrodAll enc Try.prog W 0 (fun _ => true) true Try.f6.params.toList args.toList ds p := hA0
  rw [Try.params6] at hA hval hsz
  obtain ⟨v0, vs0, d0, ds0, p0, q0, hargs, rfl, rfl, h0, r0⟩ := trodAll_cons hA
  obtain ⟨v1, vs1, d1, ds1, p1, q1, rfl, rfl, rfl, h1, r1⟩ := trodAll_cons r0
  obtain ⟨v2, vs2, d2, ds2, p2, q2, rfl, rfl, rfl, h2, r2⟩ := trodAll_cons r1
  obtain ⟨rfl, rfl, rfl⟩ := trodAll_nil r2
  obtain rfl : args = #[v0, v1, v2] := by cases args; simp_all
  obtain ⟨rfl, rfl⟩ := trodVars_none hV
  have k0 := h0
  have lt0 : ∀ x ∈ p0, x.block < W.heap.size := by obtain ⟨m, hm⟩ := k0; exact DataW.trod_lt m _ _ _ hm
  obtain ⟨z0, rfl, g0⟩ := Qo.open_version (hval 0 26 v0 rfl rfl) h0 (fun k hk => of_decide_eq_true (List.all_eq_true.1 hsz _ (DataW.weights_mem_each (j := 0) rfl rfl k hk)))
  have k1 := h1
  have lt1 : ∀ x ∈ p1, x.block < W.heap.size := by obtain ⟨m, hm⟩ := k1; exact DataW.trod_lt m _ _ _ hm
  obtain ⟨x1, rfl⟩ := Qo.open_risk (hval 1 28 v1 rfl rfl) h1 (fun k hk => of_decide_eq_true (List.all_eq_true.1 hsz _ (DataW.weights_mem_each (j := 1) rfl rfl k hk)))
  have k2 := h2
  have lt2 : ∀ x ∈ p2, x.block < W.heap.size := by obtain ⟨m, hm⟩ := k2; exact DataW.trod_lt m _ _ _ hm
  obtain ⟨y2, t2, q2, rfl, b2⟩ := Qo.open_arr3 (hval 2 40 v2 rfl rfl) h2 (fun k hk => of_decide_eq_true (List.all_eq_true.1 hsz _ (DataW.weights_mem_each (j := 2) rfl rfl k hk)))
  clear hA0 hval0 hsz hsz0
  refine (walk z0 g0 x1 y2 t2 q2 b2).mono fun e W' ⟨he, bel⟩ => ?_
  subst he
  exact ⟨_, rfl, _, _, _, [], _, [], hW', trodAll_mk1 (shut_bool Try.underlying4 _), (trodAll_cons_mk (Below.trod Qo.laidOut (by kernel_rfl) (of_decide_eq_true (by kernel_rfl)) k0 bel lt0) (trodAll_cons_mk (Below.trod Qo.laidOut (by kernel_rfl) (of_decide_eq_true (by kernel_rfl)) k1 bel lt1) (trodAll_cons_mk (Below.trod Qo.laidOut (by kernel_rfl) (of_decide_eq_true (by kernel_rfl)) k2 bel lt2) trodAll_mk0))), rfl, bel.frame _, fun h => by cases h⟩

theorem over : Rows.quoteMoreRow.holds Try.pinned (OpenSpec.ofChange Rows.quoteMoreSpec) :=
  OpenClaim.holds_of_wide 6 Try.f6 rfl rfl rfl rfl rfl rfl rfl ⟨rfl, rfl, rfl, rfl, rfl⟩ rfl rfl rfl rfl rfl (by kernel_rfl) Try.func6 (by kernel_rfl)
    (of_decide_eq_true (by kernel_rfl)) (by unfold Func.isWrapper; first | (rw [if_pos (by decide +kernel)]; kernel_rfl) | (rw [if_neg (by decide +kernel)]; exact ⟨rfl, rfl⟩))
    (fun os started H enc _ => lifted os started H enc)

theorem proved : Rows.QuoteMoreSaid := over
end Go.Proofs.Ytinhhphnbbdoeaa.quoteMore
