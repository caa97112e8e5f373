/-
  Two spans: Cut of package span and of the document's own text. Conditions: those of each theorem.
-/
import Derived.Test.YtbollbbanmdbhaaOne
namespace Go.Proofs.Ytbollbbanmdbhaa
open Go.RowKit Sp
namespace Spn
set_option linter.unusedVariables false

/-- Block b is a span's two numbers. -/
def Bx (w : World) (b : Nat) (x y : Int) : Prop := w.heap[b]? = some (.cells #[.int .i64 x, .int .i64 y] 23 (0, 0))
section
variable {w w1 : World} {b B : Nat} {x y p q r s : Int}
theorem Bx.lt (h : Bx w b x y) : b < w.heap.size := by
  rcases Nat.lt_or_ge b w.heap.size with hlt | hge
  · exact hlt
  · unfold Bx at h; rw [Array.getElem?_eq_none hge] at h; cases h
theorem Bx.c0 (h : Bx w b x y) : w.cell? ⟨b, 0, none⟩ = some (.int .i64 x) := by rw [cell_of_row w b 0 _ _ _ h]; rfl
theorem Bx.c1 (h : Bx w b x y) : w.cell? ⟨b, 1, none⟩ = some (.int .i64 y) := by rw [cell_of_row w b 1 _ _ _ h]; rfl
theorem Bx.f (h : Bx w b x y) (o : Nat) : w.frozen? ⟨b, o, none⟩ = false := by unfold Bx at h; simp [World.frozen?, h]
theorem Bx.below (h : Bx w b x y) (hb : Below B w w1) (hB : b < B) : Bx w1 b x y := (hb.block b hB).trans h
theorem Bx.keep (h : Bx w b x y) (hb : Below w.heap.size w w1) : Bx w1 b x y := h.below hb h.lt
theorem Bx.alloc (h : Bx w b x y) (o : Obj) : Bx (w.alloc o) b x y := (Below.heap_alloc w o b h.lt).trans h
theorem Bx.new (w : World) (x y : Int) : Bx (w.alloc (.cells #[.int .i64 x, .int .i64 y] 23)) w.heap.size x y := heap_alloc_new w _
theorem Bx.set0 (h : Bx w b x y) (z : Int) : Bx (w.setCell ⟨b, 0, none⟩ (.int .i64 z)) b z y := by
  unfold Bx at h ⊢; rw [heap_setCell_same w b 0 _ _ _ h]; rfl
theorem Bx.set1 (h : Bx w b x y) (z : Int) : Bx (w.setCell ⟨b, 1, none⟩ (.int .i64 z)) b x z := by
  unfold Bx at h ⊢; rw [heap_setCell_same w b 1 _ _ _ h]; rfl
theorem Bx.far (h : Bx w b x y) {a : Addr} (hp : b ≠ a.block) (u : Value) : Bx (w.setCell a u) b x y := (Below.heap_setCell w a u b hp).trans h
theorem bx1 (hb : Below (w.alloc (.cells #[.int .i64 x, .int .i64 y] 23)).heap.size (w.alloc (.cells #[.int .i64 x, .int .i64 y] 23)) w1) :
    Bx w1 w.heap.size x y ∧ Below w.heap.size w w1 :=
  ⟨(Bx.new w x y).keep hb, ((Below.refl _ _).alloc (Nat.le_refl _) _).trans (hb.mono (by simp))⟩
theorem bx2 (hb : Below ((w.alloc (.cells #[.int .i64 x, .int .i64 y] 23)).alloc (.cells #[.int .i64 p, .int .i64 q] 23)).heap.size ((w.alloc (.cells #[.int .i64 x, .int .i64 y] 23)).alloc (.cells #[.int .i64 p, .int .i64 q] 23)) w1) :
    Bx w1 w.heap.size x y ∧ Bx w1 (w.heap.size + 1) p q ∧ Below w.heap.size w w1 := by
  obtain ⟨h1, h2⟩ := bx1 hb
  rw [World.size_alloc] at h1 h2
  exact ⟨(Bx.new w x y).below h2 (by simp), h1, ((Below.refl _ _).alloc (Nat.le_refl _) _).trans (h2.mono (by simp))⟩
theorem bx3 (hb : Below (((w.alloc (.cells #[.int .i64 x, .int .i64 y] 23)).alloc (.cells #[.int .i64 p, .int .i64 q] 23)).alloc (.cells #[.int .i64 r, .int .i64 s] 23)).heap.size (((w.alloc (.cells #[.int .i64 x, .int .i64 y] 23)).alloc (.cells #[.int .i64 p, .int .i64 q] 23)).alloc (.cells #[.int .i64 r, .int .i64 s] 23)) w1) :
    Bx w1 w.heap.size x y ∧ Bx w1 (w.heap.size + 1) p q ∧ Bx w1 (w.heap.size + 1 + 1) r s ∧ Below w.heap.size w w1 := by
  obtain ⟨h1, h2, h3⟩ := bx2 hb
  rw [World.size_alloc] at h1 h2 h3
  exact ⟨(Bx.new w x y).below h3 (by simp), h1, h2, ((Below.refl _ _).alloc (Nat.le_refl _) _).trans (h3.mono (by simp))⟩
end

theorem ct_no1 {a b : Sp} (h : rt a = false) : ct a b = (0, 0) := by rw [ct, if_neg (by simp [h])]
theorem ct_no2 {a b : Sp} (h : rt b = false) : ct a b = (0, 0) := by rw [ct, if_neg (by simp [h])]
theorem ct_no3 {a b : Sp} (h : has (bt a b) = false) : ct a b = (0, 0) := by rw [ct, if_neg (by simp [h])]
theorem ct_is {a b : Sp} (h1 : rt a = true) (h2 : rt b = true) (h3 : has (bt a b) = true) : ct a b = bt a b := by rw [ct, if_pos ⟨h1, h2, h3⟩]

set_option maxHeartbeats 1000000 in
theorem cut_no1 (a b : Sp) (w : World) (h : rt a = false) : Calls Try.prog 18 #[ag a, ag b] w fun e w' => e = .returned (ag (0, 0)) ∧ Below w.heap.size w w' := by
  have C := fun w => Lib.hid (right a w)
  rw [h] at C
  obtain ⟨a1, a2⟩ := a
  obtain ⟨b1, b2⟩ := b
  clear h
  go_enter Try.func18, Try.ntmps18
  go_wp2_with fail
  refine (C _).out.mono ?_
  rintro e w1 ⟨rfl, hb⟩
  obtain ⟨X, Y, Z, hB⟩ := bx3 hb
  have z0 := Z.c0
  have z1 := Z.c1
  have f0 := Z.f 0
  have f1 := Z.f 1
  have HB := Lib.hid hB
  have HZ := Lib.hid Z
  clear hb hB X Y Z
  go_wp2
  have Z2 := (HZ.out.set0 0).set1 0
  exact bodyPost_ret (v := .agg #[.int .i64 0, .int .i64 0]) (by simp [results, Try.results18, go_sem, Z2.c0, Z2.c1]) rfl ⟨rfl, (HB.out.setCell (p := ⟨w.heap.size + 1 + 1, 0, none⟩) (by simp; omega) _).setCell (p := ⟨w.heap.size + 1 + 1, 1, none⟩) (by simp; omega) _⟩

set_option maxHeartbeats 1000000 in
theorem cut_no2 (a b : Sp) (w : World) (h1 : rt a = true) (h2 : rt b = false) : Calls Try.prog 18 #[ag a, ag b] w fun e w' => e = .returned (ag (0, 0)) ∧ Below w.heap.size w w' := by
  have C := fun w => Lib.hid (right a w)
  have D := fun w => Lib.hid (right b w)
  rw [h1] at C
  rw [h2] at D
  obtain ⟨a1, a2⟩ := a
  obtain ⟨b1, b2⟩ := b
  clear h1 h2
  go_enter Try.func18, Try.ntmps18
  go_wp2_with fail
  refine (C _).out.mono ?_
  rintro e w1 ⟨rfl, hb⟩
  obtain ⟨X, Y, Z, hB⟩ := bx3 hb
  have y0 := Y.c0
  have y1 := Y.c1
  have HB := Lib.hid hB
  have HZ := Lib.hid Z
  clear hb hB X Y Z
  go_wp2_with fail
  refine (D _).out.mono ?_
  rintro e w2 ⟨rfl, hb⟩
  have HZ2 := Lib.hid (HZ.out.keep hb)
  have HB2 := Lib.hid (HB.out.trans (hb.mono HB.out.size))
  have z0 := HZ2.out.c0
  have z1 := HZ2.out.c1
  have f0 := HZ2.out.f 0
  have f1 := HZ2.out.f 1
  clear hb HB HZ y0 y1
  go_wp2
  have Z2 := (HZ2.out.set0 0).set1 0
  exact bodyPost_ret (v := .agg #[.int .i64 0, .int .i64 0]) (by simp [results, Try.results18, go_sem, Z2.c0, Z2.c1]) rfl ⟨rfl, (HB2.out.setCell (p := ⟨w.heap.size + 1 + 1, 0, none⟩) (by simp; omega) _).setCell (p := ⟨w.heap.size + 1 + 1, 1, none⟩) (by simp; omega) _⟩

-- BOTH
set_option maxHeartbeats 1000000 in
theorem cut_yes (a b : Sp) (w : World) (h1 : rt a = true) (h2 : rt b = true) (h3 : has (bt a b) = true) : Calls Try.prog 18 #[ag a, ag b] w fun e w' => e = .returned (ag (bt a b)) ∧ Below w.heap.size w w' := by
  have C := fun w => Lib.hid (right a w)
  have D := fun w => Lib.hid (right b w)
  have E := fun w => Lib.hid (many (bt a b) w)
  rw [h1] at C
  rw [h2] at D
  obtain ⟨a1, a2⟩ := a
  obtain ⟨b1, b2⟩ := b
  have tm : (mn (bt (a1, a2) (b1, b2)) == 0) = false := by
    have hh := h3
    simp only [has, decide_eq_true_eq] at hh
    have := mn_bd (bt (a1, a2) (b1, b2))
    rw [beq_eq_false_iff_ne]; omega
  clear h1 h2 h3
  simp only [bt] at E tm ⊢
  obtain ⟨M, eM⟩ : ∃ M, max a1 b1 = M := ⟨_, rfl⟩
  obtain ⟨N, eN⟩ : ∃ N, min a2 b2 = N := ⟨_, rfl⟩
  rw [eM, eN] at E tm
  rw [eM, eN]
  generalize mn (M, N) = k at E tm
  go_enter Try.func18, Try.ntmps18
  go_wp2_with fail
  refine (C _).out.mono ?_
  rintro e w1 ⟨rfl, hb⟩
  obtain ⟨X, Y, Z, hB⟩ := bx3 hb
  have y0 := Y.c0
  have y1 := Y.c1
  have HB := Lib.hid hB
  have HX := Lib.hid X
  have HY := Lib.hid Y
  have HZ := Lib.hid Z
  clear hb hB X Y Z
  go_wp2_with fail
  refine (D _).out.mono ?_
  rintro e w2 ⟨rfl, hb⟩
  have HZ2 := Lib.hid (HZ.out.keep hb)
  have HX2 := HX.out.keep hb
  have HY2 := HY.out.keep hb
  have HB2 := Lib.hid (HB.out.trans (hb.mono HB.out.size))
  have x0 := HX2.c0
  have x1 := HX2.c1
  have v0 := HY2.c0
  have v1 := HY2.c1
  clear hb HB HX HY HZ y0 y1 HX2 HY2
  go_wp2_with fail
  refine (E _).out.mono ?_
  rintro e w3 ⟨rfl, hb⟩
  obtain ⟨K, hB⟩ := bx1 hb
  have k0 := K.c0
  have k1 := K.c1
  have HZ3 := Lib.hid (HZ2.out.keep hB)
  have HB3 := Lib.hid (HB2.out.trans (hB.mono HB2.out.size))
  have f0 := HZ3.out.f 0
  have f1 := HZ3.out.f 1
  have z0 := HZ3.out.c0
  have z1 := HZ3.out.c1
  clear hb hB HB2 HZ2 x0 x1 v0 v1 K
  go_wp2
  have Z2 := (HZ3.out.set0 M).set1 N
  exact bodyPost_ret (v := .agg #[.int .i64 M, .int .i64 N]) (by simp [results, Try.results18, go_sem, Z2.c0, Z2.c1]) rfl ⟨rfl, (HB3.out.setCell (p := ⟨w.heap.size + 1 + 1, 0, none⟩) (by simp; omega) _).setCell (p := ⟨w.heap.size + 1 + 1, 1, none⟩) (by simp; omega) _⟩

set_option maxHeartbeats 1000000 in
theorem cut_no3 (a b : Sp) (w : World) (h1 : rt a = true) (h2 : rt b = true) (h3 : has (bt a b) = false) : Calls Try.prog 18 #[ag a, ag b] w fun e w' => e = .returned (ag (0, 0)) ∧ Below w.heap.size w w' := by
  have C := fun w => Lib.hid (right a w)
  have D := fun w => Lib.hid (right b w)
  have E := fun w => Lib.hid (many (bt a b) w)
  rw [h1] at C
  rw [h2] at D
  obtain ⟨a1, a2⟩ := a
  obtain ⟨b1, b2⟩ := b
  have tm : (mn (bt (a1, a2) (b1, b2)) == 0) = true := by
    have hh := h3
    simp only [has, decide_eq_false_iff_not] at hh
    have := mn_bd (bt (a1, a2) (b1, b2))
    rw [beq_iff_eq]; omega
  clear h1 h2 h3
  simp only [bt] at E tm ⊢
  obtain ⟨M, eM⟩ : ∃ M, max a1 b1 = M := ⟨_, rfl⟩
  obtain ⟨N, eN⟩ : ∃ N, min a2 b2 = N := ⟨_, rfl⟩
  rw [eM, eN] at E tm
  skip
  generalize mn (M, N) = k at E tm
  go_enter Try.func18, Try.ntmps18
  go_wp2_with fail
  refine (C _).out.mono ?_
  rintro e w1 ⟨rfl, hb⟩
  obtain ⟨X, Y, Z, hB⟩ := bx3 hb
  have y0 := Y.c0
  have y1 := Y.c1
  have HB := Lib.hid hB
  have HX := Lib.hid X
  have HY := Lib.hid Y
  have HZ := Lib.hid Z
  clear hb hB X Y Z
  go_wp2_with fail
  refine (D _).out.mono ?_
  rintro e w2 ⟨rfl, hb⟩
  have HZ2 := Lib.hid (HZ.out.keep hb)
  have HX2 := HX.out.keep hb
  have HY2 := HY.out.keep hb
  have HB2 := Lib.hid (HB.out.trans (hb.mono HB.out.size))
  have x0 := HX2.c0
  have x1 := HX2.c1
  have v0 := HY2.c0
  have v1 := HY2.c1
  clear hb HB HX HY HZ y0 y1 HX2 HY2
  go_wp2_with fail
  refine (E _).out.mono ?_
  rintro e w3 ⟨rfl, hb⟩
  obtain ⟨K, hB⟩ := bx1 hb
  have k0 := K.c0
  have k1 := K.c1
  have HZ3 := Lib.hid (HZ2.out.keep hB)
  have HB3 := Lib.hid (HB2.out.trans (hB.mono HB2.out.size))
  have f0 := HZ3.out.f 0
  have f1 := HZ3.out.f 1
  have z0 := HZ3.out.c0
  have z1 := HZ3.out.c1
  clear hb hB HB2 HZ2 x0 x1 v0 v1 K
  go_wp2
  have Z2 := (HZ3.out.set0 0).set1 0
  exact bodyPost_ret (v := .agg #[.int .i64 0, .int .i64 0]) (by simp [results, Try.results18, go_sem, Z2.c0, Z2.c1]) rfl ⟨rfl, (HB3.out.setCell (p := ⟨w.heap.size + 1 + 1, 0, none⟩) (by simp; omega) _).setCell (p := ⟨w.heap.size + 1 + 1, 1, none⟩) (by simp; omega) _⟩

theorem cut (a b : Sp) (w : World) : Calls Try.prog 18 #[ag a, ag b] w fun e w' => e = .returned (ag (ct a b)) ∧ Below w.heap.size w w' := by
  cases h1 : rt a
  · rw [ct_no1 h1]; exact cut_no1 a b w h1
  · cases h2 : rt b
    · rw [ct_no2 h2]; exact cut_no2 a b w h1 h2
    · cases h3 : has (bt a b)
      · rw [ct_no3 h3]; exact cut_no3 a b w h1 h2 h3
      · rw [ct_is h1 h2 h3]; exact cut_yes a b w h1 h2 h3

set_option maxHeartbeats 1000000 in
theorem rcut_yes_00 (a b : Sp) (w : World) (g1 : b.1 ≤ a.1) (g2 : a.2 ≤ b.2) (h1 : rt a = true) (h2 : rt b = true) (h3 : has (bt a b) = true) : Calls Try.prog 19 #[ag a, ag b] w fun e w' => e = .returned (ag (bt a b)) ∧ Below w.heap.size w w' := by
  have C := fun w => Lib.hid (rright a w)
  have D := fun w => Lib.hid (rright b w)
  have E := fun w => Lib.hid (rmany (bt a b) w)
  rw [h1] at C
  rw [h2] at D
  obtain ⟨a1, a2⟩ := a
  obtain ⟨b1, b2⟩ := b
  simp only at g1 g2
  have t1 : decide (a1 < b1) = false := by simp; omega
  have t2 : decide (b2 < a2) = false := by simp; omega
  have tm : (mn (bt (a1, a2) (b1, b2)) == 0) = false := by
    have hh := h3
    simp only [has, decide_eq_true_eq] at hh
    have := mn_bd (bt (a1, a2) (b1, b2))
    rw [beq_eq_false_iff_ne]; omega
  clear h1 h2 h3
  simp only [bt] at E tm ⊢
  have eM : max a1 b1 = a1 := by omega
  have eN : min a2 b2 = a2 := by omega
  rw [eM, eN] at E tm
  rw [eM, eN]
  clear eM eN g1 g2
  generalize mn (a1, a2) = k at E tm
  go_enter Try.func19, Try.ntmps19
  go_wp2_with fail
  refine (C _).out.mono ?_
  rintro e w1 ⟨rfl, hb⟩
  obtain ⟨K, hB4⟩ := bx1 hb
  simp only [World.size_alloc] at K
  obtain ⟨X, Y, Z, hB⟩ := bx3 hB4
  have HB := Lib.hid hB
  have HY := Lib.hid Y
  have HZ := Lib.hid Z
  have HK := Lib.hid K
  have y0 := Y.c0
  have y1 := Y.c1
  clear hb hB4 hB X Y Z K
  go_wp2_with fail
  refine (D _).out.mono ?_
  rintro e w2 ⟨rfl, hb⟩
  have HZ2 := Lib.hid (HZ.out.keep hb)
  have HK2 := Lib.hid (HK.out.keep hb)
  have HB2 := Lib.hid (HB.out.trans (hb.mono HB.out.size))
  clear hb HB HY HZ HK y0 y1
  have k0 := HK2.out.c0
  have k1 := HK2.out.c1
  go_wp2_with fail
  refine (E _).out.mono ?_
  rintro e w3 ⟨rfl, hb⟩
  have HZ3 := Lib.hid (HZ2.out.keep hb)
  have HK3 := Lib.hid (HK2.out.keep hb)
  have HB3 := Lib.hid (HB2.out.trans (hb.mono HB2.out.size))
  clear hb HB2 HZ2 HK2 k0 k1
  have z0 := HZ3.out.c0
  have z1 := HZ3.out.c1
  have f0 := HZ3.out.f 0
  have f1 := HZ3.out.f 1
  have k0 := HK3.out.c0
  have k1 := HK3.out.c1
  go_wp2
  have Z2 := (HZ3.out.set0 a1).set1 a2
  exact bodyPost_ret (v := .agg #[.int .i64 a1, .int .i64 a2]) (by simp [results, Try.results19, go_sem, Z2.c0, Z2.c1]) rfl ⟨rfl, (HB3.out.setCell (p := ⟨w.heap.size + 1 + 1, 0, none⟩) (by simp; omega) _).setCell (p := ⟨w.heap.size + 1 + 1, 1, none⟩) (by simp; omega) _⟩

set_option maxHeartbeats 1000000 in
theorem rcut_yes_01 (a b : Sp) (w : World) (g1 : b.1 ≤ a.1) (g2 : b.2 < a.2) (h1 : rt a = true) (h2 : rt b = true) (h3 : has (bt a b) = true) : Calls Try.prog 19 #[ag a, ag b] w fun e w' => e = .returned (ag (bt a b)) ∧ Below w.heap.size w w' := by
  have C := fun w => Lib.hid (rright a w)
  have D := fun w => Lib.hid (rright b w)
  have E := fun w => Lib.hid (rmany (bt a b) w)
  rw [h1] at C
  rw [h2] at D
  obtain ⟨a1, a2⟩ := a
  obtain ⟨b1, b2⟩ := b
  simp only at g1 g2
  have t1 : decide (a1 < b1) = false := by simp; omega
  have t2 : decide (b2 < a2) = true := by simp; omega
  have tm : (mn (bt (a1, a2) (b1, b2)) == 0) = false := by
    have hh := h3
    simp only [has, decide_eq_true_eq] at hh
    have := mn_bd (bt (a1, a2) (b1, b2))
    rw [beq_eq_false_iff_ne]; omega
  clear h1 h2 h3
  simp only [bt] at E tm ⊢
  have eM : max a1 b1 = a1 := by omega
  have eN : min a2 b2 = b2 := by omega
  rw [eM, eN] at E tm
  rw [eM, eN]
  clear eM eN g1 g2
  generalize mn (a1, b2) = k at E tm
  go_enter Try.func19, Try.ntmps19
  go_wp2_with fail
  refine (C _).out.mono ?_
  rintro e w1 ⟨rfl, hb⟩
  obtain ⟨K, hB4⟩ := bx1 hb
  simp only [World.size_alloc] at K
  obtain ⟨X, Y, Z, hB⟩ := bx3 hB4
  have HB := Lib.hid hB
  have HY := Lib.hid Y
  have HZ := Lib.hid Z
  have HK := Lib.hid K
  have y0 := Y.c0
  have y1 := Y.c1
  clear hb hB4 hB X Y Z K
  go_wp2_with fail
  refine (D _).out.mono ?_
  rintro e w2 ⟨rfl, hb⟩
  have HZ2 := Lib.hid (HZ.out.keep hb)
  have HK2 := Lib.hid (HK.out.keep hb)
  have HB2 := Lib.hid (HB.out.trans (hb.mono HB.out.size))
  clear hb HB HY HZ HK y0 y1
  have k0 := HK2.out.c0
  have k1 := HK2.out.c1
  go_wp2_with fail
  refine (E _).out.mono ?_
  rintro e w3 ⟨rfl, hb⟩
  have HZ3 := Lib.hid (HZ2.out.keep hb)
  have HK3 := Lib.hid (HK2.out.keep hb)
  have HB3 := Lib.hid (HB2.out.trans (hb.mono HB2.out.size))
  clear hb HB2 HZ2 HK2 k0 k1
  have z0 := HZ3.out.c0
  have z1 := HZ3.out.c1
  have f0 := HZ3.out.f 0
  have f1 := HZ3.out.f 1
  have k0 := HK3.out.c0
  have k1 := HK3.out.c1
  go_wp2
  have Z2 := (HZ3.out.set0 a1).set1 b2
  exact bodyPost_ret (v := .agg #[.int .i64 a1, .int .i64 b2]) (by simp [results, Try.results19, go_sem, Z2.c0, Z2.c1]) rfl ⟨rfl, (HB3.out.setCell (p := ⟨w.heap.size + 1 + 1, 0, none⟩) (by simp; omega) _).setCell (p := ⟨w.heap.size + 1 + 1, 1, none⟩) (by simp; omega) _⟩

set_option maxHeartbeats 1000000 in
theorem rcut_yes_10 (a b : Sp) (w : World) (g1 : a.1 < b.1) (g2 : a.2 ≤ b.2) (h1 : rt a = true) (h2 : rt b = true) (h3 : has (bt a b) = true) : Calls Try.prog 19 #[ag a, ag b] w fun e w' => e = .returned (ag (bt a b)) ∧ Below w.heap.size w w' := by
  have C := fun w => Lib.hid (rright a w)
  have D := fun w => Lib.hid (rright b w)
  have E := fun w => Lib.hid (rmany (bt a b) w)
  rw [h1] at C
  rw [h2] at D
  obtain ⟨a1, a2⟩ := a
  obtain ⟨b1, b2⟩ := b
  simp only at g1 g2
  have t1 : decide (a1 < b1) = true := by simp; omega
  have t2 : decide (b2 < a2) = false := by simp; omega
  have tm : (mn (bt (a1, a2) (b1, b2)) == 0) = false := by
    have hh := h3
    simp only [has, decide_eq_true_eq] at hh
    have := mn_bd (bt (a1, a2) (b1, b2))
    rw [beq_eq_false_iff_ne]; omega
  clear h1 h2 h3
  simp only [bt] at E tm ⊢
  have eM : max a1 b1 = b1 := by omega
  have eN : min a2 b2 = a2 := by omega
  rw [eM, eN] at E tm
  rw [eM, eN]
  clear eM eN g1 g2
  generalize mn (b1, a2) = k at E tm
  go_enter Try.func19, Try.ntmps19
  go_wp2_with fail
  refine (C _).out.mono ?_
  rintro e w1 ⟨rfl, hb⟩
  obtain ⟨K, hB4⟩ := bx1 hb
  simp only [World.size_alloc] at K
  obtain ⟨X, Y, Z, hB⟩ := bx3 hB4
  have HB := Lib.hid hB
  have HY := Lib.hid Y
  have HZ := Lib.hid Z
  have HK := Lib.hid K
  have y0 := Y.c0
  have y1 := Y.c1
  clear hb hB4 hB X Y Z K
  go_wp2_with fail
  refine (D _).out.mono ?_
  rintro e w2 ⟨rfl, hb⟩
  have HZ2 := Lib.hid (HZ.out.keep hb)
  have HK2 := Lib.hid (HK.out.keep hb)
  have HB2 := Lib.hid (HB.out.trans (hb.mono HB.out.size))
  clear hb HB HY HZ HK y0 y1
  have k0 := HK2.out.c0
  have k1 := HK2.out.c1
  go_wp2_with fail
  refine (E _).out.mono ?_
  rintro e w3 ⟨rfl, hb⟩
  have HZ3 := Lib.hid (HZ2.out.keep hb)
  have HK3 := Lib.hid (HK2.out.keep hb)
  have HB3 := Lib.hid (HB2.out.trans (hb.mono HB2.out.size))
  clear hb HB2 HZ2 HK2 k0 k1
  have z0 := HZ3.out.c0
  have z1 := HZ3.out.c1
  have f0 := HZ3.out.f 0
  have f1 := HZ3.out.f 1
  have k0 := HK3.out.c0
  have k1 := HK3.out.c1
  go_wp2
  have Z2 := (HZ3.out.set0 b1).set1 a2
  exact bodyPost_ret (v := .agg #[.int .i64 b1, .int .i64 a2]) (by simp [results, Try.results19, go_sem, Z2.c0, Z2.c1]) rfl ⟨rfl, (HB3.out.setCell (p := ⟨w.heap.size + 1 + 1, 0, none⟩) (by simp; omega) _).setCell (p := ⟨w.heap.size + 1 + 1, 1, none⟩) (by simp; omega) _⟩

set_option maxHeartbeats 1000000 in
theorem rcut_yes_11 (a b : Sp) (w : World) (g1 : a.1 < b.1) (g2 : b.2 < a.2) (h1 : rt a = true) (h2 : rt b = true) (h3 : has (bt a b) = true) : Calls Try.prog 19 #[ag a, ag b] w fun e w' => e = .returned (ag (bt a b)) ∧ Below w.heap.size w w' := by
  have C := fun w => Lib.hid (rright a w)
  have D := fun w => Lib.hid (rright b w)
  have E := fun w => Lib.hid (rmany (bt a b) w)
  rw [h1] at C
  rw [h2] at D
  obtain ⟨a1, a2⟩ := a
  obtain ⟨b1, b2⟩ := b
  simp only at g1 g2
  have t1 : decide (a1 < b1) = true := by simp; omega
  have t2 : decide (b2 < a2) = true := by simp; omega
  have tm : (mn (bt (a1, a2) (b1, b2)) == 0) = false := by
    have hh := h3
    simp only [has, decide_eq_true_eq] at hh
    have := mn_bd (bt (a1, a2) (b1, b2))
    rw [beq_eq_false_iff_ne]; omega
  clear h1 h2 h3
  simp only [bt] at E tm ⊢
  have eM : max a1 b1 = b1 := by omega
  have eN : min a2 b2 = b2 := by omega
  rw [eM, eN] at E tm
  rw [eM, eN]
  clear eM eN g1 g2
  generalize mn (b1, b2) = k at E tm
  go_enter Try.func19, Try.ntmps19
  go_wp2_with fail
  refine (C _).out.mono ?_
  rintro e w1 ⟨rfl, hb⟩
  obtain ⟨K, hB4⟩ := bx1 hb
  simp only [World.size_alloc] at K
  obtain ⟨X, Y, Z, hB⟩ := bx3 hB4
  have HB := Lib.hid hB
  have HY := Lib.hid Y
  have HZ := Lib.hid Z
  have HK := Lib.hid K
  have y0 := Y.c0
  have y1 := Y.c1
  clear hb hB4 hB X Y Z K
  go_wp2_with fail
  refine (D _).out.mono ?_
  rintro e w2 ⟨rfl, hb⟩
  have HZ2 := Lib.hid (HZ.out.keep hb)
  have HK2 := Lib.hid (HK.out.keep hb)
  have HB2 := Lib.hid (HB.out.trans (hb.mono HB.out.size))
  clear hb HB HY HZ HK y0 y1
  have k0 := HK2.out.c0
  have k1 := HK2.out.c1
  go_wp2_with fail
  refine (E _).out.mono ?_
  rintro e w3 ⟨rfl, hb⟩
  have HZ3 := Lib.hid (HZ2.out.keep hb)
  have HK3 := Lib.hid (HK2.out.keep hb)
  have HB3 := Lib.hid (HB2.out.trans (hb.mono HB2.out.size))
  clear hb HB2 HZ2 HK2 k0 k1
  have z0 := HZ3.out.c0
  have z1 := HZ3.out.c1
  have f0 := HZ3.out.f 0
  have f1 := HZ3.out.f 1
  have k0 := HK3.out.c0
  have k1 := HK3.out.c1
  go_wp2
  have Z2 := (HZ3.out.set0 b1).set1 b2
  exact bodyPost_ret (v := .agg #[.int .i64 b1, .int .i64 b2]) (by simp [results, Try.results19, go_sem, Z2.c0, Z2.c1]) rfl ⟨rfl, (HB3.out.setCell (p := ⟨w.heap.size + 1 + 1, 0, none⟩) (by simp; omega) _).setCell (p := ⟨w.heap.size + 1 + 1, 1, none⟩) (by simp; omega) _⟩

set_option maxHeartbeats 1000000 in
theorem rcut_no3_00 (a b : Sp) (w : World) (g1 : b.1 ≤ a.1) (g2 : a.2 ≤ b.2) (h1 : rt a = true) (h2 : rt b = true) (h3 : has (bt a b) = false) : Calls Try.prog 19 #[ag a, ag b] w fun e w' => e = .returned (ag (0, 0)) ∧ Below w.heap.size w w' := by
  have C := fun w => Lib.hid (rright a w)
  have D := fun w => Lib.hid (rright b w)
  have E := fun w => Lib.hid (rmany (bt a b) w)
  rw [h1] at C
  rw [h2] at D
  obtain ⟨a1, a2⟩ := a
  obtain ⟨b1, b2⟩ := b
  simp only at g1 g2
  have t1 : decide (a1 < b1) = false := by simp; omega
  have t2 : decide (b2 < a2) = false := by simp; omega
  have tm : (mn (bt (a1, a2) (b1, b2)) == 0) = true := by
    have hh := h3
    simp only [has, decide_eq_false_iff_not] at hh
    have := mn_bd (bt (a1, a2) (b1, b2))
    rw [beq_iff_eq]; omega
  clear h1 h2 h3
  simp only [bt] at E tm ⊢
  have eM : max a1 b1 = a1 := by omega
  have eN : min a2 b2 = a2 := by omega
  rw [eM, eN] at E tm
  clear eM eN g1 g2
  generalize mn (a1, a2) = k at E tm
  go_enter Try.func19, Try.ntmps19
  go_wp2_with fail
  refine (C _).out.mono ?_
  rintro e w1 ⟨rfl, hb⟩
  obtain ⟨K, hB4⟩ := bx1 hb
  simp only [World.size_alloc] at K
  obtain ⟨X, Y, Z, hB⟩ := bx3 hB4
  have HB := Lib.hid hB
  have HY := Lib.hid Y
  have HZ := Lib.hid Z
  have HK := Lib.hid K
  have y0 := Y.c0
  have y1 := Y.c1
  clear hb hB4 hB X Y Z K
  go_wp2_with fail
  refine (D _).out.mono ?_
  rintro e w2 ⟨rfl, hb⟩
  have HZ2 := Lib.hid (HZ.out.keep hb)
  have HK2 := Lib.hid (HK.out.keep hb)
  have HB2 := Lib.hid (HB.out.trans (hb.mono HB.out.size))
  clear hb HB HY HZ HK y0 y1
  have k0 := HK2.out.c0
  have k1 := HK2.out.c1
  go_wp2_with fail
  refine (E _).out.mono ?_
  rintro e w3 ⟨rfl, hb⟩
  have HZ3 := Lib.hid (HZ2.out.keep hb)
  have HK3 := Lib.hid (HK2.out.keep hb)
  have HB3 := Lib.hid (HB2.out.trans (hb.mono HB2.out.size))
  clear hb HB2 HZ2 HK2 k0 k1
  have z0 := HZ3.out.c0
  have z1 := HZ3.out.c1
  have f0 := HZ3.out.f 0
  have f1 := HZ3.out.f 1
  have k0 := HK3.out.c0
  have k1 := HK3.out.c1
  go_wp2
  have Z2 := (HZ3.out.set0 0).set1 0
  exact bodyPost_ret (v := .agg #[.int .i64 0, .int .i64 0]) (by simp [results, Try.results19, go_sem, Z2.c0, Z2.c1]) rfl ⟨rfl, (HB3.out.setCell (p := ⟨w.heap.size + 1 + 1, 0, none⟩) (by simp; omega) _).setCell (p := ⟨w.heap.size + 1 + 1, 1, none⟩) (by simp; omega) _⟩

set_option maxHeartbeats 1000000 in
theorem rcut_no3_01 (a b : Sp) (w : World) (g1 : b.1 ≤ a.1) (g2 : b.2 < a.2) (h1 : rt a = true) (h2 : rt b = true) (h3 : has (bt a b) = false) : Calls Try.prog 19 #[ag a, ag b] w fun e w' => e = .returned (ag (0, 0)) ∧ Below w.heap.size w w' := by
  have C := fun w => Lib.hid (rright a w)
  have D := fun w => Lib.hid (rright b w)
  have E := fun w => Lib.hid (rmany (bt a b) w)
  rw [h1] at C
  rw [h2] at D
  obtain ⟨a1, a2⟩ := a
  obtain ⟨b1, b2⟩ := b
  simp only at g1 g2
  have t1 : decide (a1 < b1) = false := by simp; omega
  have t2 : decide (b2 < a2) = true := by simp; omega
  have tm : (mn (bt (a1, a2) (b1, b2)) == 0) = true := by
    have hh := h3
    simp only [has, decide_eq_false_iff_not] at hh
    have := mn_bd (bt (a1, a2) (b1, b2))
    rw [beq_iff_eq]; omega
  clear h1 h2 h3
  simp only [bt] at E tm ⊢
  have eM : max a1 b1 = a1 := by omega
  have eN : min a2 b2 = b2 := by omega
  rw [eM, eN] at E tm
  clear eM eN g1 g2
  generalize mn (a1, b2) = k at E tm
  go_enter Try.func19, Try.ntmps19
  go_wp2_with fail
  refine (C _).out.mono ?_
  rintro e w1 ⟨rfl, hb⟩
  obtain ⟨K, hB4⟩ := bx1 hb
  simp only [World.size_alloc] at K
  obtain ⟨X, Y, Z, hB⟩ := bx3 hB4
  have HB := Lib.hid hB
  have HY := Lib.hid Y
  have HZ := Lib.hid Z
  have HK := Lib.hid K
  have y0 := Y.c0
  have y1 := Y.c1
  clear hb hB4 hB X Y Z K
  go_wp2_with fail
  refine (D _).out.mono ?_
  rintro e w2 ⟨rfl, hb⟩
  have HZ2 := Lib.hid (HZ.out.keep hb)
  have HK2 := Lib.hid (HK.out.keep hb)
  have HB2 := Lib.hid (HB.out.trans (hb.mono HB.out.size))
  clear hb HB HY HZ HK y0 y1
  have k0 := HK2.out.c0
  have k1 := HK2.out.c1
  go_wp2_with fail
  refine (E _).out.mono ?_
  rintro e w3 ⟨rfl, hb⟩
  have HZ3 := Lib.hid (HZ2.out.keep hb)
  have HK3 := Lib.hid (HK2.out.keep hb)
  have HB3 := Lib.hid (HB2.out.trans (hb.mono HB2.out.size))
  clear hb HB2 HZ2 HK2 k0 k1
  have z0 := HZ3.out.c0
  have z1 := HZ3.out.c1
  have f0 := HZ3.out.f 0
  have f1 := HZ3.out.f 1
  have k0 := HK3.out.c0
  have k1 := HK3.out.c1
  go_wp2
  have Z2 := (HZ3.out.set0 0).set1 0
  exact bodyPost_ret (v := .agg #[.int .i64 0, .int .i64 0]) (by simp [results, Try.results19, go_sem, Z2.c0, Z2.c1]) rfl ⟨rfl, (HB3.out.setCell (p := ⟨w.heap.size + 1 + 1, 0, none⟩) (by simp; omega) _).setCell (p := ⟨w.heap.size + 1 + 1, 1, none⟩) (by simp; omega) _⟩

set_option maxHeartbeats 1000000 in
theorem rcut_no3_10 (a b : Sp) (w : World) (g1 : a.1 < b.1) (g2 : a.2 ≤ b.2) (h1 : rt a = true) (h2 : rt b = true) (h3 : has (bt a b) = false) : Calls Try.prog 19 #[ag a, ag b] w fun e w' => e = .returned (ag (0, 0)) ∧ Below w.heap.size w w' := by
  have C := fun w => Lib.hid (rright a w)
  have D := fun w => Lib.hid (rright b w)
  have E := fun w => Lib.hid (rmany (bt a b) w)
  rw [h1] at C
  rw [h2] at D
  obtain ⟨a1, a2⟩ := a
  obtain ⟨b1, b2⟩ := b
  simp only at g1 g2
  have t1 : decide (a1 < b1) = true := by simp; omega
  have t2 : decide (b2 < a2) = false := by simp; omega
  have tm : (mn (bt (a1, a2) (b1, b2)) == 0) = true := by
    have hh := h3
    simp only [has, decide_eq_false_iff_not] at hh
    have := mn_bd (bt (a1, a2) (b1, b2))
    rw [beq_iff_eq]; omega
  clear h1 h2 h3
  simp only [bt] at E tm ⊢
  have eM : max a1 b1 = b1 := by omega
  have eN : min a2 b2 = a2 := by omega
  rw [eM, eN] at E tm
  clear eM eN g1 g2
  generalize mn (b1, a2) = k at E tm
  go_enter Try.func19, Try.ntmps19
  go_wp2_with fail
  refine (C _).out.mono ?_
  rintro e w1 ⟨rfl, hb⟩
  obtain ⟨K, hB4⟩ := bx1 hb
  simp only [World.size_alloc] at K
  obtain ⟨X, Y, Z, hB⟩ := bx3 hB4
  have HB := Lib.hid hB
  have HY := Lib.hid Y
  have HZ := Lib.hid Z
  have HK := Lib.hid K
  have y0 := Y.c0
  have y1 := Y.c1
  clear hb hB4 hB X Y Z K
  go_wp2_with fail
  refine (D _).out.mono ?_
  rintro e w2 ⟨rfl, hb⟩
  have HZ2 := Lib.hid (HZ.out.keep hb)
  have HK2 := Lib.hid (HK.out.keep hb)
  have HB2 := Lib.hid (HB.out.trans (hb.mono HB.out.size))
  clear hb HB HY HZ HK y0 y1
  have k0 := HK2.out.c0
  have k1 := HK2.out.c1
  go_wp2_with fail
  refine (E _).out.mono ?_
  rintro e w3 ⟨rfl, hb⟩
  have HZ3 := Lib.hid (HZ2.out.keep hb)
  have HK3 := Lib.hid (HK2.out.keep hb)
  have HB3 := Lib.hid (HB2.out.trans (hb.mono HB2.out.size))
  clear hb HB2 HZ2 HK2 k0 k1
  have z0 := HZ3.out.c0
  have z1 := HZ3.out.c1
  have f0 := HZ3.out.f 0
  have f1 := HZ3.out.f 1
  have k0 := HK3.out.c0
  have k1 := HK3.out.c1
  go_wp2
  have Z2 := (HZ3.out.set0 0).set1 0
  exact bodyPost_ret (v := .agg #[.int .i64 0, .int .i64 0]) (by simp [results, Try.results19, go_sem, Z2.c0, Z2.c1]) rfl ⟨rfl, (HB3.out.setCell (p := ⟨w.heap.size + 1 + 1, 0, none⟩) (by simp; omega) _).setCell (p := ⟨w.heap.size + 1 + 1, 1, none⟩) (by simp; omega) _⟩

set_option maxHeartbeats 1000000 in
theorem rcut_no3_11 (a b : Sp) (w : World) (g1 : a.1 < b.1) (g2 : b.2 < a.2) (h1 : rt a = true) (h2 : rt b = true) (h3 : has (bt a b) = false) : Calls Try.prog 19 #[ag a, ag b] w fun e w' => e = .returned (ag (0, 0)) ∧ Below w.heap.size w w' := by
  have C := fun w => Lib.hid (rright a w)
  have D := fun w => Lib.hid (rright b w)
  have E := fun w => Lib.hid (rmany (bt a b) w)
  rw [h1] at C
  rw [h2] at D
  obtain ⟨a1, a2⟩ := a
  obtain ⟨b1, b2⟩ := b
  simp only at g1 g2
  have t1 : decide (a1 < b1) = true := by simp; omega
  have t2 : decide (b2 < a2) = true := by simp; omega
  have tm : (mn (bt (a1, a2) (b1, b2)) == 0) = true := by
    have hh := h3
    simp only [has, decide_eq_false_iff_not] at hh
    have := mn_bd (bt (a1, a2) (b1, b2))
    rw [beq_iff_eq]; omega
  clear h1 h2 h3
  simp only [bt] at E tm ⊢
  have eM : max a1 b1 = b1 := by omega
  have eN : min a2 b2 = b2 := by omega
  rw [eM, eN] at E tm
  clear eM eN g1 g2
  generalize mn (b1, b2) = k at E tm
  go_enter Try.func19, Try.ntmps19
  go_wp2_with fail
  refine (C _).out.mono ?_
  rintro e w1 ⟨rfl, hb⟩
  obtain ⟨K, hB4⟩ := bx1 hb
  simp only [World.size_alloc] at K
  obtain ⟨X, Y, Z, hB⟩ := bx3 hB4
  have HB := Lib.hid hB
  have HY := Lib.hid Y
  have HZ := Lib.hid Z
  have HK := Lib.hid K
  have y0 := Y.c0
  have y1 := Y.c1
  clear hb hB4 hB X Y Z K
  go_wp2_with fail
  refine (D _).out.mono ?_
  rintro e w2 ⟨rfl, hb⟩
  have HZ2 := Lib.hid (HZ.out.keep hb)
  have HK2 := Lib.hid (HK.out.keep hb)
  have HB2 := Lib.hid (HB.out.trans (hb.mono HB.out.size))
  clear hb HB HY HZ HK y0 y1
  have k0 := HK2.out.c0
  have k1 := HK2.out.c1
  go_wp2_with fail
  refine (E _).out.mono ?_
  rintro e w3 ⟨rfl, hb⟩
  have HZ3 := Lib.hid (HZ2.out.keep hb)
  have HK3 := Lib.hid (HK2.out.keep hb)
  have HB3 := Lib.hid (HB2.out.trans (hb.mono HB2.out.size))
  clear hb HB2 HZ2 HK2 k0 k1
  have z0 := HZ3.out.c0
  have z1 := HZ3.out.c1
  have f0 := HZ3.out.f 0
  have f1 := HZ3.out.f 1
  have k0 := HK3.out.c0
  have k1 := HK3.out.c1
  go_wp2
  have Z2 := (HZ3.out.set0 0).set1 0
  exact bodyPost_ret (v := .agg #[.int .i64 0, .int .i64 0]) (by simp [results, Try.results19, go_sem, Z2.c0, Z2.c1]) rfl ⟨rfl, (HB3.out.setCell (p := ⟨w.heap.size + 1 + 1, 0, none⟩) (by simp; omega) _).setCell (p := ⟨w.heap.size + 1 + 1, 1, none⟩) (by simp; omega) _⟩

set_option maxHeartbeats 1000000 in
theorem rcut_no2_00 (a b : Sp) (w : World) (g1 : b.1 ≤ a.1) (g2 : a.2 ≤ b.2) (h1 : rt a = true) (h2 : rt b = false) : Calls Try.prog 19 #[ag a, ag b] w fun e w' => e = .returned (ag (0, 0)) ∧ Below w.heap.size w w' := by
  have C := fun w => Lib.hid (rright a w)
  have D := fun w => Lib.hid (rright b w)
  rw [h1] at C
  rw [h2] at D
  obtain ⟨a1, a2⟩ := a
  obtain ⟨b1, b2⟩ := b
  simp only at g1 g2
  have t1 : decide (a1 < b1) = false := by simp; omega
  have t2 : decide (b2 < a2) = false := by simp; omega
  clear g1 g2 h1 h2
  go_enter Try.func19, Try.ntmps19
  go_wp2_with fail
  refine (C _).out.mono ?_
  rintro e w1 ⟨rfl, hb⟩
  obtain ⟨K, hB4⟩ := bx1 hb
  simp only [World.size_alloc] at K
  obtain ⟨X, Y, Z, hB⟩ := bx3 hB4
  have HB := Lib.hid hB
  have HY := Lib.hid Y
  have HZ := Lib.hid Z
  have HK := Lib.hid K
  have y0 := Y.c0
  have y1 := Y.c1
  clear hb hB4 hB X Y Z K
  go_wp2_with fail
  refine (D _).out.mono ?_
  rintro e w2 ⟨rfl, hb⟩
  have HZ2 := Lib.hid (HZ.out.keep hb)
  have HK2 := Lib.hid (HK.out.keep hb)
  have HB2 := Lib.hid (HB.out.trans (hb.mono HB.out.size))
  clear hb HB HY HZ HK y0 y1
  have z0 := HZ2.out.c0
  have z1 := HZ2.out.c1
  have f0 := HZ2.out.f 0
  have f1 := HZ2.out.f 1
  have k0 := HK2.out.c0
  have k1 := HK2.out.c1
  go_wp2
  have Z2 := (HZ2.out.set0 0).set1 0
  exact bodyPost_ret (v := .agg #[.int .i64 0, .int .i64 0]) (by simp [results, Try.results19, go_sem, Z2.c0, Z2.c1]) rfl ⟨rfl, (HB2.out.setCell (p := ⟨w.heap.size + 1 + 1, 0, none⟩) (by simp; omega) _).setCell (p := ⟨w.heap.size + 1 + 1, 1, none⟩) (by simp; omega) _⟩

set_option maxHeartbeats 1000000 in
theorem rcut_no2_01 (a b : Sp) (w : World) (g1 : b.1 ≤ a.1) (g2 : b.2 < a.2) (h1 : rt a = true) (h2 : rt b = false) : Calls Try.prog 19 #[ag a, ag b] w fun e w' => e = .returned (ag (0, 0)) ∧ Below w.heap.size w w' := by
  have C := fun w => Lib.hid (rright a w)
  have D := fun w => Lib.hid (rright b w)
  rw [h1] at C
  rw [h2] at D
  obtain ⟨a1, a2⟩ := a
  obtain ⟨b1, b2⟩ := b
  simp only at g1 g2
  have t1 : decide (a1 < b1) = false := by simp; omega
  have t2 : decide (b2 < a2) = true := by simp; omega
  clear g1 g2 h1 h2
  go_enter Try.func19, Try.ntmps19
  go_wp2_with fail
  refine (C _).out.mono ?_
  rintro e w1 ⟨rfl, hb⟩
  obtain ⟨K, hB4⟩ := bx1 hb
  simp only [World.size_alloc] at K
  obtain ⟨X, Y, Z, hB⟩ := bx3 hB4
  have HB := Lib.hid hB
  have HY := Lib.hid Y
  have HZ := Lib.hid Z
  have HK := Lib.hid K
  have y0 := Y.c0
  have y1 := Y.c1
  clear hb hB4 hB X Y Z K
  go_wp2_with fail
  refine (D _).out.mono ?_
  rintro e w2 ⟨rfl, hb⟩
  have HZ2 := Lib.hid (HZ.out.keep hb)
  have HK2 := Lib.hid (HK.out.keep hb)
  have HB2 := Lib.hid (HB.out.trans (hb.mono HB.out.size))
  clear hb HB HY HZ HK y0 y1
  have z0 := HZ2.out.c0
  have z1 := HZ2.out.c1
  have f0 := HZ2.out.f 0
  have f1 := HZ2.out.f 1
  have k0 := HK2.out.c0
  have k1 := HK2.out.c1
  go_wp2
  have Z2 := (HZ2.out.set0 0).set1 0
  exact bodyPost_ret (v := .agg #[.int .i64 0, .int .i64 0]) (by simp [results, Try.results19, go_sem, Z2.c0, Z2.c1]) rfl ⟨rfl, (HB2.out.setCell (p := ⟨w.heap.size + 1 + 1, 0, none⟩) (by simp; omega) _).setCell (p := ⟨w.heap.size + 1 + 1, 1, none⟩) (by simp; omega) _⟩

set_option maxHeartbeats 1000000 in
theorem rcut_no2_10 (a b : Sp) (w : World) (g1 : a.1 < b.1) (g2 : a.2 ≤ b.2) (h1 : rt a = true) (h2 : rt b = false) : Calls Try.prog 19 #[ag a, ag b] w fun e w' => e = .returned (ag (0, 0)) ∧ Below w.heap.size w w' := by
  have C := fun w => Lib.hid (rright a w)
  have D := fun w => Lib.hid (rright b w)
  rw [h1] at C
  rw [h2] at D
  obtain ⟨a1, a2⟩ := a
  obtain ⟨b1, b2⟩ := b
  simp only at g1 g2
  have t1 : decide (a1 < b1) = true := by simp; omega
  have t2 : decide (b2 < a2) = false := by simp; omega
  clear g1 g2 h1 h2
  go_enter Try.func19, Try.ntmps19
  go_wp2_with fail
  refine (C _).out.mono ?_
  rintro e w1 ⟨rfl, hb⟩
  obtain ⟨K, hB4⟩ := bx1 hb
  simp only [World.size_alloc] at K
  obtain ⟨X, Y, Z, hB⟩ := bx3 hB4
  have HB := Lib.hid hB
  have HY := Lib.hid Y
  have HZ := Lib.hid Z
  have HK := Lib.hid K
  have y0 := Y.c0
  have y1 := Y.c1
  clear hb hB4 hB X Y Z K
  go_wp2_with fail
  refine (D _).out.mono ?_
  rintro e w2 ⟨rfl, hb⟩
  have HZ2 := Lib.hid (HZ.out.keep hb)
  have HK2 := Lib.hid (HK.out.keep hb)
  have HB2 := Lib.hid (HB.out.trans (hb.mono HB.out.size))
  clear hb HB HY HZ HK y0 y1
  have z0 := HZ2.out.c0
  have z1 := HZ2.out.c1
  have f0 := HZ2.out.f 0
  have f1 := HZ2.out.f 1
  have k0 := HK2.out.c0
  have k1 := HK2.out.c1
  go_wp2
  have Z2 := (HZ2.out.set0 0).set1 0
  exact bodyPost_ret (v := .agg #[.int .i64 0, .int .i64 0]) (by simp [results, Try.results19, go_sem, Z2.c0, Z2.c1]) rfl ⟨rfl, (HB2.out.setCell (p := ⟨w.heap.size + 1 + 1, 0, none⟩) (by simp; omega) _).setCell (p := ⟨w.heap.size + 1 + 1, 1, none⟩) (by simp; omega) _⟩

set_option maxHeartbeats 1000000 in
theorem rcut_no2_11 (a b : Sp) (w : World) (g1 : a.1 < b.1) (g2 : b.2 < a.2) (h1 : rt a = true) (h2 : rt b = false) : Calls Try.prog 19 #[ag a, ag b] w fun e w' => e = .returned (ag (0, 0)) ∧ Below w.heap.size w w' := by
  have C := fun w => Lib.hid (rright a w)
  have D := fun w => Lib.hid (rright b w)
  rw [h1] at C
  rw [h2] at D
  obtain ⟨a1, a2⟩ := a
  obtain ⟨b1, b2⟩ := b
  simp only at g1 g2
  have t1 : decide (a1 < b1) = true := by simp; omega
  have t2 : decide (b2 < a2) = true := by simp; omega
  clear g1 g2 h1 h2
  go_enter Try.func19, Try.ntmps19
  go_wp2_with fail
  refine (C _).out.mono ?_
  rintro e w1 ⟨rfl, hb⟩
  obtain ⟨K, hB4⟩ := bx1 hb
  simp only [World.size_alloc] at K
  obtain ⟨X, Y, Z, hB⟩ := bx3 hB4
  have HB := Lib.hid hB
  have HY := Lib.hid Y
  have HZ := Lib.hid Z
  have HK := Lib.hid K
  have y0 := Y.c0
  have y1 := Y.c1
  clear hb hB4 hB X Y Z K
  go_wp2_with fail
  refine (D _).out.mono ?_
  rintro e w2 ⟨rfl, hb⟩
  have HZ2 := Lib.hid (HZ.out.keep hb)
  have HK2 := Lib.hid (HK.out.keep hb)
  have HB2 := Lib.hid (HB.out.trans (hb.mono HB.out.size))
  clear hb HB HY HZ HK y0 y1
  have z0 := HZ2.out.c0
  have z1 := HZ2.out.c1
  have f0 := HZ2.out.f 0
  have f1 := HZ2.out.f 1
  have k0 := HK2.out.c0
  have k1 := HK2.out.c1
  go_wp2
  have Z2 := (HZ2.out.set0 0).set1 0
  exact bodyPost_ret (v := .agg #[.int .i64 0, .int .i64 0]) (by simp [results, Try.results19, go_sem, Z2.c0, Z2.c1]) rfl ⟨rfl, (HB2.out.setCell (p := ⟨w.heap.size + 1 + 1, 0, none⟩) (by simp; omega) _).setCell (p := ⟨w.heap.size + 1 + 1, 1, none⟩) (by simp; omega) _⟩

set_option maxHeartbeats 1000000 in
theorem rcut_no1_00 (a b : Sp) (w : World) (g1 : b.1 ≤ a.1) (g2 : a.2 ≤ b.2) (h1 : rt a = false) : Calls Try.prog 19 #[ag a, ag b] w fun e w' => e = .returned (ag (0, 0)) ∧ Below w.heap.size w w' := by
  have C := fun w => Lib.hid (rright a w)
  rw [h1] at C
  obtain ⟨a1, a2⟩ := a
  obtain ⟨b1, b2⟩ := b
  simp only at g1 g2
  have t1 : decide (a1 < b1) = false := by simp; omega
  have t2 : decide (b2 < a2) = false := by simp; omega
  clear g1 g2 h1
  go_enter Try.func19, Try.ntmps19
  go_wp2_with fail
  refine (C _).out.mono ?_
  rintro e w1 ⟨rfl, hb⟩
  obtain ⟨K, hB4⟩ := bx1 hb
  simp only [World.size_alloc] at K
  obtain ⟨X, Y, Z, hB⟩ := bx3 hB4
  have HB := Lib.hid hB
  have HY := Lib.hid Y
  have HZ := Lib.hid Z
  have HK := Lib.hid K
  clear hb hB4 hB X Y Z K
  have z0 := HZ.out.c0
  have z1 := HZ.out.c1
  have f0 := HZ.out.f 0
  have f1 := HZ.out.f 1
  have k0 := HK.out.c0
  have k1 := HK.out.c1
  go_wp2
  have Z2 := (HZ.out.set0 0).set1 0
  exact bodyPost_ret (v := .agg #[.int .i64 0, .int .i64 0]) (by simp [results, Try.results19, go_sem, Z2.c0, Z2.c1]) rfl ⟨rfl, (HB.out.setCell (p := ⟨w.heap.size + 1 + 1, 0, none⟩) (by simp; omega) _).setCell (p := ⟨w.heap.size + 1 + 1, 1, none⟩) (by simp; omega) _⟩

set_option maxHeartbeats 1000000 in
theorem rcut_no1_01 (a b : Sp) (w : World) (g1 : b.1 ≤ a.1) (g2 : b.2 < a.2) (h1 : rt a = false) : Calls Try.prog 19 #[ag a, ag b] w fun e w' => e = .returned (ag (0, 0)) ∧ Below w.heap.size w w' := by
  have C := fun w => Lib.hid (rright a w)
  rw [h1] at C
  obtain ⟨a1, a2⟩ := a
  obtain ⟨b1, b2⟩ := b
  simp only at g1 g2
  have t1 : decide (a1 < b1) = false := by simp; omega
  have t2 : decide (b2 < a2) = true := by simp; omega
  clear g1 g2 h1
  go_enter Try.func19, Try.ntmps19
  go_wp2_with fail
  refine (C _).out.mono ?_
  rintro e w1 ⟨rfl, hb⟩
  obtain ⟨K, hB4⟩ := bx1 hb
  simp only [World.size_alloc] at K
  obtain ⟨X, Y, Z, hB⟩ := bx3 hB4
  have HB := Lib.hid hB
  have HY := Lib.hid Y
  have HZ := Lib.hid Z
  have HK := Lib.hid K
  clear hb hB4 hB X Y Z K
  have z0 := HZ.out.c0
  have z1 := HZ.out.c1
  have f0 := HZ.out.f 0
  have f1 := HZ.out.f 1
  have k0 := HK.out.c0
  have k1 := HK.out.c1
  go_wp2
  have Z2 := (HZ.out.set0 0).set1 0
  exact bodyPost_ret (v := .agg #[.int .i64 0, .int .i64 0]) (by simp [results, Try.results19, go_sem, Z2.c0, Z2.c1]) rfl ⟨rfl, (HB.out.setCell (p := ⟨w.heap.size + 1 + 1, 0, none⟩) (by simp; omega) _).setCell (p := ⟨w.heap.size + 1 + 1, 1, none⟩) (by simp; omega) _⟩

set_option maxHeartbeats 1000000 in
theorem rcut_no1_10 (a b : Sp) (w : World) (g1 : a.1 < b.1) (g2 : a.2 ≤ b.2) (h1 : rt a = false) : Calls Try.prog 19 #[ag a, ag b] w fun e w' => e = .returned (ag (0, 0)) ∧ Below w.heap.size w w' := by
  have C := fun w => Lib.hid (rright a w)
  rw [h1] at C
  obtain ⟨a1, a2⟩ := a
  obtain ⟨b1, b2⟩ := b
  simp only at g1 g2
  have t1 : decide (a1 < b1) = true := by simp; omega
  have t2 : decide (b2 < a2) = false := by simp; omega
  clear g1 g2 h1
  go_enter Try.func19, Try.ntmps19
  go_wp2_with fail
  refine (C _).out.mono ?_
  rintro e w1 ⟨rfl, hb⟩
  obtain ⟨K, hB4⟩ := bx1 hb
  simp only [World.size_alloc] at K
  obtain ⟨X, Y, Z, hB⟩ := bx3 hB4
  have HB := Lib.hid hB
  have HY := Lib.hid Y
  have HZ := Lib.hid Z
  have HK := Lib.hid K
  clear hb hB4 hB X Y Z K
  have z0 := HZ.out.c0
  have z1 := HZ.out.c1
  have f0 := HZ.out.f 0
  have f1 := HZ.out.f 1
  have k0 := HK.out.c0
  have k1 := HK.out.c1
  go_wp2
  have Z2 := (HZ.out.set0 0).set1 0
  exact bodyPost_ret (v := .agg #[.int .i64 0, .int .i64 0]) (by simp [results, Try.results19, go_sem, Z2.c0, Z2.c1]) rfl ⟨rfl, (HB.out.setCell (p := ⟨w.heap.size + 1 + 1, 0, none⟩) (by simp; omega) _).setCell (p := ⟨w.heap.size + 1 + 1, 1, none⟩) (by simp; omega) _⟩

set_option maxHeartbeats 1000000 in
theorem rcut_no1_11 (a b : Sp) (w : World) (g1 : a.1 < b.1) (g2 : b.2 < a.2) (h1 : rt a = false) : Calls Try.prog 19 #[ag a, ag b] w fun e w' => e = .returned (ag (0, 0)) ∧ Below w.heap.size w w' := by
  have C := fun w => Lib.hid (rright a w)
  rw [h1] at C
  obtain ⟨a1, a2⟩ := a
  obtain ⟨b1, b2⟩ := b
  simp only at g1 g2
  have t1 : decide (a1 < b1) = true := by simp; omega
  have t2 : decide (b2 < a2) = true := by simp; omega
  clear g1 g2 h1
  go_enter Try.func19, Try.ntmps19
  go_wp2_with fail
  refine (C _).out.mono ?_
  rintro e w1 ⟨rfl, hb⟩
  obtain ⟨K, hB4⟩ := bx1 hb
  simp only [World.size_alloc] at K
  obtain ⟨X, Y, Z, hB⟩ := bx3 hB4
  have HB := Lib.hid hB
  have HY := Lib.hid Y
  have HZ := Lib.hid Z
  have HK := Lib.hid K
  clear hb hB4 hB X Y Z K
  have z0 := HZ.out.c0
  have z1 := HZ.out.c1
  have f0 := HZ.out.f 0
  have f1 := HZ.out.f 1
  have k0 := HK.out.c0
  have k1 := HK.out.c1
  go_wp2
  have Z2 := (HZ.out.set0 0).set1 0
  exact bodyPost_ret (v := .agg #[.int .i64 0, .int .i64 0]) (by simp [results, Try.results19, go_sem, Z2.c0, Z2.c1]) rfl ⟨rfl, (HB.out.setCell (p := ⟨w.heap.size + 1 + 1, 0, none⟩) (by simp; omega) _).setCell (p := ⟨w.heap.size + 1 + 1, 1, none⟩) (by simp; omega) _⟩

theorem rcut_no1 (a b : Sp) (w : World) (h1 : rt a = false) : Calls Try.prog 19 #[ag a, ag b] w fun e w' => e = .returned (ag (0, 0)) ∧ Below w.heap.size w w' := by
  by_cases g1 : a.1 < b.1
  · by_cases g2 : b.2 < a.2
    · exact rcut_no1_11 a b w g1 g2 h1
    · exact rcut_no1_10 a b w g1 (by omega) h1
  · by_cases g2 : b.2 < a.2
    · exact rcut_no1_01 a b w (by omega) g2 h1
    · exact rcut_no1_00 a b w (by omega) (by omega) h1
theorem rcut_no2 (a b : Sp) (w : World) (h1 : rt a = true) (h2 : rt b = false) : Calls Try.prog 19 #[ag a, ag b] w fun e w' => e = .returned (ag (0, 0)) ∧ Below w.heap.size w w' := by
  by_cases g1 : a.1 < b.1
  · by_cases g2 : b.2 < a.2
    · exact rcut_no2_11 a b w g1 g2 h1 h2
    · exact rcut_no2_10 a b w g1 (by omega) h1 h2
  · by_cases g2 : b.2 < a.2
    · exact rcut_no2_01 a b w (by omega) g2 h1 h2
    · exact rcut_no2_00 a b w (by omega) (by omega) h1 h2
theorem rcut_no3 (a b : Sp) (w : World) (h1 : rt a = true) (h2 : rt b = true) (h3 : has (bt a b) = false) : Calls Try.prog 19 #[ag a, ag b] w fun e w' => e = .returned (ag (0, 0)) ∧ Below w.heap.size w w' := by
  by_cases g1 : a.1 < b.1
  · by_cases g2 : b.2 < a.2
    · exact rcut_no3_11 a b w g1 g2 h1 h2 h3
    · exact rcut_no3_10 a b w g1 (by omega) h1 h2 h3
  · by_cases g2 : b.2 < a.2
    · exact rcut_no3_01 a b w (by omega) g2 h1 h2 h3
    · exact rcut_no3_00 a b w (by omega) (by omega) h1 h2 h3
theorem rcut_yes (a b : Sp) (w : World) (h1 : rt a = true) (h2 : rt b = true) (h3 : has (bt a b) = true) : Calls Try.prog 19 #[ag a, ag b] w fun e w' => e = .returned (ag (bt a b)) ∧ Below w.heap.size w w' := by
  by_cases g1 : a.1 < b.1
  · by_cases g2 : b.2 < a.2
    · exact rcut_yes_11 a b w g1 g2 h1 h2 h3
    · exact rcut_yes_10 a b w g1 (by omega) h1 h2 h3
  · by_cases g2 : b.2 < a.2
    · exact rcut_yes_01 a b w (by omega) g2 h1 h2 h3
    · exact rcut_yes_00 a b w (by omega) (by omega) h1 h2 h3
theorem rcut (a b : Sp) (w : World) : Calls Try.prog 19 #[ag a, ag b] w fun e w' => e = .returned (ag (ct a b)) ∧ Below w.heap.size w w' := by
  cases h1 : rt a
  · rw [ct_no1 h1]; exact rcut_no1 a b w h1
  · cases h2 : rt b
    · rw [ct_no2 h2]; exact rcut_no2 a b w h1 h2
    · cases h3 : has (bt a b)
      · rw [ct_no3 h3]; exact rcut_no3 a b w h1 h2 h3
      · rw [ct_is h1 h2 h3]; exact rcut_yes a b w h1 h2 h3

end Spn
end Go.Proofs.Ytbollbbanmdbhaa
