/-
  The parts SRCut, SRJoin of this proof. Conditions: those of each theorem.
-/
import Derived.Test.YtbjnjeidgdmdiaaGreatMSp
import Derived.Test.YtbjnjeidgdmdiaaGreatMSj
import Derived.Deep.AppendLies
namespace Go.Proofs.YtbjnjeidgdmdiaaGreat
open Go.RowKit Sp
namespace Spn
set_option linter.unusedVariables false
set_option maxHeartbeats 1000000 in
theorem rmany (x : Sp) (w : World) : Calls Tryz.prog 33 #[ag x] w fun e w' => e = .returned (.int .i64 (mn x)) ∧ Below w.heap.size w w' := by
 have C := fun w => Lib.hid (rright x w)
 obtain ⟨a, b⟩ := x; by_cases hr : rt (a, b) = true
 ·have hm : mn (a, b) = b - a := by rw [mn, if_pos hr]
  rw [hm]; rw [hr] at C; rw [rt_iff] at hr; obtain ⟨h1, h2, h3⟩ := hr; simp only at h1 h2 h3; clear hm; go_enter Tryz.func33, Tryz.ntmps33
  go_wp2_with fail
  refine (C _).out.mono ?_; rintro e w1 ⟨rfl, hb⟩; obtain ⟨hc, hf⟩ := bcell hb; have HB := Lib.hid hb; clear hb; go_wp2; go_ret; exact ⟨rfl, ((Below.refl _ _).alloc (Nat.le_refl _) _).trans (HB.out.mono (by simp))⟩
 ·have hm : mn (a, b) = 0 := by rw [mn, if_neg hr]
  rw [hm]; have hr' : rt (a, b) = false := by simpa using hr
  rw [hr'] at C; clear hm hr hr'; go_enter Tryz.func33, Tryz.ntmps33
  go_wp2_with fail
  refine (C _).out.mono ?_; rintro e w1 ⟨rfl, hb⟩; have HB := Lib.hid hb; clear hb; go_wp2; go_ret; exact ⟨rfl, ((Below.refl _ _).alloc (Nat.le_refl _) _).trans (HB.out.mono (by simp))⟩
set_option maxHeartbeats 1000000 in
theorem rcut_yes_00 (a b : Sp) (w : World) (g1 : b.1 ≤ a.1) (g2 : a.2 ≤ b.2) (h1 : rt a = true) (h2 : rt b = true) (h3 : has (bt a b) = true) : Calls Tryz.prog 32 #[ag a, ag b] w fun e w' => e = .returned (ag (bt a b)) ∧ Below w.heap.size w w' := by
 have C := fun w => Lib.hid (rright a w)
 have D := fun w => Lib.hid (rright b w)
 have E := fun w => Lib.hid (rmany (bt a b) w)
 rw [h1] at C; rw [h2] at D; obtain ⟨a1, a2⟩ := a; obtain ⟨b1, b2⟩ := b; simp only at g1 g2; have t1 : decide (a1 < b1) = false := by simp; omega
 have t2 : decide (b2 < a2) = false := by simp; omega
 have tm : (mn (bt (a1, a2) (b1, b2)) == 0) = false := by
  have hh := h3; simp only [has, decide_eq_true_eq] at hh; have := mn_bd (bt (a1, a2) (b1, b2)); rw [beq_eq_false_iff_ne]; omega
 clear h1 h2 h3; simp only [bt] at E tm ⊢; have eM : max a1 b1 = a1 := by omega
 have eN : min a2 b2 = a2 := by omega
 rw [eM, eN] at E tm; rw [eM, eN]; clear eM eN g1 g2; generalize mn (a1, a2) = k at E tm; go_enter Tryz.func32, Tryz.ntmps32
 go_wp2_with fail
 refine (C _).out.mono ?_; rintro e w1 ⟨rfl, hb⟩; obtain ⟨K, hB4⟩ := bx1 hb; simp only [World.size_alloc] at K; obtain ⟨X, Y, Z, hB⟩ := bx3 hB4; have HB := Lib.hid hB; have HY := Lib.hid Y; have HZ := Lib.hid Z; have HK := Lib.hid K; have y0 := Y.c0; have y1 := Y.c1; clear hb hB4 hB X Y Z K
 go_wp2_with fail
 refine (D _).out.mono ?_; rintro e w2 ⟨rfl, hb⟩; have HZ2 := Lib.hid (HZ.out.keep hb); have HK2 := Lib.hid (HK.out.keep hb); have HB2 := Lib.hid (HB.out.trans (hb.mono HB.out.size)); clear hb HB HY HZ HK y0 y1; have k0 := HK2.out.c0; have k1 := HK2.out.c1
 go_wp2_with fail
 refine (E _).out.mono ?_; rintro e w3 ⟨rfl, hb⟩; have HZ3 := Lib.hid (HZ2.out.keep hb); have HK3 := Lib.hid (HK2.out.keep hb); have HB3 := Lib.hid (HB2.out.trans (hb.mono HB2.out.size)); clear hb HB2 HZ2 HK2 k0 k1; have z0 := HZ3.out.c0; have z1 := HZ3.out.c1; have f0 := HZ3.out.f 0; have f1 := HZ3.out.f 1; have k0 := HK3.out.c0; have k1 := HK3.out.c1; go_wp2; have Z2 := (HZ3.out.set0 a1).set1 a2; exact bodyPost_ret (v := .agg #[.int .i64 a1, .int .i64 a2]) (by simp [results, Tryz.results32, go_sem, Z2.c0, Z2.c1]) rfl ⟨rfl, (HB3.out.setCell (p := ⟨w.heap.size + 1 + 1, 0, none⟩) (by simp; omega) _).setCell (p := ⟨w.heap.size + 1 + 1, 1, none⟩) (by simp; omega) _⟩
set_option maxHeartbeats 1000000 in
theorem rcut_yes_01 (a b : Sp) (w : World) (g1 : b.1 ≤ a.1) (g2 : b.2 < a.2) (h1 : rt a = true) (h2 : rt b = true) (h3 : has (bt a b) = true) : Calls Tryz.prog 32 #[ag a, ag b] w fun e w' => e = .returned (ag (bt a b)) ∧ Below w.heap.size w w' := by
 have C := fun w => Lib.hid (rright a w)
 have D := fun w => Lib.hid (rright b w)
 have E := fun w => Lib.hid (rmany (bt a b) w)
 rw [h1] at C; rw [h2] at D; obtain ⟨a1, a2⟩ := a; obtain ⟨b1, b2⟩ := b; simp only at g1 g2; have t1 : decide (a1 < b1) = false := by simp; omega
 have t2 : decide (b2 < a2) = true := by simp; omega
 have tm : (mn (bt (a1, a2) (b1, b2)) == 0) = false := by
  have hh := h3; simp only [has, decide_eq_true_eq] at hh; have := mn_bd (bt (a1, a2) (b1, b2)); rw [beq_eq_false_iff_ne]; omega
 clear h1 h2 h3; simp only [bt] at E tm ⊢; have eM : max a1 b1 = a1 := by omega
 have eN : min a2 b2 = b2 := by omega
 rw [eM, eN] at E tm; rw [eM, eN]; clear eM eN g1 g2; generalize mn (a1, b2) = k at E tm; go_enter Tryz.func32, Tryz.ntmps32
 go_wp2_with fail
 refine (C _).out.mono ?_; rintro e w1 ⟨rfl, hb⟩; obtain ⟨K, hB4⟩ := bx1 hb; simp only [World.size_alloc] at K; obtain ⟨X, Y, Z, hB⟩ := bx3 hB4; have HB := Lib.hid hB; have HY := Lib.hid Y; have HZ := Lib.hid Z; have HK := Lib.hid K; have y0 := Y.c0; have y1 := Y.c1; clear hb hB4 hB X Y Z K
 go_wp2_with fail
 refine (D _).out.mono ?_; rintro e w2 ⟨rfl, hb⟩; have HZ2 := Lib.hid (HZ.out.keep hb); have HK2 := Lib.hid (HK.out.keep hb); have HB2 := Lib.hid (HB.out.trans (hb.mono HB.out.size)); clear hb HB HY HZ HK y0 y1; have k0 := HK2.out.c0; have k1 := HK2.out.c1
 go_wp2_with fail
 refine (E _).out.mono ?_; rintro e w3 ⟨rfl, hb⟩; have HZ3 := Lib.hid (HZ2.out.keep hb); have HK3 := Lib.hid (HK2.out.keep hb); have HB3 := Lib.hid (HB2.out.trans (hb.mono HB2.out.size)); clear hb HB2 HZ2 HK2 k0 k1; have z0 := HZ3.out.c0; have z1 := HZ3.out.c1; have f0 := HZ3.out.f 0; have f1 := HZ3.out.f 1; have k0 := HK3.out.c0; have k1 := HK3.out.c1; go_wp2; have Z2 := (HZ3.out.set0 a1).set1 b2; exact bodyPost_ret (v := .agg #[.int .i64 a1, .int .i64 b2]) (by simp [results, Tryz.results32, go_sem, Z2.c0, Z2.c1]) rfl ⟨rfl, (HB3.out.setCell (p := ⟨w.heap.size + 1 + 1, 0, none⟩) (by simp; omega) _).setCell (p := ⟨w.heap.size + 1 + 1, 1, none⟩) (by simp; omega) _⟩
set_option maxHeartbeats 1000000 in
theorem rcut_yes_10 (a b : Sp) (w : World) (g1 : a.1 < b.1) (g2 : a.2 ≤ b.2) (h1 : rt a = true) (h2 : rt b = true) (h3 : has (bt a b) = true) : Calls Tryz.prog 32 #[ag a, ag b] w fun e w' => e = .returned (ag (bt a b)) ∧ Below w.heap.size w w' := by
 have C := fun w => Lib.hid (rright a w)
 have D := fun w => Lib.hid (rright b w)
 have E := fun w => Lib.hid (rmany (bt a b) w)
 rw [h1] at C; rw [h2] at D; obtain ⟨a1, a2⟩ := a; obtain ⟨b1, b2⟩ := b; simp only at g1 g2; have t1 : decide (a1 < b1) = true := by simp; omega
 have t2 : decide (b2 < a2) = false := by simp; omega
 have tm : (mn (bt (a1, a2) (b1, b2)) == 0) = false := by
  have hh := h3; simp only [has, decide_eq_true_eq] at hh; have := mn_bd (bt (a1, a2) (b1, b2)); rw [beq_eq_false_iff_ne]; omega
 clear h1 h2 h3; simp only [bt] at E tm ⊢; have eM : max a1 b1 = b1 := by omega
 have eN : min a2 b2 = a2 := by omega
 rw [eM, eN] at E tm; rw [eM, eN]; clear eM eN g1 g2; generalize mn (b1, a2) = k at E tm; go_enter Tryz.func32, Tryz.ntmps32
 go_wp2_with fail
 refine (C _).out.mono ?_; rintro e w1 ⟨rfl, hb⟩; obtain ⟨K, hB4⟩ := bx1 hb; simp only [World.size_alloc] at K; obtain ⟨X, Y, Z, hB⟩ := bx3 hB4; have HB := Lib.hid hB; have HY := Lib.hid Y; have HZ := Lib.hid Z; have HK := Lib.hid K; have y0 := Y.c0; have y1 := Y.c1; clear hb hB4 hB X Y Z K
 go_wp2_with fail
 refine (D _).out.mono ?_; rintro e w2 ⟨rfl, hb⟩; have HZ2 := Lib.hid (HZ.out.keep hb); have HK2 := Lib.hid (HK.out.keep hb); have HB2 := Lib.hid (HB.out.trans (hb.mono HB.out.size)); clear hb HB HY HZ HK y0 y1; have k0 := HK2.out.c0; have k1 := HK2.out.c1
 go_wp2_with fail
 refine (E _).out.mono ?_; rintro e w3 ⟨rfl, hb⟩; have HZ3 := Lib.hid (HZ2.out.keep hb); have HK3 := Lib.hid (HK2.out.keep hb); have HB3 := Lib.hid (HB2.out.trans (hb.mono HB2.out.size)); clear hb HB2 HZ2 HK2 k0 k1; have z0 := HZ3.out.c0; have z1 := HZ3.out.c1; have f0 := HZ3.out.f 0; have f1 := HZ3.out.f 1; have k0 := HK3.out.c0; have k1 := HK3.out.c1; go_wp2; have Z2 := (HZ3.out.set0 b1).set1 a2; exact bodyPost_ret (v := .agg #[.int .i64 b1, .int .i64 a2]) (by simp [results, Tryz.results32, go_sem, Z2.c0, Z2.c1]) rfl ⟨rfl, (HB3.out.setCell (p := ⟨w.heap.size + 1 + 1, 0, none⟩) (by simp; omega) _).setCell (p := ⟨w.heap.size + 1 + 1, 1, none⟩) (by simp; omega) _⟩
set_option maxHeartbeats 1000000 in
theorem rcut_yes_11 (a b : Sp) (w : World) (g1 : a.1 < b.1) (g2 : b.2 < a.2) (h1 : rt a = true) (h2 : rt b = true) (h3 : has (bt a b) = true) : Calls Tryz.prog 32 #[ag a, ag b] w fun e w' => e = .returned (ag (bt a b)) ∧ Below w.heap.size w w' := by
 have C := fun w => Lib.hid (rright a w)
 have D := fun w => Lib.hid (rright b w)
 have E := fun w => Lib.hid (rmany (bt a b) w)
 rw [h1] at C; rw [h2] at D; obtain ⟨a1, a2⟩ := a; obtain ⟨b1, b2⟩ := b; simp only at g1 g2; have t1 : decide (a1 < b1) = true := by simp; omega
 have t2 : decide (b2 < a2) = true := by simp; omega
 have tm : (mn (bt (a1, a2) (b1, b2)) == 0) = false := by
  have hh := h3; simp only [has, decide_eq_true_eq] at hh; have := mn_bd (bt (a1, a2) (b1, b2)); rw [beq_eq_false_iff_ne]; omega
 clear h1 h2 h3; simp only [bt] at E tm ⊢; have eM : max a1 b1 = b1 := by omega
 have eN : min a2 b2 = b2 := by omega
 rw [eM, eN] at E tm; rw [eM, eN]; clear eM eN g1 g2; generalize mn (b1, b2) = k at E tm; go_enter Tryz.func32, Tryz.ntmps32
 go_wp2_with fail
 refine (C _).out.mono ?_; rintro e w1 ⟨rfl, hb⟩; obtain ⟨K, hB4⟩ := bx1 hb; simp only [World.size_alloc] at K; obtain ⟨X, Y, Z, hB⟩ := bx3 hB4; have HB := Lib.hid hB; have HY := Lib.hid Y; have HZ := Lib.hid Z; have HK := Lib.hid K; have y0 := Y.c0; have y1 := Y.c1; clear hb hB4 hB X Y Z K
 go_wp2_with fail
 refine (D _).out.mono ?_; rintro e w2 ⟨rfl, hb⟩; have HZ2 := Lib.hid (HZ.out.keep hb); have HK2 := Lib.hid (HK.out.keep hb); have HB2 := Lib.hid (HB.out.trans (hb.mono HB.out.size)); clear hb HB HY HZ HK y0 y1; have k0 := HK2.out.c0; have k1 := HK2.out.c1
 go_wp2_with fail
 refine (E _).out.mono ?_; rintro e w3 ⟨rfl, hb⟩; have HZ3 := Lib.hid (HZ2.out.keep hb); have HK3 := Lib.hid (HK2.out.keep hb); have HB3 := Lib.hid (HB2.out.trans (hb.mono HB2.out.size)); clear hb HB2 HZ2 HK2 k0 k1; have z0 := HZ3.out.c0; have z1 := HZ3.out.c1; have f0 := HZ3.out.f 0; have f1 := HZ3.out.f 1; have k0 := HK3.out.c0; have k1 := HK3.out.c1; go_wp2; have Z2 := (HZ3.out.set0 b1).set1 b2; exact bodyPost_ret (v := .agg #[.int .i64 b1, .int .i64 b2]) (by simp [results, Tryz.results32, go_sem, Z2.c0, Z2.c1]) rfl ⟨rfl, (HB3.out.setCell (p := ⟨w.heap.size + 1 + 1, 0, none⟩) (by simp; omega) _).setCell (p := ⟨w.heap.size + 1 + 1, 1, none⟩) (by simp; omega) _⟩
set_option maxHeartbeats 1000000 in
theorem rcut_no3_00 (a b : Sp) (w : World) (g1 : b.1 ≤ a.1) (g2 : a.2 ≤ b.2) (h1 : rt a = true) (h2 : rt b = true) (h3 : has (bt a b) = false) : Calls Tryz.prog 32 #[ag a, ag b] w fun e w' => e = .returned (ag (0, 0)) ∧ Below w.heap.size w w' := by
 have C := fun w => Lib.hid (rright a w)
 have D := fun w => Lib.hid (rright b w)
 have E := fun w => Lib.hid (rmany (bt a b) w)
 rw [h1] at C; rw [h2] at D; obtain ⟨a1, a2⟩ := a; obtain ⟨b1, b2⟩ := b; simp only at g1 g2; have t1 : decide (a1 < b1) = false := by simp; omega
 have t2 : decide (b2 < a2) = false := by simp; omega
 have tm : (mn (bt (a1, a2) (b1, b2)) == 0) = true := by
  have hh := h3; simp only [has, decide_eq_false_iff_not] at hh; have := mn_bd (bt (a1, a2) (b1, b2)); rw [beq_iff_eq]; omega
 clear h1 h2 h3; simp only [bt] at E tm ⊢; have eM : max a1 b1 = a1 := by omega
 have eN : min a2 b2 = a2 := by omega
 rw [eM, eN] at E tm; clear eM eN g1 g2; generalize mn (a1, a2) = k at E tm; go_enter Tryz.func32, Tryz.ntmps32
 go_wp2_with fail
 refine (C _).out.mono ?_; rintro e w1 ⟨rfl, hb⟩; obtain ⟨K, hB4⟩ := bx1 hb; simp only [World.size_alloc] at K; obtain ⟨X, Y, Z, hB⟩ := bx3 hB4; have HB := Lib.hid hB; have HY := Lib.hid Y; have HZ := Lib.hid Z; have HK := Lib.hid K; have y0 := Y.c0; have y1 := Y.c1; clear hb hB4 hB X Y Z K
 go_wp2_with fail
 refine (D _).out.mono ?_; rintro e w2 ⟨rfl, hb⟩; have HZ2 := Lib.hid (HZ.out.keep hb); have HK2 := Lib.hid (HK.out.keep hb); have HB2 := Lib.hid (HB.out.trans (hb.mono HB.out.size)); clear hb HB HY HZ HK y0 y1; have k0 := HK2.out.c0; have k1 := HK2.out.c1
 go_wp2_with fail
 refine (E _).out.mono ?_; rintro e w3 ⟨rfl, hb⟩; have HZ3 := Lib.hid (HZ2.out.keep hb); have HK3 := Lib.hid (HK2.out.keep hb); have HB3 := Lib.hid (HB2.out.trans (hb.mono HB2.out.size)); clear hb HB2 HZ2 HK2 k0 k1; have z0 := HZ3.out.c0; have z1 := HZ3.out.c1; have f0 := HZ3.out.f 0; have f1 := HZ3.out.f 1; have k0 := HK3.out.c0; have k1 := HK3.out.c1; go_wp2; have Z2 := (HZ3.out.set0 0).set1 0; exact bodyPost_ret (v := .agg #[.int .i64 0, .int .i64 0]) (by simp [results, Tryz.results32, go_sem, Z2.c0, Z2.c1]) rfl ⟨rfl, (HB3.out.setCell (p := ⟨w.heap.size + 1 + 1, 0, none⟩) (by simp; omega) _).setCell (p := ⟨w.heap.size + 1 + 1, 1, none⟩) (by simp; omega) _⟩
set_option maxHeartbeats 1000000 in
theorem rcut_no3_01 (a b : Sp) (w : World) (g1 : b.1 ≤ a.1) (g2 : b.2 < a.2) (h1 : rt a = true) (h2 : rt b = true) (h3 : has (bt a b) = false) : Calls Tryz.prog 32 #[ag a, ag b] w fun e w' => e = .returned (ag (0, 0)) ∧ Below w.heap.size w w' := by
 have C := fun w => Lib.hid (rright a w)
 have D := fun w => Lib.hid (rright b w)
 have E := fun w => Lib.hid (rmany (bt a b) w)
 rw [h1] at C; rw [h2] at D; obtain ⟨a1, a2⟩ := a; obtain ⟨b1, b2⟩ := b; simp only at g1 g2; have t1 : decide (a1 < b1) = false := by simp; omega
 have t2 : decide (b2 < a2) = true := by simp; omega
 have tm : (mn (bt (a1, a2) (b1, b2)) == 0) = true := by
  have hh := h3; simp only [has, decide_eq_false_iff_not] at hh; have := mn_bd (bt (a1, a2) (b1, b2)); rw [beq_iff_eq]; omega
 clear h1 h2 h3; simp only [bt] at E tm ⊢; have eM : max a1 b1 = a1 := by omega
 have eN : min a2 b2 = b2 := by omega
 rw [eM, eN] at E tm; clear eM eN g1 g2; generalize mn (a1, b2) = k at E tm; go_enter Tryz.func32, Tryz.ntmps32
 go_wp2_with fail
 refine (C _).out.mono ?_; rintro e w1 ⟨rfl, hb⟩; obtain ⟨K, hB4⟩ := bx1 hb; simp only [World.size_alloc] at K; obtain ⟨X, Y, Z, hB⟩ := bx3 hB4; have HB := Lib.hid hB; have HY := Lib.hid Y; have HZ := Lib.hid Z; have HK := Lib.hid K; have y0 := Y.c0; have y1 := Y.c1; clear hb hB4 hB X Y Z K
 go_wp2_with fail
 refine (D _).out.mono ?_; rintro e w2 ⟨rfl, hb⟩; have HZ2 := Lib.hid (HZ.out.keep hb); have HK2 := Lib.hid (HK.out.keep hb); have HB2 := Lib.hid (HB.out.trans (hb.mono HB.out.size)); clear hb HB HY HZ HK y0 y1; have k0 := HK2.out.c0; have k1 := HK2.out.c1
 go_wp2_with fail
 refine (E _).out.mono ?_; rintro e w3 ⟨rfl, hb⟩; have HZ3 := Lib.hid (HZ2.out.keep hb); have HK3 := Lib.hid (HK2.out.keep hb); have HB3 := Lib.hid (HB2.out.trans (hb.mono HB2.out.size)); clear hb HB2 HZ2 HK2 k0 k1; have z0 := HZ3.out.c0; have z1 := HZ3.out.c1; have f0 := HZ3.out.f 0; have f1 := HZ3.out.f 1; have k0 := HK3.out.c0; have k1 := HK3.out.c1; go_wp2; have Z2 := (HZ3.out.set0 0).set1 0; exact bodyPost_ret (v := .agg #[.int .i64 0, .int .i64 0]) (by simp [results, Tryz.results32, go_sem, Z2.c0, Z2.c1]) rfl ⟨rfl, (HB3.out.setCell (p := ⟨w.heap.size + 1 + 1, 0, none⟩) (by simp; omega) _).setCell (p := ⟨w.heap.size + 1 + 1, 1, none⟩) (by simp; omega) _⟩
set_option maxHeartbeats 1000000 in
theorem rcut_no3_10 (a b : Sp) (w : World) (g1 : a.1 < b.1) (g2 : a.2 ≤ b.2) (h1 : rt a = true) (h2 : rt b = true) (h3 : has (bt a b) = false) : Calls Tryz.prog 32 #[ag a, ag b] w fun e w' => e = .returned (ag (0, 0)) ∧ Below w.heap.size w w' := by
 have C := fun w => Lib.hid (rright a w)
 have D := fun w => Lib.hid (rright b w)
 have E := fun w => Lib.hid (rmany (bt a b) w)
 rw [h1] at C; rw [h2] at D; obtain ⟨a1, a2⟩ := a; obtain ⟨b1, b2⟩ := b; simp only at g1 g2; have t1 : decide (a1 < b1) = true := by simp; omega
 have t2 : decide (b2 < a2) = false := by simp; omega
 have tm : (mn (bt (a1, a2) (b1, b2)) == 0) = true := by
  have hh := h3; simp only [has, decide_eq_false_iff_not] at hh; have := mn_bd (bt (a1, a2) (b1, b2)); rw [beq_iff_eq]; omega
 clear h1 h2 h3; simp only [bt] at E tm ⊢; have eM : max a1 b1 = b1 := by omega
 have eN : min a2 b2 = a2 := by omega
 rw [eM, eN] at E tm; clear eM eN g1 g2; generalize mn (b1, a2) = k at E tm; go_enter Tryz.func32, Tryz.ntmps32
 go_wp2_with fail
 refine (C _).out.mono ?_; rintro e w1 ⟨rfl, hb⟩; obtain ⟨K, hB4⟩ := bx1 hb; simp only [World.size_alloc] at K; obtain ⟨X, Y, Z, hB⟩ := bx3 hB4; have HB := Lib.hid hB; have HY := Lib.hid Y; have HZ := Lib.hid Z; have HK := Lib.hid K; have y0 := Y.c0; have y1 := Y.c1; clear hb hB4 hB X Y Z K
 go_wp2_with fail
 refine (D _).out.mono ?_; rintro e w2 ⟨rfl, hb⟩; have HZ2 := Lib.hid (HZ.out.keep hb); have HK2 := Lib.hid (HK.out.keep hb); have HB2 := Lib.hid (HB.out.trans (hb.mono HB.out.size)); clear hb HB HY HZ HK y0 y1; have k0 := HK2.out.c0; have k1 := HK2.out.c1
 go_wp2_with fail
 refine (E _).out.mono ?_; rintro e w3 ⟨rfl, hb⟩; have HZ3 := Lib.hid (HZ2.out.keep hb); have HK3 := Lib.hid (HK2.out.keep hb); have HB3 := Lib.hid (HB2.out.trans (hb.mono HB2.out.size)); clear hb HB2 HZ2 HK2 k0 k1; have z0 := HZ3.out.c0; have z1 := HZ3.out.c1; have f0 := HZ3.out.f 0; have f1 := HZ3.out.f 1; have k0 := HK3.out.c0; have k1 := HK3.out.c1; go_wp2; have Z2 := (HZ3.out.set0 0).set1 0; exact bodyPost_ret (v := .agg #[.int .i64 0, .int .i64 0]) (by simp [results, Tryz.results32, go_sem, Z2.c0, Z2.c1]) rfl ⟨rfl, (HB3.out.setCell (p := ⟨w.heap.size + 1 + 1, 0, none⟩) (by simp; omega) _).setCell (p := ⟨w.heap.size + 1 + 1, 1, none⟩) (by simp; omega) _⟩
set_option maxHeartbeats 1000000 in
theorem rcut_no3_11 (a b : Sp) (w : World) (g1 : a.1 < b.1) (g2 : b.2 < a.2) (h1 : rt a = true) (h2 : rt b = true) (h3 : has (bt a b) = false) : Calls Tryz.prog 32 #[ag a, ag b] w fun e w' => e = .returned (ag (0, 0)) ∧ Below w.heap.size w w' := by
 have C := fun w => Lib.hid (rright a w)
 have D := fun w => Lib.hid (rright b w)
 have E := fun w => Lib.hid (rmany (bt a b) w)
 rw [h1] at C; rw [h2] at D; obtain ⟨a1, a2⟩ := a; obtain ⟨b1, b2⟩ := b; simp only at g1 g2; have t1 : decide (a1 < b1) = true := by simp; omega
 have t2 : decide (b2 < a2) = true := by simp; omega
 have tm : (mn (bt (a1, a2) (b1, b2)) == 0) = true := by
  have hh := h3; simp only [has, decide_eq_false_iff_not] at hh; have := mn_bd (bt (a1, a2) (b1, b2)); rw [beq_iff_eq]; omega
 clear h1 h2 h3; simp only [bt] at E tm ⊢; have eM : max a1 b1 = b1 := by omega
 have eN : min a2 b2 = b2 := by omega
 rw [eM, eN] at E tm; clear eM eN g1 g2; generalize mn (b1, b2) = k at E tm; go_enter Tryz.func32, Tryz.ntmps32
 go_wp2_with fail
 refine (C _).out.mono ?_; rintro e w1 ⟨rfl, hb⟩; obtain ⟨K, hB4⟩ := bx1 hb; simp only [World.size_alloc] at K; obtain ⟨X, Y, Z, hB⟩ := bx3 hB4; have HB := Lib.hid hB; have HY := Lib.hid Y; have HZ := Lib.hid Z; have HK := Lib.hid K; have y0 := Y.c0; have y1 := Y.c1; clear hb hB4 hB X Y Z K
 go_wp2_with fail
 refine (D _).out.mono ?_; rintro e w2 ⟨rfl, hb⟩; have HZ2 := Lib.hid (HZ.out.keep hb); have HK2 := Lib.hid (HK.out.keep hb); have HB2 := Lib.hid (HB.out.trans (hb.mono HB.out.size)); clear hb HB HY HZ HK y0 y1; have k0 := HK2.out.c0; have k1 := HK2.out.c1
 go_wp2_with fail
 refine (E _).out.mono ?_; rintro e w3 ⟨rfl, hb⟩; have HZ3 := Lib.hid (HZ2.out.keep hb); have HK3 := Lib.hid (HK2.out.keep hb); have HB3 := Lib.hid (HB2.out.trans (hb.mono HB2.out.size)); clear hb HB2 HZ2 HK2 k0 k1; have z0 := HZ3.out.c0; have z1 := HZ3.out.c1; have f0 := HZ3.out.f 0; have f1 := HZ3.out.f 1; have k0 := HK3.out.c0; have k1 := HK3.out.c1; go_wp2; have Z2 := (HZ3.out.set0 0).set1 0; exact bodyPost_ret (v := .agg #[.int .i64 0, .int .i64 0]) (by simp [results, Tryz.results32, go_sem, Z2.c0, Z2.c1]) rfl ⟨rfl, (HB3.out.setCell (p := ⟨w.heap.size + 1 + 1, 0, none⟩) (by simp; omega) _).setCell (p := ⟨w.heap.size + 1 + 1, 1, none⟩) (by simp; omega) _⟩
set_option maxHeartbeats 1000000 in
theorem rcut_no2_00 (a b : Sp) (w : World) (g1 : b.1 ≤ a.1) (g2 : a.2 ≤ b.2) (h1 : rt a = true) (h2 : rt b = false) : Calls Tryz.prog 32 #[ag a, ag b] w fun e w' => e = .returned (ag (0, 0)) ∧ Below w.heap.size w w' := by
 have C := fun w => Lib.hid (rright a w)
 have D := fun w => Lib.hid (rright b w)
 rw [h1] at C; rw [h2] at D; obtain ⟨a1, a2⟩ := a; obtain ⟨b1, b2⟩ := b; simp only at g1 g2; have t1 : decide (a1 < b1) = false := by simp; omega
 have t2 : decide (b2 < a2) = false := by simp; omega
 clear g1 g2 h1 h2; go_enter Tryz.func32, Tryz.ntmps32
 go_wp2_with fail
 refine (C _).out.mono ?_; rintro e w1 ⟨rfl, hb⟩; obtain ⟨K, hB4⟩ := bx1 hb; simp only [World.size_alloc] at K; obtain ⟨X, Y, Z, hB⟩ := bx3 hB4; have HB := Lib.hid hB; have HY := Lib.hid Y; have HZ := Lib.hid Z; have HK := Lib.hid K; have y0 := Y.c0; have y1 := Y.c1; clear hb hB4 hB X Y Z K
 go_wp2_with fail
 refine (D _).out.mono ?_; rintro e w2 ⟨rfl, hb⟩; have HZ2 := Lib.hid (HZ.out.keep hb); have HK2 := Lib.hid (HK.out.keep hb); have HB2 := Lib.hid (HB.out.trans (hb.mono HB.out.size)); clear hb HB HY HZ HK y0 y1; have z0 := HZ2.out.c0; have z1 := HZ2.out.c1; have f0 := HZ2.out.f 0; have f1 := HZ2.out.f 1; have k0 := HK2.out.c0; have k1 := HK2.out.c1; go_wp2; have Z2 := (HZ2.out.set0 0).set1 0; exact bodyPost_ret (v := .agg #[.int .i64 0, .int .i64 0]) (by simp [results, Tryz.results32, go_sem, Z2.c0, Z2.c1]) rfl ⟨rfl, (HB2.out.setCell (p := ⟨w.heap.size + 1 + 1, 0, none⟩) (by simp; omega) _).setCell (p := ⟨w.heap.size + 1 + 1, 1, none⟩) (by simp; omega) _⟩
set_option maxHeartbeats 1000000 in
theorem rcut_no2_01 (a b : Sp) (w : World) (g1 : b.1 ≤ a.1) (g2 : b.2 < a.2) (h1 : rt a = true) (h2 : rt b = false) : Calls Tryz.prog 32 #[ag a, ag b] w fun e w' => e = .returned (ag (0, 0)) ∧ Below w.heap.size w w' := by
 have C := fun w => Lib.hid (rright a w)
 have D := fun w => Lib.hid (rright b w)
 rw [h1] at C; rw [h2] at D; obtain ⟨a1, a2⟩ := a; obtain ⟨b1, b2⟩ := b; simp only at g1 g2; have t1 : decide (a1 < b1) = false := by simp; omega
 have t2 : decide (b2 < a2) = true := by simp; omega
 clear g1 g2 h1 h2; go_enter Tryz.func32, Tryz.ntmps32
 go_wp2_with fail
 refine (C _).out.mono ?_; rintro e w1 ⟨rfl, hb⟩; obtain ⟨K, hB4⟩ := bx1 hb; simp only [World.size_alloc] at K; obtain ⟨X, Y, Z, hB⟩ := bx3 hB4; have HB := Lib.hid hB; have HY := Lib.hid Y; have HZ := Lib.hid Z; have HK := Lib.hid K; have y0 := Y.c0; have y1 := Y.c1; clear hb hB4 hB X Y Z K
 go_wp2_with fail
 refine (D _).out.mono ?_; rintro e w2 ⟨rfl, hb⟩; have HZ2 := Lib.hid (HZ.out.keep hb); have HK2 := Lib.hid (HK.out.keep hb); have HB2 := Lib.hid (HB.out.trans (hb.mono HB.out.size)); clear hb HB HY HZ HK y0 y1; have z0 := HZ2.out.c0; have z1 := HZ2.out.c1; have f0 := HZ2.out.f 0; have f1 := HZ2.out.f 1; have k0 := HK2.out.c0; have k1 := HK2.out.c1; go_wp2; have Z2 := (HZ2.out.set0 0).set1 0; exact bodyPost_ret (v := .agg #[.int .i64 0, .int .i64 0]) (by simp [results, Tryz.results32, go_sem, Z2.c0, Z2.c1]) rfl ⟨rfl, (HB2.out.setCell (p := ⟨w.heap.size + 1 + 1, 0, none⟩) (by simp; omega) _).setCell (p := ⟨w.heap.size + 1 + 1, 1, none⟩) (by simp; omega) _⟩
set_option maxHeartbeats 1000000 in
theorem rcut_no2_10 (a b : Sp) (w : World) (g1 : a.1 < b.1) (g2 : a.2 ≤ b.2) (h1 : rt a = true) (h2 : rt b = false) : Calls Tryz.prog 32 #[ag a, ag b] w fun e w' => e = .returned (ag (0, 0)) ∧ Below w.heap.size w w' := by
 have C := fun w => Lib.hid (rright a w)
 have D := fun w => Lib.hid (rright b w)
 rw [h1] at C; rw [h2] at D; obtain ⟨a1, a2⟩ := a; obtain ⟨b1, b2⟩ := b; simp only at g1 g2; have t1 : decide (a1 < b1) = true := by simp; omega
 have t2 : decide (b2 < a2) = false := by simp; omega
 clear g1 g2 h1 h2; go_enter Tryz.func32, Tryz.ntmps32
 go_wp2_with fail
 refine (C _).out.mono ?_; rintro e w1 ⟨rfl, hb⟩; obtain ⟨K, hB4⟩ := bx1 hb; simp only [World.size_alloc] at K; obtain ⟨X, Y, Z, hB⟩ := bx3 hB4; have HB := Lib.hid hB; have HY := Lib.hid Y; have HZ := Lib.hid Z; have HK := Lib.hid K; have y0 := Y.c0; have y1 := Y.c1; clear hb hB4 hB X Y Z K
 go_wp2_with fail
 refine (D _).out.mono ?_; rintro e w2 ⟨rfl, hb⟩; have HZ2 := Lib.hid (HZ.out.keep hb); have HK2 := Lib.hid (HK.out.keep hb); have HB2 := Lib.hid (HB.out.trans (hb.mono HB.out.size)); clear hb HB HY HZ HK y0 y1; have z0 := HZ2.out.c0; have z1 := HZ2.out.c1; have f0 := HZ2.out.f 0; have f1 := HZ2.out.f 1; have k0 := HK2.out.c0; have k1 := HK2.out.c1; go_wp2; have Z2 := (HZ2.out.set0 0).set1 0; exact bodyPost_ret (v := .agg #[.int .i64 0, .int .i64 0]) (by simp [results, Tryz.results32, go_sem, Z2.c0, Z2.c1]) rfl ⟨rfl, (HB2.out.setCell (p := ⟨w.heap.size + 1 + 1, 0, none⟩) (by simp; omega) _).setCell (p := ⟨w.heap.size + 1 + 1, 1, none⟩) (by simp; omega) _⟩
set_option maxHeartbeats 1000000 in
theorem rcut_no2_11 (a b : Sp) (w : World) (g1 : a.1 < b.1) (g2 : b.2 < a.2) (h1 : rt a = true) (h2 : rt b = false) : Calls Tryz.prog 32 #[ag a, ag b] w fun e w' => e = .returned (ag (0, 0)) ∧ Below w.heap.size w w' := by
 have C := fun w => Lib.hid (rright a w)
 have D := fun w => Lib.hid (rright b w)
 rw [h1] at C; rw [h2] at D; obtain ⟨a1, a2⟩ := a; obtain ⟨b1, b2⟩ := b; simp only at g1 g2; have t1 : decide (a1 < b1) = true := by simp; omega
 have t2 : decide (b2 < a2) = true := by simp; omega
 clear g1 g2 h1 h2; go_enter Tryz.func32, Tryz.ntmps32
 go_wp2_with fail
 refine (C _).out.mono ?_; rintro e w1 ⟨rfl, hb⟩; obtain ⟨K, hB4⟩ := bx1 hb; simp only [World.size_alloc] at K; obtain ⟨X, Y, Z, hB⟩ := bx3 hB4; have HB := Lib.hid hB; have HY := Lib.hid Y; have HZ := Lib.hid Z; have HK := Lib.hid K; have y0 := Y.c0; have y1 := Y.c1; clear hb hB4 hB X Y Z K
 go_wp2_with fail
 refine (D _).out.mono ?_; rintro e w2 ⟨rfl, hb⟩; have HZ2 := Lib.hid (HZ.out.keep hb); have HK2 := Lib.hid (HK.out.keep hb); have HB2 := Lib.hid (HB.out.trans (hb.mono HB.out.size)); clear hb HB HY HZ HK y0 y1; have z0 := HZ2.out.c0; have z1 := HZ2.out.c1; have f0 := HZ2.out.f 0; have f1 := HZ2.out.f 1; have k0 := HK2.out.c0; have k1 := HK2.out.c1; go_wp2; have Z2 := (HZ2.out.set0 0).set1 0; exact bodyPost_ret (v := .agg #[.int .i64 0, .int .i64 0]) (by simp [results, Tryz.results32, go_sem, Z2.c0, Z2.c1]) rfl ⟨rfl, (HB2.out.setCell (p := ⟨w.heap.size + 1 + 1, 0, none⟩) (by simp; omega) _).setCell (p := ⟨w.heap.size + 1 + 1, 1, none⟩) (by simp; omega) _⟩
set_option maxHeartbeats 1000000 in
theorem rcut_no1_00 (a b : Sp) (w : World) (g1 : b.1 ≤ a.1) (g2 : a.2 ≤ b.2) (h1 : rt a = false) : Calls Tryz.prog 32 #[ag a, ag b] w fun e w' => e = .returned (ag (0, 0)) ∧ Below w.heap.size w w' := by
 have C := fun w => Lib.hid (rright a w)
 rw [h1] at C; obtain ⟨a1, a2⟩ := a; obtain ⟨b1, b2⟩ := b; simp only at g1 g2; have t1 : decide (a1 < b1) = false := by simp; omega
 have t2 : decide (b2 < a2) = false := by simp; omega
 clear g1 g2 h1; go_enter Tryz.func32, Tryz.ntmps32
 go_wp2_with fail
 refine (C _).out.mono ?_; rintro e w1 ⟨rfl, hb⟩; obtain ⟨K, hB4⟩ := bx1 hb; simp only [World.size_alloc] at K; obtain ⟨X, Y, Z, hB⟩ := bx3 hB4; have HB := Lib.hid hB; have HY := Lib.hid Y; have HZ := Lib.hid Z; have HK := Lib.hid K; clear hb hB4 hB X Y Z K; have z0 := HZ.out.c0; have z1 := HZ.out.c1; have f0 := HZ.out.f 0; have f1 := HZ.out.f 1; have k0 := HK.out.c0; have k1 := HK.out.c1; go_wp2; have Z2 := (HZ.out.set0 0).set1 0; exact bodyPost_ret (v := .agg #[.int .i64 0, .int .i64 0]) (by simp [results, Tryz.results32, go_sem, Z2.c0, Z2.c1]) rfl ⟨rfl, (HB.out.setCell (p := ⟨w.heap.size + 1 + 1, 0, none⟩) (by simp; omega) _).setCell (p := ⟨w.heap.size + 1 + 1, 1, none⟩) (by simp; omega) _⟩
set_option maxHeartbeats 1000000 in
theorem rcut_no1_01 (a b : Sp) (w : World) (g1 : b.1 ≤ a.1) (g2 : b.2 < a.2) (h1 : rt a = false) : Calls Tryz.prog 32 #[ag a, ag b] w fun e w' => e = .returned (ag (0, 0)) ∧ Below w.heap.size w w' := by
 have C := fun w => Lib.hid (rright a w)
 rw [h1] at C; obtain ⟨a1, a2⟩ := a; obtain ⟨b1, b2⟩ := b; simp only at g1 g2; have t1 : decide (a1 < b1) = false := by simp; omega
 have t2 : decide (b2 < a2) = true := by simp; omega
 clear g1 g2 h1; go_enter Tryz.func32, Tryz.ntmps32
 go_wp2_with fail
 refine (C _).out.mono ?_; rintro e w1 ⟨rfl, hb⟩; obtain ⟨K, hB4⟩ := bx1 hb; simp only [World.size_alloc] at K; obtain ⟨X, Y, Z, hB⟩ := bx3 hB4; have HB := Lib.hid hB; have HY := Lib.hid Y; have HZ := Lib.hid Z; have HK := Lib.hid K; clear hb hB4 hB X Y Z K; have z0 := HZ.out.c0; have z1 := HZ.out.c1; have f0 := HZ.out.f 0; have f1 := HZ.out.f 1; have k0 := HK.out.c0; have k1 := HK.out.c1; go_wp2; have Z2 := (HZ.out.set0 0).set1 0; exact bodyPost_ret (v := .agg #[.int .i64 0, .int .i64 0]) (by simp [results, Tryz.results32, go_sem, Z2.c0, Z2.c1]) rfl ⟨rfl, (HB.out.setCell (p := ⟨w.heap.size + 1 + 1, 0, none⟩) (by simp; omega) _).setCell (p := ⟨w.heap.size + 1 + 1, 1, none⟩) (by simp; omega) _⟩
set_option maxHeartbeats 1000000 in
theorem rcut_no1_10 (a b : Sp) (w : World) (g1 : a.1 < b.1) (g2 : a.2 ≤ b.2) (h1 : rt a = false) : Calls Tryz.prog 32 #[ag a, ag b] w fun e w' => e = .returned (ag (0, 0)) ∧ Below w.heap.size w w' := by
 have C := fun w => Lib.hid (rright a w)
 rw [h1] at C; obtain ⟨a1, a2⟩ := a; obtain ⟨b1, b2⟩ := b; simp only at g1 g2; have t1 : decide (a1 < b1) = true := by simp; omega
 have t2 : decide (b2 < a2) = false := by simp; omega
 clear g1 g2 h1; go_enter Tryz.func32, Tryz.ntmps32
 go_wp2_with fail
 refine (C _).out.mono ?_; rintro e w1 ⟨rfl, hb⟩; obtain ⟨K, hB4⟩ := bx1 hb; simp only [World.size_alloc] at K; obtain ⟨X, Y, Z, hB⟩ := bx3 hB4; have HB := Lib.hid hB; have HY := Lib.hid Y; have HZ := Lib.hid Z; have HK := Lib.hid K; clear hb hB4 hB X Y Z K; have z0 := HZ.out.c0; have z1 := HZ.out.c1; have f0 := HZ.out.f 0; have f1 := HZ.out.f 1; have k0 := HK.out.c0; have k1 := HK.out.c1; go_wp2; have Z2 := (HZ.out.set0 0).set1 0; exact bodyPost_ret (v := .agg #[.int .i64 0, .int .i64 0]) (by simp [results, Tryz.results32, go_sem, Z2.c0, Z2.c1]) rfl ⟨rfl, (HB.out.setCell (p := ⟨w.heap.size + 1 + 1, 0, none⟩) (by simp; omega) _).setCell (p := ⟨w.heap.size + 1 + 1, 1, none⟩) (by simp; omega) _⟩
set_option maxHeartbeats 1000000 in
theorem rcut_no1_11 (a b : Sp) (w : World) (g1 : a.1 < b.1) (g2 : b.2 < a.2) (h1 : rt a = false) : Calls Tryz.prog 32 #[ag a, ag b] w fun e w' => e = .returned (ag (0, 0)) ∧ Below w.heap.size w w' := by
 have C := fun w => Lib.hid (rright a w)
 rw [h1] at C; obtain ⟨a1, a2⟩ := a; obtain ⟨b1, b2⟩ := b; simp only at g1 g2; have t1 : decide (a1 < b1) = true := by simp; omega
 have t2 : decide (b2 < a2) = true := by simp; omega
 clear g1 g2 h1; go_enter Tryz.func32, Tryz.ntmps32
 go_wp2_with fail
 refine (C _).out.mono ?_; rintro e w1 ⟨rfl, hb⟩; obtain ⟨K, hB4⟩ := bx1 hb; simp only [World.size_alloc] at K; obtain ⟨X, Y, Z, hB⟩ := bx3 hB4; have HB := Lib.hid hB; have HY := Lib.hid Y; have HZ := Lib.hid Z; have HK := Lib.hid K; clear hb hB4 hB X Y Z K; have z0 := HZ.out.c0; have z1 := HZ.out.c1; have f0 := HZ.out.f 0; have f1 := HZ.out.f 1; have k0 := HK.out.c0; have k1 := HK.out.c1; go_wp2; have Z2 := (HZ.out.set0 0).set1 0; exact bodyPost_ret (v := .agg #[.int .i64 0, .int .i64 0]) (by simp [results, Tryz.results32, go_sem, Z2.c0, Z2.c1]) rfl ⟨rfl, (HB.out.setCell (p := ⟨w.heap.size + 1 + 1, 0, none⟩) (by simp; omega) _).setCell (p := ⟨w.heap.size + 1 + 1, 1, none⟩) (by simp; omega) _⟩
theorem rcut_no1 (a b : Sp) (w : World) (h1 : rt a = false) : Calls Tryz.prog 32 #[ag a, ag b] w fun e w' => e = .returned (ag (0, 0)) ∧ Below w.heap.size w w' := by
 by_cases g1 : a.1 < b.1
 ·by_cases g2 : b.2 < a.2
  ·exact rcut_no1_11 a b w g1 g2 h1
  ·exact rcut_no1_10 a b w g1 (by omega) h1
 ·by_cases g2 : b.2 < a.2
  ·exact rcut_no1_01 a b w (by omega) g2 h1
  ·exact rcut_no1_00 a b w (by omega) (by omega) h1
theorem rcut_no2 (a b : Sp) (w : World) (h1 : rt a = true) (h2 : rt b = false) : Calls Tryz.prog 32 #[ag a, ag b] w fun e w' => e = .returned (ag (0, 0)) ∧ Below w.heap.size w w' := by
 by_cases g1 : a.1 < b.1
 ·by_cases g2 : b.2 < a.2
  ·exact rcut_no2_11 a b w g1 g2 h1 h2
  ·exact rcut_no2_10 a b w g1 (by omega) h1 h2
 ·by_cases g2 : b.2 < a.2
  ·exact rcut_no2_01 a b w (by omega) g2 h1 h2
  ·exact rcut_no2_00 a b w (by omega) (by omega) h1 h2
theorem rcut_no3 (a b : Sp) (w : World) (h1 : rt a = true) (h2 : rt b = true) (h3 : has (bt a b) = false) : Calls Tryz.prog 32 #[ag a, ag b] w fun e w' => e = .returned (ag (0, 0)) ∧ Below w.heap.size w w' := by
 by_cases g1 : a.1 < b.1
 ·by_cases g2 : b.2 < a.2
  ·exact rcut_no3_11 a b w g1 g2 h1 h2 h3
  ·exact rcut_no3_10 a b w g1 (by omega) h1 h2 h3
 ·by_cases g2 : b.2 < a.2
  ·exact rcut_no3_01 a b w (by omega) g2 h1 h2 h3
  ·exact rcut_no3_00 a b w (by omega) (by omega) h1 h2 h3
theorem rcut_yes (a b : Sp) (w : World) (h1 : rt a = true) (h2 : rt b = true) (h3 : has (bt a b) = true) : Calls Tryz.prog 32 #[ag a, ag b] w fun e w' => e = .returned (ag (bt a b)) ∧ Below w.heap.size w w' := by
 by_cases g1 : a.1 < b.1
 ·by_cases g2 : b.2 < a.2
  ·exact rcut_yes_11 a b w g1 g2 h1 h2 h3
  ·exact rcut_yes_10 a b w g1 (by omega) h1 h2 h3
 ·by_cases g2 : b.2 < a.2
  ·exact rcut_yes_01 a b w (by omega) g2 h1 h2 h3
  ·exact rcut_yes_00 a b w (by omega) (by omega) h1 h2 h3
theorem rcut (a b : Sp) (w : World) : Calls Tryz.prog 32 #[ag a, ag b] w fun e w' => e = .returned (ag (ct a b)) ∧ Below w.heap.size w w' := by
 cases h1 : rt a
 ·rw [ct_no1 h1]; exact rcut_no1 a b w h1
 ·cases h2 : rt b
  ·rw [ct_no2 h2]; exact rcut_no2 a b w h1 h2
  ·cases h3 : has (bt a b)
   ·rw [ct_no3 h3]; exact rcut_no3 a b w h1 h2 h3
   ·rw [ct_is h1 h2 h3]; exact rcut_yes a b w h1 h2 h3
end Spn
end Go.Proofs.YtbjnjeidgdmdiaaGreat

namespace Go.Proofs.YtbjnjeidgdmdiaaGreat.Sp
set_option linter.unusedVariables false
structure Laid where
 a : List Sp
 b : List Sp
 t : Sp
def lay (st : Laid) (x : Sp) : Laid :=
 if x.2 < st.t.1 then ⟨st.a ++ [x], st.b, st.t⟩
 else if st.t.2 < x.1 then ⟨st.a, st.b ++ [x], st.t⟩
 else ⟨st.a, st.b, (min x.1 st.t.1, max x.2 st.t.2)⟩
def lays (s : Sp) (xs : List Sp) : Laid := xs.foldl lay ⟨[], [], s⟩
def Laid.out (st : Laid) : List Sp := st.a ++ [st.t] ++ st.b
def intoL (xs : List Sp) (s : Sp) : List Sp := (lays s xs).out
theorem lays_snoc (s : Sp) (xs : List Sp) (x : Sp) : lays s (xs ++ [x]) = lay (lays s xs) x := by simp [lays]
theorem lays_nil (s : Sp) : lays s [] = ⟨[], [], s⟩ := rfl
structure Lies (ys : List Sp) (st : Laid) : Prop where
 apart : Apart st.out
 same : ∀ d, hit st.out d ↔ hit ys d
theorem out_apart {a b : List Sp} {t : Sp} : Apart (a ++ [t] ++ b) ↔ Apart a ∧ has t = true ∧ Apart b ∧ (∀ x ∈ a, x.2 < t.1) ∧ (∀ y ∈ b, t.2 < y.1) := by
 rw [Apart.append, Apart.append]; constructor
 ·rintro ⟨⟨h1, h2, h3⟩, h4, h5⟩; exact ⟨h1, h2.1, h4, fun x hx => h3 x hx t (by simp), fun y hy => h5 t (by simp) y hy⟩
 ·rintro ⟨h1, h2, h3, h4, h5⟩; refine ⟨⟨h1, ⟨h2, by simp, trivial⟩, fun x hx y hy => ?_⟩, h3, fun x hx y hy => ?_⟩
  ·simp at hy; subst hy; exact h4 x hx
  ·have h2' := (has_iff t).1 h2; rcases List.mem_append.1 hx with hx | hx
   ·have := h4 x hx; have := h5 y hy; omega
   ·simp at hx; subst hx; exact h5 y hy
theorem hit_out (a b : List Sp) (t : Sp) (d : Int) : hit (a ++ [t] ++ b) d ↔ hit a d ∨ inn t d = true ∨ hit b d := by
 rw [hit_append, hit_append, hit_cons]; constructor
 ·rintro ((h | h | h) | h)
  ·exact .inl h
  ·exact .inr (.inl h)
  ·exact absurd h (hit_nil d)
  ·exact .inr (.inr h)
 ·rintro (h | h | h)
  ·exact .inl (.inl h)
  ·exact .inl (.inr (.inl h))
  ·exact .inr h
theorem lay_lies {ys : List Sp} {st : Laid} {z : Sp} (h : Lies ys st) (hz : has z = true) (hb : ∀ y ∈ st.a ++ st.b, y.2 < z.1) : Lies (ys ++ [z]) (lay st z) := by
 obtain ⟨a, b, t⟩ := st; have hA := h.apart; simp only [Laid.out] at hA; have hS := h.same; simp only [Laid.out] at hS; rw [out_apart] at hA; obtain ⟨h1, h2, h3, h4, h5⟩ := hA; have h2' := (has_iff t).1 h2; have hz' := (has_iff z).1 hz; have hit_one : ∀ d, hit [z] d ↔ inn z d = true := fun d => by rw [hit_cons]; exact ⟨fun h => h.resolve_right (hit_nil d), .inl⟩
 unfold lay; simp only; by_cases c1 : z.2 < t.1
 ·rw [if_pos c1]; refine ⟨?_, fun d => ?_⟩
  ·simp only [Laid.out]; rw [out_apart]; refine ⟨Apart.append.2 ⟨h1, ⟨hz, by simp, trivial⟩, fun x hx y hy => ?_⟩, h2, h3, fun x hx => ?_, h5⟩
   ·simp at hy; subst hy; exact hb x (by simp [hx])
   ·rcases List.mem_append.1 hx with hx | hx
    ·exact h4 x hx
    ·simp at hx; subst hx; exact c1
  ·simp only [Laid.out]; rw [hit_out, hit_append, hit_append ys, ← hS d, hit_out, hit_one]; constructor
   ·rintro ((h | h) | h | h)
    ·exact .inl (.inl h)
    ·exact .inr h
    ·exact .inl (.inr (.inl h))
    ·exact .inl (.inr (.inr h))
   ·rintro ((h | h | h) | h)
    ·exact .inl (.inl h)
    ·exact .inr (.inl h)
    ·exact .inr (.inr h)
    ·exact .inl (.inr h)
 ·rw [if_neg c1]; by_cases c2 : t.2 < z.1
  ·rw [if_pos c2]; refine ⟨?_, fun d => ?_⟩
   ·simp only [Laid.out]; rw [out_apart]; refine ⟨h1, h2, Apart.append.2 ⟨h3, ⟨hz, by simp, trivial⟩, fun x hx y hy => ?_⟩, h4, fun y hy => ?_⟩
    ·simp at hy; subst hy; exact hb x (by simp [hx])
    ·rcases List.mem_append.1 hy with hy | hy
     ·exact h5 y hy
     ·simp at hy; subst hy; exact c2
   ·simp only [Laid.out]; rw [hit_out, hit_append, hit_append ys, ← hS d, hit_out, hit_one]; constructor
    ·rintro (h | h | h | h)
     ·exact .inl (.inl h)
     ·exact .inl (.inr (.inl h))
     ·exact .inl (.inr (.inr h))
     ·exact .inr h
    ·rintro ((h | h | h) | h)
     ·exact .inl h
     ·exact .inr (.inl h)
     ·exact .inr (.inr (.inl h))
     ·exact .inr (.inr (.inr h))
  ·rw [if_neg c2]; refine ⟨?_, fun d => ?_⟩
   ·simp only [Laid.out]; rw [out_apart]; refine ⟨h1, (has_iff _).2 (by simp only; omega), h3, fun x hx => ?_, fun y hy => ?_⟩
    ·have := h4 x hx; have := hb x (by simp [hx]); simp only; omega
    ·have := h5 y hy; have := hb y (by simp [hy]); have hy' := (has_iff y).1 (h3.has y hy); omega
   ·simp only [Laid.out]; rw [hit_out, hit_append ys, ← hS d, hit_out, hit_one]
    have e : inn (min z.1 t.1, max z.2 t.2) d = true ↔ inn t d = true ∨ inn z d = true := by
     have e1 := inn_iff (min z.1 t.1, max z.2 t.2) d; simp only at e1; rw [e1, inn_iff t, inn_iff z]; constructor
     ·intro hh; by_cases hd : t.1 ≤ d ∧ d < t.2
      ·exact .inl (by omega)
      ·exact .inr (by omega)
     ·rintro (hh | hh) <;> omega
    rw [e]; constructor
    ·rintro (h | (h | h) | h)
     ·exact .inl (.inl h)
     ·exact .inl (.inr (.inl h))
     ·exact .inr h
     ·exact .inl (.inr (.inr h))
    ·rintro ((h | h | h) | h)
     ·exact .inl h
     ·exact .inr (.inl (.inl h))
     ·exact .inr (.inr h)
     ·exact .inr (.inl (.inr h))
theorem lays_from {s : Sp} (hs : has s = true) : ∀ (zs ys : List Sp) (st : Laid), Lies ([s] ++ ys) st → (∀ y ∈ st.a ++ st.b, y ∈ ys) → Apart (ys ++ zs) → Lies ([s] ++ (ys ++ zs)) (zs.foldl lay st) := by
 intro zs
 induction zs with
 | nil => intro ys st h _ _; simpa using h
 | cons z zs ih =>
  intro ys st h hm hA; have e : ys ++ z :: zs = (ys ++ [z]) ++ zs := by simp
  rw [e] at hA ⊢; have hA1 := (Apart.append.1 hA).1; have hA2 := Apart.append.1 hA1; have hh := lay_lies h hA2.2.1.1 (fun y hy => hA2.2.2 y (hm y hy) z (by simp)); rw [List.append_assoc] at hh; refine ih (ys ++ [z]) (lay st z) hh (fun y hy => ?_) hA; unfold lay at hy; split at hy
  ·simp at hy; rcases hy with hy | rfl | hy
   ·simp [hm y (by simp [hy])]
   ·simp
   ·simp [hm y (by simp [hy])]
  ·split at hy
   ·simp at hy; rcases hy with hy | hy | rfl
    ·simp [hm y (by simp [hy])]
    ·simp [hm y (by simp [hy])]
    ·simp
   ·simp [hm y hy]
theorem into_joined {xs ys : List Sp} {s : Sp} (h : Joined ys xs) (hs : has s = true) : Joined (ys ++ [s]) (intoL xs s) := by
 have h0 : Lies ([s] ++ []) ⟨[], [], s⟩ := ⟨⟨hs, by simp, trivial⟩, fun d => by simp [Laid.out]⟩; have := lays_from hs xs [] ⟨[], [], s⟩ h0 (by simp) (by simpa using h.apart); simp only [List.nil_append] at this; refine ⟨this.apart, fun d => (this.same d).trans ?_⟩; rw [hit_append, hit_append, h.same d]; exact Or.comm
theorem lay_len (st : Laid) (x : Sp) : (lay st x).a.length + (lay st x).b.length ≤ st.a.length + st.b.length + 1 := by
 unfold lay; split
 ·simp; omega
 ·split
  ·simp; omega
  ·simp
theorem lays_len (s : Sp) (xs : List Sp) : (lays s xs).a.length + (lays s xs).b.length ≤ xs.length := by
 have : ∀ (zs : List Sp) (st : Laid), (zs.foldl lay st).a.length + (zs.foldl lay st).b.length ≤ st.a.length + st.b.length + zs.length := by
  intro zs
  induction zs with
  | nil => intro st; simp
  | cons z zs ih => intro st; have h1 := ih (lay st z); have h2 := lay_len st z; simp only [List.foldl_cons, List.length_cons]; omega
 have := this xs ⟨[], [], s⟩; simpa [lays] using this
theorem into_len (xs : List Sp) (s : Sp) : (intoL xs s).length ≤ xs.length + 1 := by
 have := lays_len s xs; simp [intoL, Laid.out]; omega
end Go.Proofs.YtbjnjeidgdmdiaaGreat.Sp
namespace Go.Proofs.YtbjnjeidgdmdiaaGreat
open Go.RowKit Sp
namespace Spn
set_option linter.unusedVariables false
def Gives0 (w : World) (zs : List Sp) (e : Ending) (w' : World) : Prop := ∃ A k c, e = .returned (.slice A k c) ∧ Spans w' w'.heap.size A k zs ∧ k ≤ c ∧ Below w.heap.size w w'
def JoinsR (w : World) (xs : List Sp) (e : Ending) (w' : World) : Prop := ∃ zs, Joined xs zs ∧ zs.length ≤ xs.length ∧ Gives0 w zs e w'
theorem wpList_one (w : World) {ops : Array Oper} {rest : List Oper} {o : Oper} {a : Act} {Q : Exit → Act → World → Prop} (hgd : o.guard = none) (s x : Operand)
  (ho : o.op = .call { callee := .builtin .append, args := #[s, x], argTypes := #[44, 44] })
  (base : Nat) (A : Option Addr) (n c : Nat) (xs : List Sp) (hs : a.eval s = .slice A n c) (hown : Own w base A n c xs)
  (ad : Addr) (p q : Int) (hx : a.eval x = .slice (some ad) 1 1) (hc : ∀ j u, [Value.int .i64 p, .int .i64 q][j]? = some u → w.cell? (ad.add j) = some u) (hlen : n ≤ 2000000) (hbase : base ≤ w.heap.size)
  (h : ∀ g c' w', Own w' base (some ⟨g, 0, none⟩) (n + 1) c' (xs ++ [(p, q)]) → w.grownBy w' (Value.slice A n c).ownBlock → ((Value.slice A n c).ownBlock = some g ∨ g = w.heap.size) → wpList Tryz.prog ops Q rest (a.put o.dst (.slice (some ⟨g, 0, none⟩) (n + 1) c')) w') :
  wpList Tryz.prog ops Q (o :: rest) a w := by
 obtain ⟨i, hi, hz, h1, h2⟩ := info_parts info_span; refine wpList_append_lies w hgd s x _ ho base 23 i _ 2 16 Tryz.underlying44 hi hz h1 h2 rfl (by omega) (.slice A n c) n _ hs hown ad 1 1 [.int .i64 p, .int .i64 q] hx rfl hc (by simp [Value.oneCell']) (by omega) (by unfold maxLen; omega) (by omega) hbase _ rfl ?_; intro g cap w' hO hg hl hlt; exact h g cap w' (by have := hO; rwa [show cel xs ++ [Value.int .i64 p, .int .i64 q] = cel (xs ++ [(p, q)]) by rw [cel_append, cel_one]] at this) hg hl
structure IntoI (w w' : World) (A1 : Option Addr) (n1 c1 : Nat) (A2 : Option Addr) (n2 c2 : Nat) (st : Laid) : Prop where
 o1 : Own w' (w.heap.size + 1) A1 n1 c1 st.a
 o2 : Own w' (w.heap.size + 1) A2 n2 c2 st.b
 ne : (Value.slice A1 n1 c1).ownBlock = none ∨ (Value.slice A1 n1 c1).ownBlock ≠ (Value.slice A2 n2 c2).ownBlock
 box : Bx w' w.heap.size st.t.1 st.t.2
 below : Below w.heap.size w w'
theorem IntoI.drewN {w w' : World} {A1 A2 : Option Addr} {n1 c1 n2 c2 : Nat} {st : Laid} (h : IntoI w w' A1 n1 c1 A2 n2 c2 st) (k : Nat) : IntoI w (w'.drewN k) A1 n1 c1 A2 n2 c2 st :=
 ⟨h.o1, h.o2, h.ne, h.box, ⟨h.below.os, h.below.tape, h.below.output, h.below.size, h.below.block⟩⟩
theorem Own.nil_ {w : World} {base n c : Nat} {A : Option Addr} {xs : List Sp} (h : Own w base A n c xs) : A = none → n = 0 ∧ c = 0 := by
 intro e; subst e; rcases h.2 with ⟨e, hn⟩ | ⟨g, cap, cur, e, _⟩
 ·injection e with _ e2 e3
  exact ⟨e2, e3⟩
 ·cases e
theorem ownBlock_none {A : Option Addr} {n c : Nat} (h : (Value.slice A n c).ownBlock = none) : A = none := by
 cases A with
 | none => rfl
 | some a => simp [Value.ownBlock] at h
theorem IntoI.more1 {w w' w2 : World} {A1 A2 : Option Addr} {n1 c1 n2 c2 g c' : Nat} {a b : List Sp} {t x : Sp} {tmp : Obj} (h : IntoI w w' A1 n1 c1 A2 n2 c2 ⟨a, b, t⟩)
  (hO : Own w2 (w.heap.size + 1) (some ⟨g, 0, none⟩) (n1 + 1) c' (a ++ [x])) (hg : (w'.alloc tmp).grownBy w2 (Value.slice A1 n1 c1).ownBlock) (hl : (Value.slice A1 n1 c1).ownBlock = some g ∨ g = (w'.alloc tmp).heap.size) :
  IntoI w w2 (some ⟨g, 0, none⟩) (n1 + 1) c' A2 n2 c2 ⟨a ++ [x], b, t⟩ := by
 have hlt2 := h.o2.lt
 have hne2 : (Value.slice A2 n2 c2).ownBlock = none ∨ (Value.slice A2 n2 c2).ownBlock ≠ (Value.slice A1 n1 c1).ownBlock := by
  rcases h.ne with e | e
  ·rw [e]; cases hh : (Value.slice A2 n2 c2).ownBlock with
   | none => exact .inl rfl
   | some k => exact .inr (by simp)
  ·exact .inr (fun e' => e e'.symm)
 refine ⟨hO, (h.o2.alloc tmp).grown hg hne2, .inr ?_, ?_, ?_⟩
 ·intro e; have e1 : (Value.slice (some (⟨g, 0, none⟩ : Addr)) (n1 + 1) c').ownBlock = some g := rfl; rw [e1] at e; have := (hlt2 g e.symm).2; rcases hl with hl | hl
  ·rcases h.ne with e2 | e2
   ·rw [e2] at hl; cases hl
   ·exact e2 (hl.trans e)
  ·simp at hl; omega
 ·refine (hg.block w.heap.size (by have := h.box.lt; simp; omega) ?_).trans (h.box.alloc tmp); intro e; have := (h.o1.lt _ e.symm).1; omega
 ·refine (h.below.alloc h.below.size tmp).grown hg (by have := h.below.size; simp; omega) (fun j hj => ?_); have := (h.o1.lt _ hj).1; omega
theorem IntoI.more2 {w w' w2 : World} {A1 A2 : Option Addr} {n1 c1 n2 c2 g c' : Nat} {a b : List Sp} {t x : Sp} {tmp : Obj} (h : IntoI w w' A1 n1 c1 A2 n2 c2 ⟨a, b, t⟩)
  (hO : Own w2 (w.heap.size + 1) (some ⟨g, 0, none⟩) (n2 + 1) c' (b ++ [x])) (hg : (w'.alloc tmp).grownBy w2 (Value.slice A2 n2 c2).ownBlock) (hl : (Value.slice A2 n2 c2).ownBlock = some g ∨ g = (w'.alloc tmp).heap.size) :
  IntoI w w2 A1 n1 c1 (some ⟨g, 0, none⟩) (n2 + 1) c' ⟨a, b ++ [x], t⟩ := by
 have hlt1 := h.o1.lt; refine ⟨(h.o1.alloc tmp).grown hg h.ne, hO, ?_, ?_, ?_⟩
 ·have e1 : (Value.slice (some (⟨g, 0, none⟩ : Addr)) (n2 + 1) c').ownBlock = some g := rfl; rw [e1]; cases hh : (Value.slice A1 n1 c1).ownBlock with
  | none => exact .inl rfl
  | some k =>
   refine .inr fun e => ?_
   have ek : k = g := by simpa using e
   subst ek; rcases hl with hl | hl
   ·rcases h.ne with e2 | e2
    ·rw [hh] at e2; cases e2
    ·exact e2 (hh.trans hl.symm)
   ·have := (hlt1 k hh).2; simp at hl; omega
 ·refine (hg.block w.heap.size (by have := h.box.lt; simp; omega) ?_).trans (h.box.alloc tmp); intro e; have := (h.o2.lt _ e.symm).1; omega
 ·refine (h.below.alloc h.below.size tmp).grown hg (by have := h.below.size; simp; omega) (fun j hj => ?_); have := (h.o2.lt _ hj).1; omega
theorem IntoI.turn0 {w w' : World} {A1 A2 : Option Addr} {n1 c1 n2 c2 : Nat} {a b : List Sp} {p q : Int} (h : IntoI w w' A1 n1 c1 A2 n2 c2 ⟨a, b, (p, q)⟩) (z : Int) :
  IntoI w (w'.setCell ⟨w.heap.size, 0, none⟩ (.int .i64 z)) A1 n1 c1 A2 n2 c2 ⟨a, b, (z, q)⟩ :=
 ⟨ownsRow_setCell_below h.o1 (by simp) _, ownsRow_setCell_below h.o2 (by simp) _, h.ne, h.box.set0 z, h.below.setCell (p := ⟨w.heap.size, 0, none⟩) (Nat.le_refl _) _⟩
theorem IntoI.turn1 {w w' : World} {A1 A2 : Option Addr} {n1 c1 n2 c2 : Nat} {a b : List Sp} {p q : Int} (h : IntoI w w' A1 n1 c1 A2 n2 c2 ⟨a, b, (p, q)⟩) (z : Int) :
  IntoI w (w'.setCell ⟨w.heap.size, 1, none⟩ (.int .i64 z)) A1 n1 c1 A2 n2 c2 ⟨a, b, (p, z)⟩ :=
 ⟨ownsRow_setCell_below h.o1 (by simp) _, ownsRow_setCell_below h.o2 (by simp) _, h.ne, h.box.set1 z, h.below.setCell (p := ⟨w.heap.size, 1, none⟩) (Nat.le_refl _) _⟩
theorem take_more {xs : List Sp} {k : Nat} {x : Sp} (h : xs[k]? = some x) : xs.take (k + 1) = xs.take k ++ [x] := by
 obtain ⟨hl, e⟩ := List.getElem?_eq_some_iff.1 h; rw [List.take_succ_eq_append_getElem hl, e]
theorem lay1 {a b : List Sp} {t x : Sp} (h : x.2 < t.1) : lay ⟨a, b, t⟩ x = ⟨a ++ [x], b, t⟩ := by simp [lay, h]
theorem lay2 {a b : List Sp} {t x : Sp} (h1 : ¬ x.2 < t.1) (h2 : t.2 < x.1) : lay ⟨a, b, t⟩ x = ⟨a, b ++ [x], t⟩ := by simp [lay, h1, h2]
theorem lay3 {a b : List Sp} {t x : Sp} (h1 : ¬ x.2 < t.1) (h2 : ¬ t.2 < x.1) : lay ⟨a, b, t⟩ x = ⟨a, b, (min x.1 t.1, max x.2 t.2)⟩ := by simp [lay, h1, h2]
set_option maxRecDepth 100000 in
set_option maxHeartbeats 4000000 in
theorem into (A : Option Addr) (n c : Nat) (xs : List Sp) (s : Sp) (w : World) (hS : Spans w w.heap.size A n xs) (hn : n ≤ 2000000) :
  Calls Tryz.prog 60 #[.slice A n c, ag s] w (Gives0 w (intoL xs s)) := by
 have HS := Lib.hid hS; clear hS; obtain ⟨s1, s2⟩ := s; go_enter Tryz.func60, Tryz.ntmps60; go_wp2
 go_loopw [5, 6, 7] (fun sa sb i w' => ∃ (k : Nat) (A1 : Option Addr) (n1 c1 : Nat) (A2 : Option Addr) (n2 c2 : Nat), k ≤ n ∧ sa = .slice A1 n1 c1 ∧ sb = .slice A2 n2 c2 ∧ i = .int .i64 (k : Int) ∧ Hid (IntoI w w' A1 n1 c1 A2 n2 c2 (lays (s1, s2) (xs.take k)))) (fun _ _ i _ => n - (intOf i).toNat)
 case atStart => exact ⟨0, none, 0, 0, none, 0, 0, Nat.zero_le _, rfl, rfl, rfl, Lib.hid ⟨Own.nil, Own.nil, .inl rfl, Bx.new w s1 s2, (Below.refl _ _).alloc (Nat.le_refl _) _⟩⟩
 case round =>
  obtain ⟨k, A1, n1, c1, A2, n2, c2, hk, rfl, rfl, rfl, HR⟩ := hrel
  have hln : n1 + n2 ≤ k := by
   have h1 := HR.out.o1.len; have h2 := HR.out.o2.len; have h3 := lays_len (s1, s2) (xs.take k); have h4 : (xs.take k).length ≤ k := by rw [List.length_take]; omega
   omega
  by_cases hlt : k < n
  ·obtain ⟨ad, x, y, rfl, hb, hx, hc, hc'⟩ := (HS.out.below HR.out.below (Nat.le_refl _)).get hlt; have htk := take_more hx; obtain ⟨st, hst⟩ : ∃ st, lays (s1, s2) (xs.take k) = st := ⟨_, rfl⟩; have hnx : lays (s1, s2) (xs.take (k + 1)) = lay st (x, y) := by rw [htk, lays_snoc, hst]
   rw [hst] at HR; have HN := Lib.hid hnx; clear hnx htk hst hx; obtain ⟨a, b, p, q⟩ := st; have b0 := HR.out.box.c0; have b1 := HR.out.box.c1; have bl := HR.out.box.lt; have adl : ad.block < wr.heap.size := Nat.lt_of_lt_of_le hb HR.out.below.size; have hlt2 : (k : Int) < (n : Int) := by omega
   simp only at b0 b1; by_cases h1 : y < p
   ·have t1 : decide (y < p) = true := by simpa using h1
    have H1 := Lib.hid h1; clear h1; go_wp2
    go_quiet (fail)
    obtain ⟨W1, hW1⟩ : ∃ W, World.drewN wr nq = W := ⟨_, rfl⟩; have HR1 := Lib.hid (show IntoI w W1 A1 n1 c1 A2 n2 c2 ⟨a, b, (p, q)⟩ by rw [← hW1]; exact HR.out.drewN nq); have hc1 : W1.cell? (ad.add (k * 2)) = some (.int .i64 x) := by rw [← hW1]; exact hc
    have hd1 : W1.cell? ⟨(ad.add (k * 2)).block, (ad.add (k * 2)).off + 1, none⟩ = some (.int .i64 y) := by rw [← hW1]; exact hc'
    have b01 := HR1.out.box.c0; have b11 := HR1.out.box.c1; have f01 := HR1.out.box.f 0; have f11 := HR1.out.box.f 1; rw [hW1]; simp only at b01 b11
    go_wp2_with (at_builtin; refine wpList_one _ rfl (.tmp 22) (.tmp 27) rfl (w.heap.size + 1) A1 n1 c1 a rfl (HR1.out.o1.alloc _) ⟨W1.heap.size, 0, none⟩ x y rfl (new_cells _ _ _) (by omega) (by have := HR1.out.below.size; simp; omega) ?_; intro g c' w3 hO hg hl; have HR9 := Lib.hid (HR1.out.more1 hO hg hl); clear hO hg hl)
    go_roundw
    case rel => exact ⟨k + 1, _, _, _, _, _, _, by omega, rfl, rfl, by go_num, Lib.hid (by rw [HN.out, lay1 (by have := H1.out; simpa using this)]; exact HR9.out)⟩
    case measure => simp [intOf]; omega
   ·have t1 : decide (y < p) = false := by simpa using h1
    by_cases h2 : q < x
    ·have t2 : decide (q < x) = true := by simpa using h2
     have H1 := Lib.hid h1; have H2 := Lib.hid h2; clear h1 h2; go_wp2
     go_quiet (fail)
     obtain ⟨W1, hW1⟩ : ∃ W, World.drewN wr nq = W := ⟨_, rfl⟩; have HR1 := Lib.hid (show IntoI w W1 A1 n1 c1 A2 n2 c2 ⟨a, b, (p, q)⟩ by rw [← hW1]; exact HR.out.drewN nq); have hc1 : W1.cell? (ad.add (k * 2)) = some (.int .i64 x) := by rw [← hW1]; exact hc
     have hd1 : W1.cell? ⟨(ad.add (k * 2)).block, (ad.add (k * 2)).off + 1, none⟩ = some (.int .i64 y) := by rw [← hW1]; exact hc'
     have b01 := HR1.out.box.c0; have b11 := HR1.out.box.c1; have f01 := HR1.out.box.f 0; have f11 := HR1.out.box.f 1; rw [hW1]; simp only at b01 b11; go_wp2
     go_quiet (fail)
     obtain ⟨W2, hW2⟩ : ∃ W, World.drewN W1 nq = W := ⟨_, rfl⟩; have HR2 := Lib.hid (show IntoI w W2 A1 n1 c1 A2 n2 c2 ⟨a, b, (p, q)⟩ by rw [← hW2]; exact HR1.out.drewN nq); have hc2 : W2.cell? (ad.add (k * 2)) = some (.int .i64 x) := by rw [← hW2]; exact hc1
     have hd2 : W2.cell? ⟨(ad.add (k * 2)).block, (ad.add (k * 2)).off + 1, none⟩ = some (.int .i64 y) := by rw [← hW2]; exact hd1
     have b02 := HR2.out.box.c0; have b12 := HR2.out.box.c1; have f02 := HR2.out.box.f 0; have f12 := HR2.out.box.f 1; rw [hW2]; simp only at b02 b12
     go_wp2_with (at_builtin; refine wpList_one _ rfl (.tmp 37) (.tmp 42) rfl (w.heap.size + 1) A2 n2 c2 b rfl (HR2.out.o2.alloc _) ⟨W2.heap.size, 0, none⟩ x y rfl (new_cells _ _ _) (by omega) (by have := HR2.out.below.size; simp; omega) ?_; intro g c' w3 hO hg hl; have HR9 := Lib.hid (HR2.out.more2 hO hg hl); clear hO hg hl)
     go_roundw
     case rel => exact ⟨k + 1, _, _, _, _, _, _, by omega, rfl, rfl, by go_num, Lib.hid (by rw [HN.out, lay2 (by have := H1.out; simpa using this) (by have := H2.out; simpa using this)]; exact HR9.out)⟩
     case measure => simp [intOf]; omega
    ·have t2 : decide (q < x) = false := by simpa using h2
     by_cases h3 : x < p
     ·by_cases h4 : q < y
      ·have t3 : decide (x < p) = true := by simpa using h3
       have t4 : decide (q < y) = true := by simpa using h4
       have HL := Lib.hid (show lay ⟨a, b, (p, q)⟩ (x, y) = ⟨a, b, (x, y)⟩ by rw [lay3 (by simpa using h1) (by simpa using h2)]; simp only; rw [show min x p = x by omega, show max y q = y by omega]); clear h1 h2 h3 h4; go_wp2
       go_quiet (fail)
       obtain ⟨W1, hW1⟩ : ∃ W, World.drewN wr nq = W := ⟨_, rfl⟩; have HR1 := Lib.hid (show IntoI w W1 A1 n1 c1 A2 n2 c2 ⟨a, b, (p, q)⟩ by rw [← hW1]; exact HR.out.drewN nq); have hc1 : W1.cell? (ad.add (k * 2)) = some (.int .i64 x) := by rw [← hW1]; exact hc
       have hd1 : W1.cell? ⟨(ad.add (k * 2)).block, (ad.add (k * 2)).off + 1, none⟩ = some (.int .i64 y) := by rw [← hW1]; exact hc'
       have b01 := HR1.out.box.c0; have b11 := HR1.out.box.c1; have f01 := HR1.out.box.f 0; have f11 := HR1.out.box.f 1; rw [hW1]; simp only at b01 b11; go_wp2
       go_quiet (fail)
       obtain ⟨W2, hW2⟩ : ∃ W, World.drewN W1 nq = W := ⟨_, rfl⟩; have HR2 := Lib.hid (show IntoI w W2 A1 n1 c1 A2 n2 c2 ⟨a, b, (p, q)⟩ by rw [← hW2]; exact HR1.out.drewN nq); have hc2 : W2.cell? (ad.add (k * 2)) = some (.int .i64 x) := by rw [← hW2]; exact hc1
       have hd2 : W2.cell? ⟨(ad.add (k * 2)).block, (ad.add (k * 2)).off + 1, none⟩ = some (.int .i64 y) := by rw [← hW2]; exact hd1
       have b02 := HR2.out.box.c0; have b12 := HR2.out.box.c1; have f02 := HR2.out.box.f 0; have f12 := HR2.out.box.f 1; rw [hW2]; simp only at b02 b12; go_wp2
       go_quiet (fail)
       obtain ⟨W3, hW3⟩ : ∃ W, World.drewN W2 nq = W := ⟨_, rfl⟩; have HR3 := Lib.hid (show IntoI w W3 A1 n1 c1 A2 n2 c2 ⟨a, b, (p, q)⟩ by rw [← hW3]; exact HR2.out.drewN nq); have hc3 : W3.cell? (ad.add (k * 2)) = some (.int .i64 x) := by rw [← hW3]; exact hc2
       have hd3 : W3.cell? ⟨(ad.add (k * 2)).block, (ad.add (k * 2)).off + 1, none⟩ = some (.int .i64 y) := by rw [← hW3]; exact hd2
       have b03 := HR3.out.box.c0; have b13 := HR3.out.box.c1; have f03 := HR3.out.box.f 0; have f13 := HR3.out.box.f 1; rw [hW3]; simp only at b03 b13; go_wp2; have HT := Lib.hid (HR3.out.turn0 x); have kc : ∀ u : Addr, u.block ≠ w.heap.size → (W3.setCell ⟨w.heap.size, 0, none⟩ (.int .i64 x)).cell? u = W3.cell? u := fun u hu => World.cell?_setCell_other _ _ _ _ (fun e => hu (by rw [← e]))
       obtain ⟨V, hV⟩ : ∃ V, W3.setCell ⟨w.heap.size, 0, none⟩ (.int .i64 x) = V := ⟨_, rfl⟩; rw [hV] at HT kc; have hcV : V.cell? (ad.add (k * 2)) = some (.int .i64 x) := (kc _ (by rw [add_block]; omega)).trans hc3; have hdV : V.cell? ⟨(ad.add (k * 2)).block, (ad.add (k * 2)).off + 1, none⟩ = some (.int .i64 y) := (kc _ (by simp only [add_block]; omega)).trans hd3; have b0V := HT.out.box.c0; have b1V := HT.out.box.c1; simp only at b0V b1V; rw [hV]; clear kc hV
       go_quiet (fail)
       obtain ⟨W4, hW4⟩ : ∃ W, World.drewN V nq = W := ⟨_, rfl⟩; have HR4 := Lib.hid (show IntoI w W4 A1 n1 c1 A2 n2 c2 ⟨a, b, (x, q)⟩ by rw [← hW4]; exact HT.out.drewN nq); have hc4 : W4.cell? (ad.add (k * 2)) = some (.int .i64 x) := by rw [← hW4]; exact hcV
       have hd4 : W4.cell? ⟨(ad.add (k * 2)).block, (ad.add (k * 2)).off + 1, none⟩ = some (.int .i64 y) := by rw [← hW4]; exact hdV
       have b04 := HR4.out.box.c0; have b14 := HR4.out.box.c1; have f04 := HR4.out.box.f 0; have f14 := HR4.out.box.f 1; rw [hW4]; simp only at b04 b14; go_wp2; go_roundw
       case rel => exact ⟨k + 1, _, _, _, _, _, _, by omega, rfl, rfl, by go_num, Lib.hid (by rw [HN.out, HL.out]; exact (Lib.hid (HR4.out.turn1 y)).out)⟩
       case measure => simp [intOf]; omega
      ·have t3 : decide (x < p) = true := by simpa using h3
       have t4 : decide (q < y) = false := by simpa using h4
       have HL := Lib.hid (show lay ⟨a, b, (p, q)⟩ (x, y) = ⟨a, b, (x, q)⟩ by rw [lay3 (by simpa using h1) (by simpa using h2)]; simp only; rw [show min x p = x by omega, show max y q = q by omega]); clear h1 h2 h3 h4; go_wp2
       go_quiet (fail)
       obtain ⟨W1, hW1⟩ : ∃ W, World.drewN wr nq = W := ⟨_, rfl⟩; have HR1 := Lib.hid (show IntoI w W1 A1 n1 c1 A2 n2 c2 ⟨a, b, (p, q)⟩ by rw [← hW1]; exact HR.out.drewN nq); have hc1 : W1.cell? (ad.add (k * 2)) = some (.int .i64 x) := by rw [← hW1]; exact hc
       have hd1 : W1.cell? ⟨(ad.add (k * 2)).block, (ad.add (k * 2)).off + 1, none⟩ = some (.int .i64 y) := by rw [← hW1]; exact hc'
       have b01 := HR1.out.box.c0; have b11 := HR1.out.box.c1; have f01 := HR1.out.box.f 0; have f11 := HR1.out.box.f 1; rw [hW1]; simp only at b01 b11; go_wp2
       go_quiet (fail)
       obtain ⟨W2, hW2⟩ : ∃ W, World.drewN W1 nq = W := ⟨_, rfl⟩; have HR2 := Lib.hid (show IntoI w W2 A1 n1 c1 A2 n2 c2 ⟨a, b, (p, q)⟩ by rw [← hW2]; exact HR1.out.drewN nq); have hc2 : W2.cell? (ad.add (k * 2)) = some (.int .i64 x) := by rw [← hW2]; exact hc1
       have hd2 : W2.cell? ⟨(ad.add (k * 2)).block, (ad.add (k * 2)).off + 1, none⟩ = some (.int .i64 y) := by rw [← hW2]; exact hd1
       have b02 := HR2.out.box.c0; have b12 := HR2.out.box.c1; have f02 := HR2.out.box.f 0; have f12 := HR2.out.box.f 1; rw [hW2]; simp only at b02 b12; go_wp2
       go_quiet (fail)
       obtain ⟨W3, hW3⟩ : ∃ W, World.drewN W2 nq = W := ⟨_, rfl⟩; have HR3 := Lib.hid (show IntoI w W3 A1 n1 c1 A2 n2 c2 ⟨a, b, (p, q)⟩ by rw [← hW3]; exact HR2.out.drewN nq); have hc3 : W3.cell? (ad.add (k * 2)) = some (.int .i64 x) := by rw [← hW3]; exact hc2
       have hd3 : W3.cell? ⟨(ad.add (k * 2)).block, (ad.add (k * 2)).off + 1, none⟩ = some (.int .i64 y) := by rw [← hW3]; exact hd2
       have b03 := HR3.out.box.c0; have b13 := HR3.out.box.c1; have f03 := HR3.out.box.f 0; have f13 := HR3.out.box.f 1; rw [hW3]; simp only at b03 b13; go_wp2; have HT := Lib.hid (HR3.out.turn0 x); have kc : ∀ u : Addr, u.block ≠ w.heap.size → (W3.setCell ⟨w.heap.size, 0, none⟩ (.int .i64 x)).cell? u = W3.cell? u := fun u hu => World.cell?_setCell_other _ _ _ _ (fun e => hu (by rw [← e]))
       obtain ⟨V, hV⟩ : ∃ V, W3.setCell ⟨w.heap.size, 0, none⟩ (.int .i64 x) = V := ⟨_, rfl⟩; rw [hV] at HT kc; have hcV : V.cell? (ad.add (k * 2)) = some (.int .i64 x) := (kc _ (by rw [add_block]; omega)).trans hc3; have hdV : V.cell? ⟨(ad.add (k * 2)).block, (ad.add (k * 2)).off + 1, none⟩ = some (.int .i64 y) := (kc _ (by simp only [add_block]; omega)).trans hd3; have b0V := HT.out.box.c0; have b1V := HT.out.box.c1; simp only at b0V b1V; rw [hV]; clear kc hV
       go_quiet (fail)
       obtain ⟨W4, hW4⟩ : ∃ W, World.drewN V nq = W := ⟨_, rfl⟩; have HR4 := Lib.hid (show IntoI w W4 A1 n1 c1 A2 n2 c2 ⟨a, b, (x, q)⟩ by rw [← hW4]; exact HT.out.drewN nq); have hc4 : W4.cell? (ad.add (k * 2)) = some (.int .i64 x) := by rw [← hW4]; exact hcV
       have hd4 : W4.cell? ⟨(ad.add (k * 2)).block, (ad.add (k * 2)).off + 1, none⟩ = some (.int .i64 y) := by rw [← hW4]; exact hdV
       have b04 := HR4.out.box.c0; have b14 := HR4.out.box.c1; have f04 := HR4.out.box.f 0; have f14 := HR4.out.box.f 1; rw [hW4]; simp only at b04 b14; go_wp2; go_roundw
       case rel => exact ⟨k + 1, _, _, _, _, _, _, by omega, rfl, rfl, by go_num, Lib.hid (by rw [HN.out, HL.out]; exact HR4.out)⟩
       case measure => simp [intOf]; omega
     ·by_cases h4 : q < y
      ·have t3 : decide (x < p) = false := by simpa using h3
       have t4 : decide (q < y) = true := by simpa using h4
       have HL := Lib.hid (show lay ⟨a, b, (p, q)⟩ (x, y) = ⟨a, b, (p, y)⟩ by rw [lay3 (by simpa using h1) (by simpa using h2)]; simp only; rw [show min x p = p by omega, show max y q = y by omega]); clear h1 h2 h3 h4; go_wp2
       go_quiet (fail)
       obtain ⟨W1, hW1⟩ : ∃ W, World.drewN wr nq = W := ⟨_, rfl⟩; have HR1 := Lib.hid (show IntoI w W1 A1 n1 c1 A2 n2 c2 ⟨a, b, (p, q)⟩ by rw [← hW1]; exact HR.out.drewN nq); have hc1 : W1.cell? (ad.add (k * 2)) = some (.int .i64 x) := by rw [← hW1]; exact hc
       have hd1 : W1.cell? ⟨(ad.add (k * 2)).block, (ad.add (k * 2)).off + 1, none⟩ = some (.int .i64 y) := by rw [← hW1]; exact hc'
       have b01 := HR1.out.box.c0; have b11 := HR1.out.box.c1; have f01 := HR1.out.box.f 0; have f11 := HR1.out.box.f 1; rw [hW1]; simp only at b01 b11; go_wp2
       go_quiet (fail)
       obtain ⟨W2, hW2⟩ : ∃ W, World.drewN W1 nq = W := ⟨_, rfl⟩; have HR2 := Lib.hid (show IntoI w W2 A1 n1 c1 A2 n2 c2 ⟨a, b, (p, q)⟩ by rw [← hW2]; exact HR1.out.drewN nq); have hc2 : W2.cell? (ad.add (k * 2)) = some (.int .i64 x) := by rw [← hW2]; exact hc1
       have hd2 : W2.cell? ⟨(ad.add (k * 2)).block, (ad.add (k * 2)).off + 1, none⟩ = some (.int .i64 y) := by rw [← hW2]; exact hd1
       have b02 := HR2.out.box.c0; have b12 := HR2.out.box.c1; have f02 := HR2.out.box.f 0; have f12 := HR2.out.box.f 1; rw [hW2]; simp only at b02 b12; go_wp2
       go_quiet (fail)
       obtain ⟨W3, hW3⟩ : ∃ W, World.drewN W2 nq = W := ⟨_, rfl⟩; have HR3 := Lib.hid (show IntoI w W3 A1 n1 c1 A2 n2 c2 ⟨a, b, (p, q)⟩ by rw [← hW3]; exact HR2.out.drewN nq); have hc3 : W3.cell? (ad.add (k * 2)) = some (.int .i64 x) := by rw [← hW3]; exact hc2
       have hd3 : W3.cell? ⟨(ad.add (k * 2)).block, (ad.add (k * 2)).off + 1, none⟩ = some (.int .i64 y) := by rw [← hW3]; exact hd2
       have b03 := HR3.out.box.c0; have b13 := HR3.out.box.c1; have f03 := HR3.out.box.f 0; have f13 := HR3.out.box.f 1; rw [hW3]; simp only at b03 b13; go_wp2
       go_quiet (fail)
       obtain ⟨W4, hW4⟩ : ∃ W, World.drewN W3 nq = W := ⟨_, rfl⟩; have HR4 := Lib.hid (show IntoI w W4 A1 n1 c1 A2 n2 c2 ⟨a, b, (p, q)⟩ by rw [← hW4]; exact HR3.out.drewN nq); have hc4 : W4.cell? (ad.add (k * 2)) = some (.int .i64 x) := by rw [← hW4]; exact hc3
       have hd4 : W4.cell? ⟨(ad.add (k * 2)).block, (ad.add (k * 2)).off + 1, none⟩ = some (.int .i64 y) := by rw [← hW4]; exact hd3
       have b04 := HR4.out.box.c0; have b14 := HR4.out.box.c1; have f04 := HR4.out.box.f 0; have f14 := HR4.out.box.f 1; rw [hW4]; simp only at b04 b14; go_wp2; go_roundw
       case rel => exact ⟨k + 1, _, _, _, _, _, _, by omega, rfl, rfl, by go_num, Lib.hid (by rw [HN.out, HL.out]; exact (Lib.hid (HR4.out.turn1 y)).out)⟩
       case measure => simp [intOf]; omega
      ·have t3 : decide (x < p) = false := by simpa using h3
       have t4 : decide (q < y) = false := by simpa using h4
       have HL := Lib.hid (show lay ⟨a, b, (p, q)⟩ (x, y) = ⟨a, b, (p, q)⟩ by rw [lay3 (by simpa using h1) (by simpa using h2)]; simp only; rw [show min x p = p by omega, show max y q = q by omega]); clear h1 h2 h3 h4; go_wp2
       go_quiet (fail)
       obtain ⟨W1, hW1⟩ : ∃ W, World.drewN wr nq = W := ⟨_, rfl⟩; have HR1 := Lib.hid (show IntoI w W1 A1 n1 c1 A2 n2 c2 ⟨a, b, (p, q)⟩ by rw [← hW1]; exact HR.out.drewN nq); have hc1 : W1.cell? (ad.add (k * 2)) = some (.int .i64 x) := by rw [← hW1]; exact hc
       have hd1 : W1.cell? ⟨(ad.add (k * 2)).block, (ad.add (k * 2)).off + 1, none⟩ = some (.int .i64 y) := by rw [← hW1]; exact hc'
       have b01 := HR1.out.box.c0; have b11 := HR1.out.box.c1; have f01 := HR1.out.box.f 0; have f11 := HR1.out.box.f 1; rw [hW1]; simp only at b01 b11; go_wp2
       go_quiet (fail)
       obtain ⟨W2, hW2⟩ : ∃ W, World.drewN W1 nq = W := ⟨_, rfl⟩; have HR2 := Lib.hid (show IntoI w W2 A1 n1 c1 A2 n2 c2 ⟨a, b, (p, q)⟩ by rw [← hW2]; exact HR1.out.drewN nq); have hc2 : W2.cell? (ad.add (k * 2)) = some (.int .i64 x) := by rw [← hW2]; exact hc1
       have hd2 : W2.cell? ⟨(ad.add (k * 2)).block, (ad.add (k * 2)).off + 1, none⟩ = some (.int .i64 y) := by rw [← hW2]; exact hd1
       have b02 := HR2.out.box.c0; have b12 := HR2.out.box.c1; have f02 := HR2.out.box.f 0; have f12 := HR2.out.box.f 1; rw [hW2]; simp only at b02 b12; go_wp2
       go_quiet (fail)
       obtain ⟨W3, hW3⟩ : ∃ W, World.drewN W2 nq = W := ⟨_, rfl⟩; have HR3 := Lib.hid (show IntoI w W3 A1 n1 c1 A2 n2 c2 ⟨a, b, (p, q)⟩ by rw [← hW3]; exact HR2.out.drewN nq); have hc3 : W3.cell? (ad.add (k * 2)) = some (.int .i64 x) := by rw [← hW3]; exact hc2
       have hd3 : W3.cell? ⟨(ad.add (k * 2)).block, (ad.add (k * 2)).off + 1, none⟩ = some (.int .i64 y) := by rw [← hW3]; exact hd2
       have b03 := HR3.out.box.c0; have b13 := HR3.out.box.c1; have f03 := HR3.out.box.f 0; have f13 := HR3.out.box.f 1; rw [hW3]; simp only at b03 b13; go_wp2
       go_quiet (fail)
       obtain ⟨W4, hW4⟩ : ∃ W, World.drewN W3 nq = W := ⟨_, rfl⟩; have HR4 := Lib.hid (show IntoI w W4 A1 n1 c1 A2 n2 c2 ⟨a, b, (p, q)⟩ by rw [← hW4]; exact HR3.out.drewN nq); have hc4 : W4.cell? (ad.add (k * 2)) = some (.int .i64 x) := by rw [← hW4]; exact hc3
       have hd4 : W4.cell? ⟨(ad.add (k * 2)).block, (ad.add (k * 2)).off + 1, none⟩ = some (.int .i64 y) := by rw [← hW4]; exact hd3
       have b04 := HR4.out.box.c0; have b14 := HR4.out.box.c1; have f04 := HR4.out.box.f 0; have f14 := HR4.out.box.f 1; rw [hW4]; simp only at b04 b14; go_wp2; go_roundw
       case rel => exact ⟨k + 1, _, _, _, _, _, _, by omega, rfl, rfl, by go_num, Lib.hid (by rw [HN.out, HL.out]; exact HR4.out)⟩
       case measure => simp [intOf]; omega
  ·obtain rfl : n = k := by omega
   have he : xs.take n = xs := List.take_of_length_le (by rw [HS.out.1]; exact Nat.le_refl _); rw [he] at HR; obtain ⟨st, hst⟩ : ∃ st, lays (s1, s2) xs = st := ⟨_, rfl⟩; have hio : intoL xs (s1, s2) = st.out := by rw [intoL, hst]
   rw [hst] at HR; clear hst he; obtain ⟨a, b, p, q⟩ := st; have HIO := Lib.hid (show intoL xs (s1, s2) = a ++ [(p, q)] ++ b from hio); clear hio; have b0 := HR.out.box.c0; have b1 := HR.out.box.c1; simp only at b0 b1; have hm2 := HR.out.o2.lt
   go_wp2_with (first
    | (at_builtin; (with_reducible refine wpList_one _ rfl (.tmp 72) (.tmp 74) rfl (w.heap.size + 1) A1 n1 c1 a rfl (HR.out.o1.alloc _) ⟨wr.heap.size, 0, none⟩ p q rfl (new_cells _ _ _) (by omega) (by have := HR.out.below.size; simp; omega) ?_); intro g c' w3 hO hg hl; have HR9 := Lib.hid (HR.out.more1 hO hg hl); clear hO hg hl)
    | (at_builtin; refine wpList_app _ rfl (.tmp 75) (.tmp 76) rfl (w.heap.size + 1) (some ⟨g, 0, none⟩) (n1 + 1) c' (a ++ [(p, q)]) rfl HR9.out.o1 w3.heap.size A2 n2 c2 b rfl HR9.out.o2.spans.1 HR9.out.o2.nil_ (by omega) (by have := HR9.out.box.lt; omega) ?_; intro A' c3 w4 hO4 hg4; have HO4 := Lib.hid hO4; have HG4 := Lib.hid hg4; clear hO4 hg4))
   go_ret; exact ⟨A', _, c3, rfl, by rw [HIO.out]; exact HO4.out.spans.1, HO4.out.spans.2, HR9.out.below.grown HG4.out HR9.out.below.size (fun j hj => by have := (HR9.out.o1.lt _ hj).1; omega)⟩
end Spn
end Go.Proofs.YtbjnjeidgdmdiaaGreat
namespace Go.Proofs.YtbjnjeidgdmdiaaGreat
open Go.RowKit Sp
namespace Spn
set_option linter.unusedVariables false
structure RJ (w w' : World) (A : Option Addr) (n c : Nat) (xs : List Sp) (zs : List Sp) : Prop where
 join : Joined xs zs
 len : zs.length ≤ xs.length
 spans : Spans w' w'.heap.size A n zs
 cap : n ≤ c
 below : Below w.heap.size w w'
theorem joined_not {xs zs : List Sp} {x : Sp} (h : Joined xs zs) (hx : has x = false) : Joined (xs ++ [x]) zs := by
 refine ⟨h.apart, fun d => ?_⟩; rw [h.same d, hit_append, hit_cons]; constructor
 ·exact .inl
 ·rintro (hh | hh | hh)
  ·exact hh
  ·rw [inn_has hh] at hx; cases hx
  ·exact absurd hh (hit_nil d)
set_option maxRecDepth 100000 in
set_option maxHeartbeats 2000000 in
theorem rjoin (A : Option Addr) (n c : Nat) (xs : List Sp) (w : World) (hS : Spans w w.heap.size A n xs) (hn : n ≤ 2000000) :
  Calls Tryz.prog 34 #[.slice A n c] w (JoinsR w xs) := by
 have HS := Lib.hid hS; clear hS; go_enter Tryz.func34, Tryz.ntmps34; go_wp2
 go_loopw [3, 4] (fun so i w' => ∃ (k : Nat) (A1 : Option Addr) (n1 c1 : Nat) (zs : List Sp), k ≤ n ∧ so = .slice A1 n1 c1 ∧ i = .int .i64 (k : Int) ∧ Hid (RJ w w' A1 n1 c1 (xs.take k) zs)) (fun _ i _ => n - (intOf i).toNat)
 case atStart => exact ⟨0, none, 0, 0, [], Nat.zero_le _, rfl, rfl, Lib.hid ⟨⟨trivial, fun d => by simp⟩, by simp, Spans.nil, Nat.le_refl _, Below.refl _ _⟩⟩
 case round =>
  obtain ⟨k, A1, n1, c1, zs, hk, rfl, rfl, HR⟩ := hrel; by_cases hlt : k < n
  ·obtain ⟨ad, x, y, rfl, hb, hx, hc, hc'⟩ := (HS.out.below HR.out.below (Nat.le_refl _)).get hlt; have htk := take_more hx; have hlk : (xs.take k).length = k := by rw [List.length_take, HS.out.1]; omega
   have hn1 : n1 ≤ 2000000 := by have h1 := HR.out.spans.1; have h2 := HR.out.len; omega
   have HTK := Lib.hid htk; have HLK := Lib.hid hlk; have C := fun w => Lib.hid (rmany (x, y) w)
   have adl : ad.block < wr.heap.size := Nat.lt_of_lt_of_le hb HR.out.below.size; clear htk hx hlk; cases hh : Sp.has (x, y)
   ·have tm : decide (0 < mn (x, y)) = false := hh; have HH := Lib.hid hh; clear hh; generalize mn (x, y) = m at tm C
    go_wp2_with fail
    refine (C _).out.mono ?_; rintro e w1 ⟨rfl, hb1⟩; have HB := Lib.hid hb1; clear hb1; go_wp2; go_roundw
    case rel => exact ⟨k + 1, _, _, _, zs, by omega, rfl, by go_num, Lib.hid (by rw [HTK.out]; exact ⟨joined_not HR.out.join HH.out, by have := HR.out.len; simp at this ⊢; omega, (HR.out.spans.below HB.out (Nat.le_refl _)).wide HB.out.size, HR.out.cap, HR.out.below.trans (HB.out.mono HR.out.below.size)⟩)⟩
    case measure => simp [intOf]; omega
   ·have tm : decide (0 < mn (x, y)) = true := hh; have HH := Lib.hid hh; clear hh; generalize mn (x, y) = m at tm C
    go_wp2_with fail
    refine (C _).out.mono ?_; rintro e w1 ⟨rfl, hb1⟩; have k0 : w1.cell? (ad.add (k * 2)) = some (.int .i64 x) := (hb1.cell (p := ad.add (k * 2)) (by rw [add_block]; exact adl)).trans hc; have k1 : w1.cell? ⟨(ad.add (k * 2)).block, (ad.add (k * 2)).off + 1, none⟩ = some (.int .i64 y) := (hb1.cell (p := ⟨(ad.add (k * 2)).block, (ad.add (k * 2)).off + 1, none⟩) (by simp only [add_block]; exact adl)).trans hc'; have HS1 := Lib.hid ((HR.out.spans.below hb1 (Nat.le_refl _)).wide hb1.size); have HB := Lib.hid (HR.out.below.trans (hb1.mono HR.out.below.size)); clear hb1 hc hc' C
    go_wp2_with fail
    refine (into A1 n1 c1 zs (x, y) w1 HS1.out hn1).mono ?_; rintro e w2 ⟨A2, n2, c2, rfl, hS2, hc2, hb2⟩; have HS2 := Lib.hid hS2; have HB2 := Lib.hid (HB.out.trans (hb2.mono HB.out.size)); clear hS2 hb2; go_wp2; go_roundw
    case rel => exact ⟨k + 1, _, _, _, intoL zs (x, y), by omega, rfl, by go_num, Lib.hid (by rw [HTK.out]; exact ⟨into_joined HR.out.join HH.out, by have h1 := HR.out.len; have h2 := into_len zs (x, y); simp at h1 ⊢; omega, HS2.out, hc2, HB2.out⟩)⟩
    case measure => simp [intOf]; omega
  ·obtain rfl : n = k := by omega
   have he : xs.take n = xs := List.take_of_length_le (by rw [HS.out.1]; exact Nat.le_refl _); rw [he] at HR; clear he; go_wp2; go_ret; exact ⟨zs, HR.out.join, HR.out.len, A1, n1, c1, rfl, HR.out.spans, HR.out.cap, HR.out.below⟩
end Spn
end Go.Proofs.YtbjnjeidgdmdiaaGreat
