/-
  The document's with: a step, from a day on of a value, if it isn't so already. Conditions: the step's rows are the caller's own.
-/
import Derived.Test.YtngpcabengmoiaaQ
import Derived.Test.YtngpcabengmoiaaPieces
namespace Go.Proofs.Ytngpcabengmoiaa
open Go.RowKit St
namespace Stp
set_option linter.unusedVariables false

/-- What a call gives that appends to a step of the caller's own. -/
def PutsS (base : Nat) (w : World) (ps : List Pr) (e : Ending) (w' : World) : Prop := ∃ A c V d, e = .returned (sg A ps.length c V ps.length d) ∧ OwnS w' base A ps.length c V ps.length d (ps.map (·.1)) (ps.map (·.2)) ∧ Below base w w'

theorem lst_get {ps : List Pr} {n : Nat} (hl : ps.length = n) : (n = 0 ∧ lst 0 ps = 0) ∨ ∃ j, n = j + 1 ∧ (ps.map (·.2))[j]? = some (lst 0 ps) := by
  cases n with
  | zero => left; rw [List.eq_nil_of_length_eq_zero hl]; exact ⟨rfl, rfl⟩
  | succ j =>
    right
    refine ⟨j, rfl, ?_⟩
    rcases List.eq_nil_or_concat ps with rfl | ⟨qs, z, rfl⟩
    · simp at hl
    · rw [List.concat_eq_append] at hl ⊢
      simp at hl
      rw [lst_snoc, List.map_append, List.getElem?_append_right (by simp; omega)]
      simp [hl]

set_option maxRecDepth 100000 in
set_option maxHeartbeats 4000000 in
theorem with_yes (base : Nat) (A : Option Addr) (n c : Nat) (V : Option Addr) (d : Nat) (ps : List Pr) (x v : Int) (w : World) (hO : OwnS w base A n c V n d (ps.map (·.1)) (ps.map (·.2))) (hl : ps.length = n) (hbase : base ≤ w.heap.size) (hn : n ≤ 1000) (h1 : v ≠ lst 0 ps) (h2 : x ≤ 292194) :
    Calls Try.prog 22 #[sg A n c V n d, .int .i64 x, .int .i64 v] w (PutsS base w (ps ++ [(x, v)])) := by
  have tx : decide (292194 < x) = false := by rw [decide_eq_false_iff_not]; omega
  have ne0 : w.heap.size ≠ w.heap.size + 1 := by omega
  have HOw := Lib.hid hO
  have HL := Lib.hid hl
  have hlv : (n = 0 ∧ lst 0 ps = 0) ∨ ∃ j, n = j + 1 ∧ (ps.map (·.2))[j]? = some (lst 0 ps) := by
    exact lst_get hl
  obtain ⟨lv, hlvv⟩ : ∃ lv, lst 0 ps = lv := ⟨_, rfl⟩
  rw [hlvv] at hlv h1
  have tv : (v == lv) = false := by simpa using h1
  clear h1 hlvv hO hl
  rcases hlv with ⟨e0, e1⟩ | ⟨j, ej, hj⟩
  · have t0 : decide ((0 : Int) < (n : Int)) = false := by rw [decide_eq_false_iff_not]; omega
    have t02 : decide (0 < n) = false := by rw [decide_eq_false_iff_not]; omega
    subst e1
    clear e0
    go_enter Try.func22, Try.ntmps22
    go_wp2
    obtain ⟨W0, hW0⟩ : ∃ W0, (w.alloc (.cells #[.slice A n c, .slice V n d] 24)).alloc (.cells #[.slice none 0 0, .slice none 0 0] 24) = W0 := ⟨_, rfl⟩
    have HLW := Lib.hid (show w.heap.size ≤ W0.heap.size by rw [← hW0]; simp; omega)
    have hOa : OwnS W0 base A n c V n d (ps.map (·.1)) (ps.map (·.2)) := by rw [← hW0]; exact (HOw.out.alloc _).alloc _
    have HO0 := Lib.hid (show OwnS W0.drew base A n c V n d (ps.map (·.1)) (ps.map (·.2)) from ⟨hOa.a, hOa.v, hOa.dj⟩)
    have HX0 := Lib.hid (show Bx W0.drew w.heap.size 24 (.slice A n c) (.slice V n d) by rw [← hW0]; exact (Bx.new w _ _ _).alloc _)
    have HR0 := Lib.hid (show Bx W0.drew (w.heap.size + 1) 24 (.slice none 0 0) (.slice none 0 0) by rw [← hW0]; have h_ := Bx.new (w.alloc (.cells #[.slice A n c, .slice V n d] 24)) 24 (.slice none 0 0) (.slice none 0 0); rw [World.size_alloc] at h_; exact h_)
    have HB0 := Lib.hid (show Below base w W0.drew by rw [← hW0]; exact (((Below.refl base w).alloc hbase _).alloc (by simp; omega) _).drew)
    rw [hW0]
    clear hW0 hOa
    refine wp_region_held (S := fun w' => w'.cell? ⟨w.heap.size, 0, none⟩ = some (.slice A n c) ∧ w'.cell? ⟨w.heap.size, 1, none⟩ = some (.slice V n d)) (by kernel_rfl) ?_
    change wpAnyH _ _ _ _ _ _ _ _ (World.drew _)
    have HSU := Lib.hid (show W0.drew.cell? ⟨w.heap.size, 0, none⟩ = some (.slice A n c) ∧ W0.drew.cell? ⟨w.heap.size, 1, none⟩ = some (.slice V n d) from ⟨HX0.out.c0, HX0.out.c1⟩)
    refine wpAnyH_take (i := 0) (v := .pointer (some ⟨w.heap.size, 0, none⟩)) rfl (by kernel_rfl) (by kernel_rfl) (by kernel_rfl) (fun _ _ _ h => h) (Or.inl ⟨by rfl, by intro w_ hS_; go_simp⟩) HSU.out ?_
    refine wpAnyH_take (i := 1) (v := .slice A n c) rfl (by kernel_rfl) (by kernel_rfl) (by kernel_rfl) (fun _ _ _ h => h) (Or.inl ⟨by rfl, by intro w_ hS_; obtain ⟨z0, z1⟩ := hS_; go_simp⟩) HSU.out ?_
    refine wpAnyH_take (i := 2) (v := .int .i64 x) rfl (by kernel_rfl) (by kernel_rfl) (by kernel_rfl) (fun _ _ _ h => h) (Or.inl ⟨by rfl, by intro w_ hS_; go_simp⟩) HSU.out ?_
    refine wpAnyH_take (i := 5) (v := .pointer (some ⟨w.heap.size, 1, none⟩)) rfl (by kernel_rfl) (by kernel_rfl) (by kernel_rfl) (fun _ _ _ h => h) (Or.inl ⟨by rfl, by intro w_ hS_; go_simp⟩) HSU.out ?_
    refine wpAnyH_take (i := 6) (v := .slice V n d) rfl (by kernel_rfl) (by kernel_rfl) (by kernel_rfl) (fun _ _ _ h => h) (Or.inl ⟨by rfl, by intro w_ hS_; obtain ⟨z0, z1⟩ := hS_; go_simp⟩) HSU.out ?_
    refine wpAnyH_take (i := 7) (v := .int .i64 v) rfl (by kernel_rfl) (by kernel_rfl) (by kernel_rfl) (fun _ _ _ h => h) (Or.inl ⟨by rfl, by intro w_ hS_; go_simp⟩) HSU.out ?_
    try simp only [Act.put, List.setIfInBounds_toArray]
    refine wpAnyH_ready (rs := [3, 8]) (by kernel_rfl) (by simp) ?_
    refine (AllReadyH.cons rfl (fun K hK => ?_) (AllReadyH.cons rfl (fun K hK => ?_) AllReadyH.nil))
    · have HO1 := Lib.hid (HO0.out.alloc (.cells #[.int .i64 x] 3))
      have HX1 := Lib.hid (HX0.out.alloc (.cells #[.int .i64 x] 3))
      have HR1 := Lib.hid (HR0.out.alloc (.cells #[.int .i64 x] 3))
      have HI1 := Lib.hid (ints_new1' W0.drew x (W0.heap.size) (by first | rfl | simp))
      have HB1 := Lib.hid (HB0.out.alloc (Nat.le_trans hbase HB0.out.size) (.cells #[.int .i64 x] 3))
      go_simp
      refine hK.out _ _ ⟨HX1.out.c0, HX1.out.c1⟩ (fun _ => ?_)
      clear hK K
      refine wpAnyH_ready (rs := [4, 8]) (by kernel_rfl) (by simp) ?_
      refine (AllReadyH.cons rfl (fun K hK => ?_) (AllReadyH.cons rfl (fun K hK => ?_) AllReadyH.nil))
      · refine step_appW _ rfl (.tmp 29) (.tmp 31) rfl base A n c _ rfl HO1.out.a _ ⟨W0.heap.size, 0, none⟩ 1 1 [x] rfl HI1.out (by omega) (by omega) (Nat.le_trans hbase HB1.out.size) ?_
        intro A2 c2 W2 hO_ hg_ hw_
        have HO2 := Lib.hid (HO1.out.appA hO_ hg_ hw_)
        have HX2 := Lib.hid (show Bx W2 w.heap.size 24 (.slice A n c) (.slice V n d) from cells_grown HO1.out.a HX1.out (by decide) hg_)
        have HR2 := Lib.hid (show Bx W2 (w.heap.size + 1) 24 (.slice none 0 0) (.slice none 0 0) from cells_grown HO1.out.a HR1.out (by decide) hg_)
        have HB2 := Lib.hid (HB1.out.grown hg_ (Nat.le_trans hbase HB1.out.size) (fun r e => (HO1.out.a.lt r e).1))
        clear hO_ hg_ hw_
        try go_simp
        refine hK.out _ _ ⟨HX2.out.c0, HX2.out.c1⟩ (fun _ => ?_)
        clear hK K
        refine wpAnyH_ready (rs := [8]) (by kernel_rfl) (by simp) ?_
        refine (AllReadyH.cons rfl (fun K hK => ?_) AllReadyH.nil)
        · have HO3 := Lib.hid (HO2.out.alloc (.cells #[.int .i64 v] 3))
          have HX3 := Lib.hid (HX2.out.alloc (.cells #[.int .i64 v] 3))
          have HR3 := Lib.hid (HR2.out.alloc (.cells #[.int .i64 v] 3))
          have HI3 := Lib.hid (ints_new1' W2 v (W2.heap.size) (by first | rfl | simp))
          have HB3 := Lib.hid (HB2.out.alloc (Nat.le_trans hbase HB2.out.size) (.cells #[.int .i64 v] 3))
          go_simp
          refine hK.out _ _ ⟨HX3.out.c0, HX3.out.c1⟩ (fun _ => ?_)
          clear hK K
          refine wpAnyH_ready (rs := [9]) (by kernel_rfl) (by simp) ?_
          refine (AllReadyH.cons rfl (fun K hK => ?_) AllReadyH.nil)
          · refine step_appW _ rfl (.tmp 34) (.tmp 36) rfl base V n d _ rfl HO3.out.v _ ⟨W2.heap.size, 0, none⟩ 1 1 [v] rfl HI3.out (by omega) (by omega) (Nat.le_trans hbase HB3.out.size) ?_
            intro A4 c4 W4 hO_ hg_ hw_
            have HO4 := Lib.hid (HO3.out.appV hO_ hg_ hw_)
            have HX4 := Lib.hid (show Bx W4 w.heap.size 24 (.slice A n c) (.slice V n d) from cells_grown HO3.out.v HX3.out (by decide) hg_)
            have HR4 := Lib.hid (show Bx W4 (w.heap.size + 1) 24 (.slice none 0 0) (.slice none 0 0) from cells_grown HO3.out.v HR3.out (by decide) hg_)
            have HB4 := Lib.hid (HB3.out.grown hg_ (Nat.le_trans hbase HB3.out.size) (fun r e => (HO3.out.v.lt r e).1))
            clear hO_ hg_ hw_
            try go_simp
            refine hK.out _ _ ⟨HX4.out.c0, HX4.out.c1⟩ (fun _ => ?_)
            clear hK K
            refine wpAnyH_ready (rs := [10]) (by kernel_rfl) (by simp) ?_
            refine (AllReadyH.cons rfl (fun K hK => ?_) AllReadyH.nil)
            · go_simp
              refine hK.out _ _ ⟨HX4.out.c0, HX4.out.c1⟩ (fun _ => ?_)
              clear hK K
              refine wpAnyH_ready (rs := [11]) (by kernel_rfl) (by simp) ?_
              refine (AllReadyH.cons rfl (fun K hK => ?_) AllReadyH.nil)
              · have z0 := HR4.out.c0
                have z1 := HR4.out.c1
                have zf0 := HR4.out.f 0
                have zf1 := HR4.out.f 1
                go_simp
                refine hK.out _ _ ⟨cst HX4.out.c0 ne0 ne0, cst HX4.out.c1 ne0 ne0⟩ (fun _ => ?_)
                clear hK K z0 z1 zf0 zf1
                refine wpAnyH_done (by kernel_rfl) ?_ _
                have Z1 := HR4.out.set0 (.slice A2 (n + 1) c2)
                have Z2 := Z1.set1 (.slice A4 (n + 1) c4)
                have O1 := HO4.out.far (p := ⟨w.heap.size + 1, 0, none⟩) (HO4.out.a.not_box HR4.out (by decide)) (HO4.out.v.not_box HR4.out (by decide)) (.slice A2 (n + 1) c2)
                have O2 := O1.far (p := ⟨w.heap.size + 1, 1, none⟩) (O1.a.not_box Z1 (by decide)) (O1.v.not_box Z1 (by decide)) (.slice A4 (n + 1) c4)
                have HZ := Lib.hid Z2
                have HOf := Lib.hid O2
                clear Z1 Z2 O1 O2
                go_wp2
                refine bodyPost_ret (v := sg A2 (n + 1) c2 A4 (n + 1) c4) (by simp [results, Try.results22, go_sem, HZ.out.c0, HZ.out.c1]) rfl ⟨A2, c2, A4, c4, ?_, ?_, (HB4.out.setCell (p := ⟨w.heap.size + 1, 0, none⟩) (by simp; omega) _).setCell (p := ⟨w.heap.size + 1, 1, none⟩) (by simp; omega) _⟩
                · simp [HL.out]
                · simpa [HL.out] using HOf.out
      · have HO7 := Lib.hid (HO1.out.alloc (.cells #[.int .i64 v] 3))
        have HX7 := Lib.hid (HX1.out.alloc (.cells #[.int .i64 v] 3))
        have HR7 := Lib.hid (HR1.out.alloc (.cells #[.int .i64 v] 3))
        have HI7 := Lib.hid (ints_new1' (W0.drew.alloc (.cells #[.int .i64 x] 3)) v (W0.heap.size + 1) (by first | rfl | simp))
        have HB7 := Lib.hid (HB1.out.alloc (Nat.le_trans hbase HB1.out.size) (.cells #[.int .i64 v] 3))
        have HI7_3 := Lib.hid (Ints.blk HI1.out (Below.heap_alloc (W0.drew.alloc (.cells #[.int .i64 x] 3)) (.cells #[.int .i64 v] 3) (W0.heap.size) (by first | (simp; omega) | simp | omega)))
        go_simp
        refine hK.out _ _ ⟨HX7.out.c0, HX7.out.c1⟩ (fun _ => ?_)
        clear hK K
        refine wpAnyH_ready (rs := [4]) (by kernel_rfl) (by simp) ?_
        refine (AllReadyH.cons rfl (fun K hK => ?_) AllReadyH.nil)
        · refine step_appW _ rfl (.tmp 29) (.tmp 31) rfl base A n c _ rfl HO7.out.a _ ⟨W0.heap.size, 0, none⟩ 1 1 [x] rfl HI7_3.out (by omega) (by omega) (Nat.le_trans hbase HB7.out.size) ?_
          intro A8 c8 W8 hO_ hg_ hw_
          have HO8 := Lib.hid (HO7.out.appA hO_ hg_ hw_)
          have HX8 := Lib.hid (show Bx W8 w.heap.size 24 (.slice A n c) (.slice V n d) from cells_grown HO7.out.a HX7.out (by decide) hg_)
          have HR8 := Lib.hid (show Bx W8 (w.heap.size + 1) 24 (.slice none 0 0) (.slice none 0 0) from cells_grown HO7.out.a HR7.out (by decide) hg_)
          have HB8 := Lib.hid (HB7.out.grown hg_ (Nat.le_trans hbase HB7.out.size) (fun r e => (HO7.out.a.lt r e).1))
          have HI8_8 := Lib.hid (Ints.blk HI7.out (hg_.block (W0.heap.size + 1) (by first | (simp; omega) | simp | omega) (fun e => by have h1 := (HOw.out.a.lt _ e.symm).2; have h2 : w.heap.size ≤ W0.heap.size + 1 := (by have := HLW.out; omega); omega)))
          clear hO_ hg_ hw_
          try go_simp
          refine hK.out _ _ ⟨HX8.out.c0, HX8.out.c1⟩ (fun _ => ?_)
          clear hK K
          refine wpAnyH_ready (rs := [9]) (by kernel_rfl) (by simp) ?_
          refine (AllReadyH.cons rfl (fun K hK => ?_) AllReadyH.nil)
          · refine step_appW _ rfl (.tmp 34) (.tmp 36) rfl base V n d _ rfl HO8.out.v _ ⟨W0.heap.size + 1, 0, none⟩ 1 1 [v] rfl HI8_8.out (by omega) (by omega) (Nat.le_trans hbase HB8.out.size) ?_
            intro A9 c9 W9 hO_ hg_ hw_
            have HO9 := Lib.hid (HO8.out.appV hO_ hg_ hw_)
            have HX9 := Lib.hid (show Bx W9 w.heap.size 24 (.slice A n c) (.slice V n d) from cells_grown HO8.out.v HX8.out (by decide) hg_)
            have HR9 := Lib.hid (show Bx W9 (w.heap.size + 1) 24 (.slice none 0 0) (.slice none 0 0) from cells_grown HO8.out.v HR8.out (by decide) hg_)
            have HB9 := Lib.hid (HB8.out.grown hg_ (Nat.le_trans hbase HB8.out.size) (fun r e => (HO8.out.v.lt r e).1))
            clear hO_ hg_ hw_
            try go_simp
            refine hK.out _ _ ⟨HX9.out.c0, HX9.out.c1⟩ (fun _ => ?_)
            clear hK K
            refine wpAnyH_ready (rs := [10]) (by kernel_rfl) (by simp) ?_
            refine (AllReadyH.cons rfl (fun K hK => ?_) AllReadyH.nil)
            · go_simp
              refine hK.out _ _ ⟨HX9.out.c0, HX9.out.c1⟩ (fun _ => ?_)
              clear hK K
              refine wpAnyH_ready (rs := [11]) (by kernel_rfl) (by simp) ?_
              refine (AllReadyH.cons rfl (fun K hK => ?_) AllReadyH.nil)
              · have z0 := HR9.out.c0
                have z1 := HR9.out.c1
                have zf0 := HR9.out.f 0
                have zf1 := HR9.out.f 1
                go_simp
                refine hK.out _ _ ⟨cst HX9.out.c0 ne0 ne0, cst HX9.out.c1 ne0 ne0⟩ (fun _ => ?_)
                clear hK K z0 z1 zf0 zf1
                refine wpAnyH_done (by kernel_rfl) ?_ _
                have Z1 := HR9.out.set0 (.slice A8 (n + 1) c8)
                have Z2 := Z1.set1 (.slice A9 (n + 1) c9)
                have O1 := HO9.out.far (p := ⟨w.heap.size + 1, 0, none⟩) (HO9.out.a.not_box HR9.out (by decide)) (HO9.out.v.not_box HR9.out (by decide)) (.slice A8 (n + 1) c8)
                have O2 := O1.far (p := ⟨w.heap.size + 1, 1, none⟩) (O1.a.not_box Z1 (by decide)) (O1.v.not_box Z1 (by decide)) (.slice A9 (n + 1) c9)
                have HZ := Lib.hid Z2
                have HOf := Lib.hid O2
                clear Z1 Z2 O1 O2
                go_wp2
                refine bodyPost_ret (v := sg A8 (n + 1) c8 A9 (n + 1) c9) (by simp [results, Try.results22, go_sem, HZ.out.c0, HZ.out.c1]) rfl ⟨A8, c8, A9, c9, ?_, ?_, (HB9.out.setCell (p := ⟨w.heap.size + 1, 0, none⟩) (by simp; omega) _).setCell (p := ⟨w.heap.size + 1, 1, none⟩) (by simp; omega) _⟩
                · simp [HL.out]
                · simpa [HL.out] using HOf.out
    · have HO12 := Lib.hid (HO0.out.alloc (.cells #[.int .i64 v] 3))
      have HX12 := Lib.hid (HX0.out.alloc (.cells #[.int .i64 v] 3))
      have HR12 := Lib.hid (HR0.out.alloc (.cells #[.int .i64 v] 3))
      have HI12 := Lib.hid (ints_new1' W0.drew v (W0.heap.size) (by first | rfl | simp))
      have HB12 := Lib.hid (HB0.out.alloc (Nat.le_trans hbase HB0.out.size) (.cells #[.int .i64 v] 3))
      go_simp
      refine hK.out _ _ ⟨HX12.out.c0, HX12.out.c1⟩ (fun _ => ?_)
      clear hK K
      refine wpAnyH_ready (rs := [3]) (by kernel_rfl) (by simp) ?_
      refine (AllReadyH.cons rfl (fun K hK => ?_) AllReadyH.nil)
      · have HO13 := Lib.hid (HO12.out.alloc (.cells #[.int .i64 x] 3))
        have HX13 := Lib.hid (HX12.out.alloc (.cells #[.int .i64 x] 3))
        have HR13 := Lib.hid (HR12.out.alloc (.cells #[.int .i64 x] 3))
        have HI13 := Lib.hid (ints_new1' (W0.drew.alloc (.cells #[.int .i64 v] 3)) x (W0.heap.size + 1) (by first | rfl | simp))
        have HB13 := Lib.hid (HB12.out.alloc (Nat.le_trans hbase HB12.out.size) (.cells #[.int .i64 x] 3))
        have HI13_8 := Lib.hid (Ints.blk HI12.out (Below.heap_alloc (W0.drew.alloc (.cells #[.int .i64 v] 3)) (.cells #[.int .i64 x] 3) (W0.heap.size) (by first | (simp; omega) | simp | omega)))
        go_simp
        refine hK.out _ _ ⟨HX13.out.c0, HX13.out.c1⟩ (fun _ => ?_)
        clear hK K
        refine wpAnyH_ready (rs := [4]) (by kernel_rfl) (by simp) ?_
        refine (AllReadyH.cons rfl (fun K hK => ?_) AllReadyH.nil)
        · refine step_appW _ rfl (.tmp 29) (.tmp 31) rfl base A n c _ rfl HO13.out.a _ ⟨W0.heap.size + 1, 0, none⟩ 1 1 [x] rfl HI13.out (by omega) (by omega) (Nat.le_trans hbase HB13.out.size) ?_
          intro A14 c14 W14 hO_ hg_ hw_
          have HO14 := Lib.hid (HO13.out.appA hO_ hg_ hw_)
          have HX14 := Lib.hid (show Bx W14 w.heap.size 24 (.slice A n c) (.slice V n d) from cells_grown HO13.out.a HX13.out (by decide) hg_)
          have HR14 := Lib.hid (show Bx W14 (w.heap.size + 1) 24 (.slice none 0 0) (.slice none 0 0) from cells_grown HO13.out.a HR13.out (by decide) hg_)
          have HB14 := Lib.hid (HB13.out.grown hg_ (Nat.le_trans hbase HB13.out.size) (fun r e => (HO13.out.a.lt r e).1))
          have HI14_8 := Lib.hid (Ints.blk HI13_8.out (hg_.block (W0.heap.size) (by first | (simp; omega) | simp | omega) (fun e => by have h1 := (HOw.out.a.lt _ e.symm).2; have h2 : w.heap.size ≤ W0.heap.size := (by have := HLW.out; omega); omega)))
          clear hO_ hg_ hw_
          try go_simp
          refine hK.out _ _ ⟨HX14.out.c0, HX14.out.c1⟩ (fun _ => ?_)
          clear hK K
          refine wpAnyH_ready (rs := [9]) (by kernel_rfl) (by simp) ?_
          refine (AllReadyH.cons rfl (fun K hK => ?_) AllReadyH.nil)
          · refine step_appW _ rfl (.tmp 34) (.tmp 36) rfl base V n d _ rfl HO14.out.v _ ⟨W0.heap.size, 0, none⟩ 1 1 [v] rfl HI14_8.out (by omega) (by omega) (Nat.le_trans hbase HB14.out.size) ?_
            intro A15 c15 W15 hO_ hg_ hw_
            have HO15 := Lib.hid (HO14.out.appV hO_ hg_ hw_)
            have HX15 := Lib.hid (show Bx W15 w.heap.size 24 (.slice A n c) (.slice V n d) from cells_grown HO14.out.v HX14.out (by decide) hg_)
            have HR15 := Lib.hid (show Bx W15 (w.heap.size + 1) 24 (.slice none 0 0) (.slice none 0 0) from cells_grown HO14.out.v HR14.out (by decide) hg_)
            have HB15 := Lib.hid (HB14.out.grown hg_ (Nat.le_trans hbase HB14.out.size) (fun r e => (HO14.out.v.lt r e).1))
            clear hO_ hg_ hw_
            try go_simp
            refine hK.out _ _ ⟨HX15.out.c0, HX15.out.c1⟩ (fun _ => ?_)
            clear hK K
            refine wpAnyH_ready (rs := [10]) (by kernel_rfl) (by simp) ?_
            refine (AllReadyH.cons rfl (fun K hK => ?_) AllReadyH.nil)
            · go_simp
              refine hK.out _ _ ⟨HX15.out.c0, HX15.out.c1⟩ (fun _ => ?_)
              clear hK K
              refine wpAnyH_ready (rs := [11]) (by kernel_rfl) (by simp) ?_
              refine (AllReadyH.cons rfl (fun K hK => ?_) AllReadyH.nil)
              · have z0 := HR15.out.c0
                have z1 := HR15.out.c1
                have zf0 := HR15.out.f 0
                have zf1 := HR15.out.f 1
                go_simp
                refine hK.out _ _ ⟨cst HX15.out.c0 ne0 ne0, cst HX15.out.c1 ne0 ne0⟩ (fun _ => ?_)
                clear hK K z0 z1 zf0 zf1
                refine wpAnyH_done (by kernel_rfl) ?_ _
                have Z1 := HR15.out.set0 (.slice A14 (n + 1) c14)
                have Z2 := Z1.set1 (.slice A15 (n + 1) c15)
                have O1 := HO15.out.far (p := ⟨w.heap.size + 1, 0, none⟩) (HO15.out.a.not_box HR15.out (by decide)) (HO15.out.v.not_box HR15.out (by decide)) (.slice A14 (n + 1) c14)
                have O2 := O1.far (p := ⟨w.heap.size + 1, 1, none⟩) (O1.a.not_box Z1 (by decide)) (O1.v.not_box Z1 (by decide)) (.slice A15 (n + 1) c15)
                have HZ := Lib.hid Z2
                have HOf := Lib.hid O2
                clear Z1 Z2 O1 O2
                go_wp2
                refine bodyPost_ret (v := sg A14 (n + 1) c14 A15 (n + 1) c15) (by simp [results, Try.results22, go_sem, HZ.out.c0, HZ.out.c1]) rfl ⟨A14, c14, A15, c15, ?_, ?_, (HB15.out.setCell (p := ⟨w.heap.size + 1, 0, none⟩) (by simp; omega) _).setCell (p := ⟨w.heap.size + 1, 1, none⟩) (by simp; omega) _⟩
                · simp [HL.out]
                · simpa [HL.out] using HOf.out
  · obtain ⟨av, lv', rfl, _, hx, hc⟩ := HOw.out.v.ints.1.get (show j < n by omega)
    obtain rfl : lv = lv' := by rw [hx] at hj; simpa using hj.symm
    have t0 : decide ((0 : Int) < (n : Int)) = true := by simp; omega
    have t02 : decide (0 < n) = true := by simp; omega
    have e1 : (n : Int) - 1 = (j : Int) := by omega
    have hjn : j < n := by omega
    have hjn2 : (j : Int) < (n : Int) := by omega
    have hj0 : (0 : Int) ≤ (j : Int) := by omega
    have wj : IntKind.i64.wrap (j : Int) = (j : Int) := IntWalk.i64_in _ (by omega)
    have hc2 : ((w.alloc (.cells #[.slice A n c, .slice (some av) n d] 24)).alloc (.cells #[.slice none 0 0, .slice none 0 0] 24)).cell? (av.add j) = some (.int .i64 lv) := cal (cal hc)
    clear hx hj ej hc
    go_enter Try.func22, Try.ntmps22
    go_wp2
    clear hc2 e1 wj
    obtain ⟨W0, hW0⟩ : ∃ W0, (w.alloc (.cells #[.slice A n c, .slice (some av) n d] 24)).alloc (.cells #[.slice none 0 0, .slice none 0 0] 24) = W0 := ⟨_, rfl⟩
    have HLW := Lib.hid (show w.heap.size ≤ W0.heap.size by rw [← hW0]; simp; omega)
    have hOa : OwnS W0 base A n c (some av) n d (ps.map (·.1)) (ps.map (·.2)) := by rw [← hW0]; exact (HOw.out.alloc _).alloc _
    have HO0 := Lib.hid (show OwnS W0.drew base A n c (some av) n d (ps.map (·.1)) (ps.map (·.2)) from ⟨hOa.a, hOa.v, hOa.dj⟩)
    have HX0 := Lib.hid (show Bx W0.drew w.heap.size 24 (.slice A n c) (.slice (some av) n d) by rw [← hW0]; exact (Bx.new w _ _ _).alloc _)
    have HR0 := Lib.hid (show Bx W0.drew (w.heap.size + 1) 24 (.slice none 0 0) (.slice none 0 0) by rw [← hW0]; have h_ := Bx.new (w.alloc (.cells #[.slice A n c, .slice (some av) n d] 24)) 24 (.slice none 0 0) (.slice none 0 0); rw [World.size_alloc] at h_; exact h_)
    have HB0 := Lib.hid (show Below base w W0.drew by rw [← hW0]; exact (((Below.refl base w).alloc hbase _).alloc (by simp; omega) _).drew)
    rw [hW0]
    clear hW0 hOa
    refine wp_region_held (S := fun w' => w'.cell? ⟨w.heap.size, 0, none⟩ = some (.slice A n c) ∧ w'.cell? ⟨w.heap.size, 1, none⟩ = some (.slice (some av) n d)) (by kernel_rfl) ?_
    change wpAnyH _ _ _ _ _ _ _ _ (World.drew _)
    have HSU := Lib.hid (show W0.drew.cell? ⟨w.heap.size, 0, none⟩ = some (.slice A n c) ∧ W0.drew.cell? ⟨w.heap.size, 1, none⟩ = some (.slice (some av) n d) from ⟨HX0.out.c0, HX0.out.c1⟩)
    refine wpAnyH_take (i := 0) (v := .pointer (some ⟨w.heap.size, 0, none⟩)) rfl (by kernel_rfl) (by kernel_rfl) (by kernel_rfl) (fun _ _ _ h => h) (Or.inl ⟨by rfl, by intro w_ hS_; go_simp⟩) HSU.out ?_
    refine wpAnyH_take (i := 1) (v := .slice A n c) rfl (by kernel_rfl) (by kernel_rfl) (by kernel_rfl) (fun _ _ _ h => h) (Or.inl ⟨by rfl, by intro w_ hS_; obtain ⟨z0, z1⟩ := hS_; go_simp⟩) HSU.out ?_
    refine wpAnyH_take (i := 2) (v := .int .i64 x) rfl (by kernel_rfl) (by kernel_rfl) (by kernel_rfl) (fun _ _ _ h => h) (Or.inl ⟨by rfl, by intro w_ hS_; go_simp⟩) HSU.out ?_
    refine wpAnyH_take (i := 5) (v := .pointer (some ⟨w.heap.size, 1, none⟩)) rfl (by kernel_rfl) (by kernel_rfl) (by kernel_rfl) (fun _ _ _ h => h) (Or.inl ⟨by rfl, by intro w_ hS_; go_simp⟩) HSU.out ?_
    refine wpAnyH_take (i := 6) (v := .slice (some av) n d) rfl (by kernel_rfl) (by kernel_rfl) (by kernel_rfl) (fun _ _ _ h => h) (Or.inl ⟨by rfl, by intro w_ hS_; obtain ⟨z0, z1⟩ := hS_; go_simp⟩) HSU.out ?_
    refine wpAnyH_take (i := 7) (v := .int .i64 v) rfl (by kernel_rfl) (by kernel_rfl) (by kernel_rfl) (fun _ _ _ h => h) (Or.inl ⟨by rfl, by intro w_ hS_; go_simp⟩) HSU.out ?_
    try simp only [Act.put, List.setIfInBounds_toArray]
    refine wpAnyH_ready (rs := [3, 8]) (by kernel_rfl) (by simp) ?_
    refine (AllReadyH.cons rfl (fun K hK => ?_) (AllReadyH.cons rfl (fun K hK => ?_) AllReadyH.nil))
    · have HO1 := Lib.hid (HO0.out.alloc (.cells #[.int .i64 x] 3))
      have HX1 := Lib.hid (HX0.out.alloc (.cells #[.int .i64 x] 3))
      have HR1 := Lib.hid (HR0.out.alloc (.cells #[.int .i64 x] 3))
      have HI1 := Lib.hid (ints_new1' W0.drew x (W0.heap.size) (by first | rfl | simp))
      have HB1 := Lib.hid (HB0.out.alloc (Nat.le_trans hbase HB0.out.size) (.cells #[.int .i64 x] 3))
      go_simp
      refine hK.out _ _ ⟨HX1.out.c0, HX1.out.c1⟩ (fun _ => ?_)
      clear hK K
      refine wpAnyH_ready (rs := [4, 8]) (by kernel_rfl) (by simp) ?_
      refine (AllReadyH.cons rfl (fun K hK => ?_) (AllReadyH.cons rfl (fun K hK => ?_) AllReadyH.nil))
      · refine step_appW _ rfl (.tmp 29) (.tmp 31) rfl base A n c _ rfl HO1.out.a _ ⟨W0.heap.size, 0, none⟩ 1 1 [x] rfl HI1.out (by omega) (by omega) (Nat.le_trans hbase HB1.out.size) ?_
        intro A2 c2 W2 hO_ hg_ hw_
        have HO2 := Lib.hid (HO1.out.appA hO_ hg_ hw_)
        have HX2 := Lib.hid (show Bx W2 w.heap.size 24 (.slice A n c) (.slice (some av) n d) from cells_grown HO1.out.a HX1.out (by decide) hg_)
        have HR2 := Lib.hid (show Bx W2 (w.heap.size + 1) 24 (.slice none 0 0) (.slice none 0 0) from cells_grown HO1.out.a HR1.out (by decide) hg_)
        have HB2 := Lib.hid (HB1.out.grown hg_ (Nat.le_trans hbase HB1.out.size) (fun r e => (HO1.out.a.lt r e).1))
        clear hO_ hg_ hw_
        try go_simp
        refine hK.out _ _ ⟨HX2.out.c0, HX2.out.c1⟩ (fun _ => ?_)
        clear hK K
        refine wpAnyH_ready (rs := [8]) (by kernel_rfl) (by simp) ?_
        refine (AllReadyH.cons rfl (fun K hK => ?_) AllReadyH.nil)
        · have HO3 := Lib.hid (HO2.out.alloc (.cells #[.int .i64 v] 3))
          have HX3 := Lib.hid (HX2.out.alloc (.cells #[.int .i64 v] 3))
          have HR3 := Lib.hid (HR2.out.alloc (.cells #[.int .i64 v] 3))
          have HI3 := Lib.hid (ints_new1' W2 v (W2.heap.size) (by first | rfl | simp))
          have HB3 := Lib.hid (HB2.out.alloc (Nat.le_trans hbase HB2.out.size) (.cells #[.int .i64 v] 3))
          go_simp
          refine hK.out _ _ ⟨HX3.out.c0, HX3.out.c1⟩ (fun _ => ?_)
          clear hK K
          refine wpAnyH_ready (rs := [9]) (by kernel_rfl) (by simp) ?_
          refine (AllReadyH.cons rfl (fun K hK => ?_) AllReadyH.nil)
          · refine step_appW _ rfl (.tmp 34) (.tmp 36) rfl base (some av) n d _ rfl HO3.out.v _ ⟨W2.heap.size, 0, none⟩ 1 1 [v] rfl HI3.out (by omega) (by omega) (Nat.le_trans hbase HB3.out.size) ?_
            intro A4 c4 W4 hO_ hg_ hw_
            have HO4 := Lib.hid (HO3.out.appV hO_ hg_ hw_)
            have HX4 := Lib.hid (show Bx W4 w.heap.size 24 (.slice A n c) (.slice (some av) n d) from cells_grown HO3.out.v HX3.out (by decide) hg_)
            have HR4 := Lib.hid (show Bx W4 (w.heap.size + 1) 24 (.slice none 0 0) (.slice none 0 0) from cells_grown HO3.out.v HR3.out (by decide) hg_)
            have HB4 := Lib.hid (HB3.out.grown hg_ (Nat.le_trans hbase HB3.out.size) (fun r e => (HO3.out.v.lt r e).1))
            clear hO_ hg_ hw_
            try go_simp
            refine hK.out _ _ ⟨HX4.out.c0, HX4.out.c1⟩ (fun _ => ?_)
            clear hK K
            refine wpAnyH_ready (rs := [10]) (by kernel_rfl) (by simp) ?_
            refine (AllReadyH.cons rfl (fun K hK => ?_) AllReadyH.nil)
            · go_simp
              refine hK.out _ _ ⟨HX4.out.c0, HX4.out.c1⟩ (fun _ => ?_)
              clear hK K
              refine wpAnyH_ready (rs := [11]) (by kernel_rfl) (by simp) ?_
              refine (AllReadyH.cons rfl (fun K hK => ?_) AllReadyH.nil)
              · have z0 := HR4.out.c0
                have z1 := HR4.out.c1
                have zf0 := HR4.out.f 0
                have zf1 := HR4.out.f 1
                go_simp
                refine hK.out _ _ ⟨cst HX4.out.c0 ne0 ne0, cst HX4.out.c1 ne0 ne0⟩ (fun _ => ?_)
                clear hK K z0 z1 zf0 zf1
                refine wpAnyH_done (by kernel_rfl) ?_ _
                have Z1 := HR4.out.set0 (.slice A2 (n + 1) c2)
                have Z2 := Z1.set1 (.slice A4 (n + 1) c4)
                have O1 := HO4.out.far (p := ⟨w.heap.size + 1, 0, none⟩) (HO4.out.a.not_box HR4.out (by decide)) (HO4.out.v.not_box HR4.out (by decide)) (.slice A2 (n + 1) c2)
                have O2 := O1.far (p := ⟨w.heap.size + 1, 1, none⟩) (O1.a.not_box Z1 (by decide)) (O1.v.not_box Z1 (by decide)) (.slice A4 (n + 1) c4)
                have HZ := Lib.hid Z2
                have HOf := Lib.hid O2
                clear Z1 Z2 O1 O2
                go_wp2
                refine bodyPost_ret (v := sg A2 (n + 1) c2 A4 (n + 1) c4) (by simp [results, Try.results22, go_sem, HZ.out.c0, HZ.out.c1]) rfl ⟨A2, c2, A4, c4, ?_, ?_, (HB4.out.setCell (p := ⟨w.heap.size + 1, 0, none⟩) (by simp; omega) _).setCell (p := ⟨w.heap.size + 1, 1, none⟩) (by simp; omega) _⟩
                · simp [HL.out]
                · simpa [HL.out] using HOf.out
      · have HO7 := Lib.hid (HO1.out.alloc (.cells #[.int .i64 v] 3))
        have HX7 := Lib.hid (HX1.out.alloc (.cells #[.int .i64 v] 3))
        have HR7 := Lib.hid (HR1.out.alloc (.cells #[.int .i64 v] 3))
        have HI7 := Lib.hid (ints_new1' (W0.drew.alloc (.cells #[.int .i64 x] 3)) v (W0.heap.size + 1) (by first | rfl | simp))
        have HB7 := Lib.hid (HB1.out.alloc (Nat.le_trans hbase HB1.out.size) (.cells #[.int .i64 v] 3))
        have HI7_3 := Lib.hid (Ints.blk HI1.out (Below.heap_alloc (W0.drew.alloc (.cells #[.int .i64 x] 3)) (.cells #[.int .i64 v] 3) (W0.heap.size) (by first | (simp; omega) | simp | omega)))
        go_simp
        refine hK.out _ _ ⟨HX7.out.c0, HX7.out.c1⟩ (fun _ => ?_)
        clear hK K
        refine wpAnyH_ready (rs := [4]) (by kernel_rfl) (by simp) ?_
        refine (AllReadyH.cons rfl (fun K hK => ?_) AllReadyH.nil)
        · refine step_appW _ rfl (.tmp 29) (.tmp 31) rfl base A n c _ rfl HO7.out.a _ ⟨W0.heap.size, 0, none⟩ 1 1 [x] rfl HI7_3.out (by omega) (by omega) (Nat.le_trans hbase HB7.out.size) ?_
          intro A8 c8 W8 hO_ hg_ hw_
          have HO8 := Lib.hid (HO7.out.appA hO_ hg_ hw_)
          have HX8 := Lib.hid (show Bx W8 w.heap.size 24 (.slice A n c) (.slice (some av) n d) from cells_grown HO7.out.a HX7.out (by decide) hg_)
          have HR8 := Lib.hid (show Bx W8 (w.heap.size + 1) 24 (.slice none 0 0) (.slice none 0 0) from cells_grown HO7.out.a HR7.out (by decide) hg_)
          have HB8 := Lib.hid (HB7.out.grown hg_ (Nat.le_trans hbase HB7.out.size) (fun r e => (HO7.out.a.lt r e).1))
          have HI8_8 := Lib.hid (Ints.blk HI7.out (hg_.block (W0.heap.size + 1) (by first | (simp; omega) | simp | omega) (fun e => by have h1 := (HOw.out.a.lt _ e.symm).2; have h2 : w.heap.size ≤ W0.heap.size + 1 := (by have := HLW.out; omega); omega)))
          clear hO_ hg_ hw_
          try go_simp
          refine hK.out _ _ ⟨HX8.out.c0, HX8.out.c1⟩ (fun _ => ?_)
          clear hK K
          refine wpAnyH_ready (rs := [9]) (by kernel_rfl) (by simp) ?_
          refine (AllReadyH.cons rfl (fun K hK => ?_) AllReadyH.nil)
          · refine step_appW _ rfl (.tmp 34) (.tmp 36) rfl base (some av) n d _ rfl HO8.out.v _ ⟨W0.heap.size + 1, 0, none⟩ 1 1 [v] rfl HI8_8.out (by omega) (by omega) (Nat.le_trans hbase HB8.out.size) ?_
            intro A9 c9 W9 hO_ hg_ hw_
            have HO9 := Lib.hid (HO8.out.appV hO_ hg_ hw_)
            have HX9 := Lib.hid (show Bx W9 w.heap.size 24 (.slice A n c) (.slice (some av) n d) from cells_grown HO8.out.v HX8.out (by decide) hg_)
            have HR9 := Lib.hid (show Bx W9 (w.heap.size + 1) 24 (.slice none 0 0) (.slice none 0 0) from cells_grown HO8.out.v HR8.out (by decide) hg_)
            have HB9 := Lib.hid (HB8.out.grown hg_ (Nat.le_trans hbase HB8.out.size) (fun r e => (HO8.out.v.lt r e).1))
            clear hO_ hg_ hw_
            try go_simp
            refine hK.out _ _ ⟨HX9.out.c0, HX9.out.c1⟩ (fun _ => ?_)
            clear hK K
            refine wpAnyH_ready (rs := [10]) (by kernel_rfl) (by simp) ?_
            refine (AllReadyH.cons rfl (fun K hK => ?_) AllReadyH.nil)
            · go_simp
              refine hK.out _ _ ⟨HX9.out.c0, HX9.out.c1⟩ (fun _ => ?_)
              clear hK K
              refine wpAnyH_ready (rs := [11]) (by kernel_rfl) (by simp) ?_
              refine (AllReadyH.cons rfl (fun K hK => ?_) AllReadyH.nil)
              · have z0 := HR9.out.c0
                have z1 := HR9.out.c1
                have zf0 := HR9.out.f 0
                have zf1 := HR9.out.f 1
                go_simp
                refine hK.out _ _ ⟨cst HX9.out.c0 ne0 ne0, cst HX9.out.c1 ne0 ne0⟩ (fun _ => ?_)
                clear hK K z0 z1 zf0 zf1
                refine wpAnyH_done (by kernel_rfl) ?_ _
                have Z1 := HR9.out.set0 (.slice A8 (n + 1) c8)
                have Z2 := Z1.set1 (.slice A9 (n + 1) c9)
                have O1 := HO9.out.far (p := ⟨w.heap.size + 1, 0, none⟩) (HO9.out.a.not_box HR9.out (by decide)) (HO9.out.v.not_box HR9.out (by decide)) (.slice A8 (n + 1) c8)
                have O2 := O1.far (p := ⟨w.heap.size + 1, 1, none⟩) (O1.a.not_box Z1 (by decide)) (O1.v.not_box Z1 (by decide)) (.slice A9 (n + 1) c9)
                have HZ := Lib.hid Z2
                have HOf := Lib.hid O2
                clear Z1 Z2 O1 O2
                go_wp2
                refine bodyPost_ret (v := sg A8 (n + 1) c8 A9 (n + 1) c9) (by simp [results, Try.results22, go_sem, HZ.out.c0, HZ.out.c1]) rfl ⟨A8, c8, A9, c9, ?_, ?_, (HB9.out.setCell (p := ⟨w.heap.size + 1, 0, none⟩) (by simp; omega) _).setCell (p := ⟨w.heap.size + 1, 1, none⟩) (by simp; omega) _⟩
                · simp [HL.out]
                · simpa [HL.out] using HOf.out
    · have HO12 := Lib.hid (HO0.out.alloc (.cells #[.int .i64 v] 3))
      have HX12 := Lib.hid (HX0.out.alloc (.cells #[.int .i64 v] 3))
      have HR12 := Lib.hid (HR0.out.alloc (.cells #[.int .i64 v] 3))
      have HI12 := Lib.hid (ints_new1' W0.drew v (W0.heap.size) (by first | rfl | simp))
      have HB12 := Lib.hid (HB0.out.alloc (Nat.le_trans hbase HB0.out.size) (.cells #[.int .i64 v] 3))
      go_simp
      refine hK.out _ _ ⟨HX12.out.c0, HX12.out.c1⟩ (fun _ => ?_)
      clear hK K
      refine wpAnyH_ready (rs := [3]) (by kernel_rfl) (by simp) ?_
      refine (AllReadyH.cons rfl (fun K hK => ?_) AllReadyH.nil)
      · have HO13 := Lib.hid (HO12.out.alloc (.cells #[.int .i64 x] 3))
        have HX13 := Lib.hid (HX12.out.alloc (.cells #[.int .i64 x] 3))
        have HR13 := Lib.hid (HR12.out.alloc (.cells #[.int .i64 x] 3))
        have HI13 := Lib.hid (ints_new1' (W0.drew.alloc (.cells #[.int .i64 v] 3)) x (W0.heap.size + 1) (by first | rfl | simp))
        have HB13 := Lib.hid (HB12.out.alloc (Nat.le_trans hbase HB12.out.size) (.cells #[.int .i64 x] 3))
        have HI13_8 := Lib.hid (Ints.blk HI12.out (Below.heap_alloc (W0.drew.alloc (.cells #[.int .i64 v] 3)) (.cells #[.int .i64 x] 3) (W0.heap.size) (by first | (simp; omega) | simp | omega)))
        go_simp
        refine hK.out _ _ ⟨HX13.out.c0, HX13.out.c1⟩ (fun _ => ?_)
        clear hK K
        refine wpAnyH_ready (rs := [4]) (by kernel_rfl) (by simp) ?_
        refine (AllReadyH.cons rfl (fun K hK => ?_) AllReadyH.nil)
        · refine step_appW _ rfl (.tmp 29) (.tmp 31) rfl base A n c _ rfl HO13.out.a _ ⟨W0.heap.size + 1, 0, none⟩ 1 1 [x] rfl HI13.out (by omega) (by omega) (Nat.le_trans hbase HB13.out.size) ?_
          intro A14 c14 W14 hO_ hg_ hw_
          have HO14 := Lib.hid (HO13.out.appA hO_ hg_ hw_)
          have HX14 := Lib.hid (show Bx W14 w.heap.size 24 (.slice A n c) (.slice (some av) n d) from cells_grown HO13.out.a HX13.out (by decide) hg_)
          have HR14 := Lib.hid (show Bx W14 (w.heap.size + 1) 24 (.slice none 0 0) (.slice none 0 0) from cells_grown HO13.out.a HR13.out (by decide) hg_)
          have HB14 := Lib.hid (HB13.out.grown hg_ (Nat.le_trans hbase HB13.out.size) (fun r e => (HO13.out.a.lt r e).1))
          have HI14_8 := Lib.hid (Ints.blk HI13_8.out (hg_.block (W0.heap.size) (by first | (simp; omega) | simp | omega) (fun e => by have h1 := (HOw.out.a.lt _ e.symm).2; have h2 : w.heap.size ≤ W0.heap.size := (by have := HLW.out; omega); omega)))
          clear hO_ hg_ hw_
          try go_simp
          refine hK.out _ _ ⟨HX14.out.c0, HX14.out.c1⟩ (fun _ => ?_)
          clear hK K
          refine wpAnyH_ready (rs := [9]) (by kernel_rfl) (by simp) ?_
          refine (AllReadyH.cons rfl (fun K hK => ?_) AllReadyH.nil)
          · refine step_appW _ rfl (.tmp 34) (.tmp 36) rfl base (some av) n d _ rfl HO14.out.v _ ⟨W0.heap.size, 0, none⟩ 1 1 [v] rfl HI14_8.out (by omega) (by omega) (Nat.le_trans hbase HB14.out.size) ?_
            intro A15 c15 W15 hO_ hg_ hw_
            have HO15 := Lib.hid (HO14.out.appV hO_ hg_ hw_)
            have HX15 := Lib.hid (show Bx W15 w.heap.size 24 (.slice A n c) (.slice (some av) n d) from cells_grown HO14.out.v HX14.out (by decide) hg_)
            have HR15 := Lib.hid (show Bx W15 (w.heap.size + 1) 24 (.slice none 0 0) (.slice none 0 0) from cells_grown HO14.out.v HR14.out (by decide) hg_)
            have HB15 := Lib.hid (HB14.out.grown hg_ (Nat.le_trans hbase HB14.out.size) (fun r e => (HO14.out.v.lt r e).1))
            clear hO_ hg_ hw_
            try go_simp
            refine hK.out _ _ ⟨HX15.out.c0, HX15.out.c1⟩ (fun _ => ?_)
            clear hK K
            refine wpAnyH_ready (rs := [10]) (by kernel_rfl) (by simp) ?_
            refine (AllReadyH.cons rfl (fun K hK => ?_) AllReadyH.nil)
            · go_simp
              refine hK.out _ _ ⟨HX15.out.c0, HX15.out.c1⟩ (fun _ => ?_)
              clear hK K
              refine wpAnyH_ready (rs := [11]) (by kernel_rfl) (by simp) ?_
              refine (AllReadyH.cons rfl (fun K hK => ?_) AllReadyH.nil)
              · have z0 := HR15.out.c0
                have z1 := HR15.out.c1
                have zf0 := HR15.out.f 0
                have zf1 := HR15.out.f 1
                go_simp
                refine hK.out _ _ ⟨cst HX15.out.c0 ne0 ne0, cst HX15.out.c1 ne0 ne0⟩ (fun _ => ?_)
                clear hK K z0 z1 zf0 zf1
                refine wpAnyH_done (by kernel_rfl) ?_ _
                have Z1 := HR15.out.set0 (.slice A14 (n + 1) c14)
                have Z2 := Z1.set1 (.slice A15 (n + 1) c15)
                have O1 := HO15.out.far (p := ⟨w.heap.size + 1, 0, none⟩) (HO15.out.a.not_box HR15.out (by decide)) (HO15.out.v.not_box HR15.out (by decide)) (.slice A14 (n + 1) c14)
                have O2 := O1.far (p := ⟨w.heap.size + 1, 1, none⟩) (O1.a.not_box Z1 (by decide)) (O1.v.not_box Z1 (by decide)) (.slice A15 (n + 1) c15)
                have HZ := Lib.hid Z2
                have HOf := Lib.hid O2
                clear Z1 Z2 O1 O2
                go_wp2
                refine bodyPost_ret (v := sg A14 (n + 1) c14 A15 (n + 1) c15) (by simp [results, Try.results22, go_sem, HZ.out.c0, HZ.out.c1]) rfl ⟨A14, c14, A15, c15, ?_, ?_, (HB15.out.setCell (p := ⟨w.heap.size + 1, 0, none⟩) (by simp; omega) _).setCell (p := ⟨w.heap.size + 1, 1, none⟩) (by simp; omega) _⟩
                · simp [HL.out]
                · simpa [HL.out] using HOf.out

set_option maxRecDepth 100000 in
set_option maxHeartbeats 2000000 in
theorem with_no (base : Nat) (A : Option Addr) (n c : Nat) (V : Option Addr) (d : Nat) (ps : List Pr) (x v : Int) (w : World) (hO : OwnS w base A n c V n d (ps.map (·.1)) (ps.map (·.2))) (hl : ps.length = n) (hbase : base ≤ w.heap.size) (hn : n ≤ 1000) (h1 : v = lst 0 ps ∨ 292194 < x) :
    Calls Try.prog 22 #[sg A n c V n d, .int .i64 x, .int .i64 v] w (PutsS base w ps) := by
  have HOw := Lib.hid hO
  have HL := Lib.hid hl
  have hlv : (n = 0 ∧ lst 0 ps = 0) ∨ ∃ j, n = j + 1 ∧ (ps.map (·.2))[j]? = some (lst 0 ps) := lst_get hl
  obtain ⟨lv, hlvv⟩ : ∃ lv, lst 0 ps = lv := ⟨_, rfl⟩
  rw [hlvv] at hlv h1
  clear hlvv hO hl
  have R0 := Bx.new (w.alloc (.cells #[.slice A n c, .slice V n d] 24)) 24 (.slice none 0 0) (.slice none 0 0)
  rw [World.size_alloc] at R0
  have HR0 := Lib.hid R0
  have HB0 := Lib.hid (show Below base w ((w.alloc (.cells #[.slice A n c, .slice V n d] 24)).alloc (.cells #[.slice none 0 0, .slice none 0 0] 24)) from ((Below.refl base w).alloc hbase _).alloc (by simp; omega) _)
  have HO0 := Lib.hid ((HOw.out.alloc (.cells #[.slice A n c, .slice V n d] 24)).alloc (.cells #[.slice none 0 0, .slice none 0 0] 24))
  clear R0
  by_cases hv : v = lv
  · have tv : (v == lv) = true := by simpa using hv
    clear h1 hv
    rcases hlv with ⟨e0, e1⟩ | ⟨j, ej, hj⟩
    · have t0 : decide ((0 : Int) < (n : Int)) = false := by rw [decide_eq_false_iff_not]; omega
      have t02 : decide (0 < n) = false := by rw [decide_eq_false_iff_not]; omega
      subst e1
      clear e0
      go_enter Try.func22, Try.ntmps22
      go_wp2
      have Z := (HR0.out.set0 (.slice A n c)).set1 (.slice V n d)
      have O1 := HO0.out.far (p := ⟨w.heap.size + 1, 0, none⟩) (HO0.out.a.not_box HR0.out (by decide)) (HO0.out.v.not_box HR0.out (by decide)) (.slice A n c)
      have O2 := O1.far (p := ⟨w.heap.size + 1, 1, none⟩) (O1.a.not_box (HR0.out.set0 (.slice A n c)) (by decide)) (O1.v.not_box (HR0.out.set0 (.slice A n c)) (by decide)) (.slice V n d)
      first
        | (refine bodyPost_ret (v := sg A n c V n d) (by simp [results, Try.results22, go_sem, Z.c0, Z.c1]) rfl ⟨A, c, V, d, ?_, ?_, (HB0.out.setCell (p := ⟨w.heap.size + 1, 0, none⟩) (by simp; omega) _).setCell (p := ⟨w.heap.size + 1, 1, none⟩) (by simp; omega) _⟩ <;> simp only [HL.out] <;> first | rfl | exact O2)
        | (refine bodyPost_ret (v := sg A n c V n d) (by simp [results, Try.results22, go_sem]) rfl ⟨A, c, V, d, ?_, ?_, (((Below.refl base w).alloc hbase _).alloc (by simp; omega) _)⟩ <;> simp only [HL.out] <;> first | rfl | exact (HOw.out.alloc _).alloc _)
    · obtain ⟨av, lv', rfl, _, hx, hc⟩ := HOw.out.v.ints.1.get (show j < n by omega)
      obtain rfl : lv = lv' := by rw [hx] at hj; simpa using hj.symm
      have t0 : decide ((0 : Int) < (n : Int)) = true := by simp; omega
      have t02 : decide (0 < n) = true := by simp; omega
      have e1 : (n : Int) - 1 = (j : Int) := by omega
      have hjn : j < n := by omega
      have hjn2 : (j : Int) < (n : Int) := by omega
      have hc2 : ((w.alloc (.cells #[.slice A n c, .slice (some av) n d] 24)).alloc (.cells #[.slice none 0 0, .slice none 0 0] 24)).cell? (av.add j) = some (.int .i64 lv) := cal (cal hc)
      clear hx hj ej hc
      go_enter Try.func22, Try.ntmps22
      go_wp2
      have Z := (HR0.out.set0 (.slice A n c)).set1 (.slice (some av) n d)
      have O1 := HO0.out.far (p := ⟨w.heap.size + 1, 0, none⟩) (HO0.out.a.not_box HR0.out (by decide)) (HO0.out.v.not_box HR0.out (by decide)) (.slice A n c)
      have O2 := O1.far (p := ⟨w.heap.size + 1, 1, none⟩) (O1.a.not_box (HR0.out.set0 (.slice A n c)) (by decide)) (O1.v.not_box (HR0.out.set0 (.slice A n c)) (by decide)) (.slice (some av) n d)
      first
        | (refine bodyPost_ret (v := sg A n c (some av) n d) (by simp [results, Try.results22, go_sem, Z.c0, Z.c1]) rfl ⟨A, c, some av, d, ?_, ?_, (HB0.out.setCell (p := ⟨w.heap.size + 1, 0, none⟩) (by simp; omega) _).setCell (p := ⟨w.heap.size + 1, 1, none⟩) (by simp; omega) _⟩ <;> simp only [HL.out] <;> first | rfl | exact O2)
        | (refine bodyPost_ret (v := sg A n c (some av) n d) (by simp [results, Try.results22, go_sem]) rfl ⟨A, c, some av, d, ?_, ?_, (((Below.refl base w).alloc hbase _).alloc (by simp; omega) _)⟩ <;> simp only [HL.out] <;> first | rfl | exact (HOw.out.alloc _).alloc _)
  · have tv : (v == lv) = false := by simpa using hv
    have tx : decide (292194 < x) = true := by rw [decide_eq_true_eq]; rcases h1 with h | h; exact absurd h hv; exact h
    clear h1 hv
    rcases hlv with ⟨e0, e1⟩ | ⟨j, ej, hj⟩
    · have t0 : decide ((0 : Int) < (n : Int)) = false := by rw [decide_eq_false_iff_not]; omega
      have t02 : decide (0 < n) = false := by rw [decide_eq_false_iff_not]; omega
      subst e1
      clear e0
      go_enter Try.func22, Try.ntmps22
      go_wp2
      have Z := (HR0.out.set0 (.slice A n c)).set1 (.slice V n d)
      have O1 := HO0.out.far (p := ⟨w.heap.size + 1, 0, none⟩) (HO0.out.a.not_box HR0.out (by decide)) (HO0.out.v.not_box HR0.out (by decide)) (.slice A n c)
      have O2 := O1.far (p := ⟨w.heap.size + 1, 1, none⟩) (O1.a.not_box (HR0.out.set0 (.slice A n c)) (by decide)) (O1.v.not_box (HR0.out.set0 (.slice A n c)) (by decide)) (.slice V n d)
      first
        | (refine bodyPost_ret (v := sg A n c V n d) (by simp [results, Try.results22, go_sem, Z.c0, Z.c1]) rfl ⟨A, c, V, d, ?_, ?_, (HB0.out.setCell (p := ⟨w.heap.size + 1, 0, none⟩) (by simp; omega) _).setCell (p := ⟨w.heap.size + 1, 1, none⟩) (by simp; omega) _⟩ <;> simp only [HL.out] <;> first | rfl | exact O2)
        | (refine bodyPost_ret (v := sg A n c V n d) (by simp [results, Try.results22, go_sem]) rfl ⟨A, c, V, d, ?_, ?_, (((Below.refl base w).alloc hbase _).alloc (by simp; omega) _)⟩ <;> simp only [HL.out] <;> first | rfl | exact (HOw.out.alloc _).alloc _)
    · obtain ⟨av, lv', rfl, _, hx, hc⟩ := HOw.out.v.ints.1.get (show j < n by omega)
      obtain rfl : lv = lv' := by rw [hx] at hj; simpa using hj.symm
      have t0 : decide ((0 : Int) < (n : Int)) = true := by simp; omega
      have t02 : decide (0 < n) = true := by simp; omega
      have e1 : (n : Int) - 1 = (j : Int) := by omega
      have hjn : j < n := by omega
      have hjn2 : (j : Int) < (n : Int) := by omega
      have hc2 : ((w.alloc (.cells #[.slice A n c, .slice (some av) n d] 24)).alloc (.cells #[.slice none 0 0, .slice none 0 0] 24)).cell? (av.add j) = some (.int .i64 lv) := cal (cal hc)
      clear hx hj ej hc
      go_enter Try.func22, Try.ntmps22
      go_wp2
      have Z := (HR0.out.set0 (.slice A n c)).set1 (.slice (some av) n d)
      have O1 := HO0.out.far (p := ⟨w.heap.size + 1, 0, none⟩) (HO0.out.a.not_box HR0.out (by decide)) (HO0.out.v.not_box HR0.out (by decide)) (.slice A n c)
      have O2 := O1.far (p := ⟨w.heap.size + 1, 1, none⟩) (O1.a.not_box (HR0.out.set0 (.slice A n c)) (by decide)) (O1.v.not_box (HR0.out.set0 (.slice A n c)) (by decide)) (.slice (some av) n d)
      first
        | (refine bodyPost_ret (v := sg A n c (some av) n d) (by simp [results, Try.results22, go_sem, Z.c0, Z.c1]) rfl ⟨A, c, some av, d, ?_, ?_, (HB0.out.setCell (p := ⟨w.heap.size + 1, 0, none⟩) (by simp; omega) _).setCell (p := ⟨w.heap.size + 1, 1, none⟩) (by simp; omega) _⟩ <;> simp only [HL.out] <;> first | rfl | exact O2)
        | (refine bodyPost_ret (v := sg A n c (some av) n d) (by simp [results, Try.results22, go_sem]) rfl ⟨A, c, some av, d, ?_, ?_, (((Below.refl base w).alloc hbase _).alloc (by simp; omega) _)⟩ <;> simp only [HL.out] <;> first | rfl | exact (HOw.out.alloc _).alloc _)

/-- A step, from a day on of a value, if it isn't so already. -/
def wt (ps : List Pr) (x v : Int) : List Pr := if v = lst 0 ps ∨ 292194 < x then ps else ps ++ [(x, v)]
theorem with_ (base : Nat) (A : Option Addr) (n c : Nat) (V : Option Addr) (d : Nat) (ps : List Pr) (x v : Int) (w : World) (hO : OwnS w base A n c V n d (ps.map (·.1)) (ps.map (·.2))) (hl : ps.length = n) (hbase : base ≤ w.heap.size) (hn : n ≤ 1000) :
    Calls Try.prog 22 #[sg A n c V n d, .int .i64 x, .int .i64 v] w (PutsS base w (wt ps x v)) := by
  unfold wt
  split
  · rename_i h
    exact with_no base A n c V d ps x v w hO hl hbase hn h
  · rename_i h
    exact with_yes base A n c V d ps x v w hO hl hbase hn (fun e => h (.inl e)) (by rcases Int.lt_or_le 292194 x with h' | h'; exact absurd (.inr h') h; exact h')

end Stp
end Go.Proofs.Ytngpcabengmoiaa
