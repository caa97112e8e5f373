/-
  The statement SpanDays holds: for every input the call returns true, and each argument reads afterwards as it read before. Conditions: none beside those that the row itself bears.
-/
import Derived.Test.YtbollbbanmdbhaaGiven
namespace Go.Proofs.Ytbollbbanmdbhaa.spanDays
open Go.ChangeShapes Go.WideShapes Go.ChangeAt Go.RowKit Sp Spn
set_option linter.unusedVariables false

/-- So far at most one of them had the day. -/
structure DI (w w' : World) (xs : List Sp) (d : Int) (k : Nat) (al : Bool) : Prop where
  below : Below w.heap.size w w'
  al : al = decide (0 < cnt (xs.take k) d)
theorem cnt_more {xs : List Sp} {k : Nat} {x : Sp} (h : xs[k]? = some x) (d : Int) : cnt (xs.take (k + 1)) d = cnt (xs.take k) d + (if inn x d = true then 1 else 0) := by
  rw [take_more h, cnt, cnt, List.countP_append]; simp [List.countP_cons]
theorem cnt_le (xs : List Sp) (d : Int) (k : Nat) : cnt (xs.take k) d ≤ cnt xs d := by
  have e : cnt xs d = cnt (xs.take k) d + cnt (xs.drop k) d := by rw [cnt, cnt, cnt, ← List.countP_append, List.take_append_drop]
  omega

set_option maxRecDepth 100000 in
set_option maxHeartbeats 4000000 in
theorem way00 (x y : Sp) (d : Int) (w : World) (hi : inn x d = false) (hj : inn y d = false) : Calls Try.prog 5 #[ag x, ag y, .int .i64 d] w fun e w' => e = .returned (.bool true) ∧ Below w.heap.size w w' := by
  have C0 := fun w => Lib.hid (alive w)
  have C1 := fun w => Lib.hid (cut x y w)
  have C2 := fun w => Lib.hid (inn_ (ct x y) d w)
  have C3 := fun w => Lib.hid (inn_ x d w)
  have C4 := fun w => Lib.hid (inn_ y d w)
  have C5 := fun w => Lib.hid (less x y w)
  have CI := fun z w => Lib.hid (inn_ z d w)
  have hb : inn (ct x y) d = false := by
    have := ct_inn x y d
    rw [hi, hj] at this
    cases hh : inn (ct x y) d <;> rw [hh] at this <;> simp at this <;> rfl
  have hcn := ls_cnt x y d
  rw [hi, hj] at hcn
  simp at hcn
  rw [hb] at C2
  rw [hi] at C3
  rw [hj] at C4
  have hll := ls_len x y
  have HC := Lib.hid hcn
  clear hi hj hb hcn
  generalize ct x y = k at C1 C2
  generalize ls x y = zs at C5 HC hll
  obtain ⟨k1, k2⟩ := k
  obtain ⟨a1, a2⟩ := x
  obtain ⟨b1, b2⟩ := y
  go_enter Try.func5, Try.ntmps5
  go_wp2_with fail
  refine (C5 _).out.mono ?_
  rintro e w1 ⟨A, n, c, rfl, hS, hnc, hb⟩
  obtain ⟨X, Y, hB⟩ := bx2 hb
  have HX := Lib.hid X
  have HY := Lib.hid Y
  have HB1 := Lib.hid hB
  have HS := Lib.hid hS
  have hn : n ≤ 2 := by have := hS.1; omega
  clear hb X Y hB hS C5 hll
  go_wp2
  go_loopw [7, 14] (fun sa i w' => ∃ (k : Nat) (al : Bool), k ≤ n ∧ sa = .bool al ∧ i = .int .i64 (k : Int) ∧ Hid (DI w1 w' zs d k al)) (fun _ i _ => n - (intOf i).toNat)
  case atStart => exact ⟨0, false, Nat.zero_le _, rfl, rfl, Lib.hid ⟨Below.refl _ _, by simp [cnt]⟩⟩
  case round =>
    obtain ⟨k, al, hk, rfl, rfl, HR⟩ := hrel
    by_cases hlt : k < n
    · obtain ⟨ad, p, q, rfl, hb, hx, hc, hc'⟩ := (HS.out.below HR.out.below (Nat.le_refl _)).get hlt
      have HM := Lib.hid (cnt_more hx d)
      clear hx
      have CP := fun w => CI (p, q) w
      clear CI
      cases hip : inn (p, q) d
      · rw [hip] at HM
        simp only [Bool.false_eq_true, if_false, Nat.add_zero] at HM
        simp only [hip] at CP
        clear hip
        go_wp2_with fail
        refine (CP _).out.mono ?_
        rintro e w2 ⟨rfl, hb2⟩
        obtain ⟨_, hB2⟩ := bx1 hb2
        have HB2 := Lib.hid hB2
        clear hb2 hB2
        go_wp2
        go_roundw
        case rel => exact ⟨k + 1, al, by omega, rfl, by go_num, Lib.hid ⟨HR.out.below.trans (HB2.out.mono HR.out.below.size), by rw [HM.out]; exact HR.out.al⟩⟩
        case measure => simp [intOf]; omega
      · rw [hip] at HM
        simp only [if_true] at HM
        simp only [hip] at CP
        clear hip
        have h0 : cnt (zs.take k) d = 0 := by have h1 := cnt_le zs d (k + 1); have h2 := HM.out; have h3 := HC.out; omega
        have ha := HR.out.al
        rw [h0] at ha
        simp at ha
        subst ha
        have H0 := Lib.hid h0
        clear h0
        go_wp2_with fail
        refine (CP _).out.mono ?_
        rintro e w2 ⟨rfl, hb2⟩
        obtain ⟨_, hB2⟩ := bx1 hb2
        have HB2 := Lib.hid hB2
        clear hb2 hB2
        go_wp2
        go_roundw
        case rel => exact ⟨k + 1, true, by omega, rfl, by go_num, Lib.hid ⟨HR.out.below.trans (HB2.out.mono HR.out.below.size), by rw [HM.out]; simp⟩⟩
        case measure => simp [intOf]; omega
    · obtain rfl : n = k := by omega
      have he : zs.take n = zs := List.take_of_length_le (by rw [HS.out.1]; exact Nat.le_refl _)
      have ha := HR.out.al
      rw [he, HC.out] at ha
      simp at ha
      subst ha
      have HBR := Lib.hid (HB1.out.trans (HR.out.below.mono HB1.out.size))
      have X := Lib.hid (HX.out.keep HR.out.below)
      have Y := Lib.hid (HY.out.keep HR.out.below)
      clear HB1 HX HY he HR HS HC
      have X0 : ∀ p : Ext wr, p.W.cell? ⟨w.heap.size, 0, none⟩ = some (.int .i64 a1) := fun p => (X.out.ext p).1
      have X1 : ∀ p : Ext wr, p.W.cell? ⟨w.heap.size, 1, none⟩ = some (.int .i64 a2) := fun p => (X.out.ext p).2
      have Y0 : ∀ p : Ext wr, p.W.cell? ⟨w.heap.size + 1, 0, none⟩ = some (.int .i64 b1) := fun p => (Y.out.ext p).1
      have Y1 : ∀ p : Ext wr, p.W.cell? ⟨w.heap.size + 1, 1, none⟩ = some (.int .i64 b2) := fun p => (Y.out.ext p).2
      have ne : Nonempty (Ext wr) := ⟨⟨wr, Below.refl _ _⟩⟩
      go_wp2
      refine quietE (by kernel_rfl) (by kernel_rfl) ?_
      repeat (quiet_step (first
        | (go_at_call 11; exact ext_of (C0 _).out)
        | (go_at_call 18; exact ext_of (C1 _).out)
        | (go_at_call 16; first | with_reducible exact ext_of (C2 _).out | with_reducible exact ext_of (C3 _).out | with_reducible exact ext_of (C4 _).out)))
      refine wpQuiet_nil ?_
      rintro _ ⟨p, rfl⟩
      go_wp2
      go_ret
      exact ⟨rfl, HBR.out.trans (p.b.mono HBR.out.size)⟩

set_option maxRecDepth 100000 in
set_option maxHeartbeats 4000000 in
theorem way01 (x y : Sp) (d : Int) (w : World) (hi : inn x d = false) (hj : inn y d = true) : Calls Try.prog 5 #[ag x, ag y, .int .i64 d] w fun e w' => e = .returned (.bool true) ∧ Below w.heap.size w w' := by
  have C0 := fun w => Lib.hid (alive w)
  have C1 := fun w => Lib.hid (cut x y w)
  have C2 := fun w => Lib.hid (inn_ (ct x y) d w)
  have C3 := fun w => Lib.hid (inn_ x d w)
  have C4 := fun w => Lib.hid (inn_ y d w)
  have C5 := fun w => Lib.hid (less x y w)
  have CI := fun z w => Lib.hid (inn_ z d w)
  have hb : inn (ct x y) d = false := by
    have := ct_inn x y d
    rw [hi, hj] at this
    cases hh : inn (ct x y) d <;> rw [hh] at this <;> simp at this <;> rfl
  have hcn := ls_cnt x y d
  rw [hi, hj] at hcn
  simp at hcn
  rw [hb] at C2
  rw [hi] at C3
  rw [hj] at C4
  have hll := ls_len x y
  have HC := Lib.hid hcn
  clear hi hj hb hcn
  generalize ct x y = k at C1 C2
  generalize ls x y = zs at C5 HC hll
  obtain ⟨k1, k2⟩ := k
  obtain ⟨a1, a2⟩ := x
  obtain ⟨b1, b2⟩ := y
  go_enter Try.func5, Try.ntmps5
  go_wp2_with fail
  refine (C5 _).out.mono ?_
  rintro e w1 ⟨A, n, c, rfl, hS, hnc, hb⟩
  obtain ⟨X, Y, hB⟩ := bx2 hb
  have HX := Lib.hid X
  have HY := Lib.hid Y
  have HB1 := Lib.hid hB
  have HS := Lib.hid hS
  have hn : n ≤ 2 := by have := hS.1; omega
  clear hb X Y hB hS C5 hll
  go_wp2
  go_loopw [7, 14] (fun sa i w' => ∃ (k : Nat) (al : Bool), k ≤ n ∧ sa = .bool al ∧ i = .int .i64 (k : Int) ∧ Hid (DI w1 w' zs d k al)) (fun _ i _ => n - (intOf i).toNat)
  case atStart => exact ⟨0, false, Nat.zero_le _, rfl, rfl, Lib.hid ⟨Below.refl _ _, by simp [cnt]⟩⟩
  case round =>
    obtain ⟨k, al, hk, rfl, rfl, HR⟩ := hrel
    by_cases hlt : k < n
    · obtain ⟨ad, p, q, rfl, hb, hx, hc, hc'⟩ := (HS.out.below HR.out.below (Nat.le_refl _)).get hlt
      have HM := Lib.hid (cnt_more hx d)
      clear hx
      have CP := fun w => CI (p, q) w
      clear CI
      cases hip : inn (p, q) d
      · rw [hip] at HM
        simp only [Bool.false_eq_true, if_false, Nat.add_zero] at HM
        simp only [hip] at CP
        clear hip
        go_wp2_with fail
        refine (CP _).out.mono ?_
        rintro e w2 ⟨rfl, hb2⟩
        obtain ⟨_, hB2⟩ := bx1 hb2
        have HB2 := Lib.hid hB2
        clear hb2 hB2
        go_wp2
        go_roundw
        case rel => exact ⟨k + 1, al, by omega, rfl, by go_num, Lib.hid ⟨HR.out.below.trans (HB2.out.mono HR.out.below.size), by rw [HM.out]; exact HR.out.al⟩⟩
        case measure => simp [intOf]; omega
      · rw [hip] at HM
        simp only [if_true] at HM
        simp only [hip] at CP
        clear hip
        have h0 : cnt (zs.take k) d = 0 := by have h1 := cnt_le zs d (k + 1); have h2 := HM.out; have h3 := HC.out; omega
        have ha := HR.out.al
        rw [h0] at ha
        simp at ha
        subst ha
        have H0 := Lib.hid h0
        clear h0
        go_wp2_with fail
        refine (CP _).out.mono ?_
        rintro e w2 ⟨rfl, hb2⟩
        obtain ⟨_, hB2⟩ := bx1 hb2
        have HB2 := Lib.hid hB2
        clear hb2 hB2
        go_wp2
        go_roundw
        case rel => exact ⟨k + 1, true, by omega, rfl, by go_num, Lib.hid ⟨HR.out.below.trans (HB2.out.mono HR.out.below.size), by rw [HM.out]; simp⟩⟩
        case measure => simp [intOf]; omega
    · obtain rfl : n = k := by omega
      have he : zs.take n = zs := List.take_of_length_le (by rw [HS.out.1]; exact Nat.le_refl _)
      have ha := HR.out.al
      rw [he, HC.out] at ha
      simp at ha
      subst ha
      have HBR := Lib.hid (HB1.out.trans (HR.out.below.mono HB1.out.size))
      have X := Lib.hid (HX.out.keep HR.out.below)
      have Y := Lib.hid (HY.out.keep HR.out.below)
      clear HB1 HX HY he HR HS HC
      have X0 : ∀ p : Ext wr, p.W.cell? ⟨w.heap.size, 0, none⟩ = some (.int .i64 a1) := fun p => (X.out.ext p).1
      have X1 : ∀ p : Ext wr, p.W.cell? ⟨w.heap.size, 1, none⟩ = some (.int .i64 a2) := fun p => (X.out.ext p).2
      have Y0 : ∀ p : Ext wr, p.W.cell? ⟨w.heap.size + 1, 0, none⟩ = some (.int .i64 b1) := fun p => (Y.out.ext p).1
      have Y1 : ∀ p : Ext wr, p.W.cell? ⟨w.heap.size + 1, 1, none⟩ = some (.int .i64 b2) := fun p => (Y.out.ext p).2
      have ne : Nonempty (Ext wr) := ⟨⟨wr, Below.refl _ _⟩⟩
      go_wp2
      refine quietE (by kernel_rfl) (by kernel_rfl) ?_
      repeat (quiet_step (first
        | (go_at_call 11; exact ext_of (C0 _).out)
        | (go_at_call 18; exact ext_of (C1 _).out)
        | (go_at_call 16; first | with_reducible exact ext_of (C2 _).out | with_reducible exact ext_of (C3 _).out | with_reducible exact ext_of (C4 _).out)))
      refine wpQuiet_nil ?_
      rintro _ ⟨p, rfl⟩
      go_wp2
      go_ret
      exact ⟨rfl, HBR.out.trans (p.b.mono HBR.out.size)⟩

set_option maxRecDepth 100000 in
set_option maxHeartbeats 4000000 in
theorem way10 (x y : Sp) (d : Int) (w : World) (hi : inn x d = true) (hj : inn y d = false) : Calls Try.prog 5 #[ag x, ag y, .int .i64 d] w fun e w' => e = .returned (.bool true) ∧ Below w.heap.size w w' := by
  have C0 := fun w => Lib.hid (alive w)
  have C1 := fun w => Lib.hid (cut x y w)
  have C2 := fun w => Lib.hid (inn_ (ct x y) d w)
  have C3 := fun w => Lib.hid (inn_ x d w)
  have C4 := fun w => Lib.hid (inn_ y d w)
  have C5 := fun w => Lib.hid (less x y w)
  have CI := fun z w => Lib.hid (inn_ z d w)
  have hb : inn (ct x y) d = false := by
    have := ct_inn x y d
    rw [hi, hj] at this
    cases hh : inn (ct x y) d <;> rw [hh] at this <;> simp at this <;> rfl
  have hcn := ls_cnt x y d
  rw [hi, hj] at hcn
  simp at hcn
  rw [hb] at C2
  rw [hi] at C3
  rw [hj] at C4
  have hll := ls_len x y
  have HC := Lib.hid hcn
  clear hi hj hb hcn
  generalize ct x y = k at C1 C2
  generalize ls x y = zs at C5 HC hll
  obtain ⟨k1, k2⟩ := k
  obtain ⟨a1, a2⟩ := x
  obtain ⟨b1, b2⟩ := y
  go_enter Try.func5, Try.ntmps5
  go_wp2_with fail
  refine (C5 _).out.mono ?_
  rintro e w1 ⟨A, n, c, rfl, hS, hnc, hb⟩
  obtain ⟨X, Y, hB⟩ := bx2 hb
  have HX := Lib.hid X
  have HY := Lib.hid Y
  have HB1 := Lib.hid hB
  have HS := Lib.hid hS
  have hn : n ≤ 2 := by have := hS.1; omega
  clear hb X Y hB hS C5 hll
  go_wp2
  go_loopw [7, 14] (fun sa i w' => ∃ (k : Nat) (al : Bool), k ≤ n ∧ sa = .bool al ∧ i = .int .i64 (k : Int) ∧ Hid (DI w1 w' zs d k al)) (fun _ i _ => n - (intOf i).toNat)
  case atStart => exact ⟨0, false, Nat.zero_le _, rfl, rfl, Lib.hid ⟨Below.refl _ _, by simp [cnt]⟩⟩
  case round =>
    obtain ⟨k, al, hk, rfl, rfl, HR⟩ := hrel
    by_cases hlt : k < n
    · obtain ⟨ad, p, q, rfl, hb, hx, hc, hc'⟩ := (HS.out.below HR.out.below (Nat.le_refl _)).get hlt
      have HM := Lib.hid (cnt_more hx d)
      clear hx
      have CP := fun w => CI (p, q) w
      clear CI
      cases hip : inn (p, q) d
      · rw [hip] at HM
        simp only [Bool.false_eq_true, if_false, Nat.add_zero] at HM
        simp only [hip] at CP
        clear hip
        go_wp2_with fail
        refine (CP _).out.mono ?_
        rintro e w2 ⟨rfl, hb2⟩
        obtain ⟨_, hB2⟩ := bx1 hb2
        have HB2 := Lib.hid hB2
        clear hb2 hB2
        go_wp2
        go_roundw
        case rel => exact ⟨k + 1, al, by omega, rfl, by go_num, Lib.hid ⟨HR.out.below.trans (HB2.out.mono HR.out.below.size), by rw [HM.out]; exact HR.out.al⟩⟩
        case measure => simp [intOf]; omega
      · rw [hip] at HM
        simp only [if_true] at HM
        simp only [hip] at CP
        clear hip
        have h0 : cnt (zs.take k) d = 0 := by have h1 := cnt_le zs d (k + 1); have h2 := HM.out; have h3 := HC.out; omega
        have ha := HR.out.al
        rw [h0] at ha
        simp at ha
        subst ha
        have H0 := Lib.hid h0
        clear h0
        go_wp2_with fail
        refine (CP _).out.mono ?_
        rintro e w2 ⟨rfl, hb2⟩
        obtain ⟨_, hB2⟩ := bx1 hb2
        have HB2 := Lib.hid hB2
        clear hb2 hB2
        go_wp2
        go_roundw
        case rel => exact ⟨k + 1, true, by omega, rfl, by go_num, Lib.hid ⟨HR.out.below.trans (HB2.out.mono HR.out.below.size), by rw [HM.out]; simp⟩⟩
        case measure => simp [intOf]; omega
    · obtain rfl : n = k := by omega
      have he : zs.take n = zs := List.take_of_length_le (by rw [HS.out.1]; exact Nat.le_refl _)
      have ha := HR.out.al
      rw [he, HC.out] at ha
      simp at ha
      subst ha
      have HBR := Lib.hid (HB1.out.trans (HR.out.below.mono HB1.out.size))
      have X := Lib.hid (HX.out.keep HR.out.below)
      have Y := Lib.hid (HY.out.keep HR.out.below)
      clear HB1 HX HY he HR HS HC
      have X0 : ∀ p : Ext wr, p.W.cell? ⟨w.heap.size, 0, none⟩ = some (.int .i64 a1) := fun p => (X.out.ext p).1
      have X1 : ∀ p : Ext wr, p.W.cell? ⟨w.heap.size, 1, none⟩ = some (.int .i64 a2) := fun p => (X.out.ext p).2
      have Y0 : ∀ p : Ext wr, p.W.cell? ⟨w.heap.size + 1, 0, none⟩ = some (.int .i64 b1) := fun p => (Y.out.ext p).1
      have Y1 : ∀ p : Ext wr, p.W.cell? ⟨w.heap.size + 1, 1, none⟩ = some (.int .i64 b2) := fun p => (Y.out.ext p).2
      have ne : Nonempty (Ext wr) := ⟨⟨wr, Below.refl _ _⟩⟩
      go_wp2
      refine quietE (by kernel_rfl) (by kernel_rfl) ?_
      repeat (quiet_step (first
        | (go_at_call 11; exact ext_of (C0 _).out)
        | (go_at_call 18; exact ext_of (C1 _).out)
        | (go_at_call 16; first | with_reducible exact ext_of (C2 _).out | with_reducible exact ext_of (C3 _).out | with_reducible exact ext_of (C4 _).out)))
      refine wpQuiet_nil ?_
      rintro _ ⟨p, rfl⟩
      go_wp2
      go_ret
      exact ⟨rfl, HBR.out.trans (p.b.mono HBR.out.size)⟩

set_option maxRecDepth 100000 in
set_option maxHeartbeats 4000000 in
theorem way11 (x y : Sp) (d : Int) (w : World) (hi : inn x d = true) (hj : inn y d = true) : Calls Try.prog 5 #[ag x, ag y, .int .i64 d] w fun e w' => e = .returned (.bool true) ∧ Below w.heap.size w w' := by
  have C0 := fun w => Lib.hid (alive w)
  have C1 := fun w => Lib.hid (cut x y w)
  have C2 := fun w => Lib.hid (inn_ (ct x y) d w)
  have C3 := fun w => Lib.hid (inn_ x d w)
  have C4 := fun w => Lib.hid (inn_ y d w)
  have C5 := fun w => Lib.hid (less x y w)
  have CI := fun z w => Lib.hid (inn_ z d w)
  have hb : inn (ct x y) d = true := by
    have := ct_inn x y d
    rw [hi, hj] at this
    cases hh : inn (ct x y) d <;> rw [hh] at this <;> simp at this <;> rfl
  have hcn := ls_cnt x y d
  rw [hi, hj] at hcn
  simp at hcn
  rw [hb] at C2
  rw [hi] at C3
  rw [hj] at C4
  have hll := ls_len x y
  have HC := Lib.hid hcn
  clear hi hj hb hcn
  generalize ct x y = k at C1 C2
  generalize ls x y = zs at C5 HC hll
  obtain ⟨k1, k2⟩ := k
  obtain ⟨a1, a2⟩ := x
  obtain ⟨b1, b2⟩ := y
  go_enter Try.func5, Try.ntmps5
  go_wp2_with fail
  refine (C5 _).out.mono ?_
  rintro e w1 ⟨A, n, c, rfl, hS, hnc, hb⟩
  obtain ⟨X, Y, hB⟩ := bx2 hb
  have HX := Lib.hid X
  have HY := Lib.hid Y
  have HB1 := Lib.hid hB
  have HS := Lib.hid hS
  have hn : n ≤ 2 := by have := hS.1; omega
  clear hb X Y hB hS C5 hll
  go_wp2
  go_loopw [7, 14] (fun sa i w' => ∃ (k : Nat) (al : Bool), k ≤ n ∧ sa = .bool al ∧ i = .int .i64 (k : Int) ∧ Hid (DI w1 w' zs d k al)) (fun _ i _ => n - (intOf i).toNat)
  case atStart => exact ⟨0, false, Nat.zero_le _, rfl, rfl, Lib.hid ⟨Below.refl _ _, by simp [cnt]⟩⟩
  case round =>
    obtain ⟨k, al, hk, rfl, rfl, HR⟩ := hrel
    by_cases hlt : k < n
    · obtain ⟨ad, p, q, rfl, hb, hx, hc, hc'⟩ := (HS.out.below HR.out.below (Nat.le_refl _)).get hlt
      have HM := Lib.hid (cnt_more hx d)
      clear hx
      have CP := fun w => CI (p, q) w
      clear CI
      cases hip : inn (p, q) d
      · rw [hip] at HM
        simp only [Bool.false_eq_true, if_false, Nat.add_zero] at HM
        simp only [hip] at CP
        clear hip
        go_wp2_with fail
        refine (CP _).out.mono ?_
        rintro e w2 ⟨rfl, hb2⟩
        obtain ⟨_, hB2⟩ := bx1 hb2
        have HB2 := Lib.hid hB2
        clear hb2 hB2
        go_wp2
        go_roundw
        case rel => exact ⟨k + 1, al, by omega, rfl, by go_num, Lib.hid ⟨HR.out.below.trans (HB2.out.mono HR.out.below.size), by rw [HM.out]; exact HR.out.al⟩⟩
        case measure => simp [intOf]; omega
      · rw [hip] at HM
        simp only [if_true] at HM
        simp only [hip] at CP
        clear hip
        have h0 : cnt (zs.take k) d = 0 := by have h1 := cnt_le zs d (k + 1); have h2 := HM.out; have h3 := HC.out; omega
        have ha := HR.out.al
        rw [h0] at ha
        simp at ha
        subst ha
        have H0 := Lib.hid h0
        clear h0
        go_wp2_with fail
        refine (CP _).out.mono ?_
        rintro e w2 ⟨rfl, hb2⟩
        obtain ⟨_, hB2⟩ := bx1 hb2
        have HB2 := Lib.hid hB2
        clear hb2 hB2
        go_wp2
        go_roundw
        case rel => exact ⟨k + 1, true, by omega, rfl, by go_num, Lib.hid ⟨HR.out.below.trans (HB2.out.mono HR.out.below.size), by rw [HM.out]; simp⟩⟩
        case measure => simp [intOf]; omega
    · obtain rfl : n = k := by omega
      have he : zs.take n = zs := List.take_of_length_le (by rw [HS.out.1]; exact Nat.le_refl _)
      have ha := HR.out.al
      rw [he, HC.out] at ha
      simp at ha
      subst ha
      have HBR := Lib.hid (HB1.out.trans (HR.out.below.mono HB1.out.size))
      have X := Lib.hid (HX.out.keep HR.out.below)
      have Y := Lib.hid (HY.out.keep HR.out.below)
      clear HB1 HX HY he HR HS HC
      have X0 : ∀ p : Ext wr, p.W.cell? ⟨w.heap.size, 0, none⟩ = some (.int .i64 a1) := fun p => (X.out.ext p).1
      have X1 : ∀ p : Ext wr, p.W.cell? ⟨w.heap.size, 1, none⟩ = some (.int .i64 a2) := fun p => (X.out.ext p).2
      have Y0 : ∀ p : Ext wr, p.W.cell? ⟨w.heap.size + 1, 0, none⟩ = some (.int .i64 b1) := fun p => (Y.out.ext p).1
      have Y1 : ∀ p : Ext wr, p.W.cell? ⟨w.heap.size + 1, 1, none⟩ = some (.int .i64 b2) := fun p => (Y.out.ext p).2
      have ne : Nonempty (Ext wr) := ⟨⟨wr, Below.refl _ _⟩⟩
      go_wp2
      refine quietE (by kernel_rfl) (by kernel_rfl) ?_
      repeat (quiet_step (first
        | (go_at_call 11; exact ext_of (C0 _).out)
        | (go_at_call 18; exact ext_of (C1 _).out)
        | (go_at_call 16; first | with_reducible exact ext_of (C2 _).out | with_reducible exact ext_of (C3 _).out | with_reducible exact ext_of (C4 _).out)))
      refine wpQuiet_nil ?_
      rintro _ ⟨p, rfl⟩
      go_wp2
      go_ret
      exact ⟨rfl, HBR.out.trans (p.b.mono HBR.out.size)⟩

theorem walk (x y : Sp) (d : Int) (_hd : -9223372036854775808 ≤ d ∧ d ≤ 9223372036854775807) (w : World) :
    Calls Try.prog 5 #[ag x, ag y, .int .i64 d] w fun e w' => e = .returned (.bool true) ∧ Below w.heap.size w w' := by
  cases hi : inn x d <;> cases hj : inn y d
  · exact way00 x y d w hi hj
  · exact way01 x y d w hi hj
  · exact way10 x y d w hi hj
  · exact way11 x y d w hi hj


set_option maxRecDepth 100000 in
theorem lifted (os : Os) (started : os.Started) (H : Type) (enc : TypeId × Value → H) :
    ReturnsInHanded {} Try.checked os 5 .any (Rows.spanDaysSpec.pre6 enc Try.prog Try.f5 Rows.spanDaysRow.domain false) (Rows.spanDaysSpec.post enc Try.prog Try.f5 false true false false) := by
  refine returnsInHanded_of_change (C := Try.checked) Spn.own started (by kernel_rfl) Try.func5
    (ChangeSpec.witness6 (enc := enc) (C := Try.checked) false ⟨#[], #[.agg #[.int .i64 0, .int .i64 0], .agg #[.int .i64 0, .int .i64 0], .int .i64 0], []⟩ 8 (by kernel_rfl) (by kernel_rfl) (by kernel_rfl) (by kernel_rfl)) ?_
  intro W base args ds gs before hval0 hW hcnd _
  have hval : ∀ (j : Nat) t v, Try.f5.params[j]? = some t → args[j]? = some v → Value.okWide Try.prog W .any base t v := hval0
  have hW' := hW
  obtain ⟨p, q, hA0, hV, rfl, hfz, hnd⟩ := hW
  have hA : DataW.TrodAll enc Try.prog W 0 (fun _ => true) true Try.f5.params.toList args.toList ds p := hA0
  rw [Try.params5] at hA hval
  obtain ⟨v0, vs0, d0, ds0, p0, q0, hargs, rfl, rfl, h0, r0⟩ := trodAll_cons hA
  obtain ⟨v1, vs1, d1, ds1, p1, q1, rfl, rfl, rfl, h1, r1⟩ := trodAll_cons r0
  obtain ⟨v2, vs2, d2, ds2, p2, q2, rfl, rfl, rfl, h2, r2⟩ := trodAll_cons r1
  obtain ⟨rfl, rfl, rfl⟩ := trodAll_nil r2
  obtain rfl : args = #[v0, v1, v2] := by cases args; simp_all
  obtain ⟨rfl, rfl⟩ := trodVars_none hV
  have k0 := h0
  have lt0 : ∀ x ∈ p0, x.block < W.heap.size := by obtain ⟨m, hm⟩ := k0; exact DataW.trod_lt m _ _ _ hm
  obtain ⟨x0, rfl⟩ := Spn.open_span (hval 0 23 v0 rfl rfl) h0
  have k1 := h1
  have lt1 : ∀ x ∈ p1, x.block < W.heap.size := by obtain ⟨m, hm⟩ := k1; exact DataW.trod_lt m _ _ _ hm
  obtain ⟨x1, rfl⟩ := Spn.open_span (hval 1 23 v1 rfl rfl) h1
  obtain ⟨a2, rfl, rfl, rfl, w2⟩ := open_int Try.underlying3 (hval 2 3 v2 rfl rfl) h2
  clear hA0 hval0
  refine (walk x0 x1 a2 (Spn.i64_of w2) W).mono fun e W' ⟨he, bel⟩ => ?_
  subst he
  exact ⟨_, rfl, _, _, _, [], _, [], hW', trodAll_mk1 (shut_bool Try.underlying4 _), (trodAll_cons_mk (Below.trod Spn.laidOut (by kernel_rfl) (of_decide_eq_true (by kernel_rfl)) k0 bel lt0) (trodAll_cons_mk (Below.trod Spn.laidOut (by kernel_rfl) (of_decide_eq_true (by kernel_rfl)) k1 bel lt1) (trodAll_cons_mk (shut_int Try.underlying3 w2) trodAll_mk0))), rfl, bel.frame _, fun h => by cases h⟩

theorem over : Rows.spanDaysRow.holds Try.pinned (OpenSpec.ofChange Rows.spanDaysSpec) :=
  OpenClaim.holds_of_wide 5 Try.f5 rfl rfl rfl rfl rfl rfl rfl ⟨rfl, rfl, rfl, rfl, rfl⟩ rfl rfl rfl rfl rfl (by kernel_rfl) Try.func5 (by kernel_rfl)
    (of_decide_eq_true (by kernel_rfl)) (by unfold Func.isWrapper; first | (rw [if_pos (by decide +kernel)]; kernel_rfl) | (rw [if_neg (by decide +kernel)]; exact ⟨rfl, rfl⟩))
    (fun os started H enc _ => lifted os started H enc)

theorem proved : Rows.SpanDaysSaid := over
end Go.Proofs.Ytbollbbanmdbhaa.spanDays
