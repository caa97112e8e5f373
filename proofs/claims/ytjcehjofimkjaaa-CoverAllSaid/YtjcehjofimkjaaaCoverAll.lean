/-
  The statement CoverAll holds: for every input the call returns true, and each argument reads afterwards as it read before. Conditions: none beside those that the row itself bears.
-/
import Derived.Test.YtjcehjofimkjaaaGiven
namespace Go.Proofs.Ytjcehjofimkjaaa.coverAll
open Go.ChangeShapes Go.WideShapes Go.ChangeAt Go.RowKit Cv Cvr
set_option linter.unusedVariables false


set_option maxRecDepth 100000 in
set_option maxHeartbeats 2000000 in
theorem far_no (c : Co) (A : Option Addr) (n k : Nat) {w : World} (C1 : ∀ w : World, Hid (Calls Try.prog 9 #[cg c] w (Yes w false))) :
    Calls Try.prog 6 #[cg c, .slice A n k] w (Yes w true) := by
  obtain ⟨W, hW⟩ : ∃ W, w.alloc (.cells (cc c) 23) = W := ⟨_, rfl⟩
  have HX := Lib.hid (show Bx W w.heap.size 23 (cc c) by rw [← hW]; exact Bx.new _ _ _)
  have HB := Lib.hid (show Below w.heap.size w W by rw [← hW]; exact alloc_ _ _)
  have HW := Lib.hid hW
  clear hW
  go_enter Try.func6, Try.ntmps6
  go_wp2_with fail
  rw [HW.out]
  refine (awake _).mono ?_
  rintro e w1 ⟨rfl, hb1⟩
  have HB1 := Lib.hid (HB.out.trans (hb1.mono HB.out.size))
  have HX1 := Lib.hid (HX.out.keep hb1)
  clear hb1 HX HB
  have x0 := HX1.out.c 0
  have x1 := HX1.out.c 1
  have x2 := HX1.out.c 2
  have x3 := HX1.out.c 3
  have x4 := HX1.out.c 4
  go_wp2_with fail
  refine (C1 _).out.mono ?_
  rintro e w2 ⟨rfl, hb2⟩
  have HX2 := Lib.hid (HX1.out.keep hb2)
  have HB2 := Lib.hid (HB1.out.trans (hb2.mono HB1.out.size))
  clear hb2 x0 x1 x2 x3 x4 HX1 HB1
  have x0 := HX2.out.c 0
  have x1 := HX2.out.c 1
  have x2 := HX2.out.c 2
  have x3 := HX2.out.c 3
  have x4 := HX2.out.c 4
  go_wp2
  go_ret
  exact ⟨rfl, HB2.out⟩

set_option maxRecDepth 100000 in
set_option maxHeartbeats 2000000 in
theorem far_len (c : Co) (A : Option Addr) (n k : Nat) {w : World} (C1 : ∀ w : World, Hid (Calls Try.prog 9 #[cg c] w (Yes w true))) (hn : n ≤ maxLen)
    (t : decide (100 < (n : Int)) = true) (t' : decide (100 < n) = true) :
    Calls Try.prog 6 #[cg c, .slice A n k] w (Yes w true) := by
  unfold maxLen at hn
  obtain ⟨W, hW⟩ : ∃ W, w.alloc (.cells (cc c) 23) = W := ⟨_, rfl⟩
  have HX := Lib.hid (show Bx W w.heap.size 23 (cc c) by rw [← hW]; exact Bx.new _ _ _)
  have HB := Lib.hid (show Below w.heap.size w W by rw [← hW]; exact alloc_ _ _)
  have HW := Lib.hid hW
  clear hW
  go_enter Try.func6, Try.ntmps6
  go_wp2_with fail
  rw [HW.out]
  refine (awake _).mono ?_
  rintro e w1 ⟨rfl, hb1⟩
  have HB1 := Lib.hid (HB.out.trans (hb1.mono HB.out.size))
  have HX1 := Lib.hid (HX.out.keep hb1)
  clear hb1 HX HB
  have x0 := HX1.out.c 0
  have x1 := HX1.out.c 1
  have x2 := HX1.out.c 2
  have x3 := HX1.out.c 3
  have x4 := HX1.out.c 4
  go_wp2_with fail
  refine (C1 _).out.mono ?_
  rintro e w2 ⟨rfl, hb2⟩
  have HX2 := Lib.hid (HX1.out.keep hb2)
  have HB2 := Lib.hid (HB1.out.trans (hb2.mono HB1.out.size))
  clear hb2 x0 x1 x2 x3 x4 HX1 HB1
  have x0 := HX2.out.c 0
  have x1 := HX2.out.c 1
  have x2 := HX2.out.c 2
  have x3 := HX2.out.c 3
  have x4 := HX2.out.c 4
  go_wp2
  go_ret
  exact ⟨rfl, HB2.out⟩

set_option maxRecDepth 100000 in
set_option maxHeartbeats 2000000 in
theorem near (c : Co) (A : Option Addr) (n k : Nat) (xs : List Int) {w : World} (hc : Hid (Ok c)) (C1 : ∀ w : World, Hid (Calls Try.prog 9 #[cg c] w (Yes w true))) (hn : n ≤ 100)
    (t : decide (100 < (n : Int)) = false) (t' : decide (100 < n) = false) (HG : Hid (Ins w (· < w.heap.size) A n xs)) (HI : Hid (∀ x ∈ xs, I64 x)) :
    Calls Try.prog 6 #[cg c, .slice A n k] w (Yes w true) := by
  obtain ⟨W, hW⟩ : ∃ W, w.alloc (.cells (cc c) 23) = W := ⟨_, rfl⟩
  have HX := Lib.hid (show Bx W w.heap.size 23 (cc c) by rw [← hW]; exact Bx.new _ _ _)
  have HB := Lib.hid (show Below w.heap.size w W by rw [← hW]; exact alloc_ _ _)
  have HW := Lib.hid hW
  clear hW
  go_enter Try.func6, Try.ntmps6
  go_wp2_with fail
  rw [HW.out]
  refine (awake _).mono ?_
  rintro e w1 ⟨rfl, hb1⟩
  have HB1 := Lib.hid (HB.out.trans (hb1.mono HB.out.size))
  have HX1 := Lib.hid (HX.out.keep hb1)
  clear hb1 HX HB
  have x0 := HX1.out.c 0
  have x1 := HX1.out.c 1
  have x2 := HX1.out.c 2
  have x3 := HX1.out.c 3
  have x4 := HX1.out.c 4
  go_wp2_with fail
  refine (C1 _).out.mono ?_
  rintro e w2 ⟨rfl, hb2⟩
  have HX2 := Lib.hid (HX1.out.keep hb2)
  have HB2 := Lib.hid (HB1.out.trans (hb2.mono HB1.out.size))
  clear hb2 x0 x1 x2 x3 x4 HX1 HB1
  have x0 := HX2.out.c 0
  have x1 := HX2.out.c 1
  have x2 := HX2.out.c 2
  have x3 := HX2.out.c 3
  have x4 := HX2.out.c 4
  clear x0 x1 x2 x3 x4
  go_wp2
  go_loopw [6, 7, 8] (fun p e i w' => ∃ (j : Nat) (P E : Int) (w3 : World), j ≤ n ∧ i = .int .i64 (j : Int) ∧ p = .int .i64 P ∧ e = .int .i64 E ∧ w3 = w' ∧ Hid (P = run c (xs.take j) 0 ∧ E = alone c (xs.take j)) ∧ Hid (Bx w3 w.heap.size 23 (cc c)) ∧ Hid (Below w.heap.size w w3)) (fun _ _ i _ => n - (intOf i).toNat)
  case atStart => exact ⟨0, 0, 0, w2, Nat.zero_le _, rfl, rfl, rfl, rfl, Lib.hid ⟨rfl, rfl⟩, HX2, HB2⟩
  case round =>
    clear HX2 HB2
    obtain ⟨j, P, E, w3, hj, rfl, rfl, rfl, rfl, HR, HX3, HB3⟩ := hrel
    have hrun := run_all hc.out (xs.take j)
    have hnn := alone_nn c (xs.take j)
    rw [← HR.out.1, ← HR.out.2] at hrun
    rw [← HR.out.2, List.length_take] at hnn
    have hg : 0 ≤ c.g ∧ c.g ≤ 1000000000000000 := by obtain ⟨_, _, _, _, _, _, _, _⟩ := hc.out; omega
    by_cases hlt : j < n
    · obtain ⟨ad, x, rfl, hb, hx, hcx⟩ := (HG.out.below (HB3.out)).get hlt
      have hx64 := HI.out x (List.mem_of_getElem? hx)
      have HN := Lib.hid (show P + pay c x P = run c (xs.take (j + 1)) 0 ∧ E + pay c x 0 = alone c (xs.take (j + 1)) by
        rw [take_get hx, run_append, alone_append, ← HR.out.1, ← HR.out.2]
        simp [run, alone])
      have C2 := fun w => Lib.hid (pays c x P w hx64 ⟨by omega, by omega⟩)
      have C3 := fun w => Lib.hid (pays c x 0 w hx64 ⟨by omega, by omega⟩)
      have hb1 := pay_bd c x P
      have hb2 := pay_bd c x 0
      have hend : P = c.g → pay c x P = 0 := fun h => by
        by_cases h0 : x < 0
        · exact pay_no (.inl h0)
        · rw [pay_yes (by omega) (by omega) hc.out]; omega
      have hjn : (j : Int) < (n : Int) := by omega
      have HY : ∀ w' : World, Below w3.heap.size w3 w' → w'.cell? (ad.add j) = some (.int .i64 x) := fun w' h => (h.cell (by rw [add_block]; exact hb)).trans hcx
      have c9 : ∀ p : Ext w3, p.W.cell? (ad.add j) = some (.int .i64 x) := fun p => HY _ p.b
      have X0 : ∀ p : Ext w3, p.W.cell? ⟨w.heap.size, 0, none⟩ = some (.int .i64 c.p) := fun p => HX3.out.ext p 0
      have X1 : ∀ p : Ext w3, p.W.cell? ⟨w.heap.size, 1, none⟩ = some (.int .i64 c.l) := fun p => HX3.out.ext p 1
      have X2 : ∀ p : Ext w3, p.W.cell? ⟨w.heap.size, 2, none⟩ = some (.int .i64 c.g) := fun p => HX3.out.ext p 2
      have X3 : ∀ p : Ext w3, p.W.cell? ⟨w.heap.size, 3, none⟩ = some (.int .i64 c.d) := fun p => HX3.out.ext p 3
      have X4 : ∀ p : Ext w3, p.W.cell? ⟨w.heap.size, 4, none⟩ = some (.int .i64 c.s) := fun p => HX3.out.ext p 4
      have ne : Nonempty (Ext w3) := ⟨⟨w3, Below.refl _ _⟩⟩
      have HYh := Lib.hid HY
      have e1 : wrap64 (P + pay c x P) = P + pay c x P := IntWalk.wrap64_in _ ⟨by omega, by omega⟩
      have e2 : wrap64 (E + pay c x 0) = E + pay c x 0 := IntWalk.wrap64_in _ ⟨by omega, by omega⟩
      have s0 : decide (pay c x P < 0) = false := decide_eq_false (by omega)
      clear HY hx hb hcx hx64
      generalize pay c x P = a at *
      generalize pay c x 0 = b at *
      obtain ⟨P', hP'⟩ : ∃ P', P + a = P' := ⟨_, rfl⟩
      obtain ⟨E', hE'⟩ : ∃ E', E + b = E' := ⟨_, rfl⟩
      rw [hP'] at e1 HN
      rw [hE'] at e2 HN
      have e2' : IntKind.i64.wrap E' = E' := (IntWalk.i64_left _).trans e2
      by_cases hq : P = c.g
      · have q1 : (P == c.g) = true := by simpa using hq
        have ha := hend hq
        subst ha
        have hPP : P' = P := by omega
        subst hPP
        clear hq hend hnn hrun hg hb1 hb2 hP' HR
        go_wp2
        refine quietE (by kernel_rfl) (by kernel_rfl) ?_
        repeat (quiet_step (first
          | (go_at_call 11; exact ext_of (C2 _).out)))
        refine wpQuiet_nil ?_
        rintro w4 ⟨⟨_, hb4⟩, rfl⟩
        have HX4 := Lib.hid (HX3.out.keep hb4)
        have HB4 := Lib.hid (HB3.out.trans (hb4.mono HB3.out.size))
        have HY4 := Lib.hid (fun w' (h : Below w4.heap.size w4 w') => HYh.out w' (hb4.trans (h.mono hb4.size)))
        clear hb4 HX3 HB3 X0 X1 X2 X3 X4 c9 ne HYh
        have x2 := HX4.out.c 2
        have c9 : ∀ p : Ext w4, p.W.cell? (ad.add j) = some (.int .i64 x) := fun p => HY4.out _ p.b
        have X0 : ∀ p : Ext w4, p.W.cell? ⟨w.heap.size, 0, none⟩ = some (.int .i64 c.p) := fun p => HX4.out.ext p 0
        have X1 : ∀ p : Ext w4, p.W.cell? ⟨w.heap.size, 1, none⟩ = some (.int .i64 c.l) := fun p => HX4.out.ext p 1
        have X2 : ∀ p : Ext w4, p.W.cell? ⟨w.heap.size, 2, none⟩ = some (.int .i64 c.g) := fun p => HX4.out.ext p 2
        have X3 : ∀ p : Ext w4, p.W.cell? ⟨w.heap.size, 3, none⟩ = some (.int .i64 c.d) := fun p => HX4.out.ext p 3
        have X4 : ∀ p : Ext w4, p.W.cell? ⟨w.heap.size, 4, none⟩ = some (.int .i64 c.s) := fun p => HX4.out.ext p 4
        have ne : Nonempty (Ext w4) := ⟨⟨w4, Below.refl _ _⟩⟩
        go_wp2
        refine quietE (by kernel_rfl) (by kernel_rfl) ?_
        repeat (quiet_step (first
          | (go_at_call 11; exact ext_of (C3 _).out)))
        refine wpQuiet_nil ?_
        rintro w5 ⟨⟨_, hb5⟩, rfl⟩
        dsimp only [Exit.inBlock, Exit.then]
        go_step
        have HX5 := Lib.hid (HX4.out.keep hb5)
        have HB5 := Lib.hid (HB4.out.trans (hb5.mono HB4.out.size))
        clear hb5 HX4 HB4 X0 X1 X2 X3 X4 c9 ne HY4 x2
        go_wp2
        go_round
        case rel => exact ⟨j + 1, _, _, w5, by omega, by go_num, rfl, rfl, rfl, HN, HX5, HB5⟩
        case measure => simp [intOf]; omega
      · have q1 : (P == c.g) = false := by simpa using hq
        clear hq hend hnn hrun hg hb1 hb2 HR
        go_wp2
        refine quietE (by kernel_rfl) (by kernel_rfl) ?_
        repeat (quiet_step (first
          | (go_at_call 11; exact ext_of (C2 _).out)))
        refine wpQuiet_nil ?_
        rintro w4 ⟨⟨_, hb4⟩, rfl⟩
        have HX4 := Lib.hid (HX3.out.keep hb4)
        have HB4 := Lib.hid (HB3.out.trans (hb4.mono HB3.out.size))
        have HY4 := Lib.hid (fun w' (h : Below w4.heap.size w4 w') => HYh.out w' (hb4.trans (h.mono hb4.size)))
        clear hb4 HX3 HB3 X0 X1 X2 X3 X4 c9 ne HYh
        have x2 := HX4.out.c 2
        have c9 : ∀ p : Ext w4, p.W.cell? (ad.add j) = some (.int .i64 x) := fun p => HY4.out _ p.b
        have X0 : ∀ p : Ext w4, p.W.cell? ⟨w.heap.size, 0, none⟩ = some (.int .i64 c.p) := fun p => HX4.out.ext p 0
        have X1 : ∀ p : Ext w4, p.W.cell? ⟨w.heap.size, 1, none⟩ = some (.int .i64 c.l) := fun p => HX4.out.ext p 1
        have X2 : ∀ p : Ext w4, p.W.cell? ⟨w.heap.size, 2, none⟩ = some (.int .i64 c.g) := fun p => HX4.out.ext p 2
        have X3 : ∀ p : Ext w4, p.W.cell? ⟨w.heap.size, 3, none⟩ = some (.int .i64 c.d) := fun p => HX4.out.ext p 3
        have X4 : ∀ p : Ext w4, p.W.cell? ⟨w.heap.size, 4, none⟩ = some (.int .i64 c.s) := fun p => HX4.out.ext p 4
        have ne : Nonempty (Ext w4) := ⟨⟨w4, Below.refl _ _⟩⟩
        go_wp2
        refine quietE (by kernel_rfl) (by kernel_rfl) ?_
        repeat (quiet_step (first
          | (go_at_call 11; exact ext_of (C3 _).out)))
        refine wpQuiet_nil ?_
        rintro w5 ⟨⟨_, hb5⟩, rfl⟩
        dsimp only [Exit.inBlock, Exit.then]
        go_step
        have HX5 := Lib.hid (HX4.out.keep hb5)
        have HB5 := Lib.hid (HB4.out.trans (hb5.mono HB4.out.size))
        clear hb5 HX4 HB4 X0 X1 X2 X3 X4 c9 ne HY4 x2
        go_wp2
        go_round
        case rel => exact ⟨j + 1, _, _, w5, by omega, by go_num, rfl, rfl, rfl, HN, HX5, HB5⟩
        case measure => simp [intOf]; omega
    · obtain rfl : j = n := by omega
      have hlen := HG.out.1
      rw [List.take_of_length_le (by omega)] at HR
      have hP : P = run c xs.reverse 0 := by rw [run_all hc.out, alone_rev, ← run_all hc.out]; exact HR.out.1
      have hPm : min E c.g = P := hrun.symm
      have s1 : decide (P ≤ c.g) = true := decide_eq_true (by omega)
      have HPM := Lib.hid hPm
      have HPR := Lib.hid hP
      have HS1 := Lib.hid s1
      have HGG := Lib.hid hg
      clear hrun hnn hg hP hPm s1 HR hlt
      go_wp2
      go_loopw [10, 11] (fun p i w' => ∃ (B : Int) (w4 : World), p = .int .i64 B ∧ w4 = w' ∧ ((∃ j' : Nat, j' < j ∧ i = .int .i64 (j' : Int) ∧ Hid (B = run c (xs.drop (j' + 1)).reverse 0)) ∨ (i = .int .i64 (-1) ∧ Hid (B = run c xs.reverse 0))) ∧ Hid (Bx w4 w.heap.size 23 (cc c)) ∧ Hid (Below w.heap.size w w4)) (fun _ i _ => (intOf i + 1).toNat)
      case atStart =>
        refine ⟨0, w3, rfl, rfl, ?_, HX3, HB3⟩
        by_cases h0 : j = 0
        · subst h0
          have hxs : xs = [] := List.eq_nil_of_length_eq_zero hlen
          exact .inr ⟨rfl, Lib.hid (by rw [hxs]; rfl)⟩
        · exact .inl ⟨j - 1, by omega, congrArg (Value.int .i64) (by omega), Lib.hid (by rw [List.drop_of_length_le (by omega)]; rfl)⟩
      case round =>
        clear HX3 HB3
        obtain ⟨B, w4, rfl, rfl, hor, HX3, HB3⟩ := hrel
        rcases hor with ⟨j', hj', rfl, HR⟩ | ⟨rfl, HR⟩
        · obtain ⟨ad, x, rfl, hb, hx, hcx⟩ := (HG.out.below (HB3.out)).get hj'
          have hx64 := HI.out x (List.mem_of_getElem? hx)
          have hB : 0 ≤ B ∧ B ≤ 1000000000000000 := by
            have h1 := run_all hc.out (xs.drop (j' + 1)).reverse
            have h2 := (alone_nn c (xs.drop (j' + 1)).reverse).1
            have h3 := HGG.out
            have h4 := HR.out
            omega
          have HN := Lib.hid (show B + pay c x B = run c (xs.drop j').reverse 0 by
            rw [drop_get hx, List.reverse_cons, run_append, ← HR.out]
            rfl)
          have C2 := fun w => Lib.hid (pays c x B w hx64 ⟨by omega, by omega⟩)
          have hb1 := pay_bd c x B
          have HY : ∀ w' : World, Below w4.heap.size w4 w' → w'.cell? (ad.add j') = some (.int .i64 x) := fun w' h => (h.cell (by rw [add_block]; exact hb)).trans hcx
          have c9 : ∀ p : Ext w4, p.W.cell? (ad.add j') = some (.int .i64 x) := fun p => HY _ p.b
          have X0 : ∀ p : Ext w4, p.W.cell? ⟨w.heap.size, 0, none⟩ = some (.int .i64 c.p) := fun p => HX3.out.ext p 0
          have X1 : ∀ p : Ext w4, p.W.cell? ⟨w.heap.size, 1, none⟩ = some (.int .i64 c.l) := fun p => HX3.out.ext p 1
          have X2 : ∀ p : Ext w4, p.W.cell? ⟨w.heap.size, 2, none⟩ = some (.int .i64 c.g) := fun p => HX3.out.ext p 2
          have X3 : ∀ p : Ext w4, p.W.cell? ⟨w.heap.size, 3, none⟩ = some (.int .i64 c.d) := fun p => HX3.out.ext p 3
          have X4 : ∀ p : Ext w4, p.W.cell? ⟨w.heap.size, 4, none⟩ = some (.int .i64 c.s) := fun p => HX3.out.ext p 4
          have ne : Nonempty (Ext w4) := ⟨⟨w4, Below.refl _ _⟩⟩
          have e1 : wrap64 (B + pay c x B) = B + pay c x B := IntWalk.wrap64_in _ ⟨by omega, by omega⟩
          have e1' : IntKind.i64.wrap (B + pay c x B) = B + pay c x B := (IntWalk.i64_left _).trans e1
          have hjn : (j' : Int) < (j : Int) := by omega
          clear HY hx hb hcx hx64 HR
          generalize pay c x B = a at *
          obtain ⟨B', hB'⟩ : ∃ B', B + a = B' := ⟨_, rfl⟩
          rw [hB'] at e1 e1' HN
          clear hb1 hB
          go_wp2
          refine quietE (by kernel_rfl) (by kernel_rfl) ?_
          repeat (quiet_step (first
            | (go_at_call 11; exact ext_of (C2 _).out)))
          refine wpQuiet_nil ?_
          rintro w5 ⟨⟨_, hb5⟩, rfl⟩
          dsimp only [Exit.inBlock, Exit.then]
          go_step
          have HX5 := Lib.hid (HX3.out.keep hb5)
          have HB5 := Lib.hid (HB3.out.trans (hb5.mono HB3.out.size))
          clear hb5 HX3 HB3 X0 X1 X2 X3 X4 c9 ne
          go_wp2
          go_round
          case rel =>
            refine ⟨B', w5, rfl, rfl, ?_, HX5, HB5⟩
            by_cases h0 : j' = 0
            · subst h0
              exact .inr ⟨rfl, Lib.hid (by have := HN.out; rwa [List.drop_zero] at this)⟩
            · exact .inl ⟨j' - 1, by omega, congrArg (Value.int .i64) (by omega), Lib.hid (by have := HN.out; rwa [show j' - 1 + 1 = j' by omega])⟩
          case measure => simp [intOf]
        · have hBP : B = P := HR.out.trans HPR.out.symm
          subst hBP
          have x2 := HX3.out.c 2
          have s1 := HS1.out
          have q3 := HPM.out
          clear HR HPR
          go_wp2
          go_ret
          exact ⟨rfl, HB3.out⟩

theorem walk (c : Co) (A : Option Addr) (n k : Nat) (xs : List Int) {w : World} (G : GivenI w A n k xs) :
    Calls Try.prog 6 #[cg c, .slice A n k] w (Yes w true) := by
  have C1 := fun w => Lib.hid (right_ c w)
  by_cases hc : Ok c
  · rw [ok_yes hc] at C1
    by_cases h : 100 < n
    · exact far_len c A n k C1 G.m (decide_eq_true (by omega)) (decide_eq_true h)
    · exact near c A n k xs (Lib.hid hc) C1 (by omega) (decide_eq_false (by omega)) (decide_eq_false h) (Lib.hid G.l) (Lib.hid G.i)
  · rw [ok_no hc] at C1
    exact far_no c A n k C1

set_option maxRecDepth 100000 in
theorem lifted (os : Os) (started : os.Started) (H : Type) (enc : TypeId × Value → H) :
    ReturnsInHanded {} Try.checked os 6 .any (Rows.coverAllSpec.pre6 enc Try.prog Try.f6 Rows.coverAllRow.domain false) (Rows.coverAllSpec.post enc Try.prog Try.f6 false true false false) := by
  refine returnsInHanded_of_change (C := Try.checked) Cvr.own started (by kernel_rfl) Try.func6
    (ChangeSpec.witness6 (enc := enc) (C := Try.checked) false ⟨#[], #[.agg #[.int .i64 0, .int .i64 0, .int .i64 0, .int .i64 0, .int .i64 0], .slice none 0 0], []⟩ 8 (by kernel_rfl) (by kernel_rfl) (by kernel_rfl) (by kernel_rfl)) ?_
  intro W base args ds gs before hval0 hW hcnd _
  have hval : ∀ (j : Nat) t v, Try.f6.params[j]? = some t → args[j]? = some v → Value.okWide Try.prog W .any base t v := hval0
  have hW' := hW
  obtain ⟨p, q, hA0, hV, rfl, hfz, hnd⟩ := hW
  have hA : DataW.TrodAll enc Try.prog W 0 (fun _ => true) true Try.f6.params.toList args.toList ds p := hA0
  rw [Try.params6] at hA hval
  obtain ⟨v0, vs0, d0, ds0, p0, q0, hargs, rfl, rfl, h0, r0⟩ := trodAll_cons hA
  obtain ⟨v1, vs1, d1, ds1, p1, q1, rfl, rfl, rfl, h1, r1⟩ := trodAll_cons r0
  obtain ⟨rfl, rfl, rfl⟩ := trodAll_nil r1
  obtain rfl : args = #[v0, v1] := by cases args; simp_all
  obtain ⟨rfl, rfl⟩ := trodVars_none hV
  have k0 := h0
  have lt0 : ∀ x ∈ p0, x.block < W.heap.size := by obtain ⟨m, hm⟩ := k0; exact DataW.trod_lt m _ _ _ hm
  obtain ⟨c0, rfl⟩ := Cvr.open_cover (hval 0 23 v0 rfl rfl) h0
  have k1 := h1
  have lt1 : ∀ x ∈ p1, x.block < W.heap.size := by obtain ⟨m, hm⟩ := k1; exact DataW.trod_lt m _ _ _ hm
  obtain ⟨L1, m1, c1, x1, rfl, g1⟩ := Cvr.open_is (hval 1 29 v1 rfl rfl) h1
  clear hA0 hval0
  refine (walk c0 L1 m1 c1 x1 g1).mono fun e W' ⟨he, bel⟩ => ?_
  subst he
  exact ⟨_, rfl, _, _, _, [], _, [], hW', trodAll_mk1 (shut_bool Try.underlying4 _), (trodAll_cons_mk (Below.trod Cvr.laidOut (by kernel_rfl) (of_decide_eq_true (by kernel_rfl)) k0 bel lt0) (trodAll_cons_mk (Below.trod Cvr.laidOut (by kernel_rfl) (of_decide_eq_true (by kernel_rfl)) k1 bel lt1) trodAll_mk0)), rfl, bel.frame _, fun h => by cases h⟩

theorem over : Rows.coverAllRow.holds Try.pinned (OpenSpec.ofChange Rows.coverAllSpec) :=
  OpenClaim.holds_of_wide 6 Try.f6 rfl rfl rfl rfl rfl rfl rfl ⟨rfl, rfl, rfl, rfl, rfl⟩ rfl rfl rfl rfl rfl (by kernel_rfl) Try.func6 (by kernel_rfl)
    (of_decide_eq_true (by kernel_rfl)) (by unfold Func.isWrapper; first | (rw [if_pos (by decide +kernel)]; kernel_rfl) | (rw [if_neg (by decide +kernel)]; exact ⟨rfl, rfl⟩))
    (fun os started H enc _ => lifted os started H enc)

theorem proved : Rows.CoverAllSaid := over
end Go.Proofs.Ytjcehjofimkjaaa.coverAll
