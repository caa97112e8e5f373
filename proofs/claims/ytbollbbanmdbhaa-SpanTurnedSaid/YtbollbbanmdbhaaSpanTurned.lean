/-
  The statement SpanTurned holds: for every input the call returns true, and each argument reads afterwards as it read before. Conditions: none beside those that the row itself bears.
-/
import Derived.Test.YtbollbbanmdbhaaGiven
import Derived.Test.YtbollbbanmdbhaaJoinA
import Derived.Deep.RegionLaw
namespace Go.Proofs.Ytbollbbanmdbhaa.spanTurned
open Go.ChangeShapes Go.WideShapes Go.ChangeAt Go.RowKit Sp Spn
set_option linter.unusedVariables false

set_option maxHeartbeats 1000000 in
theorem few (A : Option Addr) (n c : Nat) (w : World) (hn : n ≤ 9223372036854775807) : Calls Try.prog 23 #[.slice A n c] w fun e w' => e = .returned (.bool (decide (n ≤ 100))) ∧ w = w' := by
  by_cases h : n ≤ 100
  · have t1 : decide (n ≤ 100) = true := by simpa using h
    have t2 : decide ((n : Int) ≤ 100) = true := by simp; omega
    rw [t1]
    go_enter Try.func23, Try.ntmps23
    go_wp2
    go_ret
    exact ⟨rfl, rfl⟩
  · have t1 : decide (n ≤ 100) = false := by simpa using h
    have t2 : decide ((n : Int) ≤ 100) = false := by simp; omega
    rw [t1]
    go_enter Try.func23, Try.ntmps23
    go_wp2
    go_ret
    exact ⟨rfl, rfl⟩

set_option maxHeartbeats 1000000 in
theorem long (A : Option Addr) (n c : Nat) (d : Int) (w : World) (hn : n ≤ 9223372036854775807) (h : 100 < n) : Calls Try.prog 9 #[.slice A n c, .int .i64 d] w fun e w' => e = .returned (.bool true) ∧ Below w.heap.size w w' := by
  have C := Lib.hid (few A n c w hn)
  rw [show decide (n ≤ 100) = false by simp; omega] at C
  go_enter Try.func9, Try.ntmps9
  go_wp2_with (go_at_call 23; refine C.out.mono ?_; rintro e w' ⟨rfl, rfl⟩)
  refine (alive _).mono ?_
  rintro e w1 ⟨rfl, hb⟩
  have HB := Lib.hid hb
  clear hb
  go_wp2
  go_ret
  exact ⟨rfl, HB.out⟩

set_option maxHeartbeats 1000000 in
theorem empty (A : Option Addr) (c : Nat) (d : Int) (w : World) : Calls Try.prog 9 #[.slice A 0 c, .int .i64 d] w fun e w' => e = .returned (.bool true) ∧ Below w.heap.size w w' := by
  have C := Lib.hid (few A 0 c w (by omega))
  rw [show decide (0 ≤ 100) = true by decide] at C
  go_enter Try.func9, Try.ntmps9
  go_wp2_with (go_at_call 23; refine C.out.mono ?_; rintro e w' ⟨rfl, rfl⟩)
  refine (alive _).mono ?_
  rintro e w1 ⟨rfl, hb⟩
  have HB := Lib.hid hb
  clear hb
  go_wp2
  go_ret
  exact ⟨rfl, HB.out⟩

/-- Spans appended, in a region that draws its order. -/
theorem step_app (w : World) {ops : Array Oper} {o : Oper} {a : Act} {K : Act → World → Prop} {Q : Exit → Act → World → Prop} {E : Prop} (hgd : o.guard = none) (s x : Operand)
    (ho : o.op = .call { callee := .builtin .append, args := #[s, x], argTypes := #[30, 30] })
    (base : Nat) (A : Option Addr) (n c : Nat) (xs : List Sp) (hs : a.eval s = .slice A n c) (hown : Spn.Own w base A n c xs)
    (B : Nat) (ad : Addr) (m d : Nat) (ys : List Sp) (hx : a.eval x = .slice (some ad) m d) (hr : Spans w B (some ad) m ys) (N : Nat) (hN : n + m = N) (hlen : n + m ≤ 4000000) (hbase : base ≤ w.heap.size)
    (h : ∀ A' c' w', Spn.Own w' base A' N c' (xs ++ ys) → w.grownBy w' (Value.slice A n c).ownBlock → K (a.put o.dst (.slice A' N c')) w') :
    if Region.wanted o (yielded ops a.tmps) = true then Oper.wp Try.prog o a w K Q else E := by
  subst hN
  have hw : Region.wanted o (yielded ops a.tmps) = true := by simp [Region.wanted, hgd]
  rw [if_pos hw]
  obtain ⟨i, hi, hz, h1, h2⟩ := info_parts info_span
  obtain ⟨v', w', hrun, hO, hg, _⟩ := run_append_own (P := Try.prog) w base 30 o.type 23 i _ 2 16 Try.underlying30 hi hz h1 h2 rfl (by omega) (.slice A n c) n _ hown ad m d (cel ys) (by rw [cel_length, hr.1]) (spans_cells hr) (cel_cell ys) (by unfold maxLen; omega) (by omega) hbase
  rw [← cel_append] at hO
  obtain ⟨A', c', rfl, hO'⟩ := own_of_row hO
  unfold Oper.wp execOp
  simp only [ho, resolve, invoke, builtin, Sem.run_bind, Sem.run_pure, Result.andThen_ok, List.map_toArray, List.map_cons, List.map_nil, hs, hx, hrun]
  exact h A' c' w' hO' hg

theorem spans_drop {w : World} {B n k : Nat} {ad : Addr} {xs : List Sp} (h : Spans w B (some ad) n xs) (hk : k ≤ n) : Spans w B (some (ad.add (k * 2))) (n - k) (xs.drop k) := by
  refine ⟨by rw [List.length_drop, h.1], fun hn => ?_⟩
  obtain ⟨ad', e, hb, hc⟩ := h.2 (by omega)
  injection e with e
  subst e
  refine ⟨_, rfl, by rw [add_block]; exact hb, fun j x hx => ?_⟩
  rw [List.getElem?_drop] at hx
  have := hc _ _ hx
  rw [add_add, add_add, show k * 2 + j * 2 = (k + j) * 2 by omega, show k * 2 + (j * 2 + 1) = (k + j) * 2 + 1 by omega]
  exact this
theorem spans_take {w : World} {B n k : Nat} {ad : Addr} {xs : List Sp} (h : Spans w B (some ad) n xs) (hk : k ≤ n) : Spans w B (some ad) k (xs.take k) := by
  refine ⟨by rw [List.length_take, h.1]; omega, fun hn => ?_⟩
  obtain ⟨ad', e, hb, hc⟩ := h.2 (by omega)
  injection e with e
  subst e
  refine ⟨_, rfl, hb, fun j x hx => hc j x ?_⟩
  have hj := (List.getElem?_eq_some_iff.1 hx).1
  rw [List.length_take] at hj
  rwa [List.getElem?_take_of_lt (by omega)] at hx
theorem apart_get {xs : List Sp} (h : Apart xs) {i : Nat} {x y : Sp} (hx : xs[i]? = some x) (hy : xs[i + 1]? = some y) : x.2 < y.1 := by
  induction xs generalizing i with
  | nil => simp at hx
  | cons z zs ih =>
    cases i with
    | zero =>
      simp at hx hy
      subst hx
      exact h.2.1 y (List.mem_of_getElem? hy)
    | succ i => exact ih h.2.2 (by simpa using hx) (by simpa using hy)
theorem hit_turned (xs : List Sp) (k : Nat) (d : Int) : hit (xs.drop k ++ xs.take k) d ↔ hit xs d := by
  rw [hit_append]
  have e := hit_append (xs.take k) (xs.drop k) d
  rw [List.take_append_drop] at e
  rw [e]
  exact Or.comm
theorem own_drew {w : World} {base n c : Nat} {A : Option Addr} {xs : List Sp} (h : Spn.Own w base A n c xs) : Spn.Own w.drew base A n c xs := h
theorem spans_drew {w : World} {B n : Nat} {A : Option Addr} {xs : List Sp} (h : Spans w B A n xs) : Spans w.drew B A n xs := h
theorem below_made {w1 w2 : World} (hg : (w1.alloc (.cells #[] 23)).drew.grownBy w2 (Value.slice (some (⟨w1.heap.size, 0, none⟩ : Addr)) 0 0).ownBlock) : Below w1.heap.size w1 w2 := by
  have hg' : (w1.alloc (.cells #[] 23)).grownBy w2 (Value.slice (some (⟨w1.heap.size, 0, none⟩ : Addr)) 0 0).ownBlock := ⟨hg.os, hg.tape, hg.output, hg.size, hg.block⟩
  exact ((Below.refl w1.heap.size w1).alloc (Nat.le_refl _) _).grown hg' (by simp) (fun j hj => by simp [Value.ownBlock] at hj; omega)
theorem wrap_small (m : Nat) (h : m ≤ 1000) : IntKind.i64.wrap (m : Int) = (m : Int) := by
  unfold IntKind.wrap
  simp only [IntKind.bits, IntKind.signed]
  first | omega | (split <;> omega) | (simp; omega) | (simp; split <;> omega)
theorem joined_self {zs : List Sp} (h : Apart zs) : Joined zs zs := ⟨h, fun _ => Iff.rfl⟩

set_option maxRecDepth 100000 in
set_option maxHeartbeats 4000000 in
theorem forth (ad : Addr) (n c k : Nat) (xs : List Sp) (d : Int) (w : World) (G : GivenS w (some ad) n c xs) (h : n ≤ 100) (h0 : 0 < n) (hk : k < n)  (er : d.tmod (n : Int) = (k : Int)) :
    Calls Try.prog 9 #[.slice (some ad) n c, .int .i64 d] w fun e w' => e = .returned (.bool true) ∧ Below w.heap.size w w' := by
  have C := Lib.hid (few (some ad) n c w (by omega))
  rw [show decide (n ≤ 100) = true by simpa using h] at C
  have C0 := fun w => Lib.hid (alive w)
  have CM := fun z w => Lib.hid (many z w)
  have tn : ((n : Int) == 0) = false := by rw [beq_eq_false_iff_ne]; omega
  have tn2 : (n == 0) = false := by rw [beq_eq_false_iff_ne]; omega
  have hn0 : (n : Int) ≠ 0 := by omega
  have tk : decide ((k : Int) < 0) = false := by rw [decide_eq_false_iff_not]; omega
  skip
  have hcap := G.cap
  have hcl : c ≤ maxLen ∨ True := .inr trivial
  have HG := Lib.hid G
  clear G
  go_enter Try.func9, Try.ntmps9
  go_wp2_with (go_at_call 23; refine C.out.mono ?_; rintro e w' ⟨rfl, rfl⟩)
  refine (joinA (some ad) n c xs w HG.out.spans (by omega)).mono ?_
  rintro e w1 ⟨zs, hj, hzl, AJ, nJ, cJ, rfl, hSJ, hcJ, hb1⟩
  have HJ := Lib.hid hj
  have RJ := Lib.hid (RowAt.mk hSJ)
  have HB1 := Lib.hid hb1
  have hnJ : nJ ≤ 100 := by have h1 := hSJ.1; have h2 := HG.out.spans.1; omega
  have HS1 := Lib.hid (HG.out.spans.below hb1 (Nat.le_refl _))
  clear hj hSJ hb1 hzl C
  have i1 : (k : Int) ≤ (n : Int) := by omega
  have i2 : (n : Int) ≤ (c : Int) := by omega
  have i3 : (0 : Int) ≤ (k : Int) := by omega
  have i4 : (k : Int) ≤ (c : Int) := by omega
  have i5 : k ≤ n := by omega
  have i6 : k ≤ c := by omega
  have i7 : ¬ c = k := by omega
  have HO0 := Lib.hid (show Spn.Own (w1.alloc (.cells #[] 23)) w1.heap.size (some ⟨w1.heap.size, 0, none⟩) 0 0 [] from World.ownsRow_made w1 #[] 0 (Nat.le_refl _) (Nat.zero_le _) (by simp))
  have HSA := Lib.hid (HS1.out.below ((Below.refl _ _).alloc (Nat.le_refl _) (.cells #[] 23)) HB1.out.size)
  have HSW := Lib.hid HB1.out.size
  go_wp2
  go_region_law (first
    | (refine step_app _ rfl (.tmp 29) (.tmp 32) rfl w1.heap.size (some ⟨w1.heap.size, 0, none⟩) 0 0 [] rfl (own_drew HO0.out) w.heap.size (ad.add (k * 2)) (n - k) (c - k) (xs.drop k) rfl (spans_drew (spans_drop HSA.out i5)) (n - k) (Nat.zero_add _) (by omega) (by simp) ?_; intro A2 c2 w2 hO2 hg2; have HO2 := Lib.hid hO2; have HW2 := Lib.hid (below_made hg2); have HS2 := Lib.hid (HS1.out.below HW2.out HSW.out); clear hO2 hg2)
    | (refine step_app _ rfl (.tmp 33) (.tmp 36) rfl w1.heap.size A2 (n - k) c2 ([] ++ xs.drop k) rfl HO2.out w.heap.size ad k c (xs.take k) rfl (spans_take HS2.out i5) n (Nat.sub_add_cancel i5) (by omega) HW2.out.size ?_; intro A3 c3 w3 hO3 hg3; have HO3 := Lib.hid hO3; rw [List.nil_append] at HO3; have HW3 := Lib.hid (HW2.out.grown hg3 HW2.out.size (fun j hj => (HO2.out.lt j hj).1)); clear hO3 hg3)
    | (go_simp; go_at_call 24; (with_reducible refine (joinA A3 n c3 (xs.drop k ++ xs.take k) w3 HO3.out.spans.1 (by omega)).mono ?_); rintro e w4 ⟨zt, hjt, hlt, AT, nT, cT, rfl, hST, hcT, hb4⟩; have HW4 := Lib.hid (HW3.out.trans (hb4.mono HW3.out.size)); have HJT := Lib.hid hjt; have RT := Lib.hid (RowAt.mk hST); clear hjt hST hb4 hlt))
  have ez := HJ.out.unique HJT.out (fun z => (hit_turned xs k z).symm)
  subst ez
  have hnT := RJ.out.len.symm.trans RT.out.len
  subst hnT
  have RJ4 := Lib.hid (RJ.out.keep_ HW4.out)
  have HB4 := Lib.hid (HB1.out.trans (HW4.out.mono HB1.out.size))
  have HA := Lib.hid HJ.out.apart
  clear RJ HW4 HB1 HJT HJ HW3 HO3 HS1 HO0 HSA HSW HO2 HW2 HS2 HG i1 i2 i3 i4 i5 i6 i7 hn0 tn tn2 tk er
  go_wp2
  go_loopw [41] (fun i w' => ∃ m : Nat, m ≤ nJ ∧ i = .int .i64 (m : Int) ∧ Hid (Below w4.heap.size w4 w')) (fun i _ => nJ - (intOf i).toNat)
  case atStart => exact ⟨0, Nat.zero_le _, rfl, Lib.hid (Below.refl _ _)⟩
  case round =>
    obtain ⟨m, hm, rfl, HR⟩ := hrel
    by_cases hlt : m < nJ
    · have HS := Lib.hid (RJ4.out.spans.below HR.out (Nat.le_refl _))
      obtain ⟨aj, p, q, rfl, hb, hx, hc, hc'⟩ := HS.out.get hlt
      have hh := HA.out.has (p, q) (List.mem_of_getElem? hx)
      have D1 := fun w => CM (p, q) w
      have tv : decide (mn (p, q) < 1) = false := by rw [decide_eq_false_iff_not]; have : 0 < mn (p, q) := by simpa [Sp.has] using hh
                                                     omega
      clear CM hh
      generalize mn (p, q) = v at D1 tv
      have hlt2 : (m : Int) < (nJ : Int) := by omega
      by_cases h0m : m = 0
      · have e3 : decide (0 < m) = false := by rw [decide_eq_false_iff_not]; omega
        have e4 : decide ((0 : Int) < (m : Int)) = false := by rw [decide_eq_false_iff_not]; omega
        have HM := Lib.hid h0m
        clear hx h0m
        go_wp2
        obtain ⟨W, hW⟩ : ∃ W, wr.alloc (.cells #[.int .i64 p, .int .i64 q] 23) = W := ⟨_, rfl⟩
        have HBr := Lib.hid (show Below wr.heap.size wr W by rw [← hW]; exact (Below.refl _ _).alloc (Nat.le_refl _) _)
        have HBW := Lib.hid (HR.out.trans (HBr.out.mono HR.out.size))
        have X := Lib.hid (show Bx W wr.heap.size p q by rw [← hW]; exact Bx.new wr p q)
        rw [hW]
        clear hW
        have X0 : ∀ p_ : Ext W, p_.W.cell? ⟨wr.heap.size, 0, none⟩ = some (.int .i64 p) := fun p_ => (X.out.ext p_).1
        have X1 : ∀ p_ : Ext W, p_.W.cell? ⟨wr.heap.size, 1, none⟩ = some (.int .i64 q) := fun p_ => (X.out.ext p_).2
        have ne : Nonempty (Ext W) := ⟨⟨W, Below.refl _ _⟩⟩
        obtain rfl : m = 0 := HM.out
        clear e3 e4 hc hc' HM
        refine quietE (by kernel_rfl) (by kernel_rfl) ?_
        repeat ((with_reducible refine wpQuiet_step (fun K hK => ?_)); go_simp; (first
          | ((with_reducible refine hK _ ?_); clear hK K)
          | (apply Exists.intro; refine ⟨fun _ => ?_, hK _ ?_⟩; (go_at_call 14; exact ext_of (D1 _).out); clear hK K)))
        with_reducible refine wpQuiet_nil ?_
        rintro _ ⟨p, rfl⟩
        have HQ := Lib.hid (HBW.out.trans (p.b.mono HBW.out.size))
        go_wp2
        go_roundw
        case rel => exact ⟨1, by omega, by go_num, HQ⟩
        case measure => simp [intOf]; omega
      · obtain ⟨m', rfl⟩ : ∃ m', m = m' + 1 := ⟨m - 1, by omega⟩
        obtain ⟨aj2, p2, q2, ea, hb2, hx2, hd, hd'⟩ := HS.out.get (k := m') (by omega)
        injection ea with ea
        subst ea
        have tq : decide (p ≤ q2) = false := by rw [decide_eq_false_iff_not]; have ha : q2 < p := apart_get HA.out hx2 hx; omega
        obtain ⟨M, hM⟩ : ∃ M : Nat, M = m' + 1 := ⟨_, rfl⟩
        rw [← hM] at hc hc' hm hlt hlt2 ⊢
        have e1 : (M : Int) - 1 = (m' : Int) := by omega
        have e2 : IntKind.i64.wrap (m' : Int) = (m' : Int) := wrap_small _ (by omega)
        have e3 : decide (0 < M) = true := by rw [decide_eq_true_iff]; omega
        have e4 : decide ((0 : Int) < (M : Int)) = true := by rw [decide_eq_true_iff]; omega
        have hl3 : (m' : Int) < (nJ : Int) := by omega
        have hl4 : m' < nJ := by omega
        have HM := Lib.hid hM
        clear hM hx hx2 h0m hd
        go_wp2
        obtain ⟨W, hW⟩ : ∃ W, wr.alloc (.cells #[.int .i64 p, .int .i64 q] 23) = W := ⟨_, rfl⟩
        have HBr := Lib.hid (show Below wr.heap.size wr W by rw [← hW]; exact (Below.refl _ _).alloc (Nat.le_refl _) _)
        have HBW := Lib.hid (HR.out.trans (HBr.out.mono HR.out.size))
        have X := Lib.hid (show Bx W wr.heap.size p q by rw [← hW]; exact Bx.new wr p q)
        rw [hW]
        clear hW
        have X0 : ∀ p_ : Ext W, p_.W.cell? ⟨wr.heap.size, 0, none⟩ = some (.int .i64 p) := fun p_ => (X.out.ext p_).1
        have X1 : ∀ p_ : Ext W, p_.W.cell? ⟨wr.heap.size, 1, none⟩ = some (.int .i64 q) := fun p_ => (X.out.ext p_).2
        have ne : Nonempty (Ext W) := ⟨⟨W, Below.refl _ _⟩⟩
        have Z1 : ∀ p : Ext W, p.W.cell? ⟨(aj.add (m' * 2)).block, (aj.add (m' * 2)).off + 1, none⟩ = some (.int .i64 q2) := fun p => ((HBr.out.trans (p.b.mono HBr.out.size)).cell (p := ⟨(aj.add (m' * 2)).block, (aj.add (m' * 2)).off + 1, none⟩) (by show (aj.add (m' * 2)).block < _; rw [add_block]; exact Nat.lt_of_lt_of_le hb2 HR.out.size)).trans hd'
        refine quietE (by kernel_rfl) (by kernel_rfl) ?_
        repeat ((with_reducible refine wpQuiet_step (fun K hK => ?_)); go_simp; (first
          | ((with_reducible refine hK _ ?_); clear hK K)
          | (apply Exists.intro; refine ⟨fun _ => ?_, hK _ ?_⟩; (go_at_call 14; exact ext_of (D1 _).out); clear hK K)))
        with_reducible refine wpQuiet_nil ?_
        rintro _ ⟨p, rfl⟩
        have HQ := Lib.hid (HBW.out.trans (p.b.mono HBW.out.size))
        go_wp2
        go_roundw
        case rel => exact ⟨M + 1, by omega, by go_num, HQ⟩
        case measure => simp [intOf]; omega
    · obtain rfl : nJ = m := by omega
      clear hlt
      have RJr := Lib.hid (RJ4.out.keep_ HR.out)
      have RTr := Lib.hid (RT.out.keep_ HR.out)
      have HBr := Lib.hid (HB4.out.trans (HR.out.mono HB4.out.size))
      clear RJ4 RT HR HB4 hm
      go_wp2_with (first
        | (go_at_call 11; refine (alive _).mono ?_; rintro e w5 ⟨rfl, hb5⟩; have RJ5 := Lib.hid (RJr.out.keep_ hb5); have RT5 := Lib.hid (RTr.out.keep_ hb5); have HB5 := Lib.hid (HBr.out.trans (hb5.mono HBr.out.size)); clear hb5 RJr RTr HBr)
        | (go_at_call 20; refine (same AJ AT nJ cJ cT w5.heap.size w5.heap.size zs w5 RJ5.out.spans RT5.out.spans (by unfold maxLen; omega)).mono ?_; rintro e w6 ⟨rfl, hb6⟩; have RJ6 := Lib.hid (RJ5.out.keep_ hb6); have HB6 := Lib.hid (HB5.out.trans (hb6.mono HB5.out.size)); clear hb6 RJ5 RT5 HB5)
        | (go_at_call 24; refine (joinA AJ nJ cJ zs w6 RJ6.out.spans (by omega)).mono ?_; rintro e w7 ⟨zK, hK, hlK, AK, kK, cK, rfl, hSK, hcK, hb7⟩; have ek := (joined_self HA.out).unique hK (fun _ => Iff.rfl); subst ek; have RK := Lib.hid (RowAt.mk hSK); have RJ7 := Lib.hid (RJ6.out.keep_ hb7); have hkk := RJ7.out.len.symm.trans RK.out.len; subst hkk; have HB7 := Lib.hid (HB6.out.trans (hb7.mono HB6.out.size)); clear hb7 hK hSK hlK RJ6 HB6)
        | (go_at_call 20; refine (same AK AJ nJ cK cJ w7.heap.size w7.heap.size zs w7 RK.out.spans RJ7.out.spans (by unfold maxLen; omega)).mono ?_; rintro e w8 ⟨rfl, hb8⟩; have HB8 := Lib.hid (HB7.out.trans (hb8.mono HB7.out.size)); clear hb8 RJ7 RK HB7))
      go_ret
      exact ⟨rfl, HB8.out⟩

set_option maxRecDepth 100000 in
set_option maxHeartbeats 4000000 in
theorem back (ad : Addr) (n c k : Nat) (xs : List Sp) (d : Int) (w : World) (G : GivenS w (some ad) n c xs) (h : n ≤ 100) (h0 : 0 < n) (hk : k < n) (hk0 : 0 < k) (er : d.tmod (n : Int) = -(k : Int)) :
    Calls Try.prog 9 #[.slice (some ad) n c, .int .i64 d] w fun e w' => e = .returned (.bool true) ∧ Below w.heap.size w w' := by
  have C := Lib.hid (few (some ad) n c w (by omega))
  rw [show decide (n ≤ 100) = true by simpa using h] at C
  have C0 := fun w => Lib.hid (alive w)
  have CM := fun z w => Lib.hid (many z w)
  have tn : ((n : Int) == 0) = false := by rw [beq_eq_false_iff_ne]; omega
  have tn2 : (n == 0) = false := by rw [beq_eq_false_iff_ne]; omega
  have hn0 : (n : Int) ≠ 0 := by omega
  have tk : decide (-(k : Int) < 0) = true := by rw [decide_eq_true_iff]; omega
  have tk2 : decide (0 < k) = true := by simpa using hk0
  have hcap := G.cap
  have hcl : c ≤ maxLen ∨ True := .inr trivial
  have HG := Lib.hid G
  clear G
  go_enter Try.func9, Try.ntmps9
  go_wp2_with (go_at_call 23; refine C.out.mono ?_; rintro e w' ⟨rfl, rfl⟩)
  refine (joinA (some ad) n c xs w HG.out.spans (by omega)).mono ?_
  rintro e w1 ⟨zs, hj, hzl, AJ, nJ, cJ, rfl, hSJ, hcJ, hb1⟩
  have HJ := Lib.hid hj
  have RJ := Lib.hid (RowAt.mk hSJ)
  have HB1 := Lib.hid hb1
  have hnJ : nJ ≤ 100 := by have h1 := hSJ.1; have h2 := HG.out.spans.1; omega
  have HS1 := Lib.hid (HG.out.spans.below hb1 (Nat.le_refl _))
  clear hj hSJ hb1 hzl C
  have i1 : (k : Int) ≤ (n : Int) := by omega
  have i2 : (n : Int) ≤ (c : Int) := by omega
  have i3 : (0 : Int) ≤ (k : Int) := by omega
  have i4 : (k : Int) ≤ (c : Int) := by omega
  have i5 : k ≤ n := by omega
  have i6 : k ≤ c := by omega
  have i7 : ¬ c = k := by omega
  have HO0 := Lib.hid (show Spn.Own (w1.alloc (.cells #[] 23)) w1.heap.size (some ⟨w1.heap.size, 0, none⟩) 0 0 [] from World.ownsRow_made w1 #[] 0 (Nat.le_refl _) (Nat.zero_le _) (by simp))
  have HSA := Lib.hid (HS1.out.below ((Below.refl _ _).alloc (Nat.le_refl _) (.cells #[] 23)) HB1.out.size)
  have HSW := Lib.hid HB1.out.size
  go_wp2
  go_region_law (first
    | (refine step_app _ rfl (.tmp 29) (.tmp 32) rfl w1.heap.size (some ⟨w1.heap.size, 0, none⟩) 0 0 [] rfl (own_drew HO0.out) w.heap.size (ad.add (k * 2)) (n - k) (c - k) (xs.drop k) rfl (spans_drew (spans_drop HSA.out i5)) (n - k) (Nat.zero_add _) (by omega) (by simp) ?_; intro A2 c2 w2 hO2 hg2; have HO2 := Lib.hid hO2; have HW2 := Lib.hid (below_made hg2); have HS2 := Lib.hid (HS1.out.below HW2.out HSW.out); clear hO2 hg2)
    | (refine step_app _ rfl (.tmp 33) (.tmp 36) rfl w1.heap.size A2 (n - k) c2 ([] ++ xs.drop k) rfl HO2.out w.heap.size ad k c (xs.take k) rfl (spans_take HS2.out i5) n (Nat.sub_add_cancel i5) (by omega) HW2.out.size ?_; intro A3 c3 w3 hO3 hg3; have HO3 := Lib.hid hO3; rw [List.nil_append] at HO3; have HW3 := Lib.hid (HW2.out.grown hg3 HW2.out.size (fun j hj => (HO2.out.lt j hj).1)); clear hO3 hg3)
    | (go_simp; go_at_call 24; (with_reducible refine (joinA A3 n c3 (xs.drop k ++ xs.take k) w3 HO3.out.spans.1 (by omega)).mono ?_); rintro e w4 ⟨zt, hjt, hlt, AT, nT, cT, rfl, hST, hcT, hb4⟩; have HW4 := Lib.hid (HW3.out.trans (hb4.mono HW3.out.size)); have HJT := Lib.hid hjt; have RT := Lib.hid (RowAt.mk hST); clear hjt hST hb4 hlt))
  have ez := HJ.out.unique HJT.out (fun z => (hit_turned xs k z).symm)
  subst ez
  have hnT := RJ.out.len.symm.trans RT.out.len
  subst hnT
  have RJ4 := Lib.hid (RJ.out.keep_ HW4.out)
  have HB4 := Lib.hid (HB1.out.trans (HW4.out.mono HB1.out.size))
  have HA := Lib.hid HJ.out.apart
  clear RJ HW4 HB1 HJT HJ HW3 HO3 HS1 HO0 HSA HSW HO2 HW2 HS2 HG i1 i2 i3 i4 i5 i6 i7 hn0 tn tn2 tk er
  go_wp2
  go_loopw [41] (fun i w' => ∃ m : Nat, m ≤ nJ ∧ i = .int .i64 (m : Int) ∧ Hid (Below w4.heap.size w4 w')) (fun i _ => nJ - (intOf i).toNat)
  case atStart => exact ⟨0, Nat.zero_le _, rfl, Lib.hid (Below.refl _ _)⟩
  case round =>
    obtain ⟨m, hm, rfl, HR⟩ := hrel
    by_cases hlt : m < nJ
    · have HS := Lib.hid (RJ4.out.spans.below HR.out (Nat.le_refl _))
      obtain ⟨aj, p, q, rfl, hb, hx, hc, hc'⟩ := HS.out.get hlt
      have hh := HA.out.has (p, q) (List.mem_of_getElem? hx)
      have D1 := fun w => CM (p, q) w
      have tv : decide (mn (p, q) < 1) = false := by rw [decide_eq_false_iff_not]; have : 0 < mn (p, q) := by simpa [Sp.has] using hh
                                                     omega
      clear CM hh
      generalize mn (p, q) = v at D1 tv
      have hlt2 : (m : Int) < (nJ : Int) := by omega
      by_cases h0m : m = 0
      · have e3 : decide (0 < m) = false := by rw [decide_eq_false_iff_not]; omega
        have e4 : decide ((0 : Int) < (m : Int)) = false := by rw [decide_eq_false_iff_not]; omega
        have HM := Lib.hid h0m
        clear hx h0m
        go_wp2
        obtain ⟨W, hW⟩ : ∃ W, wr.alloc (.cells #[.int .i64 p, .int .i64 q] 23) = W := ⟨_, rfl⟩
        have HBr := Lib.hid (show Below wr.heap.size wr W by rw [← hW]; exact (Below.refl _ _).alloc (Nat.le_refl _) _)
        have HBW := Lib.hid (HR.out.trans (HBr.out.mono HR.out.size))
        have X := Lib.hid (show Bx W wr.heap.size p q by rw [← hW]; exact Bx.new wr p q)
        rw [hW]
        clear hW
        have X0 : ∀ p_ : Ext W, p_.W.cell? ⟨wr.heap.size, 0, none⟩ = some (.int .i64 p) := fun p_ => (X.out.ext p_).1
        have X1 : ∀ p_ : Ext W, p_.W.cell? ⟨wr.heap.size, 1, none⟩ = some (.int .i64 q) := fun p_ => (X.out.ext p_).2
        have ne : Nonempty (Ext W) := ⟨⟨W, Below.refl _ _⟩⟩
        obtain rfl : m = 0 := HM.out
        clear e3 e4 hc hc' HM
        refine quietE (by kernel_rfl) (by kernel_rfl) ?_
        repeat ((with_reducible refine wpQuiet_step (fun K hK => ?_)); go_simp; (first
          | ((with_reducible refine hK _ ?_); clear hK K)
          | (apply Exists.intro; refine ⟨fun _ => ?_, hK _ ?_⟩; (go_at_call 14; exact ext_of (D1 _).out); clear hK K)))
        with_reducible refine wpQuiet_nil ?_
        rintro _ ⟨p, rfl⟩
        have HQ := Lib.hid (HBW.out.trans (p.b.mono HBW.out.size))
        go_wp2
        go_roundw
        case rel => exact ⟨1, by omega, by go_num, HQ⟩
        case measure => simp [intOf]; omega
      · obtain ⟨m', rfl⟩ : ∃ m', m = m' + 1 := ⟨m - 1, by omega⟩
        obtain ⟨aj2, p2, q2, ea, hb2, hx2, hd, hd'⟩ := HS.out.get (k := m') (by omega)
        injection ea with ea
        subst ea
        have tq : decide (p ≤ q2) = false := by rw [decide_eq_false_iff_not]; have ha : q2 < p := apart_get HA.out hx2 hx; omega
        obtain ⟨M, hM⟩ : ∃ M : Nat, M = m' + 1 := ⟨_, rfl⟩
        rw [← hM] at hc hc' hm hlt hlt2 ⊢
        have e1 : (M : Int) - 1 = (m' : Int) := by omega
        have e2 : IntKind.i64.wrap (m' : Int) = (m' : Int) := wrap_small _ (by omega)
        have e3 : decide (0 < M) = true := by rw [decide_eq_true_iff]; omega
        have e4 : decide ((0 : Int) < (M : Int)) = true := by rw [decide_eq_true_iff]; omega
        have hl3 : (m' : Int) < (nJ : Int) := by omega
        have hl4 : m' < nJ := by omega
        have HM := Lib.hid hM
        clear hM hx hx2 h0m hd
        go_wp2
        obtain ⟨W, hW⟩ : ∃ W, wr.alloc (.cells #[.int .i64 p, .int .i64 q] 23) = W := ⟨_, rfl⟩
        have HBr := Lib.hid (show Below wr.heap.size wr W by rw [← hW]; exact (Below.refl _ _).alloc (Nat.le_refl _) _)
        have HBW := Lib.hid (HR.out.trans (HBr.out.mono HR.out.size))
        have X := Lib.hid (show Bx W wr.heap.size p q by rw [← hW]; exact Bx.new wr p q)
        rw [hW]
        clear hW
        have X0 : ∀ p_ : Ext W, p_.W.cell? ⟨wr.heap.size, 0, none⟩ = some (.int .i64 p) := fun p_ => (X.out.ext p_).1
        have X1 : ∀ p_ : Ext W, p_.W.cell? ⟨wr.heap.size, 1, none⟩ = some (.int .i64 q) := fun p_ => (X.out.ext p_).2
        have ne : Nonempty (Ext W) := ⟨⟨W, Below.refl _ _⟩⟩
        have Z1 : ∀ p : Ext W, p.W.cell? ⟨(aj.add (m' * 2)).block, (aj.add (m' * 2)).off + 1, none⟩ = some (.int .i64 q2) := fun p => ((HBr.out.trans (p.b.mono HBr.out.size)).cell (p := ⟨(aj.add (m' * 2)).block, (aj.add (m' * 2)).off + 1, none⟩) (by show (aj.add (m' * 2)).block < _; rw [add_block]; exact Nat.lt_of_lt_of_le hb2 HR.out.size)).trans hd'
        refine quietE (by kernel_rfl) (by kernel_rfl) ?_
        repeat ((with_reducible refine wpQuiet_step (fun K hK => ?_)); go_simp; (first
          | ((with_reducible refine hK _ ?_); clear hK K)
          | (apply Exists.intro; refine ⟨fun _ => ?_, hK _ ?_⟩; (go_at_call 14; exact ext_of (D1 _).out); clear hK K)))
        with_reducible refine wpQuiet_nil ?_
        rintro _ ⟨p, rfl⟩
        have HQ := Lib.hid (HBW.out.trans (p.b.mono HBW.out.size))
        go_wp2
        go_roundw
        case rel => exact ⟨M + 1, by omega, by go_num, HQ⟩
        case measure => simp [intOf]; omega
    · obtain rfl : nJ = m := by omega
      clear hlt
      have RJr := Lib.hid (RJ4.out.keep_ HR.out)
      have RTr := Lib.hid (RT.out.keep_ HR.out)
      have HBr := Lib.hid (HB4.out.trans (HR.out.mono HB4.out.size))
      clear RJ4 RT HR HB4 hm
      go_wp2_with (first
        | (go_at_call 11; refine (alive _).mono ?_; rintro e w5 ⟨rfl, hb5⟩; have RJ5 := Lib.hid (RJr.out.keep_ hb5); have RT5 := Lib.hid (RTr.out.keep_ hb5); have HB5 := Lib.hid (HBr.out.trans (hb5.mono HBr.out.size)); clear hb5 RJr RTr HBr)
        | (go_at_call 20; refine (same AJ AT nJ cJ cT w5.heap.size w5.heap.size zs w5 RJ5.out.spans RT5.out.spans (by unfold maxLen; omega)).mono ?_; rintro e w6 ⟨rfl, hb6⟩; have RJ6 := Lib.hid (RJ5.out.keep_ hb6); have HB6 := Lib.hid (HB5.out.trans (hb6.mono HB5.out.size)); clear hb6 RJ5 RT5 HB5)
        | (go_at_call 24; refine (joinA AJ nJ cJ zs w6 RJ6.out.spans (by omega)).mono ?_; rintro e w7 ⟨zK, hK, hlK, AK, kK, cK, rfl, hSK, hcK, hb7⟩; have ek := (joined_self HA.out).unique hK (fun _ => Iff.rfl); subst ek; have RK := Lib.hid (RowAt.mk hSK); have RJ7 := Lib.hid (RJ6.out.keep_ hb7); have hkk := RJ7.out.len.symm.trans RK.out.len; subst hkk; have HB7 := Lib.hid (HB6.out.trans (hb7.mono HB6.out.size)); clear hb7 hK hSK hlK RJ6 HB6)
        | (go_at_call 20; refine (same AK AJ nJ cK cJ w7.heap.size w7.heap.size zs w7 RK.out.spans RJ7.out.spans (by unfold maxLen; omega)).mono ?_; rintro e w8 ⟨rfl, hb8⟩; have HB8 := Lib.hid (HB7.out.trans (hb8.mono HB7.out.size)); clear hb8 RJ7 RK HB7))
      go_ret
      exact ⟨rfl, HB8.out⟩

theorem walk (A : Option Addr) (n c : Nat) (xs : List Sp) {w : World} (G : GivenS w A n c xs) (d : Int) (_hd : -9223372036854775808 ≤ d ∧ d ≤ 9223372036854775807) (w0 : World) (hw : w = w0) :
    Calls Try.prog 9 #[.slice A n c, .int .i64 d] w0 fun e w' => e = .returned (.bool true) ∧ Below w0.heap.size w0 w' := by
  subst hw
  have hlen : n ≤ 9223372036854775807 := by have := G.len; unfold maxLen at this; omega
  by_cases h : n ≤ 100
  · by_cases h0 : n = 0
    · subst h0
      exact empty A c d w
    · obtain ⟨ad, rfl, _⟩ := G.spans.2 (by omega)
      have hb1 : d.tmod (n : Int) < (n : Int) := Int.tmod_lt_of_pos d (by omega)
      have hb2 : -(n : Int) < d.tmod (n : Int) := by
        have hneg := Int.tmod_lt_of_pos (-d) (show 0 < (n : Int) by omega)
        rw [Int.neg_tmod] at hneg
        omega
      rcases Int.lt_or_le (d.tmod (n : Int)) 0 with hs | hs
      · exact back ad n c (-(d.tmod (n : Int))).toNat xs d w G h (by omega) (by omega) (by omega) (by omega)
      · exact forth ad n c (d.tmod (n : Int)).toNat xs d w G h (by omega) (by omega) (by omega)
  · exact long A n c d w hlen (by omega)


set_option maxRecDepth 100000 in
theorem lifted (os : Os) (started : os.Started) (H : Type) (enc : TypeId × Value → H) :
    ReturnsInHanded {} Try.checked os 9 .any (Rows.spanTurnedSpec.pre6 enc Try.prog Try.f9 Rows.spanTurnedRow.domain false) (Rows.spanTurnedSpec.post enc Try.prog Try.f9 false true false false) := by
  refine returnsInHanded_of_change (C := Try.checked) Spn.own started (by kernel_rfl) Try.func9
    (ChangeSpec.witness6 (enc := enc) (C := Try.checked) false ⟨#[], #[.slice none 0 0, .int .i64 0], []⟩ 8 (by kernel_rfl) (by kernel_rfl) (by kernel_rfl) (by kernel_rfl)) ?_
  intro W base args ds gs before hval0 hW hcnd _
  have hval : ∀ (j : Nat) t v, Try.f9.params[j]? = some t → args[j]? = some v → Value.okWide Try.prog W .any base t v := hval0
  have hW' := hW
  obtain ⟨p, q, hA0, hV, rfl, hfz, hnd⟩ := hW
  have hA : DataW.TrodAll enc Try.prog W 0 (fun _ => true) true Try.f9.params.toList args.toList ds p := hA0
  rw [Try.params9] at hA hval
  obtain ⟨v0, vs0, d0, ds0, p0, q0, hargs, rfl, rfl, h0, r0⟩ := trodAll_cons hA
  obtain ⟨v1, vs1, d1, ds1, p1, q1, rfl, rfl, rfl, h1, r1⟩ := trodAll_cons r0
  obtain ⟨rfl, rfl, rfl⟩ := trodAll_nil r1
  obtain rfl : args = #[v0, v1] := by cases args; simp_all
  obtain ⟨rfl, rfl⟩ := trodVars_none hV
  have k0 := h0
  have lt0 : ∀ x ∈ p0, x.block < W.heap.size := by obtain ⟨m, hm⟩ := k0; exact DataW.trod_lt m _ _ _ hm
  obtain ⟨A0, n0, c0, xs0, rfl, g0⟩ := Spn.open_spans (hval 0 30 v0 rfl rfl) h0
  obtain ⟨a1, rfl, rfl, rfl, w1⟩ := open_int Try.underlying3 (hval 1 3 v1 rfl rfl) h1
  clear hA0 hval0
  refine (walk A0 n0 c0 xs0 g0 a1 (Spn.i64_of w1) W rfl).mono fun e W' ⟨he, bel⟩ => ?_
  subst he
  exact ⟨_, rfl, _, _, _, [], _, [], hW', trodAll_mk1 (shut_bool Try.underlying4 _), (trodAll_cons_mk (Below.trod Spn.laidOut (by kernel_rfl) (of_decide_eq_true (by kernel_rfl)) k0 bel lt0) (trodAll_cons_mk (shut_int Try.underlying3 w1) trodAll_mk0)), rfl, bel.frame _, fun h => by cases h⟩

theorem over : Rows.spanTurnedRow.holds Try.pinned (OpenSpec.ofChange Rows.spanTurnedSpec) :=
  OpenClaim.holds_of_wide 9 Try.f9 rfl rfl rfl rfl rfl rfl rfl ⟨rfl, rfl, rfl, rfl, rfl⟩ rfl rfl rfl rfl rfl (by kernel_rfl) Try.func9 (by kernel_rfl)
    (of_decide_eq_true (by kernel_rfl)) (by unfold Func.isWrapper; first | (rw [if_pos (by decide +kernel)]; kernel_rfl) | (rw [if_neg (by decide +kernel)]; exact ⟨rfl, rfl⟩))
    (fun os started H enc _ => lifted os started H enc)

theorem proved : Rows.SpanTurnedSaid := over
end Go.Proofs.Ytbollbbanmdbhaa.spanTurned
