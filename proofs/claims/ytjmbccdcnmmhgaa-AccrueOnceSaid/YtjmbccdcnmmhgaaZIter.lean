/-
  changes: the iterator over the days of a span that are in one of two rising rows: its contract. Conditions: the rows read as lists of ints; what the loop's body keeps.
-/
import Derived.RangeFuncNested
import Derived.RangeFuncBound
import Derived.RangeFuncCalls
import Derived.RangeFuncLeaves
import Derived.RangeFuncBox
import Derived.Shelf.Abstract
import Derived.Shelf.RegionOpen
import Derived.OwnWalkIn
import Derived.TacticsInMore
import Derived.LoopNIn
import Derived.LoopIn
import Derived.Test.YtjmbccdcnmmhgaaZBase
namespace Go.Proofs.Ytjmbccdcnmmhgaa
open Go.RowKit Go.Shelf Stm
namespace Stp
set_option linter.unusedVariables false

attribute [local go_sem] Oper.semAt_some

/-- What the iterator reads: its three boxes and the two rows. -/
structure Good (w : World) (ba bb bs : Nat) (A : Option Addr) (la ca : Nat) (B : Option Addr) (lb cb : Nat) (s : Pr) (xs ys : List Int) : Prop where
  ca : w.cell? ⟨ba, 0, none⟩ = some (.slice A la ca)
  cb : w.cell? ⟨bb, 0, none⟩ = some (.slice B lb cb)
  s0 : w.cell? ⟨bs, 0, none⟩ = some (.int .i64 s.1)
  s1 : w.cell? ⟨bs, 1, none⟩ = some (.int .i64 s.2)
  a : Ints w w.heap.size A la xs
  b : Ints w w.heap.size B lb ys

theorem drew_below {w w1 : World} {n : Nat} (h : Below (w.drewN n).heap.size (w.drewN n) w1) : Below w.heap.size w w1 := ⟨h.os, h.tape, h.output, h.size, h.block⟩

set_option maxRecDepth 100000 in
set_option maxHeartbeats 8000000 in
theorem changes1 (l ba bb bs : Nat) (A : Option Addr) (la ca : Nat) (B : Option Addr) (lb cb : Nat) (s : Pr) (xs ys : List Int) (hla : la ≤ 1000000) (hlb : lb ≤ 1000000) (Kp : World → World → Prop) (J Jx : List Int → World → Prop) (W : World)
    (hKt : ∀ a b c : World, Kp a b → Kp b c → Kp a c) (hKg : ∀ a b : World, W.heap.size ≤ a.heap.size → Below a.heap.size a b → Kp a b) (hKs : ∀ a b : World, Kp a b → a.heap.size ≤ b.heap.size)
    (hJ : AbidesFrom W.heap.size J)
    (hY : ∀ pre x W, J pre W → pre.length < (chg s xs ys).length → YieldAt Fence.wide (9 - 1) Try.prog l #[.int .i64 x] W fun e W' =>
      (e = .returned (.bool true) ∧ J (pre ++ [x]) W' ∧ Kp W W') ∨ (e = .returned (.bool false) ∧ Jx (pre ++ [x]) W'))
    (hG : ∀ W', Kp W W' → Good W' ba bb bs A la ca B lb cb s xs ys) (h0 : J [] W) :
    CallsIn Fence.wide 9 Try.prog 42 #[.func (.yield l) #[] #[], .pointer (some ⟨ba, 0, none⟩), .pointer (some ⟨bb, 0, none⟩), .pointer (some ⟨bs, 0, none⟩)] W fun e W' => (∃ v, e = .returned v) ∧
      ((∃ zs, zs = chg s xs ys ∧ J zs W') ∨ (∃ pre, True ∧ Jx pre W')) := by
  have HG := Lib.hid hG
  have HJ := Lib.hid hJ
  have HY := Lib.hid hY
  have HKt := Lib.hid hKt
  have HKg := Lib.hid hKg
  have HKs := Lib.hid hKs
  have hK0 := Lib.hid (hKg W W (Nat.le_refl _) (Below.refl _ _))
  have HLa := Lib.hid (hG W (hKg W W (Nat.le_refl _) (Below.refl _ _))).a.1
  have HLb := Lib.hid (hG W (hKg W W (Nat.le_refl _) (Below.refl _ _))).b.1
  clear hG hJ hY hKt hKg hKs
  obtain ⟨s1, s2⟩ := s
  have CI := fun d w => Lib.hid (callsIn_wide (n := 9 - 1) |>.2 (in_ (s1, s2) d w))
  refine callsIn_of_wp Try.func42 rfl trivial ?_ rfl
  simp only [Try.ntmps42, List.size_toArray, List.length_cons, List.length_nil, Nat.reduceAdd, Nat.reduceSub, Array.replicate_succ, Array.replicate_zero, List.push_toArray, List.append_toArray, List.nil_append, List.cons_append]
  gi_wp2
  gi_loopw [5, 6] (fun si sj wr => ∃ (i j : Nat) (pre : List Int), i ≤ la ∧ j ≤ lb ∧ si = .int .i64 i ∧ sj = .int .i64 j ∧ Hid (Gs (s1, s2) xs ys pre i j) ∧ Hid (J pre wr) ∧ Hid (Kp W wr) ∧ W.heap.size ≤ wr.heap.size)
    (fun si sj _ => la + lb - (intOf si).toNat - (intOf sj).toNat)
  case atStart => exact ⟨0, 0, [], Nat.zero_le _, Nat.zero_le _, rfl, rfl, Lib.hid (Gs.start _ _ _), Lib.hid h0, hK0, Nat.le_refl _⟩
  case round =>
    obtain ⟨i, j, pre, hi, hj, rfl, rfl, HE, HJs, HK, hsz⟩ := hrel
    have G := HG.out _ HK.out
    have g1 := G.ca
    have g2 := G.cb
    have g3 := G.s0
    have g4 := G.s1
    simp only at g3 g4
    have HGa := Lib.hid G.a
    have HGb := Lib.hid G.b
    clear G
    by_cases hil : i < la
    · have ti : decide ((i : Int) < (la : Int)) = true := by simp; omega
      have ti2 : decide (i < la) = true := by simpa using hil
      have hi2 : (i : Int) < (la : Int) := by omega
      obtain ⟨ad, x, rfl, _, hx, hcx⟩ := HGa.out.get hil
      by_cases hjl : j < lb
      · have tj : decide ((j : Int) < (lb : Int)) = true := by simp; omega
        have tj2 : decide (j < lb) = true := by simpa using hjl
        have tq : ((j : Int) == (lb : Int)) = false := by rw [beq_eq_false_iff_ne]; omega
        have tq2 : (j == lb) = false := by rw [beq_eq_false_iff_ne]; omega
        have hj2 : (j : Int) < (lb : Int) := by omega
        obtain ⟨av, y, rfl, _, hy, hcy⟩ := HGb.out.get hjl
        rcases Int.lt_trichotomy x y with hl | hl | hl
        · have HN := Lib.hid (HE.out.lt hx hy hl)
          have tl : decide (x < y) = true := by simpa using hl
          clear hx hy hl

          gi_wp2
          refine wpIn_wide.2 ?_
          go_quiet (fail)
          gi_wp2_with fail
          refine ⟨trivial, (CI x _).out.mono ?_⟩
          rintro e w1 ⟨rfl, hb1⟩
          have hB1 : Below wr.heap.size wr w1 := drew_below hb1
          have HJ1 := Lib.hid (HJ.out _ _ _ none HJs.out (grown_of_below hB1) (fun r e => by cases e))
          have HK1 := Lib.hid (HKt.out _ _ _ HK.out (HKg.out _ _ hsz hB1))
          have hsz1 : W.heap.size ≤ w1.heap.size := Nat.le_trans hsz hB1.size
          have G1 := HG.out _ HK1.out
          clear hb1 hB1 
          cases hh : inn (s1, s2) x
          · have HN1 := Lib.hid (HN.out.skip hh)
            clear hh
            gi_wp2
            refine ⟨fun _ h => (by cases h), ?_⟩
            gi_wp2
            go_roundw
            case rel => exact ⟨i + 1, j, pre, by omega, by omega, by go_num, by go_num, HN1, HJ1, HK1, hsz1⟩
            case measure => simp [intOf]; omega
          · have HN1 := Lib.hid (HN.out.take hh)
            obtain ⟨fn, tmps, assign, body, hy, hR⟩ := HY.out _ x w1 HJ1.out (HN.out.len hh)
            clear hh
            gi_wp2
            refine hR.mono ?_
            rintro e W3 (⟨rfl, hJ3, hk3⟩ | ⟨rfl, hJx3⟩)
            · have HJ3 := Lib.hid hJ3
              have HK3 := Lib.hid (HKt.out _ _ _ HK1.out hk3)
              have hsz3 : W.heap.size ≤ W3.heap.size := Nat.le_trans hsz1 (HKs.out _ _ hk3)
              clear hJ3 hk3 hR hy
              gi_wp2
              go_roundw
              case rel => exact ⟨i + 1, j, pre ++ [x], by omega, by omega, by go_num, by go_num, HN1, HJ3, HK3, hsz3⟩
              case measure => simp [intOf]; omega
            · gi_wp2
              refine bodyPost_ret (results_none rfl _ _ _) rfl ?_
              exact ⟨⟨_, rfl⟩, .inr ⟨_, trivial, hJx3⟩⟩
        · subst hl
          have HN := Lib.hid (HE.out.eq hx hy)
          have tl : decide (x < x) = false := by simp
          have te : (x == x) = true := by simp
          clear hx hy

          gi_wp2
          refine wpIn_wide.2 ?_
          go_quiet (fail)
          gi_wp2_with fail
          refine ⟨trivial, (CI x _).out.mono ?_⟩
          rintro e w1 ⟨rfl, hb1⟩
          have hB1 : Below wr.heap.size wr w1 := drew_below hb1
          have HJ1 := Lib.hid (HJ.out _ _ _ none HJs.out (grown_of_below hB1) (fun r e => by cases e))
          have HK1 := Lib.hid (HKt.out _ _ _ HK.out (HKg.out _ _ hsz hB1))
          have hsz1 : W.heap.size ≤ w1.heap.size := Nat.le_trans hsz hB1.size
          have G1 := HG.out _ HK1.out
          clear hb1 hB1 
          cases hh : inn (s1, s2) x
          · have HN1 := Lib.hid (HN.out.skip hh)
            clear hh
            gi_wp2
            refine ⟨fun _ h => (by cases h), ?_⟩
            gi_wp2
            go_roundw
            case rel => exact ⟨i + 1, j + 1, pre, by omega, by omega, by go_num, by go_num, HN1, HJ1, HK1, hsz1⟩
            case measure => simp [intOf]; omega
          · have HN1 := Lib.hid (HN.out.take hh)
            obtain ⟨fn, tmps, assign, body, hy, hR⟩ := HY.out _ x w1 HJ1.out (HN.out.len hh)
            clear hh
            gi_wp2
            refine hR.mono ?_
            rintro e W3 (⟨rfl, hJ3, hk3⟩ | ⟨rfl, hJx3⟩)
            · have HJ3 := Lib.hid hJ3
              have HK3 := Lib.hid (HKt.out _ _ _ HK1.out hk3)
              have hsz3 : W.heap.size ≤ W3.heap.size := Nat.le_trans hsz1 (HKs.out _ _ hk3)
              clear hJ3 hk3 hR hy
              gi_wp2
              go_roundw
              case rel => exact ⟨i + 1, j + 1, pre ++ [x], by omega, by omega, by go_num, by go_num, HN1, HJ3, HK3, hsz3⟩
              case measure => simp [intOf]; omega
            · gi_wp2
              refine bodyPost_ret (results_none rfl _ _ _) rfl ?_
              exact ⟨⟨_, rfl⟩, .inr ⟨_, trivial, hJx3⟩⟩
        · have HN := Lib.hid (HE.out.gt hx hy hl)
          have tl : decide (x < y) = false := by simp; omega
          have te : (x == y) = false := by rw [beq_eq_false_iff_ne]; omega
          clear hx hy hl

          gi_wp2
          refine wpIn_wide.2 ?_
          go_quiet (fail)
          gi_wp2_with fail
          refine ⟨trivial, (CI y _).out.mono ?_⟩
          rintro e w1 ⟨rfl, hb1⟩
          have hB1 : Below wr.heap.size wr w1 := drew_below hb1
          have HJ1 := Lib.hid (HJ.out _ _ _ none HJs.out (grown_of_below hB1) (fun r e => by cases e))
          have HK1 := Lib.hid (HKt.out _ _ _ HK.out (HKg.out _ _ hsz hB1))
          have hsz1 : W.heap.size ≤ w1.heap.size := Nat.le_trans hsz hB1.size
          have G1 := HG.out _ HK1.out
          clear hb1 hB1 
          cases hh : inn (s1, s2) y
          · have HN1 := Lib.hid (HN.out.skip hh)
            clear hh
            gi_wp2
            refine ⟨fun _ h => (by cases h), ?_⟩
            gi_wp2
            go_roundw
            case rel => exact ⟨i, j + 1, pre, by omega, by omega, by go_num, by go_num, HN1, HJ1, HK1, hsz1⟩
            case measure => simp [intOf]; omega
          · have HN1 := Lib.hid (HN.out.take hh)
            obtain ⟨fn, tmps, assign, body, hy, hR⟩ := HY.out _ y w1 HJ1.out (HN.out.len hh)
            clear hh
            gi_wp2
            refine hR.mono ?_
            rintro e W3 (⟨rfl, hJ3, hk3⟩ | ⟨rfl, hJx3⟩)
            · have HJ3 := Lib.hid hJ3
              have HK3 := Lib.hid (HKt.out _ _ _ HK1.out hk3)
              have hsz3 : W.heap.size ≤ W3.heap.size := Nat.le_trans hsz1 (HKs.out _ _ hk3)
              clear hJ3 hk3 hR hy
              gi_wp2
              go_roundw
              case rel => exact ⟨i, j + 1, pre ++ [y], by omega, by omega, by go_num, by go_num, HN1, HJ3, HK3, hsz3⟩
              case measure => simp [intOf]; omega
            · gi_wp2
              refine bodyPost_ret (results_none rfl _ _ _) rfl ?_
              exact ⟨⟨_, rfl⟩, .inr ⟨_, trivial, hJx3⟩⟩
      · obtain rfl : lb = j := by omega
        have HN := Lib.hid (HE.out.a hx (by rw [HLb.out]; exact Nat.le_refl _))
        clear hx

        gi_wp2
        refine wpIn_wide.2 ?_
        go_quiet (fail)
        gi_wp2_with fail
        refine ⟨trivial, (CI x _).out.mono ?_⟩
        rintro e w1 ⟨rfl, hb1⟩
        have hB1 : Below wr.heap.size wr w1 := drew_below hb1
        have HJ1 := Lib.hid (HJ.out _ _ _ none HJs.out (grown_of_below hB1) (fun r e => by cases e))
        have HK1 := Lib.hid (HKt.out _ _ _ HK.out (HKg.out _ _ hsz hB1))
        have hsz1 : W.heap.size ≤ w1.heap.size := Nat.le_trans hsz hB1.size
        have G1 := HG.out _ HK1.out
        clear hb1 hB1 
        cases hh : inn (s1, s2) x
        · have HN1 := Lib.hid (HN.out.skip hh)
          clear hh
          gi_wp2
          refine ⟨fun _ h => (by cases h), ?_⟩
          gi_wp2
          go_roundw
          case rel => exact ⟨i + 1, lb, pre, by omega, by omega, by go_num, by go_num, HN1, HJ1, HK1, hsz1⟩
          case measure => simp [intOf]; omega
        · have HN1 := Lib.hid (HN.out.take hh)
          obtain ⟨fn, tmps, assign, body, hy, hR⟩ := HY.out _ x w1 HJ1.out (HN.out.len hh)
          clear hh
          gi_wp2
          refine hR.mono ?_
          rintro e W3 (⟨rfl, hJ3, hk3⟩ | ⟨rfl, hJx3⟩)
          · have HJ3 := Lib.hid hJ3
            have HK3 := Lib.hid (HKt.out _ _ _ HK1.out hk3)
            have hsz3 : W.heap.size ≤ W3.heap.size := Nat.le_trans hsz1 (HKs.out _ _ hk3)
            clear hJ3 hk3 hR hy
            gi_wp2
            go_roundw
            case rel => exact ⟨i + 1, lb, pre ++ [x], by omega, by omega, by go_num, by go_num, HN1, HJ3, HK3, hsz3⟩
            case measure => simp [intOf]; omega
          · gi_wp2
            refine bodyPost_ret (results_none rfl _ _ _) rfl ?_
            exact ⟨⟨_, rfl⟩, .inr ⟨_, trivial, hJx3⟩⟩
    · obtain rfl : la = i := by omega
      by_cases hjl : j < lb
      · have tj : decide ((j : Int) < (lb : Int)) = true := by simp; omega
        have tj2 : decide (j < lb) = true := by simpa using hjl
        have tq : ((j : Int) == (lb : Int)) = false := by rw [beq_eq_false_iff_ne]; omega
        have tq2 : (j == lb) = false := by rw [beq_eq_false_iff_ne]; omega
        have hj2 : (j : Int) < (lb : Int) := by omega
        obtain ⟨av, y, rfl, _, hy, hcy⟩ := HGb.out.get hjl
        have HN := Lib.hid (HE.out.b hy (by rw [HLa.out]; exact Nat.le_refl _))
        clear hy

        gi_wp2
        refine wpIn_wide.2 ?_
        go_quiet (fail)
        gi_wp2_with fail
        refine ⟨trivial, (CI y _).out.mono ?_⟩
        rintro e w1 ⟨rfl, hb1⟩
        have hB1 : Below wr.heap.size wr w1 := drew_below hb1
        have HJ1 := Lib.hid (HJ.out _ _ _ none HJs.out (grown_of_below hB1) (fun r e => by cases e))
        have HK1 := Lib.hid (HKt.out _ _ _ HK.out (HKg.out _ _ hsz hB1))
        have hsz1 : W.heap.size ≤ w1.heap.size := Nat.le_trans hsz hB1.size
        have G1 := HG.out _ HK1.out
        clear hb1 hB1 
        cases hh : inn (s1, s2) y
        · have HN1 := Lib.hid (HN.out.skip hh)
          clear hh
          gi_wp2
          refine ⟨fun _ h => (by cases h), ?_⟩
          gi_wp2
          go_roundw
          case rel => exact ⟨la, j + 1, pre, by omega, by omega, by go_num, by go_num, HN1, HJ1, HK1, hsz1⟩
          case measure => simp [intOf]; omega
        · have HN1 := Lib.hid (HN.out.take hh)
          obtain ⟨fn, tmps, assign, body, hy, hR⟩ := HY.out _ y w1 HJ1.out (HN.out.len hh)
          clear hh
          gi_wp2
          refine hR.mono ?_
          rintro e W3 (⟨rfl, hJ3, hk3⟩ | ⟨rfl, hJx3⟩)
          · have HJ3 := Lib.hid hJ3
            have HK3 := Lib.hid (HKt.out _ _ _ HK1.out hk3)
            have hsz3 : W.heap.size ≤ W3.heap.size := Nat.le_trans hsz1 (HKs.out _ _ hk3)
            clear hJ3 hk3 hR hy
            gi_wp2
            go_roundw
            case rel => exact ⟨la, j + 1, pre ++ [y], by omega, by omega, by go_num, by go_num, HN1, HJ3, HK3, hsz3⟩
            case measure => simp [intOf]; omega
          · gi_wp2
            refine bodyPost_ret (results_none rfl _ _ _) rfl ?_
            exact ⟨⟨_, rfl⟩, .inr ⟨_, trivial, hJx3⟩⟩
      · obtain rfl : lb = j := by omega
        have HZ := Lib.hid (HE.out.fin (by rw [HLa.out]; exact Nat.le_refl _) (by rw [HLb.out]; exact Nat.le_refl _))
        gi_wp2
        go_end0
        exact ⟨⟨_, rfl⟩, .inl ⟨_, HZ.out, HJs.out⟩⟩

set_option maxHeartbeats 1000000 in
/-- changes: span and rows are boxed; the function value captures the boxes. -/
theorem changes (s : Pr) (A : Option Addr) (la ca : Nat) (B : Option Addr) (lb cb : Nat) (w : World) :
    Calls Try.prog 36 #[ag s, .slice A la ca, .slice B lb cb] w fun e w' => e = .returned (.func (.func 42) #[] #[.pointer (some ⟨w.heap.size + 1, 0, none⟩), .pointer (some ⟨w.heap.size + 2, 0, none⟩), .pointer (some ⟨w.heap.size, 0, none⟩)]) ∧
      ((w.alloc (.cells #[.int .i64 s.1, .int .i64 s.2] 30)).alloc (.cells #[.slice A la ca] 31)).alloc (.cells #[.slice B lb cb] 31) = w' := by
  obtain ⟨a, b⟩ := s
  go_enter Try.func36, Try.ntmps36
  go_wp2
  go_ret
  exact ⟨rfl, rfl⟩

/-- What changes hands back goes through the days of the span that are in one of both rows, in their order. -/
theorem changes_stops (ba bb bs : Nat) (A : Option Addr) (la ca : Nat) (B : Option Addr) (lb cb : Nat) (s : Pr) (xs ys : List Int) (hla : la ≤ 1000000) (hlb : lb ≤ 1000000) (Kp : World → World → Prop) (w : World)
    (hKt : ∀ a b c : World, Kp a b → Kp b c → Kp a c) (hKg : ∀ a b : World, w.heap.size ≤ a.heap.size → Below a.heap.size a b → Kp a b) (hKs : ∀ a b : World, Kp a b → a.heap.size ≤ b.heap.size)
    (hG : ∀ W', Kp w W' → Good W' ba bb bs A la ca B lb cb s xs ys) :
    SeqStopsK Fence.wide 9 Try.prog 42 #[.pointer (some ⟨ba, 0, none⟩), .pointer (some ⟨bb, 0, none⟩), .pointer (some ⟨bs, 0, none⟩)] (fun x : Int => #[.int .i64 x]) Kp (fun zs => zs = chg s xs ys) (fun _ => True) (chg s xs ys).length w := fun l J Jx W hW hJ _ hY h0 =>
  changes1 l ba bb bs A la ca B lb cb s xs ys hla hlb Kp J Jx W hKt (fun a b h => hKg a b (Nat.le_trans hW.size h)) hKs hJ hY (fun W' h => hG W' (hKt _ _ _ (hKg _ _ (Nat.le_refl _) hW) h)) h0

end Stp
end Go.Proofs.Ytjmbccdcnmmhgaa
