/-
  withDays: the iterator over those spans of a row that have days: its contract. Conditions: the row reads as a list of spans; what the loop's body keeps.
-/
import Derived.RangeFuncNested
import Derived.RangeFuncBound
import Derived.RangeFuncCalls
import Derived.RangeFuncLeaves
import Derived.RangeFuncBox
import Derived.Shelf.Abstract
import Derived.Shelf.RegionOpen
import Derived.WalkKit
import Derived.OwnWalkIn
import Derived.TacticsInMore
import Derived.LoopNIn
import Derived.LoopIn
import Derived.Maps.AppendAt
import Derived.Test.YtbollbbanmdbhaaRow
namespace Go.Proofs.Ytbollbbanmdbhaa
open Go.RowKit Go.Shelf Sp
namespace Spn
set_option linter.unusedVariables false

attribute [local go_sem] Oper.semAt_some

theorem kp_yes {xs : List Sp} {k : Nat} {x : Sp} (h : xs[k]? = some x) (hx : Sp.has x = true) : kp (xs.take (k + 1)) = kp (xs.take k) ++ [x] := by
  obtain ⟨hl, e⟩ := List.getElem?_eq_some_iff.1 h
  rw [List.take_succ_eq_append_getElem hl, e, kp_append, kp_one, if_pos hx]
theorem kp_not {xs : List Sp} {k : Nat} {x : Sp} (h : xs[k]? = some x) (hx : Sp.has x = false) : kp (xs.take (k + 1)) = kp (xs.take k) := by
  obtain ⟨hl, e⟩ := List.getElem?_eq_some_iff.1 h
  rw [List.take_succ_eq_append_getElem hl, e, kp_append, kp_one, if_neg (by simp [hx]), List.append_nil]
theorem kp_lt {xs : List Sp} {k : Nat} {x : Sp} (h : xs[k]? = some x) (hx : Sp.has x = true) : (kp (xs.take k)).length < (kp xs).length := by
  have e : kp xs = kp (xs.take (k + 1)) ++ kp (xs.drop (k + 1)) := by rw [← kp_append, List.take_append_drop]
  rw [e, kp_yes h hx]; simp
theorem grown_of_below {W W' : World} (h : Below W.heap.size W W') : W.grownBy W' none := ⟨h.os, h.tape, h.output, h.size, fun k hk _ => h.block k hk⟩

set_option maxRecDepth 100000 in
set_option maxHeartbeats 2000000 in
theorem days1 (l Bs n₀ len cap : Nat) (A : Option Addr) (xs : List Sp) (hlen : len ≤ 1000000000) (J Jx : List Sp → World → Prop) (W : World)
    (hJ : AbidesFrom W.heap.size J)
    (hY : ∀ pre x W, J pre W → pre.length < (kp xs).length → YieldAt Fence.wide (9 - 1) Try.prog l #[ag x] W fun e W' =>
      (e = .returned (.bool true) ∧ J (pre ++ [x]) W' ∧ Below n₀ W W') ∨ (e = .returned (.bool false) ∧ Jx (pre ++ [x]) W'))
    (hn₀ : n₀ ≤ W.heap.size) (hBs : W.cell? ⟨Bs, 0, none⟩ = some (.slice A len cap)) (hS : Spans W n₀ A len xs) (h0 : J [] W) :
    CallsIn Fence.wide 9 Try.prog 42 #[.func (.yield l) #[] #[], .pointer (some ⟨Bs, 0, none⟩)] W fun e W' => (∃ v, e = .returned v) ∧
      ((∃ ys, ys = kp xs ∧ J ys W') ∨ (∃ pre, True ∧ Jx pre W')) := by
  have H := Lib.hid hS
  have HJ := Lib.hid hJ
  have HY := Lib.hid hY
  clear hS hJ hY
  refine callsIn_of_wp Try.func42 rfl trivial ?_ rfl
  simp only [Try.ntmps42, List.size_toArray, List.length_cons, List.length_nil, Nat.reduceAdd, Nat.reduceSub, Array.replicate_succ, Array.replicate_zero, List.push_toArray, List.append_toArray, List.nil_append, List.cons_append]
  gi_wp2
  gi_loopw [7] (fun i wr => ∃ k : Nat, k ≤ len ∧ i = .int .i64 k ∧ Hid (J (kp (xs.take k)) wr) ∧ Hid (Below n₀ W wr) ∧ W.heap.size ≤ wr.heap.size)
    (fun i _ => len - (intOf i).toNat)
  case atStart => exact ⟨0, Nat.zero_le _, rfl, Lib.hid h0, Lib.hid (Below.refl _ _), Nat.le_refl _⟩
  case round =>
    obtain ⟨k, hk, rfl, HJs, HB, hsz⟩ := hrel
    by_cases hlt : k < len
    · obtain ⟨ad, x, y, rfl, hb, hx, hc, hc'⟩ := (H.out.below HB.out (Nat.le_refl _)).get hlt
      have HX := Lib.hid hx
      have C := fun w => Lib.hid (callsIn_wide (n := 9 - 1) |>.2 (many (x, y) w))
      clear hx
      gi_wp2_with fail
      refine ⟨trivial, (C _).out.mono ?_⟩
      rintro e w1 ⟨rfl, hb1⟩
      obtain ⟨X, hB1⟩ := bx1 hb1
      have z0 := X.c0
      have z1 := X.c1
      have HJ1 := Lib.hid (HJ.out _ _ _ none HJs.out (grown_of_below hB1) (fun r e => by cases e))
      have HB1 := Lib.hid (HB.out.trans (hB1.mono (Nat.le_trans hn₀ hsz)))
      have hsz1 : W.heap.size ≤ w1.heap.size := Nat.le_trans hsz hB1.size
      clear hb1 hB1 X C hc hc'
      cases hh : Sp.has (x, y)
      · have tm : decide (0 < mn (x, y)) = false := hh
        have HH := Lib.hid hh
        clear hh
        generalize mn (x, y) = m at tm
        gi_wp2
        refine ⟨fun _ h => (by cases h), ?_⟩
        gi_wp2
        go_roundw
        case rel => exact ⟨k + 1, by omega, by go_num, Lib.hid (by rw [kp_not HX.out HH.out]; exact HJ1.out), HB1, hsz1⟩
        case measure => simp [intOf]; omega
      · have tm : decide (0 < mn (x, y)) = true := hh
        have HH := Lib.hid hh
        clear hh
        generalize mn (x, y) = m at tm
        obtain ⟨fn, tmps, assign, body, hy, hR⟩ := HY.out _ (x, y) w1 HJ1.out (kp_lt HX.out HH.out)
        gi_wp2
        refine hR.mono ?_
        rintro e W3 (⟨rfl, hJ3, hk3⟩ | ⟨rfl, hJx3⟩)
        · have HJ3 := Lib.hid hJ3
          have HK3 := Lib.hid hk3
          clear hJ3 hk3 hR hy
          gi_wp2
          go_roundw
          case rel => exact ⟨k + 1, by omega, by go_num, Lib.hid (by rw [kp_yes HX.out HH.out]; exact HJ3.out), Lib.hid (HB1.out.trans HK3.out), Nat.le_trans hsz1 HK3.out.size⟩
          case measure => simp [intOf]; omega
        · gi_wp2
          refine bodyPost_ret (results_none rfl _ _ _) rfl ?_
          exact ⟨⟨_, rfl⟩, .inr ⟨_, trivial, hJx3⟩⟩
    · obtain rfl : k = len := by omega
      gi_wp2
      go_end0
      exact ⟨⟨_, rfl⟩, .inl ⟨_, rfl, by have := HJs.out; rwa [List.take_of_length_le (by rw [H.out.1]; exact Nat.le_refl _)] at this⟩⟩

set_option maxHeartbeats 1000000 in
/-- withDays: the row is boxed; the function value captures the box. -/
theorem withDays (A : Option Addr) (n c : Nat) (w : World) :
    Calls Try.prog 35 #[.slice A n c] w fun e w' => e = .returned (.func (.func 42) #[] #[.pointer (some ⟨w.heap.size, 0, none⟩)]) ∧ w.alloc (.cells #[.slice A n c] 30) = w' := by
  go_enter Try.func35, Try.ntmps35
  go_wp2
  go_ret
  exact ⟨rfl, rfl⟩

/-- What withDays hands back goes through those that have days, in their order. -/
theorem days_stops (Bs n₀ len cap : Nat) (A : Option Addr) (xs : List Sp) (hlen : len ≤ 1000000000) (w : World) (hBs : Bs < w.heap.size) (hn₀ : n₀ ≤ w.heap.size)
    (hc : w.cell? ⟨Bs, 0, none⟩ = some (.slice A len cap)) (hS : Spans w n₀ A len xs) :
    SeqStopsK Fence.wide 9 Try.prog 42 #[.pointer (some ⟨Bs, 0, none⟩)] (fun x : Sp => #[ag x]) (Below n₀) (fun ys => ys = kp xs) (fun _ => True) (kp xs).length w := fun l J Jx W hW hJ _ hY h0 =>
  days1 l Bs n₀ len cap A xs hlen J Jx W hJ hY (Nat.le_trans hn₀ hW.size) ((hW.cell (p := ⟨Bs, 0, none⟩) hBs).trans hc) (hS.below hW hn₀) h0

end Spn
end Go.Proofs.Ytbollbbanmdbhaa
