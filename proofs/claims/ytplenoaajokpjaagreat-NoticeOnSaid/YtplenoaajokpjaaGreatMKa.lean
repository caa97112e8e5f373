/-
  The parts KIter, KAt, KSl of this proof. Conditions: those of each theorem.
-/
import Derived.RangeFuncNested
import Derived.RangeFuncBound
import Derived.RangeFuncCalls
import Derived.RangeFuncLeaves
import Derived.RangeFuncBox
import Derived.Shelf.Abstract
import Derived.Shelf.RegionOpen
import Derived.WalkKit
import Derived.OwnWalkIn
import Derived.TacticsInMore
import Derived.LoopNIn
import Derived.LoopIn
import Derived.Sort.CutIn
import Derived.Test.YtplenoaajokpjaaGreatMCh
import Derived.Test.YtplenoaajokpjaaGreatMSo
import Derived.Test.YtplenoaajokpjaaGreatMAt
import Derived.Test.YtplenoaajokpjaaGreatMFw
namespace Go.Proofs.YtplenoaajokpjaaGreat
open Go.RowKit Go.Shelf Ba Cv Sp Te Ag Tm
namespace Kno
set_option linter.unusedVariables false
attribute [local go_sem] Oper.semAt_some
section
variable {p : Rw → Prop} {b : Int} {xs : List {r : Rw // p r}} {k : Nat} {x : {r : Rw // p r}}
def kb (b : Int) (rs : List {r : Rw // p r}) : List {r : Rw // p r} := rs.filter fun r => decide (r.1.v.bk ≤ b)
theorem kb_yes (h : xs[k]? = some x) (hx : decide (x.1.v.bk ≤ b) = true) : kb b (xs.take (k + 1)) = kb b (xs.take k) ++ [x] := by
 obtain ⟨hl, e⟩ := List.getElem?_eq_some_iff.1 h; unfold kb; rw [List.take_succ_eq_append_getElem hl, e, List.filter_append, List.filter_cons_of_pos (p := fun r : {r : Rw // p r} => decide (r.1.v.bk ≤ b)) hx, List.filter_nil]
theorem kb_not (h : xs[k]? = some x) (hx : decide (x.1.v.bk ≤ b) = false) : kb b (xs.take (k + 1)) = kb b (xs.take k) := by
 obtain ⟨hl, e⟩ := List.getElem?_eq_some_iff.1 h; unfold kb; rw [List.take_succ_eq_append_getElem hl, e, List.filter_append, List.filter_cons_of_neg (p := fun r : {r : Rw // p r} => decide (r.1.v.bk ≤ b)) (by rw [hx]; decide), List.filter_nil, List.append_nil]
theorem kb_lt (h : xs[k]? = some x) (hx : decide (x.1.v.bk ≤ b) = true) : (kb b (xs.take k)).length < (kb b xs).length := by
 have e : kb b xs = kb b (xs.take (k + 1)) ++ kb b (xs.drop (k + 1)) := by unfold kb; rw [← List.filter_append, List.take_append_drop]
 rw [e, kb_yes h hx]; simp
end
structure KB (n b : Nat) (W W' : World) : Prop where
 bel : Below n W W'
 box : W'.heap[b]? = W.heap[b]?
theorem KB.refl (n b : Nat) (W : World) : KB n b W W := ⟨Below.refl _ _, rfl⟩
theorem KB.trans {n b : Nat} {A B C : World} (h : KB n b A B) (k : KB n b B C) : KB n b A C := ⟨h.bel.trans k.bel, k.box.trans h.box⟩
theorem KB.cell {n b : Nat} {W W' : World} (h : KB n b W W') (o : Nat) : W'.cell? ⟨b, o, none⟩ = W.cell? ⟨b, o, none⟩ := World.cell?_of_block (a := ⟨b, o, none⟩) h.box
theorem KB.below {n b : Nat} {W W' : World} (h : Below W.heap.size W W') (hn : n ≤ W.heap.size) (hb : b < W.heap.size) : KB n b W W' := ⟨h.mono hn, h.block b hb⟩
set_option maxRecDepth 100000 in
set_option maxHeartbeats 2000000 in
theorem kn1 {p : Rw → Prop} (l Bs Bb n₀ len cap : Nat) (A : Option Addr) (b : Int) (xs : List {r : Rw // p r}) (hlen : len ≤ 1000000000) (J Jx : List {r : Rw // p r} → World → Prop) (W : World)
  (hJ : AbidesFrom W.heap.size J)
  (hY : ∀ pre x W, J pre W → pre.length < (kb b xs).length → YieldAt Fence.wide (9 - 1) Tryz.prog l #[vg x.1] W fun e W' =>
   (e = .returned (.bool true) ∧ J (pre ++ [x]) W' ∧ KB n₀ Bb W W') ∨ (e = .returned (.bool false) ∧ Jx (pre ++ [x]) W'))
  (hn₀ : n₀ ≤ W.heap.size) (hBs : W.cell? ⟨Bs, 0, none⟩ = some (.slice A len cap)) (hBb : W.cell? ⟨Bb, 0, none⟩ = some (.int .i64 b)) (hlb : Bb < W.heap.size) (hS : Raws W (· < n₀) A len (xs.map Subtype.val)) (h0 : J [] W) :
  CallsIn Fence.wide 9 Tryz.prog 63 #[.func (.yield l) #[] #[], .pointer (some ⟨Bs, 0, none⟩), .pointer (some ⟨Bb, 0, none⟩)] W fun e W' => (∃ v, e = .returned v) ∧
   ((∃ ys, ys = kb b xs ∧ J ys W') ∨ (∃ pre, True ∧ Jx pre W')) := by
 have H := Lib.hid hS; have HJ := Lib.hid hJ; have HY := Lib.hid hY; clear hS hJ hY; refine callsIn_of_wp Tryz.func63 rfl trivial ?_ rfl; simp only [Tryz.ntmps63, List.size_toArray, List.length_cons, List.length_nil, Nat.reduceAdd, Nat.reduceSub, Array.replicate_succ, Array.replicate_zero, List.push_toArray, List.append_toArray, List.nil_append, List.cons_append]
 gi_wp2
 gi_loopw [8] (fun i wr => ∃ k : Nat, k ≤ len ∧ i = .int .i64 k ∧ Hid (J (kb b (xs.take k)) wr) ∧ Hid (KB n₀ Bb W wr) ∧ W.heap.size ≤ wr.heap.size ∧ wr.cell? ⟨Bb, 0, none⟩ = some (.int .i64 b))
  (fun i _ => len - (intOf i).toNat)
 case atStart => exact ⟨0, Nat.zero_le _, rfl, Lib.hid h0, Lib.hid (KB.refl _ _ _), Nat.le_refl _, hBb⟩
 case round =>
  obtain ⟨k, hk, rfl, HJs, HB, hsz, hcb⟩ := hrel; by_cases hlt : k < len
  ·obtain ⟨ad, r', rfl, hb, hx', N⟩ := (H.out.keep (fun _ hp => HB.out.bel.cell hp) (ok' := (· < n₀)) (fun _ h => h)).get hlt
   obtain ⟨⟨r, hp⟩, hx, e⟩ : ∃ r, xs[k]? = some r ∧ r.1 = r' := by
    rw [List.getElem?_map] at hx'; cases h : xs[k]? with
    | none => rw [h] at hx'; cases hx'
    | some r => rw [h] at hx'; exact ⟨r, rfl, by injection hx'⟩
   simp only at e; subst e; have HX := Lib.hid hx; have HP := Lib.hid hp; obtain ⟨c0, c1, c2, c3, c4, c5, c6, c7, c8⟩ := N; obtain ⟨W2, hW2⟩ : ∃ W2, wr.alloc (.cells (vc r) 52) = W2 := ⟨_, rfl⟩; have hb2 : Below wr.heap.size wr W2 := hW2 ▸ alloc_ _ _; have y0 := (show Bx W2 wr.heap.size 52 (vc r) from hW2 ▸ Bx.new wr 52 (vc r)).c 0; have Y := Lib.hid (show Bx W2 wr.heap.size 52 (vc r) from hW2 ▸ Bx.new wr 52 (vc r)); simp at y0; have z0 : W2.cell? ⟨Bb, 0, none⟩ = some (.int .i64 b) := (hb2.cell (p := ⟨Bb, 0, none⟩) (Nat.lt_of_lt_of_le hlb hsz)).trans hcb; have HJ1 := Lib.hid (HJ.out _ _ _ none HJs.out (Spn.grown_of_below hb2) (fun r e => by cases e)); have HB1 := Lib.hid (HB.out.trans (KB.below hb2 (Nat.le_trans hn₀ hsz) (Nat.lt_of_lt_of_le hlb hsz))); have hsz1 : W.heap.size ≤ W2.heap.size := Nat.le_trans hsz hb2.size; have HW2 := Lib.hid hW2; clear hx hx' hb2 hW2
   gi_upto_region 3 with fail
   rw [HW2.out]; clear c0 c1 c2 c3 c4 c5 c6 c7 c8; obtain ⟨y1, y2, y3, y4, y5, y6, y7, y8⟩ := And.intro (Y.out.c 1) (And.intro (Y.out.c 2) (And.intro (Y.out.c 3) (And.intro (Y.out.c 4) (And.intro (Y.out.c 5) (And.intro (Y.out.c 6) (And.intro (Y.out.c 7) (Y.out.c 8))))))); simp at y1 y2 y3 y4 y5 y6 y7 y8; cases hh : decide (r.v.bk ≤ b)
   ·have HH := Lib.hid hh
    gi_wp2
    refine ⟨fun _ h => (by cases h), ?_⟩
    gi_wp2
    go_roundw
    case rel => exact ⟨k + 1, by omega, by go_num, Lib.hid (by rw [kb_not HX.out HH.out]; exact HJ1.out), HB1, hsz1, z0⟩
    case measure => simp [intOf]; omega
   ·have HH := Lib.hid hh; obtain ⟨fn, tmps, assign, body, hy, hR⟩ := HY.out _ ⟨r, HP.out⟩ W2 HJ1.out (kb_lt HX.out HH.out)
    gi_wp2
    refine hR.mono ?_; rintro e W3 (⟨rfl, hJ3, hk3⟩ | ⟨rfl, hJx3⟩)
    ·have HJ3 := Lib.hid hJ3; have HK3 := Lib.hid hk3; have z3 : W3.cell? ⟨Bb, 0, none⟩ = some (.int .i64 b) := (hk3.cell 0).trans z0; clear hJ3 hk3 hR hy
     gi_wp2
     go_roundw
     case rel => exact ⟨k + 1, by omega, by go_num, Lib.hid (by rw [kb_yes HX.out HH.out]; exact HJ3.out), Lib.hid (HB1.out.trans HK3.out), Nat.le_trans hsz1 HK3.out.bel.size, z3⟩
     case measure => simp [intOf]; omega
    ·gi_wp2
     refine bodyPost_ret (results_none rfl _ _ _) rfl ?_; exact ⟨⟨_, rfl⟩, .inr ⟨_, trivial, hJx3⟩⟩
  ·obtain rfl : k = len := by omega
   gi_wp2
   go_end0
   exact ⟨⟨_, rfl⟩, .inl ⟨_, rfl, by have := HJs.out; rwa [List.take_of_length_le (by have := H.out.1; rw [List.length_map] at this; omega)] at this⟩⟩
set_option maxHeartbeats 1000000 in
theorem knownOn (A : Option Addr) (n c : Nat) (b : Int) (w : World) :
  Calls Tryz.prog 45 #[.slice A n c, .int .i64 b] w fun e w' => e = .returned (.func (.func 63) #[] #[.pointer (some ⟨w.heap.size, 0, none⟩), .pointer (some ⟨w.heap.size + 1, 0, none⟩)]) ∧ (w.alloc (.cells #[.slice A n c] 33)).alloc (.cells #[.int .i64 b] 3) = w' := by
 go_enter Tryz.func45, Tryz.ntmps45; go_wp2; go_ret; exact ⟨rfl, rfl⟩
theorem known_stops {p : Rw → Prop} (Bs Bb n₀ len cap : Nat) (A : Option Addr) (b : Int) (xs : List {r : Rw // p r}) (hlen : len ≤ 1000000000) (w : World) (hBs : Bs < w.heap.size) (hBb : Bb < w.heap.size) (hn₀ : n₀ ≤ w.heap.size)
  (hc : w.cell? ⟨Bs, 0, none⟩ = some (.slice A len cap)) (hd : w.cell? ⟨Bb, 0, none⟩ = some (.int .i64 b)) (hS : Raws w (· < n₀) A len (xs.map Subtype.val)) :
  SeqStopsK Fence.wide 9 Tryz.prog 63 #[.pointer (some ⟨Bs, 0, none⟩), .pointer (some ⟨Bb, 0, none⟩)] (fun x : {r : Rw // p r} => #[vg x.1]) (KB n₀ Bb) (fun ys => ys = kb b xs) (fun _ => True) (kb b xs).length w := fun l J Jx W hW hJ _ hY h0 =>
 kn1 l Bs Bb n₀ len cap A b xs hlen J Jx W hJ hY (Nat.le_trans hn₀ hW.size) ((hW.cell (p := ⟨Bs, 0, none⟩) hBs).trans hc) ((hW.cell (p := ⟨Bb, 0, none⟩) hBb).trans hd) (Nat.lt_of_lt_of_le hBb hW.size) (hS.keep (fun p hp => hW.cell (Nat.lt_of_lt_of_le hp hn₀)) fun _ h => h) h0
end Kno
end Go.Proofs.YtplenoaajokpjaaGreat

namespace Go.Proofs.YtplenoaajokpjaaGreat
open Go.RowKit Go.Shelf Ba Cv Sp Te Ag Tm
namespace Kno
set_option linter.unusedVariables false
attribute [local go_sem] Oper.semAt_some
structure A3 (w W : World) (h : Hr) : Prop where
 b : Below w.heap.size w W
 x : Bx W w.heap.size 35 (hc h)
 y : Bx W (w.heap.size + 1) 35 zhc
theorem A3.start (w : World) (h : Hr) : A3 w ((w.alloc (.cells (hc h) 35)).alloc (.cells zhc 35)) h := by
 refine ⟨(alloc_ _ _).alloc (by simp) _, (Bx.new _ _ _).alloc _, ?_⟩; have := Bx.new (w.alloc (.cells (hc h) 35)) 35 zhc; rw [World.size_alloc] at this; exact this
set_option maxRecDepth 100000 in
set_option maxHeartbeats 2000000 in
theorem at_no (h : Hr) (b : Int) (w : World) (hb : b < h.bk) : Calls Tryz.prog 33 #[hg h, .int .i64 b] w fun e w' => e = .returned (.tuple #[hg zhr, .int .i64 7]) ∧ Below w.heap.size w w' := by
 obtain ⟨W, hW⟩ : ∃ W, (w.alloc (.cells (hc h) 35)).alloc (.cells zhc 35) = W := ⟨_, rfl⟩; have H0 := Lib.hid (show A3 w W h by rw [← hW]; exact A3.start w h); have HW := Lib.hid hW; have x1 := H0.out.x.c 1; simp at x1; have tb : decide (b < h.bk) = true := decide_eq_true hb; have f0 := H0.out.y.f; have y0 := H0.out.y.c 0; have y1 := H0.out.y.c 1; have y2 := H0.out.y.c 2; have y3 := H0.out.y.c 3; have y4 := H0.out.y.c 4; have y5 := H0.out.y.c 5; have y6 := H0.out.y.c 6; have y7 := H0.out.y.c 7; have y8 := H0.out.y.c 8; have y9 := H0.out.y.c 9; simp at y0 y1 y2 y3 y4 y5 y6 y7 y8 y9; clear hW; refine callsIn_wide (n := 10) |>.1 ?_
 refine callsIn_of_wp_marks Tryz.func33 rfl trivial ?_ rfl; simp only [Tryz.ntmps33, List.size_toArray, List.length_cons, List.length_nil, Nat.reduceAdd, Nat.reduceSub, Array.replicate_succ, Array.replicate_zero, List.push_toArray, List.append_toArray, List.nil_append, List.cons_append]
 gi_upto_region 1 with fail
 rw [HW.out]
 gi_wp2
 clear y0 y1 y2 y3 y4 y5 y6 y7 y8 y9 f0 x1; change bodyPostM _ _ _ _ _ _ _ (puth (w.heap.size + 1) zhr W); have hx := Bx.puth (h' := zhr) H0.out.y zhr; refine ⟨.tuple #[hg zhr, .int .i64 7], ?res, rfl, sets_below _ (by omega) 0 W H0.out.b⟩
 case res =>
  have x0 := hx.c 0; have x1 := hx.c 1; have x2 := hx.c 2; have x3 := hx.c 3; have x4 := hx.c 4; have x5 := hx.c 5; have x6 := hx.c 6; have x7 := hx.c 7; have x8 := hx.c 8; have x9 := hx.c 9; simp at x0 x1 x2 x3 x4 x5 x6 x7 x8 x9; simp [results, Tryz.results33, go_sem, x0, x1, x2, x3, x4, x5, x6, x7, x8, x9]
theorem own_fits {w : World} {base n c : Nat} {A : Option Addr} {xs : List Rw} (h : Tm.Own w base A n c xs) : n ≤ c ∧ (A = none → n = 0 ∧ c = 0) := by
 rcases h.2 with ⟨e, hn⟩ | ⟨g, cap, cur, e, _, _, hnc, _⟩
 ·injection e with e1 e2 e3; exact ⟨by omega, fun _ => ⟨hn, e3⟩⟩
 ·injection e with e1 e2 e3; subst e3; exact ⟨hnc, fun h0 => by rw [e1] at h0; cases h0⟩
theorem own_far {w : World} {base n c : Nat} {A : Option Addr} {rs : List Rw} (h : Tm.Own w base A n c rs) {a : Addr} (hp : a.block < base) (u : Value) : Tm.Own (w.setCell a u) base A n c rs := by
 refine ⟨h.1, ?_⟩; rcases h.2 with h | ⟨g, cap, cur, e, hb, hh, q⟩
 ·exact .inl h
 ·exact .inr ⟨g, cap, cur, e, hb, (Below.heap_setCell w a u g (by omega)).trans hh, q⟩
theorem own_keep {w w' : World} {base n c : Nat} {A : Option Addr} {rs : List Rw} (h : Tm.Own w base A n c rs) (hk : ∀ g, base ≤ g → w'.heap[g]? = w.heap[g]?) : Tm.Own w' base A n c rs := by
 refine ⟨h.1, ?_⟩; rcases h.2 with h | ⟨g, cap, cur, e, hb, hh, q⟩
 ·exact .inl h
 ·exact .inr ⟨g, cap, cur, e, hb, (hk g hb).trans hh, q⟩
theorem kb_val {p : Rw → Prop} (b : Int) (xs : List {r : Rw // p r}) : (kb b xs).map Subtype.val = (xs.map Subtype.val).filter fun r => decide (r.v.bk ≤ b) := by
 unfold kb; rw [List.filter_map]; rfl
theorem ko_of_below {W W' : World} (h : Below W.heap.size W W') : KeepsOthers W W' := ⟨h.size, fun k o hk _ => (h.block k (Array.getElem?_eq_some_iff.1 hk).1).trans hk⟩
theorem new_nine (w : World) (r : Rw) (j : Nat) (u : Value) (h : (cl r)[j]? = some u) : (w.alloc (.cells (vc r) 52)).cell? ((⟨w.heap.size, 0, none⟩ : Addr).add j) = some u := by
 have := (Raws.cells (Tm.Own.one w r).raws j u (by rw [cel_one]; exact h)); exact this
def okc (W : World) (base b : Nat) : Prop := (base ≤ b ∧ b < W.heap.size) ∧ Slc.cov W b
abbrev kh (h : Hr) (Ac : Option Addr) (cc : Nat) (A : Option Addr) (n c : Nat) (rs : List Rw) : Hr := ⟨h.id, h.bk, h.s, h.r, Ac, h.n, cc, h.cs, A, n, c, rs⟩
structure KI (w W : World) (h : Hr) (Ac : Option Addr) (cc : Nat) (A : Option Addr) (c : Nat) (pre rs : List Rw) : Prop where
 bel : Below w.heap.size w W
 box : Bx W (w.heap.size + 2) 35 (hc (kh h Ac cc A pre.length c rs))
 res : Bx W (w.heap.size + 1) 35 zhc
 own : Tm.Own W (w.heap.size + 3) A pre.length c rs
 vs : rs.map Rw.v = pre.map Rw.v
 ns : rs.map Rw.n = pre.map Rw.n
 cv : Cvs W (okc W (w.heap.size + 3)) Ac h.n h.cs
 ks : ∀ r ∈ rs, Cvs W (okc W (w.heap.size + 3)) r.A r.n r.v.cs
theorem heap_kept {W W' : World} {row : Option Nat} {k : Nat} {xs : Array Value} {t : TypeId} {q : Nat × Nat} (h : W.heap[k]? = some (.cells xs t q)) (hg : W.grownBy W' row) (hr : ∀ r, row = some r → ∃ o : Obj, W.heap[r]? = some o ∧ o.isCells = false) : W'.heap[k]? = some (.cells xs t q) :=
 (grownBy_keeps_cells hg hr h rfl).trans h
theorem okc_kept {W W' : World} {base b : Nat} (h : okc W base b) (hs : W.heap.size ≤ W'.heap.size) (e : W'.heap[b]? = W.heap[b]?) : okc W' base b := ⟨⟨h.1.1, Nat.lt_of_lt_of_le h.1.2 hs⟩, Slc.cov_keep h.2 e⟩
theorem cvs_kept {W W' : World} {base : Nat} {A : Option Addr} {n : Nat} {cs : List Co} (h : Cvs W (okc W base) A n cs) (hs : W.heap.size ≤ W'.heap.size) (e : ∀ b, okc W base b → W'.heap[b]? = W.heap[b]?) : Cvs W' (okc W' base) A n cs :=
 h.keep (fun p hp => World.cell?_of_block (e _ hp)) fun b hb => okc_kept hb hs (e b hb)
theorem cov_grown {W W' : World} {row : Option Nat} {b : Nat} (h : Slc.cov W b) (hg : W.grownBy W' row) (hr : ∀ r, row = some r → ∃ o : Obj, W.heap[r]? = some o ∧ o.isCells = false) : W'.heap[b]? = W.heap[b]? := by
 obtain ⟨xs, q, h⟩ := h; rw [heap_kept h hg hr, h]
theorem KI.grown {w W W' : World} {h : Hr} {Ac : Option Addr} {cc : Nat} {A : Option Addr} {c : Nat} {pre rs : List Rw} {row : Option Nat} (H : KI w W h Ac cc A c pre rs) (hg : W.grownBy W' row) (hr : ∀ r, row = some r → w.heap.size + 3 ≤ r ∧ ∃ o : Obj, W.heap[r]? = some o ∧ o.isCells = false) : KI w W' h Ac cc A c pre rs := by
 have hr2 := fun r e => (hr r e).2
 refine ⟨H.bel.grown hg H.bel.size (fun k e => by have := (hr k e).1; omega), heap_kept H.box hg hr2, heap_kept H.res hg hr2, World.ownsRow.kept H.own hg ?_, H.vs, H.ns, cvs_kept H.cv hg.size fun b hb => cov_grown hb.2 hg hr2, fun r hr' => cvs_kept (H.ks r hr') hg.size fun b hb => cov_grown hb.2 hg hr2⟩; by_cases e : (Value.slice A pre.length c).ownBlock = row
 ·rcases H.own.2 with ⟨e1, h0⟩ | ⟨g, cap, cur, e1, hb', hh, _⟩
  ·injection e1 with e1
   subst e1; exact .inl rfl
  ·injection e1 with e1
   subst e1; obtain ⟨o, ho, hc⟩ := hr2 g (by rw [← e]; rfl); rw [hh] at ho; cases ho; cases hc
 ·exact .inr e
theorem own_row {w : World} {base n c k : Nat} {A : Option Addr} {rs : List Rw} (h : Tm.Own w base A n c rs) (e : (Value.slice A n c).ownBlock = some k) : ∃ xs q, w.heap[k]? = some (.cells xs 52 q) := by
 rcases h.2 with ⟨e1, _⟩ | ⟨g, cap, cur, e1, hb, hh, _⟩
 ·injection e1 with e1; subst e1; cases e
 ·injection e1 with e1; subst e1
  injection e with e; subst e
  exact ⟨_, _, hh⟩
theorem KI.more {w W w1 : World} {h : Hr} {Ac : Option Addr} {cc : Nat} {A A' : Option Addr} {c c' : Nat} {pre rs : List Rw} {x r : Rw} {o : Obj} (H : KI w W h Ac cc A c pre rs)
  (hg : (W.alloc o).grownBy w1 (Value.slice A pre.length c).ownBlock) (hO : Tm.Own w1 (w.heap.size + 3) A' (pre.length + 1) c' (rs ++ [r])) (hv : r.v = x.v) (hn : r.n = x.n) (hcv : Cvs W (okc W (w.heap.size + 3)) r.A r.n r.v.cs) (hs : w.heap.size + 3 ≤ W.heap.size)
  {b : Nat} {t : TypeId} {xs : Array Value} (hb : Bx W b t xs) (hb2 : b ≠ w.heap.size + 2) (ht : t ≠ 52) :
  KI w (w1.setCell ⟨w.heap.size + 2, 9, none⟩ (.slice A' (pre.length + 1) c')) h Ac cc A' c' (pre ++ [x]) (rs ++ [r]) ∧ KeepsOthers W (w1.setCell ⟨w.heap.size + 2, 9, none⟩ (.slice A' (pre.length + 1) c')) ∧ KB w.heap.size b W (w1.setCell ⟨w.heap.size + 2, 9, none⟩ (.slice A' (pre.length + 1) c')) ∧ Bx w1 (w.heap.size + 2) 35 (hc (kh h Ac cc A pre.length c rs)) := by
 have hlow : ∀ k, (Value.slice A pre.length c).ownBlock = some k → w.heap.size + 3 ≤ k := fun k e => (H.own.lt k e).1
 have hsz : (W.alloc o).heap.size = W.heap.size + 1 := by simp
 have key : ∀ (k : Nat) (ys : Array Value) (u : TypeId) (q : Nat × Nat), W.heap[k]? = some (.cells ys u q) → u ≠ 52 → w1.heap[k]? = W.heap[k]? := by
  intro k ys u q hk hu; have hlt : k < W.heap.size := (Array.getElem?_eq_some_iff.1 hk).1; refine (hg.block k (by omega) ?_).trans (Below.heap_alloc W o k hlt); intro e; obtain ⟨zs, q2, hz⟩ := own_row H.own e.symm; rw [hk] at hz; injection hz with hz
  injection hz with _ hz
  exact hu hz
 have hcov : ∀ k, okc W (w.heap.size + 3) k → w1.heap[k]? = W.heap[k]? := by
  rintro k ⟨h1, ys, q, h2⟩; exact key k ys _ q h2 (by decide)
 have hbox : Bx w1 (w.heap.size + 2) 35 (hc (kh h Ac cc A pre.length c rs)) := (key _ _ _ _ H.box (by decide)).trans H.box; have hres : Bx w1 (w.heap.size + 1) 35 zhc := (key _ _ _ _ H.res (by decide)).trans H.res; have hset : ∀ k, k ≠ w.heap.size + 2 → (w1.setCell ⟨w.heap.size + 2, 9, none⟩ (.slice A' (pre.length + 1) c')).heap[k]? = w1.heap[k]? := fun k hk => Below.heap_setCell w1 _ _ k hk
 have hsz1 : W.heap.size ≤ w1.heap.size := by have := hg.size; omega
 have hsz2 : (w1.setCell ⟨w.heap.size + 2, 9, none⟩ (.slice A' (pre.length + 1) c')).heap.size = w1.heap.size := World.size_setCell _ _ _; have hcov2 : ∀ k, okc W (w.heap.size + 3) k → (w1.setCell ⟨w.heap.size + 2, 9, none⟩ (.slice A' (pre.length + 1) c')).heap[k]? = W.heap[k]? := fun k hk => (hset k (by have := hk.1.1; omega)).trans (hcov k hk)
 have hbel1 : Below w.heap.size W w1 := (((Below.refl _ W).alloc (by omega) o).grown hg (by omega) fun k e => by have := hlow k e; omega)
 have hko : KeepsOthers W w1 := (KeepsOthers.alloc W o).trans (KeepsOthers.of_grownBy hg fun j o' e ho => by
  obtain ⟨zs, q2, hz⟩ := own_row H.own e; have hlt : j < W.heap.size := (Array.getElem?_eq_some_iff.1 hz).1; rw [Below.heap_alloc W o j hlt, hz] at ho; injection ho with ho
  subst ho; rfl)
 have hbel2 : Below w.heap.size W (w1.setCell ⟨w.heap.size + 2, 9, none⟩ (.slice A' (pre.length + 1) c')) := hbel1.setCell (p := ⟨w.heap.size + 2, 9, none⟩) (by show w.heap.size ≤ w.heap.size + 2; omega) _; refine ⟨⟨H.bel.trans hbel2, ?_, (hset _ (by omega)).trans hres, ?_, ?_, ?_, cvs_kept H.cv (by omega) hcov2, ?_⟩, hko.trans (KeepsOthers.setCell _ _ _), ⟨hbel2, (hset b hb2).trans (key _ _ _ _ hb ht)⟩, hbox⟩
 ·have := hbox.set 9 (.slice A' (pre.length + 1) c'); rw [List.length_append, List.length_singleton]; exact this
 ·rw [List.length_append, List.length_singleton]; exact own_far hO (by show w.heap.size + 2 < _; omega) _
 ·rw [List.map_append, List.map_append, H.vs, List.map_singleton, List.map_singleton, hv]
 ·rw [List.map_append, List.map_append, H.ns, List.map_singleton, List.map_singleton, hn]
 ·intro r' hr'; rcases List.mem_append.1 hr' with h1 | h1
  ·exact cvs_kept (H.ks r' h1) (by omega) hcov2
  ·rw [List.mem_singleton] at h1; subst h1; exact cvs_kept hcv (by omega) hcov2
theorem KI.far {w W : World} {h : Hr} {Ac : Option Addr} {cc : Nat} {A : Option Addr} {c : Nat} {pre rs : List Rw} (H : KI w W h Ac cc A c pre rs) {bb : Nat} {xs : Array Value} (X : Bx W bb 52 xs) (hb : w.heap.size + 3 ≤ bb) (hne : (Value.slice A pre.length c).ownBlock ≠ some bb) (o : Nat) (u : Value) : KI w (W.setCell ⟨bb, o, none⟩ u) h Ac cc A c pre rs := by
 have hset : ∀ k, k ≠ bb → (W.setCell ⟨bb, o, none⟩ u).heap[k]? = W.heap[k]? := fun k hk => Below.heap_setCell W ⟨bb, o, none⟩ u k hk
 have hsz : (W.setCell ⟨bb, o, none⟩ u).heap.size = W.heap.size := World.size_setCell _ _ _
 have hcov : ∀ k, okc W (w.heap.size + 3) k → (W.setCell ⟨bb, o, none⟩ u).heap[k]? = W.heap[k]? := by
  rintro k ⟨h1, ys, q, h2⟩; refine hset k fun e => ?_
  subst e; unfold Bx at X; rw [X] at h2; injection h2 with h2
  injection h2 with _ h2
  exact absurd h2 (by decide)
 refine ⟨H.bel.setCell (p := ⟨bb, o, none⟩) (by show w.heap.size ≤ bb; omega) _, (hset _ (by omega)).trans H.box, (hset _ (by omega)).trans H.res, ⟨H.own.1, ?_⟩, H.vs, H.ns, cvs_kept H.cv (by omega) hcov, fun r hr => cvs_kept (H.ks r hr) (by omega) hcov⟩; rcases H.own.2 with h | ⟨g, cap, cur, e, hb', hh, q⟩
 ·exact .inl h
 ·refine .inr ⟨g, cap, cur, e, hb', (hset g fun e2 => hne ?_).trans hh, q⟩; injection e with e
  rw [e, e2]; rfl
set_option maxRecDepth 100000 in
set_option maxHeartbeats 4000000 in
theorem at_yes (h : Hr) (b : Int) (w : World) (hb : h.bk ≤ b) (M : HM w (· < w.heap.size) h) (S : HS h) : Calls Tryz.prog 33 #[hg h, .int .i64 b] w fun e w' => ∃ k : Hr, e = .returned (.tuple #[hg k, .int .i64 0]) ∧ k.v = ⟨h.id, h.bk, h.s, h.r, h.cs, h.v.hs.filter fun c => decide (c.bk ≤ b)⟩ ∧ HM w' (· < w'.heap.size) k ∧ HS k ∧ k.m ≤ h.m ∧ Below w.heap.size w w' := by
 obtain ⟨W, hW⟩ : ∃ W, (w.alloc (.cells (hc h) 35)).alloc (.cells zhc 35) = W := ⟨_, rfl⟩; have H0 := Lib.hid (show A3 w W h by rw [← hW]; exact A3.start w h); have HW := Lib.hid hW; have esz : W.heap.size = w.heap.size + 2 := by rw [← hW]; simp
 have ESZ := Lib.hid esz; have HMM := Lib.hid M; have HSS := Lib.hid S; have tb : decide (b < h.bk) = false := decide_eq_false (by omega); obtain ⟨W1, hW1⟩ : ∃ W1, W.alloc (.cells (hc h) 35) = W1 := ⟨_, rfl⟩; have hb1 : Below W.heap.size W W1 := hW1 ▸ alloc_ _ _; have HB1 := Lib.hid hb1; have HZ1 := Lib.hid (show Bx W1 (w.heap.size + 2) 35 (hc h) by rw [← hW1, ← esz]; exact Bx.new W 35 (hc h)); have HX1 := Lib.hid (H0.out.x.keep hb1); have HY1 := Lib.hid (H0.out.y.keep hb1); have HW1 := Lib.hid hW1; have HBW1 := Lib.hid (H0.out.b.trans (hb1.mono (by omega))); have x0 := H0.out.x.c 0; have x1 := H0.out.x.c 1; have x2 := H0.out.x.c 2; have x3 := H0.out.x.c 3; have x4 := H0.out.x.c 4; have x5 := H0.out.x.c 5; have x6 := H0.out.x.c 6; have x7 := H0.out.x.c 7; have x8 := H0.out.x.c 8; have x9 := H0.out.x.c 9; simp at x0 x1 x2 x3 x4 x5 x6 x7 x8 x9; clear hW M S hW1 hb1 esz hb; refine callsIn_wide (n := 10) |>.1 ?_
 refine callsIn_of_wp_marks Tryz.func33 rfl trivial ?_ rfl; simp only [Tryz.ntmps33, List.size_toArray, List.length_cons, List.length_nil, Nat.reduceAdd, Nat.reduceSub, Array.replicate_succ, Array.replicate_zero, List.push_toArray, List.append_toArray, List.nil_append, List.cons_append]
 gi_upto_region 1 with fail
 rw [HW.out]
 gi_upto_region 4 with fail
 rw [HW1.out, ESZ.out]; clear x0 x1 x2 x3 x4 x5 x6 x7 x8 x9; have x8 := HX1.out.c 8; have x9 := HX1.out.c 9; simp at x8 x9; have CC := Lib.hid (callsIn_wide (n := 9) |>.2 (Slc.clone_covers h.A h.n h.c h.cs (· < w.heap.size) W1 (HMM.out.t.keep (fun _ hp => HBW1.out.cell hp) (fun _ h => h)) (fun b hb => Nat.lt_of_lt_of_le hb HBW1.out.size) HSS.out.n))
 gi_wp2_with fail
 refine ⟨trivial, CC.out.mono ?_⟩; rintro e w2 ⟨A2, c2, rfl, hO2, hb2⟩; have HO2 := Lib.hid hO2; have HB2 := Lib.hid hb2; have HX2 := Lib.hid (HX1.out.keep hb2); have HY2 := Lib.hid (HY1.out.keep hb2); have HZ2 := Lib.hid (HZ1.out.keep hb2); clear hO2 hb2 CC x8 x9; have z8 := HZ2.out.c 8; simp at z8; have fz := HZ2.out.f
 gi_upto_region 5 with fail
 obtain ⟨W3, hW3⟩ : ∃ W3, w2.setCell ⟨w.heap.size + 2, 8, none⟩ (.slice A2 h.n c2) = W3 := ⟨_, rfl⟩; have hn1 : w.heap.size + 3 ≤ W1.heap.size := HZ1.out.lt; have h3 : ∀ b, b ≠ w.heap.size + 2 → W3.heap[b]? = w2.heap[b]? := fun b hb => by rw [← hW3]; exact Below.heap_setCell w2 _ _ b hb
 have hz3 : Bx W3 (w.heap.size + 2) 35 (hc (kh h A2 c2 h.B h.m h.d h.rs)) := by
  rw [← hW3]; exact HZ2.out.set 8 (.slice A2 h.n c2)
 have hs3 : W3.heap.size = w2.heap.size := by rw [← hW3]; exact World.size_setCell _ _ _
 have hb3 : Below w.heap.size w W3 := by rw [← hW3]; exact (HBW1.out.trans (HB2.out.mono (by omega))).setCell (p := ⟨w.heap.size + 2, 8, none⟩) (by show w.heap.size ≤ w.heap.size + 2; omega) _
 have hcv3 : Cvs W3 (okc W3 (w.heap.size + 3)) A2 h.n h.cs := (Slc.cown_cov HO2.out).keep (fun p hp => World.cell?_of_block (h3 _ (by have := hp.1.1; omega))) fun b hb => ⟨⟨by have := hb.1.1; omega, by rw [hs3]; exact hb.1.2⟩, Slc.cov_keep hb.2 (h3 b (by have := hb.1.1; omega))⟩
 have HX3 := Lib.hid (show Bx W3 w.heap.size 35 (hc h) from (h3 _ (by omega)).trans HX2.out); have HY3 := Lib.hid (show Bx W3 (w.heap.size + 1) 35 zhc from (h3 _ (by omega)).trans HY2.out); have HZ3 := Lib.hid hz3; have HB3 := Lib.hid hb3; have HCV3 := Lib.hid hcv3; rw [hW3]; clear h3 hz3 hs3 hb3 hcv3 hW3 HX2 HY2 HZ2 HO2 z8 fz HX1 HY1 HZ1 HW1 HW; have z9 := HZ3.out.c 9; simp at z9; have fz := HZ3.out.f
 gi_upto_region 6 with fail
 obtain ⟨W4, hW4⟩ : ∃ W4, W3.setCell ⟨w.heap.size + 2, 9, none⟩ (.slice none 0 0) = W4 := ⟨_, rfl⟩; have h4 : ∀ b, b ≠ w.heap.size + 2 → W4.heap[b]? = W3.heap[b]? := fun b hb => by rw [← hW4]; exact Below.heap_setCell W3 _ _ b hb
 have hz4 : Bx W4 (w.heap.size + 2) 35 (hc (kh h A2 c2 none 0 0 [])) := by
  rw [← hW4]; exact HZ3.out.set 9 (.slice none 0 0)
 have hs4 : W4.heap.size = W3.heap.size := by rw [← hW4]; exact World.size_setCell _ _ _
 have hb4 : Below w.heap.size w W4 := by rw [← hW4]; exact HB3.out.setCell (p := ⟨w.heap.size + 2, 9, none⟩) (by show w.heap.size ≤ w.heap.size + 2; omega) _
 have hcv4 : Cvs W4 (okc W4 (w.heap.size + 3)) A2 h.n h.cs := cvs_kept HCV3.out (by omega) fun b hb => h4 b (by have := hb.1.1; omega)
 have HX4 := Lib.hid (show Bx W4 w.heap.size 35 (hc h) from (h4 _ (by omega)).trans HX3.out); have HY4 := Lib.hid (show Bx W4 (w.heap.size + 1) 35 zhc from (h4 _ (by omega)).trans HY3.out); have HI4 := Lib.hid (show KI w W4 h A2 c2 none 0 [] [] from ⟨hb4, hz4, HY4.out, Tm.Own.nil, rfl, rfl, hcv4, fun r hr => by cases hr⟩); have HB4 := Lib.hid hb4; have hsz4 := Lib.hid (show w.heap.size + 2 < W4.heap.size from hz4.lt); rw [hW4]; clear h4 hz4 hs4 hb4 hcv4 hW4 HX3 HY3 HZ3 z9 fz HB3 HCV3; have x9 := HX4.out.c 9; simp at x9
 gi_wp2_with fail
 refine ⟨trivial, (callsIn_wide.2 (knownOn h.B h.m h.d b W4)).mono ?_⟩; rintro e W5 ⟨rfl, hW5⟩; have hb5 : Below W4.heap.size W4 W5 := by rw [← hW5]; exact (alloc_ _ _).alloc (by simp) _
 have HB5 := Lib.hid hb5; have hl5 : W5.heap.size = W4.heap.size + 2 := by rw [← hW5]; simp
 have HL5 := Lib.hid hl5; have hs5 : Bx W5 W4.heap.size 33 #[.slice h.B h.m h.d] := by rw [← hW5]; exact (Bx.new _ _ _).alloc _
 have ht5 : Bx W5 (W4.heap.size + 1) 3 #[.int .i64 b] := by
  have := Bx.new (w := W4.alloc (.cells #[.slice h.B h.m h.d] 33)) 3 #[.int .i64 b]; rw [World.size_alloc, hW5] at this; exact this
 have HS5 := Lib.hid hs5; have HT5 := Lib.hid ht5; have HX5 := Lib.hid (HX4.out.keep hb5); have HY5 := Lib.hid (HY4.out.keep hb5); have HI5 := Lib.hid (show KI w W5 h A2 c2 none 0 [] [] from HI4.out.grown (row := none) (Spn.grown_of_below hb5) (fun r e => by cases e)); clear hW5 hb5 hs5 ht5 hl5 HX4 HY4 HI4 x9
 gi_wp2
 refine wpIn_rangeFunc_ownH rfl (by decide) (gf := 63) (lb := #[.pointer (some ⟨W4.heap.size, 0, none⟩), .pointer (some ⟨W4.heap.size + 1, 0, none⟩)]) rfl trivial (enters_of Tryz.func63 (by kernel_rfl) rfl)
  (known_stops (p := fun r => r ∈ h.rs) W4.heap.size (W4.heap.size + 1) w.heap.size h.m h.d h.B b h.rs.attach (by have := HSS.out.m; omega) W5 (by have := HL5.out; omega) (by have := HL5.out; omega) HI5.out.bel.size (HS5.out.c 0) (HT5.out.c 0) (by rw [List.attach_map_subtype_val]; exact HMM.out.r.keep (fun _ hp => HI5.out.bel.cell hp) fun _ h => h)) KB.trans
  (fun W l o o' hl h1 h2 h3 => ⟨belowK_b (w := W5) HI5.out.bel.size W l o o' hl h1 h2 h3, World.putObj_heap_other (by have := HL5.out; omega)⟩) (Below.refl _ _) (fun _ => rfl)
  (fun pre W => (∃ A c rs, KI w W h A2 c2 A c (pre.map Subtype.val) rs) ∧ W5.heap.size ≤ W.heap.size ∧ Bx W (W4.heap.size + 1) 3 #[.int .i64 b])
  (fun _ _ _ => False)
  (by
   rintro pre W W' row ⟨⟨A, c, rs, H⟩, hs, hT⟩ hg hr; have h1 := HL5.out; have h2 := hsz4.out; exact ⟨⟨A, c, rs, H.grown hg fun r e => ⟨by have := (hr r e).1; omega, (hr r e).2⟩⟩, Nat.le_trans hs hg.size, heap_kept hT hg fun r e => (hr r e).2⟩)
  (fun _ _ _ _ _ hs _ _ => hs)
  ⟨⟨none, 0, [], HI5.out⟩, Nat.le_refl _, HT5.out⟩
  (fun x a' W => ∃ bb z, w.heap.size + 3 ≤ bb ∧ W.cell? ⟨w.heap.size + 2, 9, none⟩ = some z ∧ z.ownBlock ≠ some bb ∧ Bx W bb 52 (vc x.1) ∧ a' = { tmps := #[hg h, .int .i64 b, .pointer (some ⟨w.heap.size, 0, none⟩), undef, .pointer (some ⟨w.heap.size + 1, 0, none⟩), .int .i64 0, .pointer (some ⟨w.heap.size + 2, 0, none⟩), .pointer (some ⟨bb, 0, none⟩), .pointer (some ⟨w.heap.size, 1, none⟩), .int .i64 h.bk, .int .i64 b, .bool false, undef, hg h, .pointer (some ⟨w.heap.size, 2, none⟩), .pointer (some ⟨w.heap.size, 8, none⟩), .slice h.A h.n h.c, .slice A2 h.n c2, .pointer (some ⟨w.heap.size + 2, 2, none⟩), .pointer (some ⟨w.heap.size + 2, 8, none⟩), .pointer (some ⟨w.heap.size + 2, 9, none⟩), .pointer (some ⟨w.heap.size, 9, none⟩), .slice h.B h.m h.d, .int .i64 b, .func (.func 63) #[] #[.pointer (some ⟨W4.heap.size, 0, none⟩), .pointer (some ⟨W4.heap.size + 1, 0, none⟩)], vg x.1, undef, undef, undef, undef, undef, undef, undef, undef, undef, undef, undef], defers := [] })
  (fun x a' _ X Y row hs hg hr => by obtain ⟨bb, z, h0, hz1, hz2, h1, h2⟩ := hs; exact ⟨bb, z, h0, cell_kept hz1 hg (fun r e => (hr r e).2), hz2, heap_kept h1 hg (fun r e => (hr r e).2), h2⟩)
  ?assign ?body ?done ?stop
 case assign =>
  rintro l pre x W K ⟨⟨A, c, rs, H⟩, hs, hT⟩ hK; have h1 := HL5.out; have h2 := hsz4.out; have HH := Lib.hid H; clear H
  gi_wp2
  have hb := alloc_ W (.cells (vc x.1) 52); exact hK _ _ ((KeepsOthers.alloc _ _).from _) (KB.below hb (by omega) (by omega)) ⟨⟨A, c, rs, HH.out.grown (row := none) (Spn.grown_of_below hb) (fun r e => by cases e)⟩, Nat.le_trans hs hb.size, hT.keep hb⟩ ⟨W.heap.size, _, by omega, (HH.out.box.keep hb).c 9, fun e => by have := (HH.out.own.lt _ e).2; omega, Bx.new W _ _, rfl⟩
 case body =>
  rintro l pre x a' W hl ⟨r, hr⟩ ⟨⟨A, c, rs, H⟩, hs, hT⟩ ⟨bb, z, hbb, hz1, hz2, X, rfl⟩ hlt
  obtain rfl : z = .slice A (pre.map Subtype.val).length c := by
   have := H.box.c 9; rw [hz1] at this; simpa using this
  have HNE := Lib.hid hz2; clear hz1 hz2; have h1 := HL5.out; have h2 := hsz4.out; have hbw : Below w.heap.size w W := H.bel; have HC := Lib.hid (CallsIn.inRound l (callsIn_wide (n := 7).2 (Slc.clone_covers x.1.A x.1.n x.1.c x.1.v.cs (· < w.heap.size) W ((HMM.out.k x.1 x.2).keep (fun _ hp => hbw.cell hp) fun _ h => h) (fun b hb => Nat.lt_of_lt_of_le hb hbw.size) (HSS.out.k x.1 x.2)))); have x7 := X.c 7; simp at x7; have HH := Lib.hid H; have HT := Lib.hid hT; have HX := Lib.hid X; obtain ⟨n, hn⟩ : ∃ n, (pre.map Subtype.val).length = n := ⟨_, rfl⟩; have HN := Lib.hid hn; clear H hT X hbw hr hn
  gi_wp2_with fail
  refine ⟨trivial, HC.out.mono ?_⟩; rintro e W1' ⟨A', c', rfl, hO, hb⟩; obtain ⟨W2', hW2⟩ : ∃ W2', W1'.setCell ⟨bb, 7, none⟩ (.slice A' x.1.n c') = W2' := ⟨_, rfl⟩; have X1 := HX.out.keep hb; have hlt1 := HX.out.lt; have x7' := X1.c 7; simp at x7'; have fx := X1.f; have HI1 := HH.out.grown (row := none) (Spn.grown_of_below hb) (fun r e => by cases e); have hT1 := HT.out.keep hb; have HI2 := Lib.hid (show KI w W2' h A2 c2 A c (pre.map Subtype.val) rs by rw [← hW2]; exact HI1.far X1 hbb HNE.out 7 _)
  have hne : bb ≠ W4.heap.size + 1 := by
   intro e; have := hT1; rw [← e] at this; unfold Bx at X1 this; rw [X1] at this; injection this with this
   injection this with _ this
   exact absurd this (by decide)
  have HT2 := Lib.hid (show Bx W2' (W4.heap.size + 1) 3 #[.int .i64 b] by rw [← hW2]; exact hT1.far (a := ⟨bb, 7, none⟩) (fun e => hne e.symm) _); have HX2 := Lib.hid (show Bx W2' bb 52 (vc ⟨x.1.v, A', x.1.n, c'⟩) by rw [← hW2]; exact X1.set 7 (.slice A' x.1.n c'))
  have HCV := Lib.hid (show Cvs W2' (okc W2' (w.heap.size + 3)) A' x.1.n x.1.v.cs from (Slc.cown_cov hO).keep (fun p hp => by rw [← hW2]; exact World.cell?_of_block (Below.heap_setCell W1' _ _ _ (by have := hp.1.1; show p.block ≠ bb; omega))) fun k hk => by
   have hs2 : W2'.heap.size = W1'.heap.size := by rw [← hW2]; exact World.size_setCell _ _ _
   have hk1 := hk.1.1; exact ⟨⟨by omega, by rw [hs2]; exact hk.1.2⟩, Slc.cov_keep hk.2 (by rw [← hW2]; exact Below.heap_setCell W1' _ _ _ (by show k ≠ bb; omega))⟩)
  have HKO := Lib.hid (show KeepsOthers W W2' by rw [← hW2]; exact (ko_of_below hb).trans (KeepsOthers.setCell _ _ _))
  have HKB := Lib.hid (show KB w.heap.size (W4.heap.size + 1) W W2' by
   refine (KB.below hb (by omega) HT.out.lt).trans ⟨?_, ?_⟩
   ·rw [← hW2]; exact (Below.refl _ _).setCell (p := ⟨bb, 7, none⟩) (by show w.heap.size ≤ bb; omega) _
   ·rw [← hW2]; exact Below.heap_setCell W1' _ _ _ (by show W4.heap.size + 1 ≠ bb; exact fun e => hne e.symm))
  have HS2 := Lib.hid (show W5.heap.size ≤ W2'.heap.size from Nat.le_trans hs HKO.out.size); have hle : w.heap.size + 3 ≤ W2'.heap.size := by have := HS2.out; omega
  have hnl : n ≤ 3000 := by
   have h5 : (kb b h.rs.attach).length ≤ h.rs.length := Nat.le_trans (List.length_filter_le _ _) (by rw [List.length_attach]; exact Nat.le_refl _); have := HMM.out.r.1; have := HSS.out.m; have := HN.out; rw [List.length_map] at this; omega
  clear HI1 hT1 hO hb HC x7
  gi_upto_region 9 with fail
  try rw [hW2]
  clear hW2 x7' fx X1 hne; have x0 := HX2.out.c 0; have x1 := HX2.out.c 1; have x2 := HX2.out.c 2; have x3 := HX2.out.c 3; have x4 := HX2.out.c 4; have x5 := HX2.out.c 5; have x6 := HX2.out.c 6; have x7 := HX2.out.c 7; have x8 := HX2.out.c 8; simp at x0 x1 x2 x3 x4 x5 x6 x7 x8; have z9 := HI2.out.box.c 9; simp at z9; rw [← List.length_map (f := Subtype.val), HN.out] at z9; have HLE := Lib.hid hle; clear hle; obtain ⟨i0, hi, hz0, hz1, hz2⟩ := info_parts info_change; have HO2' := Lib.hid (show W2'.ownsRow (w.heap.size + 3) 52 9 (.slice A n c) n (cel rs) by have := HI2.out.own; rw [HN.out] at this; exact this)
  gi_wp2_with (gi_at_builtin; refine wpListIn_append_own _ rfl _ _ 33 rfl (w.heap.size + 3) 52 i0 (.agg zc) 9 88 Tryz.underlying33 hi hz0 hz1 hz2 rfl (by decide) _ _ _ rfl (World.ownsRow.alloc HO2'.out _) ⟨W2'.heap.size, 0, none⟩ 1 1 (cl ⟨x.1.v, A', x.1.n, c'⟩) rfl rfl (new_nine W2' _) (fun u hu => cel_cell [⟨x.1.v, A', x.1.n, c'⟩] u (by rw [cel_one]; exact hu)) (by unfold maxLen; omega) (by omega) (by have := HLE.out; simp; omega) ?_; intro v' w3 hown' hgrow _; obtain ⟨g', cap', rfl⟩ := ownsRow_succ hown'; obtain ⟨K1, K2, K3, K4⟩ := HI2.out.more (x := x.1) (r := ⟨x.1.v, A', x.1.n, c'⟩) (A' := some ⟨g', 0, none⟩) (c' := cap') (by rw [HN.out]; exact hgrow) (by rw [HN.out]; unfold Tm.Own; rw [cel_append, cel_one]; exact hown') rfl rfl HCV.out HLE.out HT2.out (by have := hsz4.out; omega) (by decide); have hc1 := K4.c 9; simp at hc1; rw [← List.length_map (f := Subtype.val), HN.out] at hc1; have hf1 := K4.f; rw [HN.out] at K1 K2 K3; have hb1 := K4.lt; have HK1 := Lib.hid K1; have HK2 := Lib.hid K2; have HK3 := Lib.hid K3; clear K1 K2 K3 K4 hown' hgrow)
  refine ⟨(HKO.out.trans HK2.out).from _, HKB.out.trans HK3.out, ⟨_, _, _, by rw [List.map_append, List.map_singleton]; exact HK1.out⟩, Nat.le_trans HS2.out HK2.out.size, ?_⟩; exact HK3.out.box.trans HT2.out
 case done =>
  rintro D zs W hD hz ⟨⟨A, c, rs, H⟩, hs, hT⟩ hK; have h1 := HL5.out; have h2 := hsz4.out; have hD2 : w.heap.size + 3 ≤ D := by omega
  have HH := Lib.hid H; have HK := Lib.hid hK; have HZ := Lib.hid hz; obtain ⟨n, hn⟩ : ∃ n, (zs.map Subtype.val).length = n := ⟨_, rfl⟩; have HN := Lib.hid hn; have x0 := H.box.c 0; have x1 := H.box.c 1; have x2 := H.box.c 2; have x3 := H.box.c 3; have x4 := H.box.c 4; have x5 := H.box.c 5; have x6 := H.box.c 6; have x7 := H.box.c 7; have x8 := H.box.c 8; have x9 := H.box.c 9; have y0 := H.res.c 0; have y1 := H.res.c 1; have y2 := H.res.c 2; have y3 := H.res.c 3; have y4 := H.res.c 4; have y5 := H.res.c 5; have y6 := H.res.c 6; have y7 := H.res.c 7; have y8 := H.res.c 8; have y9 := H.res.c 9; have fy := H.res.f; simp at x0 x1 x2 x3 x4 x5 x6 x7 x8 x9 y0 y1 y2 y3 y4 y5 y6 y7 y8 y9; rw [← List.length_map (f := Subtype.val), hn] at x9; clear H hK hz hn
  gi_wp2
  clear x0 x1 x2 x3 x4 x5 x6 x7 x8 x9 y0 y1 y2 y3 y4 y5 y6 y7 y8 y9 fy; change bodyPostM _ _ _ _ _ _ _ (puth (w.heap.size + 1) (kh h A2 c2 A n c rs) W); have hset : ∀ k, k ≠ w.heap.size + 1 → (puth (w.heap.size + 1) (kh h A2 c2 A n c rs) W).heap[k]? = W.heap[k]? := fun k hk => sets_heap _ hk 0 W
  have hsz : (puth (w.heap.size + 1) (kh h A2 c2 A n c rs) W).heap.size = W.heap.size := sets_size _ 0 W; have hbx := Bx.puth (h' := zhr) HH.out.res (kh h A2 c2 A n c rs)
  have hown : Tm.Own (puth (w.heap.size + 1) (kh h A2 c2 A n c rs) W) (w.heap.size + 3) A n c rs := by
   have := HH.out.own; rw [HN.out] at this; exact own_keep this fun g hg => hset g (by omega)
  have hcv := cvs_kept HH.out.cv (Nat.le_of_eq hsz.symm) fun k hk => hset k (by have := hk.1.1; omega)
  have hks := fun r hr => cvs_kept (HH.out.ks r hr) (Nat.le_of_eq hsz.symm) fun k hk => hset k (by have := hk.1.1; omega)
  have hbel : Below w.heap.size w (puth (w.heap.size + 1) (kh h A2 c2 A n c rs) W) := sets_below _ (by omega) 0 W HH.out.bel; have hK3 : (puth (w.heap.size + 1) (kh h A2 c2 A n c rs) W).heap[D]? = some (.deferred (some [])) := (hset D (by omega)).trans HK.out; obtain ⟨W6, hW6⟩ : ∃ W6, puth (w.heap.size + 1) (kh h A2 c2 A n c rs) W = W6 := ⟨_, rfl⟩; rw [hW6] at hset hsz hbx hown hcv hks hbel hK3 ⊢; refine ⟨by simp, .inl ⟨_, _, rfl, run_takeDeferred hK3, ?_⟩⟩; have hoth : ∀ k, k ≠ D → (W6.putObj D (.deferred none)).heap[k]? = W6.heap[k]? := fun k hk => World.putObj_heap_other hk
  have hoth2 : ∀ k, okc W6 (w.heap.size + 3) k → (W6.putObj D (.deferred none)).heap[k]? = W6.heap[k]? := by
   rintro k ⟨_, ys, q, hy⟩; refine hoth k fun e => ?_
   rw [e, hK3] at hy; cases hy
  have hszD : (W6.putObj D (.deferred none)).heap.size = W6.heap.size := by simp
  have hb7 : Bx (W6.putObj D (.deferred none)) (w.heap.size + 1) 35 (hc (kh h A2 c2 A n c rs)) := (hoth _ (by omega)).trans hbx; have hO7 : Tm.Own (W6.putObj D (.deferred none)) (w.heap.size + 3) A n c rs := ownsRow_putObj hown (Obj.deferred none) hK3 rfl; have hcv7 := cvs_kept hcv (Nat.le_of_eq hszD.symm) hoth2; have hks7 := fun r hr => cvs_kept (hks r hr) (Nat.le_of_eq hszD.symm) hoth2
  have hle : n ≤ h.m := by
   have h5 : (kb b h.rs.attach).length ≤ h.rs.length := Nat.le_trans (List.length_filter_le _ _) (by rw [List.length_attach]; exact Nat.le_refl _); have := HMM.out.r.1; have := HN.out; rw [HZ.out, List.length_map] at this; omega
  have hfit := own_fits hO7; refine ⟨.tuple #[hg (kh h A2 c2 A n c rs), .int .i64 0], ?res, kh h A2 c2 A n c rs, rfl, ?val, ⟨hcv7.keep (fun _ _ => rfl) fun k hk => hk.1.2, hO7.raws.keep (fun _ _ => rfl) fun k hk => hk.2, fun r hr => (hks7 r hr).keep (fun _ _ => rfl) fun k hk => hk.1.2⟩, ⟨HSS.out.n, by have := HSS.out.m; show n ≤ 2000; omega, ?ns, hfit.2, hfit.1⟩, hle, hbel.trans (belowK_b (w := w) (Nat.le_refl _) W6 D _ _ (by omega) hK3 rfl rfl)⟩
  case res =>
   have x0 := hb7.c 0; have x1 := hb7.c 1; have x2 := hb7.c 2; have x3 := hb7.c 3; have x4 := hb7.c 4; have x5 := hb7.c 5; have x6 := hb7.c 6; have x7 := hb7.c 7; have x8 := hb7.c 8; have x9 := hb7.c 9; simp at x0 x1 x2 x3 x4 x5 x6 x7 x8 x9; simp [results, Tryz.results33, go_sem, x0, x1, x2, x3, x4, x5, x6, x7, x8, x9]
  case val =>
   have e1 : rs.map Rw.v = h.v.hs.filter fun c => decide (c.bk ≤ b) := by
    rw [HH.out.vs, HZ.out, kb_val, List.attach_map_subtype_val]; show _ = (h.rs.map Rw.v).filter _
    rw [List.filter_map]; rfl
   unfold Hr.v; rw [show (kh h A2 c2 A n c rs).rs = rs from rfl, e1]; rfl
  case ns =>
   intro r hr; have hm : r.n ∈ (zs.map Subtype.val).map Rw.n := by rw [← HH.out.ns]; exact List.mem_map.2 ⟨r, hr, rfl⟩
   obtain ⟨x, hx, e⟩ := List.mem_map.1 hm; obtain ⟨y, hy, rfl⟩ := List.mem_map.1 hx; rw [← e]; exact HSS.out.k y.1 y.2
 case stop =>
  rintro D c pre W _ _ h _; exact h.elim
def AtTo (w : World) (h : Hr) (b : Int) (e : Ending) (w' : World) : Prop := (b < h.bk ∧ e = .returned (.tuple #[hg zhr, .int .i64 7]) ∧ Below w.heap.size w w') ∨ (h.bk ≤ b ∧ ∃ k : Hr, e = .returned (.tuple #[hg k, .int .i64 0]) ∧ k.v = ⟨h.id, h.bk, h.s, h.r, h.cs, h.v.hs.filter fun c => decide (c.bk ≤ b)⟩ ∧ HM w' (· < w'.heap.size) k ∧ HS k ∧ k.m ≤ h.m ∧ Below w.heap.size w w')
theorem at_ (h : Hr) (b : Int) (w : World) (M : HM w (· < w.heap.size) h) (S : HS h) : Calls Tryz.prog 33 #[hg h, .int .i64 b] w (AtTo w h b) := by
 rcases Int.lt_or_le b h.bk with hb | hb
 ·exact (at_no h b w hb).mono fun e w' H => .inl ⟨hb, H⟩
 ·exact (at_yes h b w hb M S).mono fun e w' H => .inr ⟨hb, H⟩
end Kno
end Go.Proofs.YtplenoaajokpjaaGreat

namespace Go.Proofs.YtplenoaajokpjaaGreat
open Go.RowKit Ba Cv Sp Te Ag Tf Sl Tm
namespace Slc
set_option linter.unusedVariables false
def SlTo (w : World) (h : Hi) (vs : List Ve) (b : Int) (e : Ending) (w' : World) : Prop := ∃ A n c rs code, e = .returned (.tuple #[.slice A n c, .int .i64 code]) ∧ Sls w' A n rs ∧ n ≤ 1100 ∧ n ≤ c ∧ SlIs h vs b code (rs.map Rw.v) ∧ Below w.heap.size w w'
set_option maxRecDepth 100000 in
set_option maxHeartbeats 4000000 in
theorem kslices (h : Hr) (T : Option Addr) (nt ct : Nat) (vs : List Trf.Rw) (b : Int) (w : World) (M : HM w (· < w.heap.size) h) (S : HS h) (hm : h.m ≤ 100) (V : Trf.Vers w T nt vs) (hnt : nt ≤ 1000) : Calls Tryz.prog 19 #[hg h, Trf.tg T nt ct, .int .i64 b] w (SlTo w h.v (vs.map Trf.Rw.v) b) := by
 obtain ⟨W, hW⟩ : ∃ W, (w.alloc (.cells (hc h) 35)).alloc (.cells #[.slice T nt ct] 38) = W := ⟨_, rfl⟩; have H0 := Lib.hid (show O2 w W h T nt ct by rw [← hW]; exact O2.start w h T nt ct); have HW := Lib.hid hW; have HV := Lib.hid V; have HA := Lib.hid (Kno.at_ h b W (M.below H0.out.b) S); have HMM := Lib.hid hm; have x0 := H0.out.x.c 0; have x1 := H0.out.x.c 1; have x2 := H0.out.x.c 2; have x3 := H0.out.x.c 3; have x4 := H0.out.x.c 4; have x5 := H0.out.x.c 5; have x6 := H0.out.x.c 6; have x7 := H0.out.x.c 7; have x8 := H0.out.x.c 8; have x9 := H0.out.x.c 9; simp at x0 x1 x2 x3 x4 x5 x6 x7 x8 x9; clear V M S hm hW; go_enter Tryz.func19, Tryz.ntmps19
 go_upto_region 1 with fail
 rw [HW.out]; clear HW
 go_wp2_with fail
 refine HA.out.mono ?_; rintro e w1 (⟨hb, rfl, hb1⟩ | ⟨hb, k, rfl, hv, hM, hS, hkm, hb1⟩)
 ·have H1 := Lib.hid (H0.out.next hb1); clear hb1 HA x0 x1 x2 x3 x4 x5 x6 x7 x8 x9 H0; go_wp2; go_ret2; exact ⟨none, 0, 0, [], 7, rfl, Sls.nil, Nat.zero_le _, Nat.le_refl _, .none hb rfl rfl, H1.out.b.alloc H1.out.b.size _⟩
 ·have H1 := Lib.hid (H0.out.next hb1); have HB := Lib.hid hb; have HKV := Lib.hid hv; have HKM := Lib.hid hM; have HKS := Lib.hid hS; have HKL := Lib.hid hkm; clear hb1 HA x0 x1 x2 x3 x4 x5 x6 x7 x8 x9 H0 hb hv hM hS hkm; obtain ⟨W2, hW2⟩ : ∃ W2, w1.alloc (.cells (hc k) 35) = W2 := ⟨_, rfl⟩; have hb2 : Below w1.heap.size w1 W2 := hW2 ▸ alloc_ _ _; have HX2 := Lib.hid (show Bx W2 w1.heap.size 35 (hc k) from hW2 ▸ Bx.new w1 35 (hc k)); have H2 := Lib.hid (H1.out.next hb2); have HM2 := Lib.hid (HKM.out.below hb2); have HW2 := Lib.hid hW2; clear hb2 hW2
  go_upto_region 4 with fail
  rw [HW2.out]; clear HW2 H1 HKM; have x0 := HX2.out.c 0; have x1 := HX2.out.c 1; have x2 := HX2.out.c 2; have x3 := HX2.out.c 3; have x4 := HX2.out.c 4; have x5 := HX2.out.c 5; have x6 := HX2.out.c 6; have x7 := HX2.out.c 7; have x8 := HX2.out.c 8; have x9 := HX2.out.c 9; simp at x0 x1 x2 x3 x4 x5 x6 x7 x8 x9; have y0 := H2.out.y.c 0; simp at y0; have C := Lib.hid (of_ k T nt ct vs W2 HM2.out HKS.out (Nat.le_trans HKL.out HMM.out) (HV.out.below H2.out.b) hnt)
  go_wp2_with fail
  refine C.out.mono ?_; rintro e w3 ⟨A3, n3, c3, rs3, cd3, rfl, hs3, hn3, hc3, hi3, hb3⟩; have H3 := Lib.hid (H2.out.next hb3); have HL3 := Lib.hid hs3; have HI3 := Lib.hid hi3; clear hb3 hs3 hi3 C x0 x1 x2 x3 x4 x5 x6 x7 x8 x9 y0; go_wp2; go_ret2; refine ⟨A3, n3, c3, rs3, cd3, rfl, HL3.out, hn3, hc3, .known HB.out ?_, H3.out.b⟩; have := HI3.out; rw [HKV.out] at this; exact this
end Slc
end Go.Proofs.YtplenoaajokpjaaGreat
