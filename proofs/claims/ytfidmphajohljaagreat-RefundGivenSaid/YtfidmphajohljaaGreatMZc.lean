/-
  The parts ZSet, ZSpans, ZRound, ZPieces, ZPiecesW, ZSum of this proof. Conditions: those of each theorem.
-/
import Derived.Test.YtfidmphajohljaaGreatHq
import Derived.Test.YtfidmphajohljaaGreatMZb
import Derived.Deep.RegionLaw
import Derived.RangeFuncNested
import Derived.RangeFuncCalls
import Derived.OrdersIn
import Derived.OwnWalkIn
import Derived.Deep.Quiet
import Derived.StillTail
import Derived.Test.YtfidmphajohljaaGreatRows
import Derived.Laws.EntriesVeiled
import Derived.StillTailTactics
import Derived.StillTactics
set_option maxRecDepth 100000
set_option maxHeartbeats 4000000
set_option linter.unusedVariables false
namespace Go.Proofs.YtfidmphajohljaaGreat
open Go.RowKit Stm
namespace Stp
theorem cal {w : World} {p : Addr} {v : Value} {o : Obj} (h : w.cell? p = some v) : (w.alloc o).cell? p = some v := ((Below.refl _ _).alloc (Nat.le_refl _) o : Below w.heap.size w (w.alloc o)).cell (World.block_lt_of_cell? _ _ h) |>.trans h
theorem cst {w : World} {p q r : Addr} {v a b : Value} (h : w.cell? p = some v) (h1 : p.block ≠ q.block) (h2 : p.block ≠ r.block) : ((w.setCell q a).setCell r b).cell? p = some v :=
 (World.cell?_of_block (Below.heap_setCell _ _ _ _ h2)).trans ((World.cell?_of_block (Below.heap_setCell _ _ _ _ h1)).trans h)
theorem enters_changes : ∀ args w, (callFunc 175 args).run Tryz.prog w = .ok (.enter 175 args) w := enters_of Tryz.func175 (by kernel_rfl) rfl
abbrev chW (W : World) (s : Pr) (A : Option Addr) (la ca : Nat) (B : Option Addr) (lb cb : Nat) : World :=
 ((W.alloc (.cells #[.int .i64 s.1, .int .i64 s.2] 23)).alloc (.cells #[.slice A la ca] 63)).alloc (.cells #[.slice B lb cb] 63)
theorem chW_below (W : World) (s : Pr) (A : Option Addr) (la ca : Nat) (B : Option Addr) (lb cb : Nat) : Below W.heap.size W (chW W s A la ca B lb cb) :=
 (((Below.refl _ _).alloc (Nat.le_refl _) _).alloc (by simp) _).alloc (by simp <;> omega) _
def Spans (w : World) (B : Nat) (A : Option Addr) (n : Nat) (xs : List Pr) : Prop :=
 xs.length = n ∧ (0 < n → ∃ ad : Addr, A = some ad ∧ ad.block < B ∧ ∀ (j : Nat) (x : Pr), xs[j]? = some x → w.cell? (ad.add (j * 2)) = some (.int .i64 x.1) ∧ w.cell? (ad.add (j * 2 + 1)) = some (.int .i64 x.2))
section
variable {w w' : World} {B n : Nat} {A : Option Addr} {xs : List Pr}
theorem Spans.get {k : Nat} (h : Spans w B A n xs) (hk : k < n) : ∃ (ad : Addr) (x y : Int), A = some ad ∧ ad.block < B ∧ xs[k]? = some (x, y) ∧ w.cell? (ad.add (k * 2)) = some (.int .i64 x) ∧ w.cell? ⟨(ad.add (k * 2)).block, (ad.add (k * 2)).off + 1, none⟩ = some (.int .i64 y) := by
 obtain ⟨ad, e, hb, hc⟩ := h.2 (by omega); have hl : k < xs.length := by have := h.1; omega
 have := hc k _ (List.getElem?_eq_getElem hl); exact ⟨ad, xs[k].1, xs[k].2, e, hb, List.getElem?_eq_getElem hl, this.1, by rw [← add_one]; exact this.2⟩
end
def cel (xs : List Pr) : List Value := xs.flatMap fun x => [.int .i64 x.1, .int .i64 x.2]
theorem cel_append (xs ys : List Pr) : cel (xs ++ ys) = cel xs ++ cel ys := List.flatMap_append
theorem cel_one (x : Pr) : cel [x] = [.int .i64 x.1, .int .i64 x.2] := rfl
theorem cel_length (xs : List Pr) : (cel xs).length = xs.length * 2 := by
 induction xs with
 | nil => rfl
 | cons x xs ih => rw [show x :: xs = [x] ++ xs from rfl, cel_append, List.length_append, ih, cel_one]; simp; omega
theorem cel_get {xs : List Pr} {j : Nat} {x : Pr} (h : xs[j]? = some x) : (cel xs)[j * 2]? = some (.int .i64 x.1) ∧ (cel xs)[j * 2 + 1]? = some (.int .i64 x.2) := by
 induction xs generalizing j with
 | nil => simp at h
 | cons y ys ih =>
  rw [show y :: ys = [y] ++ ys from rfl, cel_append, cel_one]; cases j with
  | zero => simp at h; subst h; simp
  | succ j =>
   simp at h; obtain ⟨h1, h2⟩ := ih h; have e1 : (j + 1) * 2 = j * 2 + 2 := by omega
   rw [e1, List.getElem?_append_right (by simp), List.getElem?_append_right (by simp)]; exact ⟨by simpa using h1, by simpa using h2⟩
theorem cel_cell (xs : List Pr) : ∀ u ∈ cel xs, u.oneCell' = true := by
 intro u hu; obtain ⟨x, _, hx⟩ := List.mem_flatMap.1 hu; simp at hx; rcases hx with rfl | rfl <;> rfl
def OwnP (w : World) (base : Nat) (A : Option Addr) (n c : Nat) (xs : List Pr) : Prop := w.ownsRow base 23 2 (.slice A n c) n (cel xs)
section
variable {w w' : World} {base n c : Nat} {A : Option Addr} {xs : List Pr}
theorem OwnP.nil : OwnP w base none 0 0 [] := World.ownsRow_nil w base _ 2
theorem OwnP.len (h : OwnP w base A n c xs) : xs.length = n := by have := h.1; rw [cel_length] at this; omega
theorem OwnP.spans (h : OwnP w base A n c xs) : Spans w w.heap.size A n xs ∧ n ≤ c := by
 rcases h.2 with ⟨e, hn⟩ | ⟨g, cap, cur, e, hb, hh, hnc, hm, hs, ht⟩
 ·injection e with e1 e2 e3
  subst hn; have hl := h.len; exact ⟨⟨hl, fun h => absurd h (by omega)⟩, by omega⟩
 ·injection e with e1 e2 e3
  subst e1 e3; refine ⟨⟨h.len, fun _ => ⟨_, rfl, ?_, fun j x hx => ?_⟩⟩, hnc⟩
  ·rcases Nat.lt_or_ge g w.heap.size with hlt | hge
   ·exact hlt
   ·rw [Array.getElem?_eq_none hge] at hh; cases hh
  ·exact ⟨World.ownsRow.cells (g := g) h rfl (j * 2) _ (cel_get hx).1, World.ownsRow.cells (g := g) h rfl (j * 2 + 1) _ (cel_get hx).2⟩
theorem OwnP.lt (h : OwnP w base A n c xs) : ∀ k, (Value.slice A n c).ownBlock = some k → base ≤ k ∧ k < w.heap.size := World.ownsRow.lt h
theorem OwnP.alloc (h : OwnP w base A n c xs) (o : Obj) : OwnP (w.alloc o) base A n c xs := World.ownsRow.alloc h o
theorem OwnP.grown {row : Option Nat} (h : OwnP w base A n c xs) (hg : w.grownBy w' row) (hne : (Value.slice A n c).ownBlock = none ∨ (Value.slice A n c).ownBlock ≠ row) : OwnP w' base A n c xs := World.ownsRow.kept h hg hne
theorem OwnP.far (h : OwnP w base A n c xs) {p : Addr} (hp : ∀ g, (Value.slice A n c).ownBlock = some g → g ≠ p.block) (u : Value) : OwnP (w.setCell p u) base A n c xs := by
 refine World.ownsRow.kept h (row := some p.block) ⟨rfl, rfl, rfl, (KeepsWalks.setCell w _ u).size, fun k _ hk => Below.heap_setCell _ _ _ k (fun e => hk (by rw [e]))⟩ ?_; cases hv : (Value.slice A n c).ownBlock with
 | none => exact .inl rfl
 | some g => exact .inr (fun e => hp g hv (by injection e))
theorem OwnP.abide {row : Option Nat} (h : OwnP w base A n c xs) (hg : w.grownBy w' row) (hr : ∀ r, row = some r → ∃ o : Obj, w.heap[r]? = some o ∧ o.isCells = false) : OwnP w' base A n c xs := by
 refine World.ownsRow.kept h hg ?_; rcases h.2 with ⟨e, _⟩ | ⟨g, cap, cur, e, _, hgb, _⟩
 ·rw [e]; exact .inl rfl
 ·rw [e]; refine .inr fun e' => ?_
  obtain ⟨o, ho, hc⟩ := hr g (by simpa [Value.ownBlock] using e'.symm); rw [hgb] at ho; cases ho; cases hc
theorem OwnP.apart {base2 m d : Nat} {V : Option Addr} {vs : List Int} (h : OwnP w base A n c xs) (h2 : OwnI w base2 V m d vs) : ∀ g, (Value.slice A n c).ownBlock = some g → (Value.slice V m d).ownBlock ≠ some g := by
 intro g e1 e2; rcases h.2 with ⟨e, _⟩ | ⟨g1, cap, cur, e, _, hg1, _⟩
 ·rw [e] at e1; cases e1
 ·rcases h2.2 with ⟨e', _⟩ | ⟨g2, cap2, cur2, e', _, hg2, _⟩
  ·rw [e'] at e2; cases e2
  ·rw [e] at e1; rw [e'] at e2; simp [Value.ownBlock] at e1 e2; subst e1; subst e2; rw [hg1] at hg2; simp at hg2
end
theorem info_span : (Tryz.prog.info? 23).map (fun i => (i.zero, i.size, i.bytes)) = some (some (.agg #[.int .i64 0, .int .i64 0]), 2, 16) := by kernel_rfl
section
variable {w : World} {base k : Nat} {v : Value} {xs : List Pr} {B : Nat} {ad : Addr} {m : Nat} {ys : List Pr} {F : Fence} {g n c : Nat} {a : List Pr} {p q : Int} {A : Option Addr} {w' : World} {b : Nat}
theorem ownp_of_row (h : w.ownsRow base 23 2 v k (cel xs)) : ∃ A c, v = .slice A k c ∧ OwnP w base A k c xs := by
 rcases h.2 with ⟨rfl, hn⟩ | ⟨g, cap, cur, rfl, hr⟩
 ·subst hn; exact ⟨_, _, rfl, h⟩
 ·exact ⟨_, _, rfl, h⟩
theorem spans_cells (h : Spans w B (some ad) m ys) (j : Nat) (u : Value) (hu : (cel ys)[j]? = some u) : w.cell? (ad.add j) = some u := by
 have hl : j < ys.length * 2 := by rw [← cel_length]; exact (List.getElem?_eq_some_iff.1 hu).1
 have hm : j / 2 < ys.length := by omega
 have hy : ys[j / 2]? = some ys[j / 2] := List.getElem?_eq_getElem hm; obtain ⟨ad', e, _, hc⟩ := h.2 (by have := h.1; omega); injection e with e
 subst e; obtain ⟨c0, c1⟩ := hc _ _ hy; obtain ⟨g0, g1⟩ := cel_get hy; rcases (by omega : j = j / 2 * 2 ∨ j = j / 2 * 2 + 1) with hj | hj
 ·rw [hj, g0] at hu; rw [hj, c0]; exact hu
 ·rw [hj, g1] at hu; rw [hj, c1]; exact hu
theorem spans_new1 (w : World) (x y : Int) (N : Nat) (hN : w.heap.size = N) : Spans (w.alloc (.cells #[.int .i64 x, .int .i64 y] 23)) (N + 1) (some ⟨N, 0, none⟩) 1 [(x, y)] := by
 subst hN; have X := Bx.new w 23 (.int .i64 x) (.int .i64 y); have ea : ∀ i, (⟨w.heap.size, 0, none⟩ : Addr).add i = ⟨w.heap.size, i, none⟩ := fun i => by unfold Addr.add; split <;> simp_all
 refine ⟨rfl, fun _ => ⟨_, rfl, by simp, fun j z hz => ?_⟩⟩
 match j, hz with
 | 0, hz => simp at hz; subst hz; rw [ea, ea]; exact ⟨X.c0, X.c1⟩
 | j + 1, hz => simp at hz
theorem wpList_appP (w : World) {ops : Array Oper} {rest : List Oper} {o : Oper} {a : Act} {Q : Exit → Act → World → Prop} (hgd : o.guard = none) (s x : Operand)
  (ho : o.op = .call { callee := .builtin .append, args := #[s, x], argTypes := #[102, 102] })
  (base : Nat) (A : Option Addr) (n c : Nat) (xs : List Pr) (hs : a.eval s = .slice A n c) (hown : OwnP w base A n c xs)
  (B : Nat) (ad : Addr) (m d : Nat) (ys : List Pr) (hx : a.eval x = .slice (some ad) m d) (hr : Spans w B (some ad) m ys) (hlen : n + m ≤ 4000000) (hbase : base ≤ w.heap.size)
  (h : ∀ A' c' w', OwnP w' base A' (n + m) c' (xs ++ ys) → w.grownBy w' (Value.slice A n c).ownBlock → wpList Tryz.prog ops Q rest (a.put o.dst (.slice A' (n + m) c')) w') :
  wpList Tryz.prog ops Q (o :: rest) a w := by
 obtain ⟨i, hi, hz, h1, h2⟩ := info_parts info_span; refine wpList_append_own w hgd s x _ ho base 23 i _ 2 16 Tryz.underlying102 hi hz h1 h2 rfl (by omega) (.slice A n c) n _ hs hown ad m d (cel ys) hx (by rw [cel_length, hr.1]) (spans_cells hr) (cel_cell ys) (by unfold maxLen; omega) (by omega) hbase ?_; intro v' w' hown' hg _; rw [← cel_append] at hown'; obtain ⟨A', c', rfl, hO⟩ := ownp_of_row hown'; exact h A' c' w' hO hg
theorem wpListIn_appP (w : World) {ops : Array Oper} {rest : List Oper} {o : Oper} {a : Act} {Q : Exit → Act → World → Prop} (hgd : o.guard = none) (s x : Operand)
  (ho : o.op = .call { callee := .builtin .append, args := #[s, x], argTypes := #[102, 102] })
  (base : Nat) (A : Option Addr) (n c : Nat) (xs : List Pr) (hs : a.eval s = .slice A n c) (hown : OwnP w base A n c xs)
  (B : Nat) (ad : Addr) (m d : Nat) (ys : List Pr) (hx : a.eval x = .slice (some ad) m d) (hr : Spans w B (some ad) m ys) (hlen : n + m ≤ 4000000) (hbase : base ≤ w.heap.size)
  (h : ∀ A' c' w', OwnP w' base A' (n + m) c' (xs ++ ys) → w.grownBy w' (Value.slice A n c).ownBlock → wpListIn F k Tryz.prog ops Q rest (a.put o.dst (.slice A' (n + m) c')) w') :
  wpListIn F k Tryz.prog ops Q (o :: rest) a w := by
 obtain ⟨i, hi, hz, h1, h2⟩ := info_parts info_span; refine wpListIn_append_own w hgd s x _ ho base 23 i _ 2 16 Tryz.underlying102 hi hz h1 h2 rfl (by omega) (.slice A n c) n _ hs hown ad m d (cel ys) hx (by rw [cel_length, hr.1]) (spans_cells hr) (cel_cell ys) (by unfold maxLen; omega) (by omega) hbase ?_; intro v' w' hown' hg _; rw [← cel_append] at hown'; obtain ⟨A', c', rfl, hO⟩ := ownp_of_row hown'; exact h A' c' w' hO hg
theorem row_turn (z : Int) (h : OwnP w base (some ⟨g, 0, none⟩) n c (a ++ [(p, q)])) :
  OwnP (w.setCell ⟨g, a.length * 2 + 1, none⟩ (.int .i64 z)) base (some ⟨g, 0, none⟩) n c (a ++ [(p, z)]) := by
 have := (World.ownsRow.stored h (a.length * 2 + 1) (.int .i64 z)).1; unfold OwnP; rw [cel_append, cel_one] at this ⊢; rw [List.set_append_right _ _ (by rw [cel_length]; omega)] at this; rw [cel_length, show a.length * 2 + 1 - a.length * 2 = 1 by omega] at this; simpa using this
theorem last_cells (h : OwnP w base A n c (a ++ [(p, q)])) :
  ∃ g, A = some ⟨g, 0, none⟩ ∧ base ≤ g ∧ w.cell? ⟨g, a.length * 2, none⟩ = some (.int .i64 p) ∧ w.cell? ⟨g, a.length * 2 + 1, none⟩ = some (.int .i64 q) ∧ w.frozen? ⟨g, a.length * 2 + 1, none⟩ = false := by
 have hl := h.len; simp at hl; rcases h.2 with ⟨e, h0⟩ | ⟨g, cap, cur, e, hb, hh, hnc, hm, hs, ht⟩
 ·omega
 ·injection e with e1 e2 e3
  subst e1; have ea : ∀ i, (⟨g, 0, none⟩ : Addr).add i = ⟨g, i, none⟩ := fun i => by unfold Addr.add; split <;> simp_all
  have hx : (a ++ [(p, q)])[a.length]? = some (p, q) := by simp
  obtain ⟨c0, c1⟩ := cel_get hx; have hc := World.ownsRow.cells (g := g) h rfl; refine ⟨g, rfl, hb, ?_, ?_, by simp [World.frozen?, hh]⟩
  ·rw [← ea]; exact hc _ _ c0
  ·rw [← ea]; exact hc _ _ c1
theorem ko_appP (hO : OwnP w base A n c xs) (hg : w.grownBy w' (Value.slice A n c).ownBlock) : KeepsOthers w w' := by
 refine KeepsOthers.of_grownBy hg fun j o ej hj => ?_
 rcases hO.2 with ⟨e, _⟩ | ⟨g, cap, cur, e, _, hgb, _⟩
 ·rw [e] at ej; cases ej
 ·rw [e] at ej; simp [Value.ownBlock] at ej; subst ej; rw [hgb] at hj; cases hj; rfl
theorem low_neP (hO : OwnP w base A n c xs) (hb : b < base) : ∀ g, (Value.slice A n c).ownBlock = some g → g ≠ b := fun g e => by have := (hO.lt g e).1; omega
end
end Stp
end Go.Proofs.YtfidmphajohljaaGreat
namespace Go.Proofs.YtfidmphajohljaaGreat
open Go.RowKit
namespace Round
variable {P : Program} {l n : Nat}
theorem rows_in {row : String} {args : Array Value} {w : World} {R : Value → World → Prop} (h : Rows P row args w R) : RowsIn (Fence.wide.inRound l) n P row args w R := by
  intro c cs _
  obtain ⟨v, w', r, s⟩ := h c cs
  exact ⟨v, w', r, stepsIn_wide.2 s⟩
theorem upon_in {o : Oper} {a : Act} {K K' : Act → World → Prop} {Q : Exit → Act → World → Prop} {r : Result Next} (hK : ∀ a w, K a w → K' a w) (h : o.upon P a K Q r) : o.uponIn (Fence.wide.inRound l) n P a K' Q r := by
  cases r with
  | ok x w' =>
    cases x with
    | value v => exact hK _ _ h
    | skip => exact hK _ _ h
    | «defer» d => exact hK _ _ h
    | enter f args =>
      refine ⟨(fun hd => by cases hd), CallsIn.inRound l (callsIn_wide.2 ?_)⟩
      refine Calls.mono (P := P) h ?_
      intro e w'' he
      cases e with
      | returned v => exact hK _ _ he
      | panicked ch => exact he
      | outgrown => exact he
    | row row args =>
      refine ⟨(fun hd => by cases hd), RowsIn.mono (rows_in h) ?_⟩
      intro v w'' hv
      exact hK _ _ hv
    | round l f tmps assign body => exact h.elim
    | _ => exact h.elim
  | halt x w' =>
    cases x with
    | panic v => exact h
    | _ => exact h.elim
/-- The operation defers nothing. -/
def calm (o : Oper) : Bool := match o.op with
  | .defer _ => false
  | _ => true
theorem calm_ne {o : Oper} (h : calm o = true) : ∀ c, o.op ≠ .defer c := by
  intro c e
  unfold calm at h
  rw [e] at h
  cases h
section
variable {ops : Array Oper} {Q : Exit → Act → World → Prop} {i : Nat} {K K' : Act → World → Prop} {a : Act} {w : World} {md : Region.Mode} {id : Nat}
theorem op_in (hc : ops.all calm = true) (hQ : ¬ LetsOut Q) (hK : ∀ a w, K a w → K' a w) (h : wpOp P ops Q i K a w) :
    wpOpIn (Fence.wide.inRound l) n P ops Q i K' a w := by
  unfold wpOp at h
  unfold wpOpIn
  split
  · rename_i ho; simp only [ho] at h; exact hK _ _ h
  · rename_i o ho
    simp only [ho] at h
    have hm : calm o = true := by
      obtain ⟨hl, e⟩ := Array.getElem?_eq_some_iff.1 ho
      have := Array.all_eq_true.1 hc i hl
      rwa [e] at this
    split
    · rename_i hw
      simp only [hw, if_true] at h
      rcases h with h | h
      · unfold Oper.wpIn
        refine ⟨fun f _ => trivial, ?_⟩
        rw [Oper.semAt_plain (Fence.wide.inRound l) a.eval o (calm_ne hm)]
        exact upon_in hK h
      · exact absurd h.2 hQ
    · rename_i hw
      simp only [hw] at h
      exact ⟨fun f _ => trivial, hK _ _ h⟩
theorem any_in (hc : ops.all calm = true) (hQ : ¬ LetsOut Q) : ∀ (fuel : Nat) (listed : Array Bool) (a : Act) (w : World), wpAny P md ops Q fuel listed a w →
    wpAnyIn (Fence.wide.inRound l) n P md ops Q fuel listed a w
  | 0, _, _, _, h => h
  | fuel + 1, _, _, _, h => ⟨h.1, fun i hi => op_in hc hQ (fun a' w' hh => any_in hc hQ fuel _ a' w' hh) (h.2 i hi)⟩
/-- The plain law's goal serves in a round. -/
theorem any (hQ : ¬ LetsOut Q) (hc : ops.all calm = true) (hm : P.follows .mixedOrders = true)
    (h : wpAny P .any ops Q ops.size (Array.replicate ops.size false) a w.drew) : (Code.region id ops true).wpIn (Fence.wide.inRound l) n P Q a w :=
  wpIn_region_any hm (any_in hc hQ _ _ _ _ h)
end
end Round
end Go.Proofs.YtfidmphajohljaaGreat
namespace Go.Proofs.YtfidmphajohljaaGreat
open Go.RowKit Go.Shelf Stm
namespace Stp
attribute [local go_sem] Oper.semAt_some
structure Kb (B b6 b7 : Nat) (w w' : World) : Prop where
 os : w'.os = w.os
 tape : w'.tape = w.tape
 output : w'.output = w.output
 size : w.heap.size ≤ w'.heap.size
 block : ∀ k, k < B → k ≠ b6 → k ≠ b7 → w'.heap[k]? = w.heap[k]?
section
variable {B b6 b7 : Nat} {a b c : World}
theorem Kb.refl (B b6 b7 : Nat) (w : World) : Kb B b6 b7 w w := ⟨rfl, rfl, rfl, Nat.le_refl _, fun _ _ _ _ => rfl⟩
theorem Kb.trans (h : Kb B b6 b7 a b) (k : Kb B b6 b7 b c) : Kb B b6 b7 a c :=
 ⟨k.os.trans h.os, k.tape.trans h.tape, k.output.trans h.output, Nat.le_trans h.size k.size, fun i h1 h2 h3 => (k.block i h1 h2 h3).trans (h.block i h1 h2 h3)⟩
theorem Kb.of (h : Below B a b) : Kb B b6 b7 a b := ⟨h.os, h.tape, h.output, h.size, fun k h1 _ _ => h.block k h1⟩
theorem Kb.set (a : World) {p : Addr} (hp : p.block = b6 ∨ p.block = b7 ∨ B ≤ p.block) (u : Value) : Kb B b6 b7 a (a.setCell p u) :=
 ⟨rfl, rfl, rfl, by simp [World.setCell], fun k h1 h2 h3 => Below.heap_setCell _ _ _ _ (by omega)⟩
theorem Kb.put (a : World) {l : Nat} {o : Obj} (o' : Obj) (hl : B ≤ l) (h : a.heap[l]? = some o) : Kb B b6 b7 a (a.putObj l o') := by
 have hg := grownBy_putObj' a l o'; exact ⟨hg.os, hg.tape, hg.output, hg.size, fun k h1 _ _ => hg.block k (by have := (Array.getElem?_eq_some_iff.1 h).1; omega) (fun e => by injection e with e; omega)⟩
theorem Kb.below (h : Kb B b6 b7 a b) {C : Nat} (hC : C ≤ B) (h6 : C ≤ b6) (h7 : C ≤ b7) : Below C a b := ⟨h.os, h.tape, h.output, h.size, fun k hk => h.block k (by omega) (by omega) (by omega)⟩
theorem Kb.grown {row : Option Nat} (h : Kb B b6 b7 a b) (hg : b.grownBy c row) (hB : B ≤ b.heap.size) (hr : ∀ r, row = some r → B ≤ r) : Kb B b6 b7 a c :=
 h.trans (Kb.of ((Below.refl B b).grown hg hB hr))
end
structure PJ (w3 : World) (b6 b7 : Nat) (W : World) (A : Option Addr) (n c : Nat) (V : Option Addr) (m d : Nat) (zs : List Pr) (vs : List Int) : Prop where
 sp : OwnP W w3.heap.size A n c zs
 vl : OwnI W w3.heap.size V m d vs
 x6 : Boxed W b6 102 (.slice A n c)
 x7 : Boxed W b7 63 (.slice V m d)
 kb : Kb w3.heap.size b6 b7 w3 W
section
variable {w3 W W2 : World} {b6 b7 : Nat} {A V : Option Addr} {n c m d : Nat} {zs : List Pr} {vs : List Int}
theorem PJ.drew (h : PJ w3 b6 b7 W A n c V m d zs vs) (k : Nat) : PJ w3 b6 b7 (W.drewN k) A n c V m d zs vs := ⟨h.sp, h.vl, h.x6, h.x7, ⟨h.kb.os, h.kb.tape, h.kb.output, h.kb.size, h.kb.block⟩⟩
theorem PJ.turn {g : Nat} {a : List Pr} {p q : Int} (h : PJ w3 b6 b7 W (some ⟨g, 0, none⟩) n c V m d (a ++ [(p, q)]) vs) (hg : w3.heap.size ≤ g) (h6 : b6 < w3.heap.size) (h7 : b7 < w3.heap.size) (z : Int) :
  PJ w3 b6 b7 (W.setCell ⟨g, a.length * 2 + 1, none⟩ (.int .i64 z)) (some ⟨g, 0, none⟩) n c V m d (a ++ [(p, z)]) vs ∧ Kb w3.heap.size b6 b7 W (W.setCell ⟨g, a.length * 2 + 1, none⟩ (.int .i64 z)) := by
 have hk : Kb w3.heap.size b6 b7 W (W.setCell ⟨g, a.length * 2 + 1, none⟩ (.int .i64 z)) := Kb.set W (.inr (.inr hg)) _; refine ⟨⟨row_turn z h.sp, h.vl.far (fun k e hk => h.sp.apart h.vl g rfl (by rw [e, hk])) _, ?_, ?_, h.kb.trans hk⟩, hk⟩
 ·exact (Below.heap_setCell _ _ _ _ (by simp <;> omega)).trans h.x6
 ·exact (Below.heap_setCell _ _ _ _ (by simp <;> omega)).trans h.x7
theorem PJ.appP (h : PJ w3 b6 b7 W A n c V m d zs vs) (h6 : b6 < w3.heap.size) (h7 : b7 < w3.heap.size) (hne : b6 ≠ b7) {o : Obj} {A2 : Option Addr} {n2 c2 : Nat} {ys : List Pr} (hO : OwnP W2 w3.heap.size A2 n2 c2 ys) (hg : (W.alloc o).grownBy W2 (Value.slice A n c).ownBlock) :
  Boxed W2 b6 102 (.slice A n c) ∧ PJ w3 b6 b7 (W2.setCell ⟨b6, 0, none⟩ (.slice A2 n2 c2)) A2 n2 c2 V m d ys vs ∧ KeepsOthers W (W2.setCell ⟨b6, 0, none⟩ (.slice A2 n2 c2)) ∧ Kb w3.heap.size b6 b7 W (W2.setCell ⟨b6, 0, none⟩ (.slice A2 n2 c2)) := by
 have hO1 := h.sp.alloc o
 have hlow : ∀ b, b < w3.heap.size → W2.heap[b]? = W.heap[b]? := fun b hb => by
  have hs := h.kb.size; exact (hg.block b (by simp; omega) (fun e => by have := (hO1.lt b e.symm).1; omega)).trans (Below.heap_alloc _ _ _ (by omega))
 have y6 : Boxed W2 b6 102 (.slice A n c) := (hlow b6 h6).trans h.x6; have y7 : Boxed W2 b7 63 (.slice V m d) := (hlow b7 h7).trans h.x7; have hv2 : OwnI W2 w3.heap.size V m d vs := (h.vl.alloc o).grown hg (own_apart (fun g e => (hO1.apart (h.vl.alloc o)) g e))
 have hk : Kb w3.heap.size b6 b7 W (W2.setCell ⟨b6, 0, none⟩ (.slice A2 n2 c2)) := by
  have k1 : Kb w3.heap.size b6 b7 W (W.alloc o) := Kb.of ((Below.refl _ W).alloc h.kb.size o); exact (k1.grown hg (by have := h.kb.size; simp; omega) (fun r e => (hO1.lt r e).1)).trans (Kb.set W2 (p := ⟨b6, 0, none⟩) (b6 := b6) (.inl rfl) _)
 refine ⟨y6, ⟨hO.far (low_neP hO (by simpa using h6)) _, hv2.far (low_ne hv2 (by simpa using h6)) _, y6.set _, ?_, h.kb.trans hk⟩, ?_, hk⟩
 ·exact (Below.heap_setCell _ _ _ _ (by simp <;> omega)).trans y7
 ·exact ((KeepsOthers.alloc W o).trans (ko_appP hO1 hg)).trans (KeepsOthers.setCell _ _ _)
theorem PJ.appV (h : PJ w3 b6 b7 W A n c V m d zs vs) (h6 : b6 < w3.heap.size) (h7 : b7 < w3.heap.size) (hne : b6 ≠ b7) {o : Obj} {V2 : Option Addr} {n2 c2 : Nat} {ys : List Int} (hO : OwnI W2 w3.heap.size V2 n2 c2 ys) (hg : (W.alloc o).grownBy W2 (Value.slice V m d).ownBlock) :
  Boxed W2 b7 63 (.slice V m d) ∧ PJ w3 b6 b7 (W2.setCell ⟨b7, 0, none⟩ (.slice V2 n2 c2)) A n c V2 n2 c2 zs ys ∧ KeepsOthers W (W2.setCell ⟨b7, 0, none⟩ (.slice V2 n2 c2)) ∧ Kb w3.heap.size b6 b7 W (W2.setCell ⟨b7, 0, none⟩ (.slice V2 n2 c2)) := by
 have hO1 := h.vl.alloc o
 have hlow : ∀ b, b < w3.heap.size → W2.heap[b]? = W.heap[b]? := fun b hb => by
  have hs := h.kb.size; exact (hg.block b (by simp; omega) (fun e => by have := (hO1.lt b e.symm).1; omega)).trans (Below.heap_alloc _ _ _ (by omega))
 have y6 : Boxed W2 b6 102 (.slice A n c) := (hlow b6 h6).trans h.x6; have y7 : Boxed W2 b7 63 (.slice V m d) := (hlow b7 h7).trans h.x7; have hs2 : OwnP W2 w3.heap.size A n c zs := (h.sp.alloc o).grown hg (own_apart (fun g e hv => (h.sp.alloc o).apart hO1 g hv e))
 have hk : Kb w3.heap.size b6 b7 W (W2.setCell ⟨b7, 0, none⟩ (.slice V2 n2 c2)) := by
  have k1 : Kb w3.heap.size b6 b7 W (W.alloc o) := Kb.of ((Below.refl _ W).alloc h.kb.size o); exact (k1.grown hg (by have := h.kb.size; simp; omega) (fun r e => (hO1.lt r e).1)).trans (Kb.set W2 (p := ⟨b7, 0, none⟩) (b7 := b7) (.inr (.inl rfl)) _)
 refine ⟨y7, ⟨hs2.far (low_neP hs2 (by simpa using h7)) _, hO.far (low_ne hO (by simpa using h7)) _, ?_, y7.set _, h.kb.trans hk⟩, ?_, hk⟩
 ·exact (Below.heap_setCell _ _ _ _ (by simp <;> omega)).trans y6
 ·exact ((KeepsOthers.alloc W o).trans (ko_app hO1 hg)).trans (KeepsOthers.setCell _ _ _)
end
def PI (w3 : World) (b6 b7 : Nat) (g : Int → Int) (t : Int) (pre : List Int) (W : World) : Prop := ∃ A c V d, PJ w3 b6 b7 W A pre.length c V pre.length d (fr pre t) (pre.map g)
theorem pi_own (w3 : World) (b6 b7 : Nat) (g : Int → Int) (t : Int) : OwnFrom w3.heap.size (fun (pre : List Int) W => PI w3 b6 b7 g t pre W) := by
 rintro pre W W' row ⟨A, c, V, d, h⟩ hg hr; have hr' := fun r e => (hr r e).2
 exact ⟨A, c, V, d, h.sp.abide hg hr', h.vl.abide hg hr', cells_abide h.x6 hg hr', cells_abide h.x7 hg hr', h.kb.grown hg h.kb.size (fun r e => (hr r e).1)⟩
def GivesP (w : World) (l : List Int) (g : Int → Int) (t : Int) (e : Ending) (w' : World) : Prop := ∃ A c V d, e = .returned (.tuple #[.slice A l.length c, .slice V l.length d]) ∧ Spans w' w'.heap.size A l.length (fr l t) ∧ Ints w' w'.heap.size V l.length (l.map g) ∧ Below w.heap.size w w'
theorem Ints.blk {w w' : World} {B n : Nat} {ad : Addr} {xs : List Int} (h : Ints w B (some ad) n xs) (hb : w'.heap[ad.block]? = w.heap[ad.block]?) : Ints w' B (some ad) n xs :=
 ⟨h.1, fun hn => by
  obtain ⟨a', e, hl, hc⟩ := h.2 hn; injection e with e
  subst e; exact ⟨ad, rfl, hl, fun j x hx => (World.cell?_of_block (by rw [add_block]; exact hb)).trans (hc j x hx)⟩⟩
abbrev pieW5 (w2 : World) (A : Option Addr) (n c : Nat) (V : Option Addr) (d : Nat) (s1 : Int) : World :=
 ((((w2.alloc (.cells #[.slice none 0 0] 102)).alloc (.cells #[.slice none 0 0] 63)).alloc (.cells #[.slice A n c, .slice V n d] 77)).alloc (.cells #[.func (.func 173) #[] #[.pointer (some ⟨w2.heap.size + 1 + 1, 0, none⟩)]] 171)).alloc (.cells #[.int .i64 s1] 3)
abbrev pieW3 (w2 : World) (A : Option Addr) (n c : Nat) (V : Option Addr) (d : Nat) (s : Pr) : World :=
 chW (pieW5 w2 A n c V d s.1) s A n c (some ⟨w2.heap.size + 1 + 1 + 1 + 1, 0, none⟩) 1 1
structure PW (w2 w3 : World) (A : Option Addr) (n c : Nat) (V : Option Addr) (d : Nat) (s : Pr) (ps : List Pr) : Prop where
 size : w3.heap.size = w2.heap.size + 8
 x6 : Boxed w3 w2.heap.size 102 (.slice none 0 0)
 x7 : Boxed w3 (w2.heap.size + 1) 63 (.slice none 0 0)
 st : Bx w3 (w2.heap.size + 1 + 1) 77 (.slice A n c) (.slice V n d)
 fn : Boxed w3 (w2.heap.size + 1 + 1 + 1) 171 (.func (.func 173) #[] #[.pointer (some ⟨w2.heap.size + 1 + 1, 0, none⟩)])
 ar : Ints w3 w3.heap.size (some ⟨w2.heap.size + 1 + 1 + 1 + 1, 0, none⟩) 1 [s.1]
 bs : Bx w3 (w2.heap.size + 1 + 1 + 1 + 1 + 1) 23 (.int .i64 s.1) (.int .i64 s.2)
 ba : Boxed w3 (w2.heap.size + 1 + 1 + 1 + 1 + 1 + 1) 63 (.slice A n c)
 bb : Boxed w3 (w2.heap.size + 1 + 1 + 1 + 1 + 1 + 2) 63 (.slice (some ⟨w2.heap.size + 1 + 1 + 1 + 1, 0, none⟩) 1 1)
 below : Below w2.heap.size w2 w3
theorem PW.new (w2 : World) (A : Option Addr) (n c : Nat) (V : Option Addr) (d : Nat) (s : Pr) (ps : List Pr) : PW w2 (pieW3 w2 A n c V d s) A n c V d s ps := by
 have b6 := Boxed.new w2 102 (.slice none 0 0); have b7 := Boxed.new (w2.alloc (.cells #[.slice none 0 0] 102)) 63 (.slice none 0 0); have bt := Bx.new ((w2.alloc (.cells #[.slice none 0 0] 102)).alloc (.cells #[.slice none 0 0] 63)) 77 (.slice A n c) (.slice V n d); have bf := Boxed.new (((w2.alloc (.cells #[.slice none 0 0] 102)).alloc (.cells #[.slice none 0 0] 63)).alloc (.cells #[.slice A n c, .slice V n d] 77)) 171 (.func (.func 173) #[] #[.pointer (some ⟨w2.heap.size + 1 + 1, 0, none⟩)]); have br := ints_new1 ((((w2.alloc (.cells #[.slice none 0 0] 102)).alloc (.cells #[.slice none 0 0] 63)).alloc (.cells #[.slice A n c, .slice V n d] 77)).alloc (.cells #[.func (.func 173) #[] #[.pointer (some ⟨w2.heap.size + 1 + 1, 0, none⟩)]] 171)) s.1; have c0 := Bx.new (pieW5 w2 A n c V d s.1) 23 (.int .i64 s.1) (.int .i64 s.2); have c1 := Boxed.new ((pieW5 w2 A n c V d s.1).alloc (.cells #[.int .i64 s.1, .int .i64 s.2] 23)) 63 (.slice A n c); have c2 := Boxed.new (((pieW5 w2 A n c V d s.1).alloc (.cells #[.int .i64 s.1, .int .i64 s.2] 23)).alloc (.cells #[.slice A n c] 63)) 63 (.slice (some ⟨w2.heap.size + 1 + 1 + 1 + 1, 0, none⟩) 1 1); simp only [World.size_alloc] at b7 bt bf br c0 c1 c2; have hB := chW_below (pieW5 w2 A n c V d s.1) s A n c (some ⟨w2.heap.size + 1 + 1 + 1 + 1, 0, none⟩) 1 1; refine ⟨by simp, ((((((b6.alloc _).alloc _).alloc _).alloc _).alloc _).alloc _).alloc _, (((((b7.alloc _).alloc _).alloc _).alloc _).alloc _).alloc _, ((((bt.alloc _).alloc _).alloc _).alloc _).alloc _, (((bf.alloc _).alloc _).alloc _).alloc _, (br.below hB (by simp)).wide (by simp), (c0.alloc _).alloc _, c1.alloc _, c2, ?_⟩; refine Below.trans ?_ (hB.mono (by simp <;> omega)); exact (((((Below.refl _ w2).alloc (Nat.le_refl _) _).alloc (by simp) _).alloc (by simp <;> omega) _).alloc (by simp <;> omega) _).alloc (by simp <;> omega) _
section
variable {w2 w3 W : World} {A : Option Addr} {n c : Nat} {V : Option Addr} {d : Nat} {s : Pr} {ps : List Pr} {C : Nat} {xs : List Int}
theorem PW.good (h : PW w2 w3 A n c V d s ps) (hk : Kb w3.heap.size w2.heap.size (w2.heap.size + 1) w3 W) (hA : Ints w3 C A n xs) (hC : C ≤ w2.heap.size) :
  Good W (w2.heap.size + 1 + 1 + 1 + 1 + 1 + 1) (w2.heap.size + 1 + 1 + 1 + 1 + 1 + 2) (w2.heap.size + 1 + 1 + 1 + 1 + 1) A n c (some ⟨w2.heap.size + 1 + 1 + 1 + 1, 0, none⟩) 1 1 s xs [s.1] := by
 have hs := h.size; have kb : ∀ b, b < w2.heap.size + 8 → w2.heap.size + 1 < b → W.heap[b]? = w3.heap[b]? := fun b h1 h2 => hk.block b (by omega) (by omega) (by omega)
 have hC3 := hk.size
 exact ⟨Boxed.cell ((kb _ (by omega) (by omega)).trans h.ba), Boxed.cell ((kb _ (by omega) (by omega)).trans h.bb), Bx.c0 ((kb _ (by omega) (by omega)).trans h.bs), Bx.c1 ((kb _ (by omega) (by omega)).trans h.bs),
  (hA.below (hk.below (C := C) (by omega) (by omega) (by omega)) (Nat.le_refl _)).wide (by omega), (h.ar.blk (kb _ (by simp) (by simp <;> omega))).wide hC3⟩
theorem PW.value (h : PW w2 w3 A n c V d s ps) (hk : Kb w3.heap.size w2.heap.size (w2.heap.size + 1) w3 W) (hS : Sr w3 C A V n ps) (hC : C ≤ w2.heap.size) (hR : Rt 0 0 ps) (hn : n ≤ 10000) (x : Int) (W' : World) (e : W'.heap = W.heap) :
  Calls Tryz.prog 173 #[.int .i64 x, .pointer (some ⟨w2.heap.size + 1 + 1, 0, none⟩)] W' fun e w' => e = .returned (.int .i64 (val 0 ps x)) ∧ W' = w' := by
 have hs := h.size; have kb : ∀ b, b < w2.heap.size + 8 → w2.heap.size + 1 < b → W.heap[b]? = w3.heap[b]? := fun b h1 h2 => hk.block b (by omega) (by omega) (by omega)
 have hS' : Sr W C A V n ps := hS.below (hk.below (C := C) (by omega) (by omega) (by omega)) (Nat.le_refl _); have hc : ∀ p, W'.cell? p = W.cell? p := fun p => World.cell?_of_block (by rw [e])
 refine valueOf1 (w2.heap.size + 1 + 1) A n c V d C ps x W' ?_ ⟨hS'.a.keep fun p _ => hc p, hS'.v.keep fun p _ => hc p⟩ hR (by omega); unfold Bx; rw [e]; exact (kb _ (by omega) (by omega)).trans h.st
end
attribute [local go_sem] Oper.semAt_some
abbrev pieW (w : World) (A : Option Addr) (n c : Nat) (V : Option Addr) (m d : Nat) (s : Pr) : World :=
 (w.alloc (.cells #[.slice A n c, .slice V m d] 77)).alloc (.cells #[.int .i64 s.1, .int .i64 s.2] 23)
structure PB (w W : World) (A : Option Addr) (n c : Nat) (V : Option Addr) (m d : Nat) (s : Pr) : Prop where
 f : Bx W w.heap.size 77 (.slice A n c) (.slice V m d)
 s : Bx W (w.heap.size + 1) 23 (.int .i64 s.1) (.int .i64 s.2)
 b : Below w.heap.size w W
section
variable {w W W1 : World} {A : Option Addr} {n c : Nat} {V : Option Addr} {m d : Nat} {s : Pr}
theorem PB.new : PB w (pieW w A n c V m d s) A n c V m d s := by
 have b0 := Bx.new w 77 (.slice A n c) (.slice V m d); have b1 := Bx.new (w.alloc (.cells #[.slice A n c, .slice V m d] 77)) 23 (.int .i64 s.1) (.int .i64 s.2); simp only [World.size_alloc] at b1; exact ⟨b0.alloc _, b1, ((Below.refl _ w).alloc (Nat.le_refl _) _).alloc (by simp) _⟩
theorem PB.keep (h : PB w W A n c V m d s) (hb : Below W.heap.size W W1) : PB w W1 A n c V m d s :=
 ⟨h.f.keep hb, h.s.keep hb, h.b.trans (hb.mono h.b.size)⟩
end
theorem pieces_no1 (A : Option Addr) (n c : Nat) (V : Option Addr) (m d : Nat) (xs vs : List Int) (s : Pr) (w : World) (hS : Sx w w.heap.size A n V m xs vs) (hn : n ≤ 10000) (h : rg xs vs = false) :
  Calls Tryz.prog 125 #[sg A n c V m d, ag s] w fun e w' => e = .returned (.tuple #[.slice none 0 0, .slice none 0 0]) ∧ Below w.heap.size w w' := by
 have S0 : PB w (pieW w A n c V m d s) A n c V m d s := PB.new; have C := qh (right A n c V m d xs vs _ ((hS.below S0.b (Nat.le_refl _)).wide S0.b.size) (by omega)); rw [h] at C; have HS := qh S0; clear h hS S0; obtain ⟨s1, s2⟩ := s; go_enter Tryz.func125, Tryz.ntmps125
 go_wp2_with fail
 refine C.out.mono ?_; rintro e w1 ⟨rfl, hb⟩; have S1 := HS.out.keep hb; have H1 := qh S1; have p0 := S1.s.c0; have p1 := S1.s.c1; simp only at p0 p1; clear hb HS S1 C; go_wp2; go_ret2; exact ⟨rfl, H1.out.b⟩
theorem pieces_yes (A : Option Addr) (n c : Nat) (V : Option Addr) (d : Nat) (ps : List Pr) (s : Pr) (w : World) (hS : Sr w w.heap.size A V n ps) (hn : n ≤ 10000) (h : Right ps) (hs : full s = true) :
  Calls Tryz.prog 125 #[sg A n c V n d, ag s] w (GivesP w (cuts s ps) (val 0 ps) s.2) := by
 have S0 : PB w (pieW w A n c V n d s) A n c V n d s := PB.new; have C := qh (right A n c V n d _ _ _ ((hS.below S0.b (Nat.le_refl _)).wide S0.b.size) (by omega)); rw [rg_of h] at C; have C2 := fun w => qh (full_ s w)
 rw [hs] at C2; have HS0 := qh hS; have HP := qh h; have HF := qh hs; have HS := qh S0; clear h hS S0 hs; obtain ⟨s1, s2⟩ := s; refine callsIn_wide (n := 10) |>.1 ?_
 refine callsIn_of_wp_marks Tryz.func125 rfl trivial ?_ rfl; simp only [Tryz.ntmps125, List.size_toArray, List.length_cons, List.length_nil, Nat.reduceAdd, Nat.reduceSub, Array.replicate_succ, Array.replicate_zero, List.push_toArray, List.append_toArray, List.nil_append, List.cons_append]
 gi_wp2_with fail
 refine ⟨trivial, (callsIn_wide.2 C.out).mono ?_⟩; rintro e w1 ⟨rfl, hb⟩; have S1 := HS.out.keep hb; have p0 := S1.s.c0; have p1 := S1.s.c1; simp only at p0 p1; have H1 := qh S1; clear hb HS S1 C
 gi_wp2_with fail
 refine ⟨trivial, (callsIn_wide.2 (C2 _).out).mono ?_⟩; rintro e w2 ⟨rfl, hb⟩; have S2 := H1.out.keep hb; clear p0 p1; have p0 := S2.s.c0; have p1 := S2.s.c1; have q1 := S2.f.c0; have q2 := S2.f.c1; simp only at p0 p1; have H2 := qh S2; have z0 := S2.f.lt; have z1 := S2.s.lt; clear hb H1 S2 C2
 gi_wp2_with fail
 refine ⟨trivial, (callsIn_wide.2 (valueOf A n c V n d _)).mono ?_⟩; rintro e w' ⟨rfl, rfl⟩; have p0' : ((((w2.alloc (.cells #[.slice none 0 0] 102)).alloc (.cells #[.slice none 0 0] 63)).alloc (.cells #[.slice A n c, .slice V n d] 77)).alloc (.cells #[.func (.func 173) #[] #[.pointer (some ⟨w2.heap.size + 1 + 1, 0, none⟩)]] 171)).cell? ⟨w.heap.size + 1, 0, none⟩ = some (.int .i64 s1) := cal (cal (cal (cal p0))); have p1' : ((((w2.alloc (.cells #[.slice none 0 0] 102)).alloc (.cells #[.slice none 0 0] 63)).alloc (.cells #[.slice A n c, .slice V n d] 77)).alloc (.cells #[.func (.func 173) #[] #[.pointer (some ⟨w2.heap.size + 1 + 1, 0, none⟩)]] 171)).cell? ⟨w.heap.size + 1, 1, none⟩ = some (.int .i64 s2) := cal (cal (cal (cal p1))); have q1' : ((((w2.alloc (.cells #[.slice none 0 0] 102)).alloc (.cells #[.slice none 0 0] 63)).alloc (.cells #[.slice A n c, .slice V n d] 77)).alloc (.cells #[.func (.func 173) #[] #[.pointer (some ⟨w2.heap.size + 1 + 1, 0, none⟩)]] 171)).cell? ⟨w.heap.size, 0, none⟩ = some (.slice A n c) := cal (cal (cal (cal q1)))
 gi_wp2_with fail
 refine ⟨trivial, (callsIn_wide.2 (changes (s1, s2) A n c _ _ _ _)).mono ?_⟩; rintro e w' ⟨rfl, rfl⟩
 gi_wp2
 have P3 := PW.new w2 A n c V d (s1, s2) ps; obtain ⟨w3, hw3⟩ : ∃ w3, pieW3 w2 A n c V d (s1, s2) = w3 := ⟨_, rfl⟩; simp only [pieW3, chW] at hw3; rw [hw3]; rw [show pieW3 w2 A n c V d (s1, s2) = w3 from hw3] at P3; have HP3 := qh P3; have hB23 := H2.out.b.trans (P3.below.mono H2.out.b.size); have HS3 := qh (HS0.out.below hB23 (Nat.le_refl _)); have HB3 := qh hB23; have hsz := P3.size; have hfs := (full_iff _).1 HF.out; simp only at hfs; have HC := qh (chg_cuts (s := (s1, s2)) HP.out.1 hfs.2.1)
 have hcl : (cuts (s1, s2) ps).length ≤ 1000000 := by
  have h1 := chg_len (s1, s2) (ps.map (·.1)) [s1]; have h2 := HS0.out.len; have h3 := HC.out; simp only at h3; rw [h3] at h1; simp at h1; omega
 have hKG : ∀ W', Kb w3.heap.size w2.heap.size (w2.heap.size + 1) w3 W' → Good W' (w2.heap.size + 1 + 1 + 1 + 1 + 1 + 1) (w2.heap.size + 1 + 1 + 1 + 1 + 1 + 2) (w2.heap.size + 1 + 1 + 1 + 1 + 1) A n c (some ⟨w2.heap.size + 1 + 1 + 1 + 1, 0, none⟩) 1 1 (s1, s2) (ps.map (·.1)) [s1] := fun W' hk => HP3.out.good hk HS3.out.a (by omega)
 have HST := qh (changes_stops (w2.heap.size + 1 + 1 + 1 + 1 + 1 + 1) (w2.heap.size + 1 + 1 + 1 + 1 + 1 + 2) (w2.heap.size + 1 + 1 + 1 + 1 + 1) A n c (some ⟨w2.heap.size + 1 + 1 + 1 + 1, 0, none⟩) 1 1 (s1, s2) (ps.map (·.1)) [s1] (by omega) (by omega) (Kb w3.heap.size w2.heap.size (w2.heap.size + 1)) w3 (fun _ _ _ h k => h.trans k) (fun a b h k => Kb.of (k.mono h)) (fun _ _ h => h.size) hKG); have HST2 := qh (show SeqStopsK Fence.wide 9 Tryz.prog 175 #[.pointer (some ⟨w2.heap.size + 1 + 1 + 1 + 1 + 1 + 1, 0, none⟩), .pointer (some ⟨w2.heap.size + 1 + 1 + 1 + 1 + 1 + 2, 0, none⟩), .pointer (some ⟨w2.heap.size + 1 + 1 + 1 + 1 + 1, 0, none⟩)] (fun x : Int => #[.int .i64 x]) (Kb w3.heap.size w2.heap.size (w2.heap.size + 1)) (fun zs => zs = cuts (s1, s2) ps) (fun _ => True) (cuts (s1, s2) ps).length w3 by have h1 := HST.out; have h2 := HC.out; simp only at h2; rwa [h2] at h1); clear hKG HST hw3 P3 hB23 p0 p1 q1 q2 p0' p1' q1' hfs
 refine wpIn_rangeFunc_ownH rfl (by decide) (gf := 175) (lb := #[.pointer (some ⟨w2.heap.size + 1 + 1 + 1 + 1 + 1 + 1, 0, none⟩), .pointer (some ⟨w2.heap.size + 1 + 1 + 1 + 1 + 1 + 2, 0, none⟩), .pointer (some ⟨w2.heap.size + 1 + 1 + 1 + 1 + 1, 0, none⟩)]) rfl trivial enters_changes
  HST2.out (fun h k => h.trans k) (fun W l o o' hl ho _ _ => Kb.put W o' hl ho) (Below.refl _ _) (fun _ => rfl)
  (fun pre W => PI w3 w2.heap.size (w2.heap.size + 1) (val 0 ps) s2 pre W)
  (fun _ _ _ => False)
  (pi_own w3 _ _ _ _)
  (fun _ _ _ _ _ hs _ _ => hs)
  ⟨none, 0, none, 0, OwnP.nil, OwnI.nil, HP3.out.x6, HP3.out.x7, Kb.refl _ _ _ _⟩
  (fun x a' W => a' = { tmps := #[sg A n c V n d, ag (s1, s2), .pointer (some ⟨w.heap.size, 0, none⟩), .pointer (some ⟨w.heap.size + 1, 0, none⟩), .slice none 0 0, .slice none 0 0, .pointer (some ⟨w2.heap.size, 0, none⟩), .pointer (some ⟨w2.heap.size + 1, 0, none⟩), .pointer (some ⟨w2.heap.size + 1 + 1 + 1, 0, none⟩), .int .i64 x, undef, .agg #[.slice A n c, .slice V n d], .bool true, .bool false, .bool false, .agg #[.int .i64 s1, .int .i64 s2], .bool true, .bool false, .bool false, .agg #[.slice A n c, .slice V n d], .func (.func 173) #[] #[.pointer (some ⟨w2.heap.size + 1 + 1, 0, none⟩)], .agg #[.int .i64 s1, .int .i64 s2], .pointer (some ⟨w.heap.size, 0, none⟩), .slice A n c, .pointer (some ⟨w.heap.size + 1, 0, none⟩), .int .i64 s1, .slice (some ⟨w2.heap.size + 1 + 1 + 1 + 1, 0, none⟩) 1 1, .func (.func 175) #[] #[.pointer (some ⟨w2.heap.size + 1 + 1 + 1 + 1 + 1 + 1, 0, none⟩), .pointer (some ⟨w2.heap.size + 1 + 1 + 1 + 1 + 1 + 2, 0, none⟩), .pointer (some ⟨w2.heap.size + 1 + 1 + 1 + 1 + 1, 0, none⟩)], .int .i64 x, undef, undef, undef, undef, undef, undef, undef, undef, undef, undef, undef, undef, undef, undef, undef, undef, undef, undef, undef, undef, undef, undef, undef, undef, undef], defers := [] })
  (fun x a' _ X Y row hs hg hr => hs)
  ?assign ?body ?done ?stop
 case assign =>
  rintro l pre x W K hI hK
  gi_wp2
  exact hK _ _ (KeepsFrom.refl _ _) (Kb.refl _ _ _ W) hI rfl
 case body =>
  rintro l pre x a' W hl ⟨r, hr⟩ ⟨A1, c1, V1, d1, J⟩ rfl hlt; have h6 : w2.heap.size < w3.heap.size := by omega
  have h7 : w2.heap.size + 1 < w3.heap.size := by omega
  have hne : w2.heap.size ≠ w2.heap.size + 1 := by omega
  have hlt' : pre.length < 1000000 := by omega
  have hmx : Tryz.prog.follows .mixedOrders = true := by kernel_rfl
  have j6 := J.x6.cell; have S3 := H2.out.s.below (HP3.out.below) z1; have js := Bx.c1 ((J.kb.block (w.heap.size + 1) (by omega) (by omega) (by omega)).trans S3); simp only at js; clear S3; rcases List.eq_nil_or_concat pre with rfl | ⟨pre', q, e⟩
  ·have HJ := qh (show PJ w3 w2.heap.size (w2.heap.size + 1) W A1 0 c1 V1 0 d1 (fr [] x) (([] : List Int).map (val 0 ps)) from J); simp only [List.length_nil] at j6; clear J
   gi_wp2_with (gi_at_builtin; refine wpListIn_appP _ rfl (.tmp 39) (.tmp 44) rfl w3.heap.size A1 0 c1 (fr [] x) rfl (HJ.out.sp.alloc _) (W.heap.size + 1) ⟨W.heap.size, 0, none⟩ 1 1 [(x, s2)] rfl (spans_new1 W x s2 W.heap.size rfl) (by omega) (by have := HJ.out.kb.size; simp only [World.size_alloc]; omega) ?_; intro A2 c2 W2 hO2 hg2; obtain ⟨y6, J2, K2, L2⟩ := HJ.out.appP h6 h7 hne hO2 hg2; have y60 := y6.cell; have y6f := y6.frozen; have HJ2 := qh J2; have HK2 := qh ((KeepsOthers.refl W).trans K2); have HL2 := qh ((Kb.refl _ _ _ W).trans L2); clear hO2 hg2 y6 J2 K2 L2)
   obtain ⟨W5, hW5⟩ : ∃ W5, W2.setCell ⟨w2.heap.size, 0, none⟩ (.slice A2 (0 + 1) c2) = W5 := ⟨_, rfl⟩
   first | rw [hW5] | (simp only [Nat.zero_add] at hW5 HJ2 HK2 HL2 ⊢; rw [hW5])
   rw [hW5] at HJ2 HK2 HL2; clear hW5 y60 y6f; refine Round.any (by rintro ⟨_, _, hh⟩; exact hh) (by kernel_rfl) hmx ?_; have HCV := qh (HP3.out.value HJ2.out.kb HS3.out (by omega) HP.out.1 hn x W5.drew rfl); obtain ⟨W6, hW6⟩ : ∃ W6, W5.drew = W6 := ⟨_, rfl⟩; have HJ6 := qh (show PJ w3 w2.heap.size (w2.heap.size + 1) W6 A2 (0 + 1) c2 V1 0 d1 ((fr [] x) ++ [(x, s2)]) (([] : List Int).map (val 0 ps)) by rw [← hW6]; exact HJ2.out.drew 1); have HK6 := qh (show KeepsOthers W W6 by rw [← hW6]; exact HK2.out.trans (KeepsOthers.drew _)); have HL6 := qh (show Kb w3.heap.size w2.heap.size (w2.heap.size + 1) W W6 by rw [← hW6]; exact ⟨HL2.out.os, HL2.out.tape, HL2.out.output, HL2.out.size, HL2.out.block⟩); simp only [hW6] at HCV ⊢; clear hW6 HJ2 HK2 HL2; have v7 := HJ6.out.x7.cell; have v8 := Boxed.cell ((HJ6.out.kb.block (w2.heap.size + 1 + 1 + 1) (by omega) (by omega) (by omega)).trans HP3.out.fn); generalize hy : val 0 ps x = y at HCV; have HY := qh hy; clear hy; have v7a : (W6.alloc (.cells #[.int .i64 y] 3)).cell? ⟨w2.heap.size + 1, 0, none⟩ = some (.slice V1 0 d1) := cal v7; have v8a : (W6.alloc (.cells #[.int .i64 y] 3)).cell? ⟨w2.heap.size + 1 + 1 + 1, 0, none⟩ = some (.func (.func 173) #[] #[.pointer (some ⟨w2.heap.size + 1 + 1, 0, none⟩)]) := cal v8; refine wpAny_take (i := 2) (v := .int .i64 x) rfl (by kernel_rfl) (by kernel_rfl) (by kernel_rfl) (fun _ _ _ h => h) (Or.inl ⟨by rfl, by intro w; go_simp⟩) ?_; refine wpAny_ready (rs := [0, 1]) (by kernel_rfl) (by simp) ?_; refine (AllReady.cons rfl (fun K hK => ?_) (AllReady.cons rfl (fun K hK => ?_) AllReady.nil))
   ·go_simp; refine hK _ _ ?_; clear hK K; refine wpAny_ready (rs := [1]) (by kernel_rfl) (by simp) ?_; refine (AllReady.cons rfl (fun K hK => ?_) AllReady.nil)
    ·go_simp; refine hK _ _ ?_; clear hK K; refine wpAny_ready (rs := [3]) (by kernel_rfl) (by simp) ?_; refine (AllReady.cons rfl (fun K hK => ?_) AllReady.nil)
     ·go_simp; refine HCV.out.mono ?_; rintro e w' ⟨rfl, rfl⟩
      try go_simp
      refine hK _ _ ?_; clear hK K; refine wpAny_ready (rs := [4]) (by kernel_rfl) (by simp) ?_; refine (AllReady.cons rfl (fun K hK => ?_) AllReady.nil)
      ·go_simp; refine hK _ _ ?_; clear hK K; refine wpAny_ready (rs := [5]) (by kernel_rfl) (by simp) ?_; refine (AllReady.cons rfl (fun K hK => ?_) AllReady.nil)
       ·refine step_appW _ rfl (.tmp 46) (.tmp 50) rfl w3.heap.size V1 0 d1 _ rfl (HJ6.out.vl.alloc _) (W6.heap.size + 1) ⟨W6.heap.size, 0, none⟩ 1 1 [y] rfl (ints_new1 W6 y) (by omega) (by omega) (by have := HJ6.out.kb.size; simp only [World.size_alloc]; omega) ?_; intro V7 d7 W7 hO7 hg7 _; obtain ⟨y7, J7, K7, L7⟩ := HJ6.out.appV h6 h7 hne hO7 hg7; have y70 := y7.cell; have y7f := y7.frozen; have HJ7 := qh J7; have HK7 := qh (HK6.out.trans K7); have HL7 := qh (HL6.out.trans L7); clear hO7 hg7 y7 J7 K7 L7
        try go_simp
        refine hK _ _ ?_; clear hK K; refine wpAny_ready (rs := [6]) (by kernel_rfl) (by simp) ?_; refine (AllReady.cons rfl (fun K hK => ?_) AllReady.nil)
        ·go_simp; refine hK _ _ ?_; clear hK K; refine wpAny_done (by kernel_rfl) ?_ _; refine ⟨HK7.out.from _, HL7.out, A2, c2, V7, d7, ?_⟩; have e1 := HJ7.out; rw [← HY.out] at e1; exact e1
   ·go_simp; refine hK _ _ ?_; clear hK K; refine wpAny_ready (rs := [0, 3]) (by kernel_rfl) (by simp) ?_; refine (AllReady.cons rfl (fun K hK => ?_) (AllReady.cons rfl (fun K hK => ?_) AllReady.nil))
    ·go_simp; refine hK _ _ ?_; clear hK K; refine wpAny_ready (rs := [3]) (by kernel_rfl) (by simp) ?_; refine (AllReady.cons rfl (fun K hK => ?_) AllReady.nil)
     ·go_simp; refine HCV.out.mono ?_; rintro e w' ⟨rfl, rfl⟩
      try go_simp
      refine hK _ _ ?_; clear hK K; refine wpAny_ready (rs := [4]) (by kernel_rfl) (by simp) ?_; refine (AllReady.cons rfl (fun K hK => ?_) AllReady.nil)
      ·go_simp; refine hK _ _ ?_; clear hK K; refine wpAny_ready (rs := [5]) (by kernel_rfl) (by simp) ?_; refine (AllReady.cons rfl (fun K hK => ?_) AllReady.nil)
       ·refine step_appW _ rfl (.tmp 46) (.tmp 50) rfl w3.heap.size V1 0 d1 _ rfl (HJ6.out.vl.alloc _) (W6.heap.size + 1) ⟨W6.heap.size, 0, none⟩ 1 1 [y] rfl (ints_new1 W6 y) (by omega) (by omega) (by have := HJ6.out.kb.size; simp only [World.size_alloc]; omega) ?_; intro V7 d7 W7 hO7 hg7 _; obtain ⟨y7, J7, K7, L7⟩ := HJ6.out.appV h6 h7 hne hO7 hg7; have y70 := y7.cell; have y7f := y7.frozen; have HJ7 := qh J7; have HK7 := qh (HK6.out.trans K7); have HL7 := qh (HL6.out.trans L7); clear hO7 hg7 y7 J7 K7 L7
        try go_simp
        refine hK _ _ ?_; clear hK K; refine wpAny_ready (rs := [6]) (by kernel_rfl) (by simp) ?_; refine (AllReady.cons rfl (fun K hK => ?_) AllReady.nil)
        ·go_simp; refine hK _ _ ?_; clear hK K; refine wpAny_done (by kernel_rfl) ?_ _; refine ⟨HK7.out.from _, HL7.out, A2, c2, V7, d7, ?_⟩; have e1 := HJ7.out; rw [← HY.out] at e1; exact e1
    ·go_simp; refine HCV.out.mono ?_; rintro e w' ⟨rfl, rfl⟩
     try go_simp
     refine hK _ _ ?_; clear hK K; refine wpAny_ready (rs := [0, 4]) (by kernel_rfl) (by simp) ?_; refine (AllReady.cons rfl (fun K hK => ?_) (AllReady.cons rfl (fun K hK => ?_) AllReady.nil))
     ·go_simp; refine hK _ _ ?_; clear hK K; refine wpAny_ready (rs := [4]) (by kernel_rfl) (by simp) ?_; refine (AllReady.cons rfl (fun K hK => ?_) AllReady.nil)
      ·go_simp; refine hK _ _ ?_; clear hK K; refine wpAny_ready (rs := [5]) (by kernel_rfl) (by simp) ?_; refine (AllReady.cons rfl (fun K hK => ?_) AllReady.nil)
       ·refine step_appW _ rfl (.tmp 46) (.tmp 50) rfl w3.heap.size V1 0 d1 _ rfl (HJ6.out.vl.alloc _) (W6.heap.size + 1) ⟨W6.heap.size, 0, none⟩ 1 1 [y] rfl (ints_new1 W6 y) (by omega) (by omega) (by have := HJ6.out.kb.size; simp only [World.size_alloc]; omega) ?_; intro V7 d7 W7 hO7 hg7 _; obtain ⟨y7, J7, K7, L7⟩ := HJ6.out.appV h6 h7 hne hO7 hg7; have y70 := y7.cell; have y7f := y7.frozen; have HJ7 := qh J7; have HK7 := qh (HK6.out.trans K7); have HL7 := qh (HL6.out.trans L7); clear hO7 hg7 y7 J7 K7 L7
        try go_simp
        refine hK _ _ ?_; clear hK K; refine wpAny_ready (rs := [6]) (by kernel_rfl) (by simp) ?_; refine (AllReady.cons rfl (fun K hK => ?_) AllReady.nil)
        ·go_simp; refine hK _ _ ?_; clear hK K; refine wpAny_done (by kernel_rfl) ?_ _; refine ⟨HK7.out.from _, HL7.out, A2, c2, V7, d7, ?_⟩; have e1 := HJ7.out; rw [← HY.out] at e1; exact e1
     ·go_simp; refine hK _ _ ?_; clear hK K; refine wpAny_ready (rs := [0]) (by kernel_rfl) (by simp) ?_; refine (AllReady.cons rfl (fun K hK => ?_) AllReady.nil)
      ·go_simp; refine hK _ _ ?_; clear hK K; refine wpAny_ready (rs := [5]) (by kernel_rfl) (by simp) ?_; refine (AllReady.cons rfl (fun K hK => ?_) AllReady.nil)
       ·refine step_appW _ rfl (.tmp 46) (.tmp 50) rfl w3.heap.size V1 0 d1 _ rfl (HJ6.out.vl.alloc _) (W6.heap.size + 1) ⟨W6.heap.size, 0, none⟩ 1 1 [y] rfl (ints_new1 W6 y) (by omega) (by omega) (by have := HJ6.out.kb.size; simp only [World.size_alloc]; omega) ?_; intro V7 d7 W7 hO7 hg7 _; obtain ⟨y7, J7, K7, L7⟩ := HJ6.out.appV h6 h7 hne hO7 hg7; have y70 := y7.cell; have y7f := y7.frozen; have HJ7 := qh J7; have HK7 := qh (HK6.out.trans K7); have HL7 := qh (HL6.out.trans L7); clear hO7 hg7 y7 J7 K7 L7
        try go_simp
        refine hK _ _ ?_; clear hK K; refine wpAny_ready (rs := [6]) (by kernel_rfl) (by simp) ?_; refine (AllReady.cons rfl (fun K hK => ?_) AllReady.nil)
        ·go_simp; refine hK _ _ ?_; clear hK K; refine wpAny_done (by kernel_rfl) ?_ _; refine ⟨HK7.out.from _, HL7.out, A2, c2, V7, d7, ?_⟩; have e1 := HJ7.out; rw [← HY.out] at e1; exact e1
  ·rw [List.concat_eq_append] at e; subst e; have hfr : fr (pre' ++ [q]) s2 = fr pre' q ++ [(q, s2)] := fr_snoc pre' q s2; have hfx : fr (pre' ++ [q]) x = fr pre' q ++ [(q, x)] := fr_snoc pre' q x; have hkl : (pre' ++ [q]).length = pre'.length + 1 := by simp
   obtain ⟨m, hm⟩ : ∃ m, pre'.length = m := ⟨_, rfl⟩; obtain ⟨k, hk⟩ : ∃ k, m + 1 = k := ⟨_, rfl⟩; rw [hm, hk] at hkl; rw [hfr, hkl] at J; rw [hkl] at j6 hlt'; obtain ⟨g, rfl, hgb, cc0, cc1, ccf⟩ := last_cells J.sp; have hla : (fr pre' q).length = m := by rw [fr_len]; exact hm
   obtain ⟨J1, L1⟩ := J.turn hgb h6 h7 x; rw [hla] at cc0 cc1 ccf J1 L1; rw [← hfx] at J1; have K1 : KeepsOthers W (W.setCell ⟨g, m * 2 + 1, none⟩ (.int .i64 x)) := KeepsOthers.setCell _ _ _; have t6 := J1.x6.cell; have ts : (W.setCell ⟨g, m * 2 + 1, none⟩ (.int .i64 x)).cell? ⟨w.heap.size + 1, 1, none⟩ = some (.int .i64 s2) := (World.cell?_of_block (Below.heap_setCell _ _ _ _ (by simp <;> omega))).trans js; have HJ := qh J1; have HK1 := qh K1; have HL1 := qh L1; have HKL := qh hkl; have em : (k : Int) - 1 = (m : Int) := by omega
   have hmk : m < k := by omega
   have hmk2 : (m : Int) < (k : Int) := by omega
   have hm0 : (0 : Int) ≤ (m : Int) := by omega
   have tm : decide ((0 : Int) ≤ (m : Int)) = true := by simp
   generalize pre' ++ [q] = pre at HKL HJ; clear J J1 K1 L1 hfr hfx hkl hla hk hm
   gi_wp2_with (gi_at_builtin; refine wpListIn_appP _ rfl (.tmp 39) (.tmp 44) rfl w3.heap.size (some ⟨g, 0, none⟩) k c1 (fr pre x) rfl (HJ.out.sp.alloc _) (W.heap.size + 1) ⟨W.heap.size, 0, none⟩ 1 1 [(x, s2)] rfl (spans_new1 (W.setCell ⟨g, m * 2 + 1, none⟩ (.int .i64 x)) x s2 W.heap.size (size_set _ _ _)) (by omega) (by have := HJ.out.kb.size; simp only [World.size_alloc]; omega) ?_; intro A2 c2 W2 hO2 hg2; obtain ⟨y6, J2, K2, L2⟩ := HJ.out.appP h6 h7 hne hO2 hg2; have y60 := y6.cell; have y6f := y6.frozen; have HJ2 := qh J2; have HK2 := qh (HK1.out.trans K2); have HL2 := qh (HL1.out.trans L2); clear hO2 hg2 y6 J2 K2 L2)
   obtain ⟨W5, hW5⟩ : ∃ W5, W2.setCell ⟨w2.heap.size, 0, none⟩ (.slice A2 (k + 1) c2) = W5 := ⟨_, rfl⟩
   first | rw [hW5] | (simp only [Nat.zero_add] at hW5 HJ2 HK2 HL2 ⊢; rw [hW5])
   rw [hW5] at HJ2 HK2 HL2; clear hW5 y60 y6f; refine Round.any (by rintro ⟨_, _, hh⟩; exact hh) (by kernel_rfl) hmx ?_; have HCV := qh (HP3.out.value HJ2.out.kb HS3.out (by omega) HP.out.1 hn x W5.drew rfl); obtain ⟨W6, hW6⟩ : ∃ W6, W5.drew = W6 := ⟨_, rfl⟩; have HJ6 := qh (show PJ w3 w2.heap.size (w2.heap.size + 1) W6 A2 (k + 1) c2 V1 k d1 ((fr pre x) ++ [(x, s2)]) (pre.map (val 0 ps)) by rw [← hW6]; exact HJ2.out.drew 1); have HK6 := qh (show KeepsOthers W W6 by rw [← hW6]; exact HK2.out.trans (KeepsOthers.drew _)); have HL6 := qh (show Kb w3.heap.size w2.heap.size (w2.heap.size + 1) W W6 by rw [← hW6]; exact ⟨HL2.out.os, HL2.out.tape, HL2.out.output, HL2.out.size, HL2.out.block⟩); simp only [hW6] at HCV ⊢; clear hW6 HJ2 HK2 HL2; have v7 := HJ6.out.x7.cell; have v8 := Boxed.cell ((HJ6.out.kb.block (w2.heap.size + 1 + 1 + 1) (by omega) (by omega) (by omega)).trans HP3.out.fn); generalize hy : val 0 ps x = y at HCV; have HY := qh hy; clear hy; have v7a : (W6.alloc (.cells #[.int .i64 y] 3)).cell? ⟨w2.heap.size + 1, 0, none⟩ = some (.slice V1 k d1) := cal v7; have v8a : (W6.alloc (.cells #[.int .i64 y] 3)).cell? ⟨w2.heap.size + 1 + 1 + 1, 0, none⟩ = some (.func (.func 173) #[] #[.pointer (some ⟨w2.heap.size + 1 + 1, 0, none⟩)]) := cal v8; refine wpAny_take (i := 2) (v := .int .i64 x) rfl (by kernel_rfl) (by kernel_rfl) (by kernel_rfl) (fun _ _ _ h => h) (Or.inl ⟨by rfl, by intro w; go_simp⟩) ?_; refine wpAny_ready (rs := [0, 1]) (by kernel_rfl) (by simp) ?_; refine (AllReady.cons rfl (fun K hK => ?_) (AllReady.cons rfl (fun K hK => ?_) AllReady.nil))
   ·go_simp; refine hK _ _ ?_; clear hK K; refine wpAny_ready (rs := [1]) (by kernel_rfl) (by simp) ?_; refine (AllReady.cons rfl (fun K hK => ?_) AllReady.nil)
    ·go_simp; refine hK _ _ ?_; clear hK K; refine wpAny_ready (rs := [3]) (by kernel_rfl) (by simp) ?_; refine (AllReady.cons rfl (fun K hK => ?_) AllReady.nil)
     ·go_simp; refine HCV.out.mono ?_; rintro e w' ⟨rfl, rfl⟩
      try go_simp
      refine hK _ _ ?_; clear hK K; refine wpAny_ready (rs := [4]) (by kernel_rfl) (by simp) ?_; refine (AllReady.cons rfl (fun K hK => ?_) AllReady.nil)
      ·go_simp; refine hK _ _ ?_; clear hK K; refine wpAny_ready (rs := [5]) (by kernel_rfl) (by simp) ?_; refine (AllReady.cons rfl (fun K hK => ?_) AllReady.nil)
       ·refine step_appW _ rfl (.tmp 46) (.tmp 50) rfl w3.heap.size V1 k d1 _ rfl (HJ6.out.vl.alloc _) (W6.heap.size + 1) ⟨W6.heap.size, 0, none⟩ 1 1 [y] rfl (ints_new1 W6 y) (by omega) (by omega) (by have := HJ6.out.kb.size; simp only [World.size_alloc]; omega) ?_; intro V7 d7 W7 hO7 hg7 _; obtain ⟨y7, J7, K7, L7⟩ := HJ6.out.appV h6 h7 hne hO7 hg7; have y70 := y7.cell; have y7f := y7.frozen; have HJ7 := qh J7; have HK7 := qh (HK6.out.trans K7); have HL7 := qh (HL6.out.trans L7); clear hO7 hg7 y7 J7 K7 L7
        try go_simp
        refine hK _ _ ?_; clear hK K; refine wpAny_ready (rs := [6]) (by kernel_rfl) (by simp) ?_; refine (AllReady.cons rfl (fun K hK => ?_) AllReady.nil)
        ·go_simp; refine hK _ _ ?_; clear hK K; refine wpAny_done (by kernel_rfl) ?_ _; refine ⟨HK7.out.from _, HL7.out, A2, c2, V7, d7, ?_⟩; have e1 : (pre ++ [x]).length = k + 1 := by simp [HKL.out]
         rw [e1, List.map_append, List.map_cons, List.map_nil, HY.out, fr_snoc]; exact HJ7.out
   ·go_simp; refine hK _ _ ?_; clear hK K; refine wpAny_ready (rs := [0, 3]) (by kernel_rfl) (by simp) ?_; refine (AllReady.cons rfl (fun K hK => ?_) (AllReady.cons rfl (fun K hK => ?_) AllReady.nil))
    ·go_simp; refine hK _ _ ?_; clear hK K; refine wpAny_ready (rs := [3]) (by kernel_rfl) (by simp) ?_; refine (AllReady.cons rfl (fun K hK => ?_) AllReady.nil)
     ·go_simp; refine HCV.out.mono ?_; rintro e w' ⟨rfl, rfl⟩
      try go_simp
      refine hK _ _ ?_; clear hK K; refine wpAny_ready (rs := [4]) (by kernel_rfl) (by simp) ?_; refine (AllReady.cons rfl (fun K hK => ?_) AllReady.nil)
      ·go_simp; refine hK _ _ ?_; clear hK K; refine wpAny_ready (rs := [5]) (by kernel_rfl) (by simp) ?_; refine (AllReady.cons rfl (fun K hK => ?_) AllReady.nil)
       ·refine step_appW _ rfl (.tmp 46) (.tmp 50) rfl w3.heap.size V1 k d1 _ rfl (HJ6.out.vl.alloc _) (W6.heap.size + 1) ⟨W6.heap.size, 0, none⟩ 1 1 [y] rfl (ints_new1 W6 y) (by omega) (by omega) (by have := HJ6.out.kb.size; simp only [World.size_alloc]; omega) ?_; intro V7 d7 W7 hO7 hg7 _; obtain ⟨y7, J7, K7, L7⟩ := HJ6.out.appV h6 h7 hne hO7 hg7; have y70 := y7.cell; have y7f := y7.frozen; have HJ7 := qh J7; have HK7 := qh (HK6.out.trans K7); have HL7 := qh (HL6.out.trans L7); clear hO7 hg7 y7 J7 K7 L7
        try go_simp
        refine hK _ _ ?_; clear hK K; refine wpAny_ready (rs := [6]) (by kernel_rfl) (by simp) ?_; refine (AllReady.cons rfl (fun K hK => ?_) AllReady.nil)
        ·go_simp; refine hK _ _ ?_; clear hK K; refine wpAny_done (by kernel_rfl) ?_ _; refine ⟨HK7.out.from _, HL7.out, A2, c2, V7, d7, ?_⟩; have e1 : (pre ++ [x]).length = k + 1 := by simp [HKL.out]
         rw [e1, List.map_append, List.map_cons, List.map_nil, HY.out, fr_snoc]; exact HJ7.out
    ·go_simp; refine HCV.out.mono ?_; rintro e w' ⟨rfl, rfl⟩
     try go_simp
     refine hK _ _ ?_; clear hK K; refine wpAny_ready (rs := [0, 4]) (by kernel_rfl) (by simp) ?_; refine (AllReady.cons rfl (fun K hK => ?_) (AllReady.cons rfl (fun K hK => ?_) AllReady.nil))
     ·go_simp; refine hK _ _ ?_; clear hK K; refine wpAny_ready (rs := [4]) (by kernel_rfl) (by simp) ?_; refine (AllReady.cons rfl (fun K hK => ?_) AllReady.nil)
      ·go_simp; refine hK _ _ ?_; clear hK K; refine wpAny_ready (rs := [5]) (by kernel_rfl) (by simp) ?_; refine (AllReady.cons rfl (fun K hK => ?_) AllReady.nil)
       ·refine step_appW _ rfl (.tmp 46) (.tmp 50) rfl w3.heap.size V1 k d1 _ rfl (HJ6.out.vl.alloc _) (W6.heap.size + 1) ⟨W6.heap.size, 0, none⟩ 1 1 [y] rfl (ints_new1 W6 y) (by omega) (by omega) (by have := HJ6.out.kb.size; simp only [World.size_alloc]; omega) ?_; intro V7 d7 W7 hO7 hg7 _; obtain ⟨y7, J7, K7, L7⟩ := HJ6.out.appV h6 h7 hne hO7 hg7; have y70 := y7.cell; have y7f := y7.frozen; have HJ7 := qh J7; have HK7 := qh (HK6.out.trans K7); have HL7 := qh (HL6.out.trans L7); clear hO7 hg7 y7 J7 K7 L7
        try go_simp
        refine hK _ _ ?_; clear hK K; refine wpAny_ready (rs := [6]) (by kernel_rfl) (by simp) ?_; refine (AllReady.cons rfl (fun K hK => ?_) AllReady.nil)
        ·go_simp; refine hK _ _ ?_; clear hK K; refine wpAny_done (by kernel_rfl) ?_ _; refine ⟨HK7.out.from _, HL7.out, A2, c2, V7, d7, ?_⟩; have e1 : (pre ++ [x]).length = k + 1 := by simp [HKL.out]
         rw [e1, List.map_append, List.map_cons, List.map_nil, HY.out, fr_snoc]; exact HJ7.out
     ·go_simp; refine hK _ _ ?_; clear hK K; refine wpAny_ready (rs := [0]) (by kernel_rfl) (by simp) ?_; refine (AllReady.cons rfl (fun K hK => ?_) AllReady.nil)
      ·go_simp; refine hK _ _ ?_; clear hK K; refine wpAny_ready (rs := [5]) (by kernel_rfl) (by simp) ?_; refine (AllReady.cons rfl (fun K hK => ?_) AllReady.nil)
       ·refine step_appW _ rfl (.tmp 46) (.tmp 50) rfl w3.heap.size V1 k d1 _ rfl (HJ6.out.vl.alloc _) (W6.heap.size + 1) ⟨W6.heap.size, 0, none⟩ 1 1 [y] rfl (ints_new1 W6 y) (by omega) (by omega) (by have := HJ6.out.kb.size; simp only [World.size_alloc]; omega) ?_; intro V7 d7 W7 hO7 hg7 _; obtain ⟨y7, J7, K7, L7⟩ := HJ6.out.appV h6 h7 hne hO7 hg7; have y70 := y7.cell; have y7f := y7.frozen; have HJ7 := qh J7; have HK7 := qh (HK6.out.trans K7); have HL7 := qh (HL6.out.trans L7); clear hO7 hg7 y7 J7 K7 L7
        try go_simp
        refine hK _ _ ?_; clear hK K; refine wpAny_ready (rs := [6]) (by kernel_rfl) (by simp) ?_; refine (AllReady.cons rfl (fun K hK => ?_) AllReady.nil)
        ·go_simp; refine hK _ _ ?_; clear hK K; refine wpAny_done (by kernel_rfl) ?_ _; refine ⟨HK7.out.from _, HL7.out, A2, c2, V7, d7, ?_⟩; have e1 : (pre ++ [x]).length = k + 1 := by simp [HKL.out]
         rw [e1, List.map_append, List.map_cons, List.map_nil, HY.out, fr_snoc]; exact HJ7.out
 case done =>
  rintro D zs W hD rfl ⟨A1, c1, V1, d1, J⟩ hK; have c6 := J.x6.cell; have c7 := J.x7.cell; have HJ := qh J; obtain ⟨k, hk⟩ : ∃ k, (cuts (s1, s2) ps).length = k := ⟨_, rfl⟩; rw [hk] at HJ c6 c7; have HKL := qh hk; clear J hk
  gi_wp2
  refine wpIn_wide.2 ?_
  go_quiet (fail)
  obtain ⟨W5, hW5⟩ : ∃ W5, W.drewN nq = W5 := ⟨_, rfl⟩; have HJ5 := qh (show PJ w3 w2.heap.size (w2.heap.size + 1) W5 A1 k c1 V1 k d1 (fr (cuts (s1, s2) ps) s2) ((cuts (s1, s2) ps).map (val 0 ps)) by rw [← hW5]; exact HJ.out.drew nq); have hK5 : W5.heap[D]? = some (.deferred (some [])) := by rw [← hW5]; exact hK
  rw [hW5]; clear hW5 c6 c7
  gi_wp2
  have hrow : ∀ r, some D = some r → ∃ o : Obj, W5.heap[r]? = some o ∧ o.isCells = false := fun r e => by cases e; exact ⟨_, hK5, rfl⟩
  have hg := grownBy_putObj' W5 D (.deferred none); have hsz6 : w.heap.size ≤ w2.heap.size := by omega
  have hB5 : Below w.heap.size w W5 := HB3.out.trans (HJ5.out.kb.below (C := w.heap.size) (by omega) (by omega) (by omega)); have hsp := (HJ5.out.sp.abide hg hrow).spans.1; have hvl := (HJ5.out.vl.abide hg hrow).ints.1; refine ⟨by simp, .inl ⟨_, _, rfl, run_takeDeferred hK5, ?_⟩⟩; refine ⟨.tuple #[.slice A1 k c1, .slice V1 k d1], by simp [results, Tryz.results125, go_sem], A1, c1, V1, d1, ?_, ?_, ?_, hB5.grown hg hB5.size (fun r e => by cases e; omega)⟩
  ·rw [HKL.out]
  ·rw [HKL.out]; exact hsp
  ·rw [HKL.out]; exact hvl
 case stop =>
  rintro D c pre W _ _ h _; exact h.elim
end Stp
end Go.Proofs.YtfidmphajohljaaGreat
namespace Go.Proofs.YtfidmphajohljaaGreat
open Go.RowKit Stm
namespace Stp
def GivesN (w : World) (a b : Int) (e : Ending) (w' : World) : Prop := e = .returned (.tuple #[.int .i64 a, .int .i64 b]) ∧ Below w.heap.size w w'
theorem sum_no1 (A : Option Addr) (n c : Nat) (V : Option Addr) (m d : Nat) (xs vs : List Int) (s : Pr) (w : World) (hS : Sx w w.heap.size A n V m xs vs) (hn : n ≤ 10000) (h : rg xs vs = false) :
  Calls Tryz.prog 80 #[sg A n c V m d, ag s] w (GivesN w 0 1) := by
 have S0 : PB w (pieW w A n c V m d s) A n c V m d s := PB.new; have C := qh (right A n c V m d xs vs _ ((hS.below S0.b (Nat.le_refl _)).wide S0.b.size) (by omega)); rw [h] at C; have HS := qh S0; clear h hS S0; obtain ⟨s1, s2⟩ := s; go_enter Tryz.func80, Tryz.ntmps80
 go_wp2_with fail
 refine C.out.mono ?_; rintro e w1 ⟨rfl, hb⟩; have S1 := HS.out.keep hb; have H1 := qh S1; have p0 := S1.s.c0; have p1 := S1.s.c1; simp only at p0 p1; clear hb HS S1 C; go_wp2; go_ret2; exact ⟨rfl, H1.out.b⟩
theorem sum_yes (A : Option Addr) (n c : Nat) (V : Option Addr) (d : Nat) (ps : List Pr) (s : Pr) (w : World) (hS : Sr w w.heap.size A V n ps) (hn : n ≤ 10000) (h : Right ps) (hs : full s = true) :
  Calls Tryz.prog 80 #[sg A n c V n d, ag s] w (GivesN w (sv (pieces (val 0 ps) (cuts s ps) s.2)) (se (pieces (val 0 ps) (cuts s ps) s.2))) := by
 have S0 : PB w (pieW w A n c V n d s) A n c V n d s := PB.new; have C := qh (right A n c V n d _ _ _ ((hS.below S0.b (Nat.le_refl _)).wide S0.b.size) (by omega)); rw [rg_of h] at C; have C2 := fun w => qh (full_ s w)
 rw [hs] at C2; have hfs := (full_iff _).1 hs; have hseg := cuts_seg h.1 hfs.2.1; have HL := qh (seg_fr _ hseg); have HFB := qh (fr_bounds _ _ hseg); have HVF := qh (fun x => val_fits h.2 x)
 have hcl : (cuts s ps).length ≤ 1000000 := by
  have h1 := List.length_filter_le (fun a => decide (s.1 < a) && decide (a < s.2)) (ps.map (·.1)); have h2 := hS.len; simp [cuts] at h1 ⊢; omega
 have HS0 := qh hS; have HP := qh h; have HFU := qh hs; have HS := qh S0; clear h hS S0 hs hseg; obtain ⟨s1, s2⟩ := s; simp only at hfs; obtain ⟨ra, hra⟩ : ∃ ra, sv (pieces (val 0 ps) (cuts (s1, s2) ps) s2) = ra := ⟨_, rfl⟩; obtain ⟨rb, hrb⟩ : ∃ rb, se (pieces (val 0 ps) (cuts (s1, s2) ps) s2) = rb := ⟨_, rfl⟩; simp only; rw [hra, hrb]; have HRA := qh hra; have HRB := qh hrb; clear hra hrb; go_enter Tryz.func80, Tryz.ntmps80
 go_wp2_with fail
 refine C.out.mono ?_; rintro e w1 ⟨rfl, hb⟩; have S1 := HS.out.keep hb; have p0 := S1.s.c0; have p1 := S1.s.c1; simp only at p0 p1; have H1 := qh S1; clear hb HS S1 C
 go_wp2_with fail
 refine (C2 _).out.mono ?_; rintro e w2 ⟨rfl, hb⟩; have S2 := H1.out.keep hb; clear p0 p1; have p0 := S2.s.c0; have p1 := S2.s.c1; have q1 := S2.f.c0; have q2 := S2.f.c1; simp only at p0 p1; have H2 := qh S2; clear hb H1 S2 C2
 go_wp2_with fail
 refine (pieces_yes A n c V d ps (s1, s2) w2 ((HS0.out.below H2.out.b (Nat.le_refl _)).wide H2.out.b.size) hn HP.out HFU.out).mono ?_; rintro e w3 ⟨AS, cS, AV, cV, rfl, hSp, hIn, hb3⟩; have HSp := qh hSp; have HIn := qh hIn; have HB := qh (H2.out.b.trans (hb3.mono H2.out.b.size)); have HLen := qh (pieces_len (val 0 ps) (cuts (s1, s2) ps) s2); have HMap := qh (show ∀ v ∈ (cuts (s1, s2) ps).map (val 0 ps), Stm.fits v = true by intro v hv; obtain ⟨x, _, rfl⟩ := List.mem_map.1 hv; exact HVF.out x); have HST := qh (Rnd.start (pieces (val 0 ps) (cuts (s1, s2) ps) s2)); have HFB2 := qh (show ∀ x ∈ fr (cuts (s1, s2) ps) s2, s1 ≤ x.1 ∧ x.1 < x.2 ∧ x.2 ≤ s2 from HFB.out); clear hSp hIn hb3 p0 p1 q1 q2 H2 HS0 HP HFU HVF HFB; have HG := qh (fun k (x y v : Int) (h1 : (fr (cuts (s1, s2) ps) s2)[k]? = some (x, y)) (h2 : ((cuts (s1, s2) ps).map (val 0 ps))[k]? = some v) => pieces_get (g := val 0 ps) h1 h2); generalize pieces (val 0 ps) (cuts (s1, s2) ps) s2 = L at HL HLen HST HG HRA HRB; generalize fr (cuts (s1, s2) ps) s2 = zs at HSp HG HFB2; generalize (cuts (s1, s2) ps).map (val 0 ps) = vs at HIn HMap HG; generalize (cuts (s1, s2) ps).length = N at hcl HSp HIn HLen ⊢; go_wp2
 go_loopw [6, 7, 30] (fun ss sr i w' => ∃ (k nd : Nat) (sum room : Int), k ≤ N ∧ i = .int .i64 (k : Int) ∧ ss = .int .i64 sum ∧ sr = .int .i64 room ∧ 0 ≤ room ∧ Hid (Rnd L k sum room) ∧ w' = w3.drewN nd) (fun _ _ i _ => N - (intOf i).toNat)
 case atStart => exact ⟨0, 0, 0, 4000000000000000000, Nat.zero_le _, rfl, rfl, rfl, by omega, HST, rfl⟩
 case round =>
  obtain ⟨k, nd, sum, room, hk, rfl, rfl, rfl, hr0, HR, rfl⟩ := hrel; by_cases hlt : k < N
  ·obtain ⟨ad, x, y, rfl, _, hz, hc0, hc1⟩ := HSp.out.get hlt; obtain ⟨av, v, rfl, _, hv, hcv⟩ := HIn.out.get hlt; have hlk := HG.out k x y v hz hv; obtain ⟨f1, f2, f3⟩ := HFB2.out _ (List.mem_of_getElem? hz); obtain ⟨v1, v2⟩ := (fits_iff v).1 (HMap.out v (List.mem_of_getElem? hv)); simp only at f1 f2 f3; obtain ⟨D, hD⟩ : ∃ D, y - x = D := ⟨_, rfl⟩; obtain ⟨P, hP⟩ : ∃ P, mag v * D = P := ⟨_, rfl⟩; obtain ⟨Z, hZ⟩ : ∃ Z, v * D = Z := ⟨_, rfl⟩; have hD1 : 1 ≤ D := by omega
   have hD2 : D ≤ 292194 := by omega
   obtain ⟨m1, m2, m3⟩ := mag_mul hD1 hP hZ; have hdiv := div_le (S := mag v) hD1 hr0 hP; obtain ⟨b1, b2, b3, b4, b5⟩ := HR.out.room HL.out hr0; obtain ⟨nv, hnv⟩ : ∃ nv, -v = nv := ⟨_, rfl⟩; obtain ⟨S, hS⟩ : ∃ S, max v nv = S := ⟨_, rfl⟩; have hS' : mag v = S := by rw [mag, hnv]; exact hS
   obtain ⟨q, hq⟩ : ∃ q, room / D = q := ⟨_, rfl⟩; have hqt : room.tdiv D = q := by rw [Int.tdiv_eq_ediv_of_nonneg hr0]; exact hq
   have hq0 : 0 ≤ q := by rw [← hq]; exact Int.ediv_nonneg hr0 (by omega)
   have hq1 : q ≤ room := by rw [← hq]; exact Int.ediv_le_self _ hr0
   have hS0 : 0 ≤ S := by rw [← hS']; exact mag_nonneg v
   have hS1 : S ≤ 4000000000000000000 := by rw [← hS']; unfold mag; omega
   rw [hS'] at hP hdiv; rw [hq] at hdiv; have wD : IntKind.i64.wrap D = D := IntWalk.i64_in _ (by omega); have wn : IntKind.i64.wrap nv = nv := IntWalk.i64_in _ (by omega); have tD : (D == 0) = false := by rw [beq_eq_false_iff_ne]; omega
   have tD2 : (D == -1) = false := by rw [beq_eq_false_iff_ne]; omega
   have hlt2 : (k : Int) < (N : Int) := by omega
   have HD := qh hD; have HPm := qh (show mag v * D = P by rw [hS']; exact hP); have HZ := qh hZ; clear hz hv; have HLK := qh hlk; clear hlk hS'; by_cases ho : room < P
   ·have tq : decide (q < S) = true := by rw [decide_eq_true_eq]; exact hdiv.2 ho
    have HO := qh (HR.out.over HL.out HLK.out HD.out HPm.out ho); clear ho hdiv hP hZ hq m1 m2 m3 b4 b5; go_wp2
    go_quiet (fail)
    go_wp2; go_ret2; exact ⟨by rw [← HRA.out, ← HRB.out, sv_no HO.out, se_no HO.out]; rfl, below_drewN HB.out _⟩
   ·have tq : decide (q < S) = false := by rw [decide_eq_false_iff_not]; exact fun h => ho (hdiv.1 h)
    obtain ⟨room', hr'⟩ : ∃ r, room - P = r := ⟨_, rfl⟩; obtain ⟨sum', hs'⟩ : ∃ r, sum + Z = r := ⟨_, rfl⟩; have HN := qh (show Rnd L (k + 1) sum' room' by rw [← hr', ← hs']; exact HR.out.next HLK.out HD.out HZ.out HPm.out); have hr1 : 0 ≤ room' := by omega
    have hr2 : room' ≤ 4000000000000000000 := by omega
    have hs1 : -4000000000000000000 ≤ sum' := by omega
    have hs2 : sum' ≤ 4000000000000000000 := by omega
    have hP2 : P ≤ 4000000000000000000 := by omega
    have hZ1 : -4000000000000000000 ≤ Z := by omega
    have hZ2 : Z ≤ 4000000000000000000 := by omega
    clear ho hdiv hq m1 m2 b4 b5; go_wp2
    go_quiet (fail)
    go_wp2; go_roundw
    case rel => exact ⟨k + 1, _, sum', room', by omega, by go_num, rfl, rfl, hr1, HN, rfl⟩
    case measure => simp [intOf]; omega
  ·obtain ⟨f1, f2⟩ := HR.out.fin (by rw [HLen.out]; omega) hr0; have HF1 := qh f1; have HF2 := qh f2; clear f1 f2; go_wp2; go_ret2; exact ⟨by rw [← HRA.out, ← HRB.out, sv_ok HF1.out, se_ok HF1.out, ← HF2.out]; rfl, below_drewN HB.out _⟩
end Stp
end Go.Proofs.YtfidmphajohljaaGreat
