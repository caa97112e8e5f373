/-
  keep: those spans of a row that have days, in memory of the call's own. Conditions: the row reads as a list of at most a million spans.
-/
import Derived.Test.YtbollbbanmdbhaaIter
import Derived.Laws.AppendOwnNone
import Derived.OwnWalk
namespace Go.Proofs.Ytbollbbanmdbhaa
open Go.RowKit Go.Shelf Sp
namespace Spn
set_option linter.unusedVariables false

attribute [local go_sem] Oper.semAt_some

/-- A row's cells, one behind the other. -/
def cel (xs : List Sp) : List Value := xs.flatMap fun x => [.int .i64 x.1, .int .i64 x.2]
theorem cel_nil : cel [] = [] := rfl
theorem cel_append (xs ys : List Sp) : cel (xs ++ ys) = cel xs ++ cel ys := List.flatMap_append
theorem cel_one (x : Sp) : cel [x] = [.int .i64 x.1, .int .i64 x.2] := rfl
theorem cel_length (xs : List Sp) : (cel xs).length = xs.length * 2 := by
  induction xs with
  | nil => rfl
  | cons x xs ih => rw [show x :: xs = [x] ++ xs from rfl, cel_append, List.length_append, ih, cel_one]; simp; omega
theorem cel_get {xs : List Sp} {j : Nat} {x : Sp} (h : xs[j]? = some x) : (cel xs)[j * 2]? = some (.int .i64 x.1) ∧ (cel xs)[j * 2 + 1]? = some (.int .i64 x.2) := by
  induction xs generalizing j with
  | nil => simp at h
  | cons y ys ih =>
    rw [show y :: ys = [y] ++ ys from rfl, cel_append, cel_one]
    cases j with
    | zero => simp at h; subst h; simp
    | succ j =>
      simp at h
      obtain ⟨h1, h2⟩ := ih h
      have e1 : (j + 1) * 2 = j * 2 + 2 := by omega
      rw [e1, List.getElem?_append_right (by simp), List.getElem?_append_right (by simp)]
      exact ⟨by simpa using h1, by simpa using h2⟩
theorem cel_cell (xs : List Sp) : ∀ u ∈ cel xs, u.oneCell' = true := by
  intro u hu
  obtain ⟨x, _, hx⟩ := List.mem_flatMap.1 hu
  simp at hx
  rcases hx with rfl | rfl <;> rfl

/-- A row of the call's own, that reads as these spans. -/
def Own (w : World) (base : Nat) (A : Option Addr) (n c : Nat) (xs : List Sp) : Prop := w.ownsRow base 23 2 (.slice A n c) n (cel xs)
section
variable {w w' : World} {base n c : Nat} {A : Option Addr} {xs : List Sp}
theorem Own.nil : Own w base none 0 0 [] := World.ownsRow_nil w base _ 2
theorem Own.len (h : Own w base A n c xs) : xs.length = n := by have := h.1; rw [cel_length] at this; omega
theorem Own.spans (h : Own w base A n c xs) : Spans w w.heap.size A n xs ∧ n ≤ c := by
  rcases h.2 with ⟨e, hn⟩ | ⟨g, cap, cur, e, hb, hh, hnc, hm, hs, ht⟩
  · injection e with e1 e2 e3
    subst hn
    have hl := h.len
    exact ⟨⟨hl, fun h => absurd h (by omega)⟩, by omega⟩
  · injection e with e1 e2 e3
    subst e1 e3
    refine ⟨⟨h.len, fun _ => ⟨_, rfl, ?_, fun j x hx => ?_⟩⟩, hnc⟩
    · rcases Nat.lt_or_ge g w.heap.size with hlt | hge
      · exact hlt
      · rw [Array.getElem?_eq_none hge] at hh; cases hh
    · exact ⟨World.ownsRow.cells (g := g) h rfl (j * 2) _ (cel_get hx).1, World.ownsRow.cells (g := g) h rfl (j * 2 + 1) _ (cel_get hx).2⟩
theorem Own.lt (h : Own w base A n c xs) : ∀ k, (Value.slice A n c).ownBlock = some k → base ≤ k ∧ k < w.heap.size := World.ownsRow.lt h
theorem Own.alloc (h : Own w base A n c xs) (o : Obj) : Own (w.alloc o) base A n c xs := World.ownsRow.alloc h o
theorem Own.grown {row : Option Nat} (h : Own w base A n c xs) (hg : w.grownBy w' row) (hne : (Value.slice A n c).ownBlock = none ∨ (Value.slice A n c).ownBlock ≠ row) : Own w' base A n c xs := World.ownsRow.kept h hg hne
theorem Own.below (h : Own w base A n c xs) (hb : Below w.heap.size w w') : Own w' base A n c xs := by
  refine World.ownsRow.kept h (grown_of_below hb) ?_
  cases A with
  | none => exact .inl rfl
  | some a => exact .inr (by simp [Value.ownBlock])
end

/-- What a call gives that makes a row. -/
def Gives (w : World) (zs : List Sp) (e : Ending) (w' : World) : Prop := ∃ A k c, e = .returned (.slice A k c) ∧ Spans w' w'.heap.size A k zs ∧ k ≤ c ∧ Below w.heap.size w w'

theorem info_span : (Try.prog.info? 23).map (fun i => (i.zero, i.size, i.bytes)) = some (some (.agg #[.int .i64 0, .int .i64 0]), 2, 16) := by kernel_rfl

theorem new_cells (w : World) (x y : Int) (j : Nat) (u : Value) (h : [Value.int .i64 x, .int .i64 y][j]? = some u) : (w.alloc (.cells #[.int .i64 x, .int .i64 y] 23)).cell? ((⟨w.heap.size, 0, none⟩ : Addr).add j) = some u := by
  have X := Bx.new w x y
  match j, h with
  | 0, h => simp at h; subst h; exact X.c0
  | 1, h => simp at h; subst h; exact X.c1
  | j + 2, h => simp at h

theorem own_of_row {w : World} {base k : Nat} {v : Value} {xs : List Sp} (h : w.ownsRow base 23 2 v k (cel xs)) : ∃ A c, v = .slice A k c ∧ Own w base A k c xs := by
  rcases h.2 with ⟨rfl, hn⟩ | ⟨g, cap, cur, rfl, hr⟩
  · subst hn; exact ⟨_, _, rfl, h⟩
  · exact ⟨_, _, rfl, h⟩

theorem bx_kept {W W' : World} {row : Option Nat} {b : Nat} {x y : Int} (h : Bx W b x y) (hg : W.grownBy W' row) (hr : ∀ r, row = some r → ∃ o : Obj, W.heap[r]? = some o ∧ o.isCells = false) : Bx W' b x y := by
  refine (hg.block b h.lt ?_).trans h
  intro e
  obtain ⟨o, ho, hc⟩ := hr b e.symm
  unfold Bx at h
  rw [h] at ho; cases ho; cases hc

set_option maxRecDepth 100000 in
set_option maxHeartbeats 2000000 in
theorem keep (A : Option Addr) (n c : Nat) (xs : List Sp) (w : World) (hS : Spans w w.heap.size A n xs) (hn : n ≤ 1000000) :
    Calls Try.prog 29 #[.slice A n c] w (Gives w (kp xs)) := by
  obtain ⟨i0, hi, hz0, hz1, hz2⟩ := info_parts info_span
  have hkl : (kp xs).length ≤ 1000000 := Nat.le_trans (List.length_filter_le _ _) (by rw [hS.1]; exact hn)
  have H := Lib.hid hS
  clear hS
  refine callsIn_wide (n := 10) |>.1 ?_
  refine callsIn_of_wp_marks Try.func29 rfl trivial ?_ rfl
  simp only [Try.ntmps29, List.size_toArray, List.length_cons, List.length_nil, Nat.reduceAdd, Nat.reduceSub, Array.replicate_succ, Array.replicate_zero, List.push_toArray, List.append_toArray, List.nil_append, List.cons_append]
  gi_wp2_with fail
  refine ⟨trivial, (callsIn_wide.2 (withDays A n c _)).mono ?_⟩
  rintro e w' ⟨rfl, rfl⟩
  have bO := Boxed.new w 30 (.slice none 0 0)
  have bN := Boxed.new (w.alloc (.cells #[.slice none 0 0] 30)) 30 (.slice A n c)
  rw [World.size_alloc] at bN
  have hB0 : Below w.heap.size w ((w.alloc (.cells #[.slice none 0 0] 30)).alloc (.cells #[.slice A n c] 30)) := ((Below.refl _ w).alloc (Nat.le_refl _) _).alloc (by simp) _
  gi_wp2
  refine wpIn_rangeFunc_ownH rfl (by decide) (gf := 42) (lb := #[.pointer (some ⟨w.heap.size + 1, 0, none⟩)]) rfl trivial (enters_of Try.func42 (by kernel_rfl) rfl)
    (days_stops (w.heap.size + 1) w.heap.size n c A xs (by omega) _ (by simp) (by simp; omega) bN.cell (H.out.below hB0 (Nat.le_refl _))) belowK_t (belowK_b (by simp; omega)) (Below.refl _ _) (fun _ => rfl)
    (fun pre W => (∃ v, Boxed W w.heap.size 30 v ∧ W.ownsRow w.heap.size 23 2 v pre.length (cel pre) ∧ True) ∧ Below w.heap.size w W)
    (fun _ _ _ => False)
    (OwnFrom.and (Own.from (holdsRow_own w.heap.size w.heap.size 30 23 2 (fun pre : List Sp => pre.length) (fun pre => cel pre) (fun _ _ => True)) _) (ownFrom_below (Nat.le_refl _) (by simp; omega)))
    (fun _ _ _ _ _ hs _ _ => hs)
    ⟨⟨_, bO.alloc _, World.ownsRow_nil _ _ _ _, trivial⟩, hB0⟩
    (fun x a' W => ∃ b, Bx W b x.1 x.2 ∧ a' = { tmps := #[.slice A n c, undef, .slice none 0 0, .pointer (some ⟨w.heap.size, 0, none⟩), .pointer (some ⟨b, 0, none⟩), .slice A n c, .func (.func 42) #[] #[.pointer (some ⟨w.heap.size + 1, 0, none⟩)], ag x, undef, undef, undef, undef, undef], defers := [] })
    (fun x a' _ X Y row hs hg hr => by obtain ⟨b, h1, h2⟩ := hs; exact ⟨b, bx_kept h1 hg (fun r e => (hr r e).2), h2⟩)
    ?assign ?body ?done ?stop
  case assign =>
    rintro l pre x W K ⟨⟨v, hv, hrow, _⟩, hB⟩ hK
    gi_wp2
    exact hK _ _ ((KeepsOthers.alloc _ _).from _) ((Below.refl _ W).alloc hB.size _) ⟨⟨v, hv.alloc _, hrow.alloc _, trivial⟩, hB.alloc hB.size _⟩ ⟨W.heap.size, Bx.new W _ _, rfl⟩
  case body =>
    rintro l pre x a' W hl ⟨r, hr⟩ ⟨⟨v, hv, hrow, _⟩, hB⟩ ⟨b, X, rfl⟩ hlt
    have hc := hv.cell
    have x0 := X.c0
    have x1 := X.c1
    gi_wp2_with (gi_at_builtin; refine wpListIn_append_own _ rfl _ _ 30 rfl w.heap.size 23 i0 (.agg #[.int .i64 0, .int .i64 0]) 2 16 Try.underlying30 hi hz0 hz1 hz2 rfl (by decide) _ _ _ rfl (hrow.alloc _) ⟨W.heap.size, 0, none⟩ 1 1 [.int .i64 x.1, .int .i64 x.2] rfl rfl (new_cells _ _ _) (by simp [Value.oneCell']) (by unfold maxLen; omega) (by omega) (by have := hB.size; simp; omega) ?_; intro v' w1 hown' hgrow _; obtain ⟨g', cap', rfl⟩ := ownsRow_succ hown'; obtain ⟨hv1, hv2, hr2, hk2, hb2⟩ := hv.appended (by decide) hrow hB.size (Nat.le_refl _) hown' hgrow; have hc1 := hv1.cell; have hf1 := hv1.frozen)
    exact ⟨hk2.from _, hb2, ⟨_, hv2, by rw [cel_append, cel_one]; simpa using hr2, trivial⟩, hB.trans hb2⟩
  case done =>
    rintro D ys W hD rfl ⟨⟨v, hv, hrow, _⟩, hB⟩ hK
    have hc := hv.cell
    gi_wp2
    refine ⟨by simp, .inl ⟨_, _, rfl, run_takeDeferred hK, ?_⟩⟩
    have hrow2 := ownsRow_putObj hrow (Obj.deferred none) hK rfl
    obtain ⟨A', c', rfl, hO⟩ := own_of_row hrow2
    exact ⟨_, results_tmp rfl _ _ _, A', _, c', rfl, hO.spans.1, hO.spans.2, hB.trans (belowK_b (w := w) (Nat.le_refl _) W D _ _ (by simp at hD; omega) hK rfl rfl)⟩
  case stop =>
    rintro D c pre W _ _ h _
    exact h.elim

end Spn
end Go.Proofs.Ytbollbbanmdbhaa
