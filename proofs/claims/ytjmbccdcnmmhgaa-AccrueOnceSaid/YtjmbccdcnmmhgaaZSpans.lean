/-
  Rows of spans of the call's own; appending to them; the last one turned. Conditions: those of each theorem.
-/
import Derived.Test.YtjmbccdcnmmhgaaZApp
namespace Go.Proofs.Ytjmbccdcnmmhgaa
open Go.RowKit Stm
namespace Stp
set_option linter.unusedVariables false

/-- The slice with this address and length reads as this list of spans, in blocks below B. -/
def Spans (w : World) (B : Nat) (A : Option Addr) (n : Nat) (xs : List Pr) : Prop :=
  xs.length = n ∧ (0 < n → ∃ ad : Addr, A = some ad ∧ ad.block < B ∧ ∀ (j : Nat) (x : Pr), xs[j]? = some x → w.cell? (ad.add (j * 2)) = some (.int .i64 x.1) ∧ w.cell? (ad.add (j * 2 + 1)) = some (.int .i64 x.2))
section
variable {w w' : World} {B n : Nat} {A : Option Addr} {xs : List Pr}
theorem Spans.nil {A : Option Addr} : Spans w B A 0 [] := ⟨rfl, fun h => absurd h (by omega)⟩
theorem Spans.get {k : Nat} (h : Spans w B A n xs) (hk : k < n) : ∃ (ad : Addr) (x y : Int), A = some ad ∧ ad.block < B ∧ xs[k]? = some (x, y) ∧ w.cell? (ad.add (k * 2)) = some (.int .i64 x) ∧ w.cell? ⟨(ad.add (k * 2)).block, (ad.add (k * 2)).off + 1, none⟩ = some (.int .i64 y) := by
  obtain ⟨ad, e, hb, hc⟩ := h.2 (by omega)
  have hl : k < xs.length := by have := h.1; omega
  have := hc k _ (List.getElem?_eq_getElem hl)
  exact ⟨ad, xs[k].1, xs[k].2, e, hb, List.getElem?_eq_getElem hl, this.1, by rw [← add_one]; exact this.2⟩
theorem Spans.keep (h : Spans w B A n xs) (hk : ∀ p : Addr, p.block < B → w'.cell? p = w.cell? p) : Spans w' B A n xs :=
  ⟨h.1, fun hn => by
    obtain ⟨ad, e, hb, hc⟩ := h.2 hn
    exact ⟨ad, e, hb, fun j x hx => ⟨(hk _ (by rw [add_block]; exact hb)).trans (hc j x hx).1, (hk _ (by rw [add_block]; exact hb)).trans (hc j x hx).2⟩⟩⟩
theorem Spans.below {C : Nat} (h : Spans w B A n xs) (hb : Below C w w') (hC : B ≤ C) : Spans w' B A n xs := h.keep fun _ hp => hb.cell (Nat.lt_of_lt_of_le hp hC)
theorem Spans.wide {C : Nat} (h : Spans w B A n xs) (hC : B ≤ C) : Spans w C A n xs :=
  ⟨h.1, fun hn => by
    obtain ⟨ad, e, hb, hc⟩ := h.2 hn
    exact ⟨ad, e, Nat.lt_of_lt_of_le hb hC, hc⟩⟩
theorem Spans.keep_ (h : Spans w w.heap.size A n xs) (hb : Below w.heap.size w w') : Spans w' w'.heap.size A n xs := (h.below hb (Nat.le_refl _)).wide hb.size
end

/-- A row's cells, one behind the other. -/
def cel (xs : List Pr) : List Value := xs.flatMap fun x => [.int .i64 x.1, .int .i64 x.2]
theorem cel_nil : cel [] = [] := rfl
theorem cel_append (xs ys : List Pr) : cel (xs ++ ys) = cel xs ++ cel ys := List.flatMap_append
theorem cel_one (x : Pr) : cel [x] = [.int .i64 x.1, .int .i64 x.2] := rfl
theorem cel_length (xs : List Pr) : (cel xs).length = xs.length * 2 := by
  induction xs with
  | nil => rfl
  | cons x xs ih => rw [show x :: xs = [x] ++ xs from rfl, cel_append, List.length_append, ih, cel_one]; simp; omega
theorem cel_get {xs : List Pr} {j : Nat} {x : Pr} (h : xs[j]? = some x) : (cel xs)[j * 2]? = some (.int .i64 x.1) ∧ (cel xs)[j * 2 + 1]? = some (.int .i64 x.2) := by
  induction xs generalizing j with
  | nil => simp at h
  | cons y ys ih =>
    rw [show y :: ys = [y] ++ ys from rfl, cel_append, cel_one]
    cases j with
    | zero => simp at h; subst h; simp
    | succ j =>
      simp at h
      obtain ⟨h1, h2⟩ := ih h
      have e1 : (j + 1) * 2 = j * 2 + 2 := by omega
      rw [e1, List.getElem?_append_right (by simp), List.getElem?_append_right (by simp)]
      exact ⟨by simpa using h1, by simpa using h2⟩
theorem cel_cell (xs : List Pr) : ∀ u ∈ cel xs, u.oneCell' = true := by
  intro u hu
  obtain ⟨x, _, hx⟩ := List.mem_flatMap.1 hu
  simp at hx
  rcases hx with rfl | rfl <;> rfl

/-- A row of the call's own, that reads as these spans. -/
def OwnP (w : World) (base : Nat) (A : Option Addr) (n c : Nat) (xs : List Pr) : Prop := w.ownsRow base 30 2 (.slice A n c) n (cel xs)
section
variable {w w' : World} {base n c : Nat} {A : Option Addr} {xs : List Pr}
theorem OwnP.nil : OwnP w base none 0 0 [] := World.ownsRow_nil w base _ 2
theorem OwnP.len (h : OwnP w base A n c xs) : xs.length = n := by have := h.1; rw [cel_length] at this; omega
theorem OwnP.spans (h : OwnP w base A n c xs) : Spans w w.heap.size A n xs ∧ n ≤ c := by
  rcases h.2 with ⟨e, hn⟩ | ⟨g, cap, cur, e, hb, hh, hnc, hm, hs, ht⟩
  · injection e with e1 e2 e3
    subst hn
    have hl := h.len
    exact ⟨⟨hl, fun h => absurd h (by omega)⟩, by omega⟩
  · injection e with e1 e2 e3
    subst e1 e3
    refine ⟨⟨h.len, fun _ => ⟨_, rfl, ?_, fun j x hx => ?_⟩⟩, hnc⟩
    · rcases Nat.lt_or_ge g w.heap.size with hlt | hge
      · exact hlt
      · rw [Array.getElem?_eq_none hge] at hh; cases hh
    · exact ⟨World.ownsRow.cells (g := g) h rfl (j * 2) _ (cel_get hx).1, World.ownsRow.cells (g := g) h rfl (j * 2 + 1) _ (cel_get hx).2⟩
theorem OwnP.lt (h : OwnP w base A n c xs) : ∀ k, (Value.slice A n c).ownBlock = some k → base ≤ k ∧ k < w.heap.size := World.ownsRow.lt h
theorem OwnP.alloc (h : OwnP w base A n c xs) (o : Obj) : OwnP (w.alloc o) base A n c xs := World.ownsRow.alloc h o
theorem OwnP.below (h : OwnP w base A n c xs) (hb : Below w.heap.size w w') : OwnP w' base A n c xs := by
  refine World.ownsRow.kept h (grown_of_below hb) ?_
  cases A with
  | none => exact .inl rfl
  | some a => exact .inr (by simp [Value.ownBlock])
theorem OwnP.grown {row : Option Nat} (h : OwnP w base A n c xs) (hg : w.grownBy w' row) (hne : (Value.slice A n c).ownBlock = none ∨ (Value.slice A n c).ownBlock ≠ row) : OwnP w' base A n c xs := World.ownsRow.kept h hg hne
theorem OwnP.far (h : OwnP w base A n c xs) {p : Addr} (hp : ∀ g, (Value.slice A n c).ownBlock = some g → g ≠ p.block) (u : Value) : OwnP (w.setCell p u) base A n c xs := by
  refine World.ownsRow.kept h (row := some p.block) ⟨rfl, rfl, rfl, (KeepsWalks.setCell w _ u).size, fun k _ hk => Below.heap_setCell _ _ _ k (fun e => hk (by rw [e]))⟩ ?_
  cases hv : (Value.slice A n c).ownBlock with
  | none => exact .inl rfl
  | some g => exact .inr (fun e => hp g hv (by injection e))
theorem OwnP.abide {row : Option Nat} (h : OwnP w base A n c xs) (hg : w.grownBy w' row) (hr : ∀ r, row = some r → ∃ o : Obj, w.heap[r]? = some o ∧ o.isCells = false) : OwnP w' base A n c xs := by
  refine World.ownsRow.kept h hg ?_
  rcases h.2 with ⟨e, _⟩ | ⟨g, cap, cur, e, _, hgb, _⟩
  · rw [e]; exact .inl rfl
  · rw [e]
    refine .inr fun e' => ?_
    obtain ⟨o, ho, hc⟩ := hr g (by simpa [Value.ownBlock] using e'.symm)
    rw [hgb] at ho; cases ho; cases hc
/-- A row of spans and one of ints lie apart. -/
theorem OwnP.apart {base2 m d : Nat} {V : Option Addr} {vs : List Int} (h : OwnP w base A n c xs) (h2 : OwnI w base2 V m d vs) : ∀ g, (Value.slice A n c).ownBlock = some g → (Value.slice V m d).ownBlock ≠ some g := by
  intro g e1 e2
  rcases h.2 with ⟨e, _⟩ | ⟨g1, cap, cur, e, _, hg1, _⟩
  · rw [e] at e1; cases e1
  · rcases h2.2 with ⟨e', _⟩ | ⟨g2, cap2, cur2, e', _, hg2, _⟩
    · rw [e'] at e2; cases e2
    · rw [e] at e1
      rw [e'] at e2
      simp [Value.ownBlock] at e1 e2
      subst e1
      subst e2
      rw [hg1] at hg2
      simp at hg2
end

theorem info_span : (Try.prog.info? 30).map (fun i => (i.zero, i.size, i.bytes)) = some (some (.agg #[.int .i64 0, .int .i64 0]), 2, 16) := by kernel_rfl
theorem new_cells (w : World) (x y : Int) (j : Nat) (u : Value) (h : [Value.int .i64 x, .int .i64 y][j]? = some u) : (w.alloc (.cells #[.int .i64 x, .int .i64 y] 30)).cell? ((⟨w.heap.size, 0, none⟩ : Addr).add j) = some u := by
  have X := Bx.new w 30 (.int .i64 x) (.int .i64 y)
  match j, h with
  | 0, h => simp at h; subst h; exact X.c0
  | 1, h => simp at h; subst h; exact X.c1
  | j + 2, h => simp at h
theorem ownp_of_row {w : World} {base k : Nat} {v : Value} {xs : List Pr} (h : w.ownsRow base 30 2 v k (cel xs)) : ∃ A c, v = .slice A k c ∧ OwnP w base A k c xs := by
  rcases h.2 with ⟨rfl, hn⟩ | ⟨g, cap, cur, rfl, hr⟩
  · subst hn; exact ⟨_, _, rfl, h⟩
  · exact ⟨_, _, rfl, h⟩
/-- The cells of a row, by their place. -/
theorem spans_cells {w : World} {B : Nat} {ad : Addr} {m : Nat} {ys : List Pr} (h : Spans w B (some ad) m ys) (j : Nat) (u : Value) (hu : (cel ys)[j]? = some u) : w.cell? (ad.add j) = some u := by
  have hl : j < ys.length * 2 := by rw [← cel_length]; exact (List.getElem?_eq_some_iff.1 hu).1
  have hm : j / 2 < ys.length := by omega
  have hy : ys[j / 2]? = some ys[j / 2] := List.getElem?_eq_getElem hm
  obtain ⟨ad', e, _, hc⟩ := h.2 (by have := h.1; omega)
  injection e with e
  subst e
  obtain ⟨c0, c1⟩ := hc _ _ hy
  obtain ⟨g0, g1⟩ := cel_get hy
  rcases (by omega : j = j / 2 * 2 ∨ j = j / 2 * 2 + 1) with hj | hj
  · rw [hj, g0] at hu
    rw [hj, c0]; exact hu
  · rw [hj, g1] at hu
    rw [hj, c1]; exact hu
theorem spans_new1 (w : World) (x y : Int) (N : Nat) (hN : w.heap.size = N) : Spans (w.alloc (.cells #[.int .i64 x, .int .i64 y] 30)) (N + 1) (some ⟨N, 0, none⟩) 1 [(x, y)] := by
  subst hN
  have X := Bx.new w 30 (.int .i64 x) (.int .i64 y)
  have ea : ∀ i, (⟨w.heap.size, 0, none⟩ : Addr).add i = ⟨w.heap.size, i, none⟩ := fun i => by unfold Addr.add; split <;> simp_all
  refine ⟨rfl, fun _ => ⟨_, rfl, by simp, fun j z hz => ?_⟩⟩
  match j, hz with
  | 0, hz => simp at hz; subst hz; rw [ea, ea]; exact ⟨X.c0, X.c1⟩
  | j + 1, hz => simp at hz

theorem wpList_appP (w : World) {ops : Array Oper} {rest : List Oper} {o : Oper} {a : Act} {Q : Exit → Act → World → Prop} (hgd : o.guard = none) (s x : Operand)
    (ho : o.op = .call { callee := .builtin .append, args := #[s, x], argTypes := #[34, 34] })
    (base : Nat) (A : Option Addr) (n c : Nat) (xs : List Pr) (hs : a.eval s = .slice A n c) (hown : OwnP w base A n c xs)
    (B : Nat) (ad : Addr) (m d : Nat) (ys : List Pr) (hx : a.eval x = .slice (some ad) m d) (hr : Spans w B (some ad) m ys) (hlen : n + m ≤ 4000000) (hbase : base ≤ w.heap.size)
    (h : ∀ A' c' w', OwnP w' base A' (n + m) c' (xs ++ ys) → w.grownBy w' (Value.slice A n c).ownBlock → wpList Try.prog ops Q rest (a.put o.dst (.slice A' (n + m) c')) w') :
    wpList Try.prog ops Q (o :: rest) a w := by
  obtain ⟨i, hi, hz, h1, h2⟩ := info_parts info_span
  refine wpList_append_own w hgd s x _ ho base 30 i _ 2 16 Try.underlying34 hi hz h1 h2 rfl (by omega) (.slice A n c) n _ hs hown ad m d (cel ys) hx (by rw [cel_length, hr.1]) (spans_cells hr) (cel_cell ys) (by unfold maxLen; omega) (by omega) hbase ?_
  intro v' w' hown' hg _
  rw [← cel_append] at hown'
  obtain ⟨A', c', rfl, hO⟩ := ownp_of_row hown'
  exact h A' c' w' hO hg
theorem wpListIn_appP {F : Fence} {k : Nat} (w : World) {ops : Array Oper} {rest : List Oper} {o : Oper} {a : Act} {Q : Exit → Act → World → Prop} (hgd : o.guard = none) (s x : Operand)
    (ho : o.op = .call { callee := .builtin .append, args := #[s, x], argTypes := #[34, 34] })
    (base : Nat) (A : Option Addr) (n c : Nat) (xs : List Pr) (hs : a.eval s = .slice A n c) (hown : OwnP w base A n c xs)
    (B : Nat) (ad : Addr) (m d : Nat) (ys : List Pr) (hx : a.eval x = .slice (some ad) m d) (hr : Spans w B (some ad) m ys) (hlen : n + m ≤ 4000000) (hbase : base ≤ w.heap.size)
    (h : ∀ A' c' w', OwnP w' base A' (n + m) c' (xs ++ ys) → w.grownBy w' (Value.slice A n c).ownBlock → wpListIn F k Try.prog ops Q rest (a.put o.dst (.slice A' (n + m) c')) w') :
    wpListIn F k Try.prog ops Q (o :: rest) a w := by
  obtain ⟨i, hi, hz, h1, h2⟩ := info_parts info_span
  refine wpListIn_append_own w hgd s x _ ho base 30 i _ 2 16 Try.underlying34 hi hz h1 h2 rfl (by omega) (.slice A n c) n _ hs hown ad m d (cel ys) hx (by rw [cel_length, hr.1]) (spans_cells hr) (cel_cell ys) (by unfold maxLen; omega) (by omega) hbase ?_
  intro v' w' hown' hg _
  rw [← cel_append] at hown'
  obtain ⟨A', c', rfl, hO⟩ := ownp_of_row hown'
  exact h A' c' w' hO hg

/-- The last span's second number turned. -/
theorem row_turn {w : World} {base g n c : Nat} {a : List Pr} {p q : Int} (z : Int) (h : OwnP w base (some ⟨g, 0, none⟩) n c (a ++ [(p, q)])) :
    OwnP (w.setCell ⟨g, a.length * 2 + 1, none⟩ (.int .i64 z)) base (some ⟨g, 0, none⟩) n c (a ++ [(p, z)]) := by
  have := (World.ownsRow.stored h (a.length * 2 + 1) (.int .i64 z)).1
  unfold OwnP
  rw [cel_append, cel_one] at this ⊢
  rw [List.set_append_right _ _ (by rw [cel_length]; omega)] at this
  rw [cel_length, show a.length * 2 + 1 - a.length * 2 = 1 by omega] at this
  simpa using this
theorem last_cells {w : World} {base n c : Nat} {A : Option Addr} {a : List Pr} {p q : Int} (h : OwnP w base A n c (a ++ [(p, q)])) :
    ∃ g, A = some ⟨g, 0, none⟩ ∧ base ≤ g ∧ w.cell? ⟨g, a.length * 2, none⟩ = some (.int .i64 p) ∧ w.cell? ⟨g, a.length * 2 + 1, none⟩ = some (.int .i64 q) ∧ w.frozen? ⟨g, a.length * 2 + 1, none⟩ = false := by
  have hl := h.len
  simp at hl
  rcases h.2 with ⟨e, h0⟩ | ⟨g, cap, cur, e, hb, hh, hnc, hm, hs, ht⟩
  · omega
  · injection e with e1 e2 e3
    subst e1
    have ea : ∀ i, (⟨g, 0, none⟩ : Addr).add i = ⟨g, i, none⟩ := fun i => by unfold Addr.add; split <;> simp_all
    have hx : (a ++ [(p, q)])[a.length]? = some (p, q) := by simp
    obtain ⟨c0, c1⟩ := cel_get hx
    have hc := World.ownsRow.cells (g := g) h rfl
    refine ⟨g, rfl, hb, ?_, ?_, by simp [World.frozen?, hh]⟩
    · rw [← ea]; exact hc _ _ c0
    · rw [← ea]; exact hc _ _ c1
theorem ko_appP {w w' : World} {base n c : Nat} {A : Option Addr} {xs : List Pr} (hO : OwnP w base A n c xs) (hg : w.grownBy w' (Value.slice A n c).ownBlock) : KeepsOthers w w' := by
  refine KeepsOthers.of_grownBy hg fun j o ej hj => ?_
  rcases hO.2 with ⟨e, _⟩ | ⟨g, cap, cur, e, _, hgb, _⟩
  · rw [e] at ej; cases ej
  · rw [e] at ej
    simp [Value.ownBlock] at ej
    subst ej
    rw [hgb] at hj; cases hj; rfl
theorem low_neP {w : World} {base n c b : Nat} {A : Option Addr} {xs : List Pr} (hO : OwnP w base A n c xs) (hb : b < base) : ∀ g, (Value.slice A n c).ownBlock = some g → g ≠ b := fun g e => by have := (hO.lt g e).1; omega

end Stp
end Go.Proofs.Ytjmbccdcnmmhgaa
