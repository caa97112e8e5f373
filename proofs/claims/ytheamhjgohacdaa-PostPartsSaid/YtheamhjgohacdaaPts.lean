/-
  Rows of spans and of days, as the document's Parts needs them. Conditions: those of each theorem.
-/
import Derived.Test.YtheamhjgohacdaaOne
import Derived.Test.YtheamhjgohacdaaPt
import Derived.Laws.AppendOwnNone
import Derived.OwnWalk
import Derived.Maps.AppendAt
namespace Go.Proofs.Ytheamhjgohacdaa
open Go.RowKit Sp
namespace Spn
set_option linter.unusedVariables false

/-- Block b is a span's two numbers. -/
def Bx (w : World) (b : Nat) (x y : Int) : Prop := w.heap[b]? = some (.cells #[.int .i64 x, .int .i64 y] 32 (0, 0))
section
variable {w w1 : World} {b B : Nat} {x y p q r s : Int}
theorem Bx.lt (h : Bx w b x y) : b < w.heap.size := by
  rcases Nat.lt_or_ge b w.heap.size with hlt | hge
  · exact hlt
  · unfold Bx at h; rw [Array.getElem?_eq_none hge] at h; cases h
theorem Bx.c0 (h : Bx w b x y) : w.cell? ⟨b, 0, none⟩ = some (.int .i64 x) := by rw [cell_of_row w b 0 _ _ _ h]; rfl
theorem Bx.c1 (h : Bx w b x y) : w.cell? ⟨b, 1, none⟩ = some (.int .i64 y) := by rw [cell_of_row w b 1 _ _ _ h]; rfl
theorem Bx.f (h : Bx w b x y) (o : Nat) : w.frozen? ⟨b, o, none⟩ = false := by unfold Bx at h; simp [World.frozen?, h]
theorem Bx.below (h : Bx w b x y) (hb : Below B w w1) (hB : b < B) : Bx w1 b x y := (hb.block b hB).trans h
theorem Bx.keep (h : Bx w b x y) (hb : Below w.heap.size w w1) : Bx w1 b x y := h.below hb h.lt
theorem Bx.alloc (h : Bx w b x y) (o : Obj) : Bx (w.alloc o) b x y := (Below.heap_alloc w o b h.lt).trans h
theorem Bx.new (w : World) (x y : Int) : Bx (w.alloc (.cells #[.int .i64 x, .int .i64 y] 32)) w.heap.size x y := heap_alloc_new w _
theorem Bx.set0 (h : Bx w b x y) (z : Int) : Bx (w.setCell ⟨b, 0, none⟩ (.int .i64 z)) b z y := by
  unfold Bx at h ⊢; rw [heap_setCell_same w b 0 _ _ _ h]; rfl
theorem Bx.set1 (h : Bx w b x y) (z : Int) : Bx (w.setCell ⟨b, 1, none⟩ (.int .i64 z)) b x z := by
  unfold Bx at h ⊢; rw [heap_setCell_same w b 1 _ _ _ h]; rfl
theorem Bx.far (h : Bx w b x y) {a : Addr} (hp : b ≠ a.block) (u : Value) : Bx (w.setCell a u) b x y := (Below.heap_setCell w a u b hp).trans h
theorem bx1 (hb : Below (w.alloc (.cells #[.int .i64 x, .int .i64 y] 32)).heap.size (w.alloc (.cells #[.int .i64 x, .int .i64 y] 32)) w1) :
    Bx w1 w.heap.size x y ∧ Below w.heap.size w w1 :=
  ⟨(Bx.new w x y).keep hb, ((Below.refl _ _).alloc (Nat.le_refl _) _).trans (hb.mono (by simp))⟩
end

theorem add_block (a : Addr) (n : Nat) : (a.add n).block = a.block := by unfold Addr.add; split <;> rfl
theorem add_add (a : Addr) (i j : Nat) : (a.add i).add j = a.add (i + j) := by
  unfold Addr.add
  by_cases hi : i = 0 <;> by_cases hj : j = 0 <;> simp [hi, hj, Nat.add_assoc]

theorem add_one (a : Addr) (i : Nat) : a.add (i + 1) = ⟨(a.add i).block, (a.add i).off + 1, none⟩ := by
  unfold Addr.add
  by_cases hi : i = 0 <;> simp [hi, Nat.add_assoc]

/-- The slice with this address and length reads as this list of spans, in blocks below B. -/
def Spans (w : World) (B : Nat) (A : Option Addr) (n : Nat) (xs : List Sp) : Prop :=
  xs.length = n ∧ (0 < n → ∃ ad : Addr, A = some ad ∧ ad.block < B ∧ ∀ (j : Nat) (x : Sp), xs[j]? = some x → w.cell? (ad.add (j * 2)) = some (.int .i64 x.1) ∧ w.cell? (ad.add (j * 2 + 1)) = some (.int .i64 x.2))

section
variable {w w' : World} {B n : Nat} {A : Option Addr} {xs : List Sp}
theorem Spans.nil {A : Option Addr} : Spans w B A 0 [] := ⟨rfl, fun h => absurd h (by omega)⟩
theorem Spans.get {k : Nat} (h : Spans w B A n xs) (hk : k < n) : ∃ (ad : Addr) (x y : Int), A = some ad ∧ ad.block < B ∧ xs[k]? = some (x, y) ∧ w.cell? (ad.add (k * 2)) = some (.int .i64 x) ∧ w.cell? ⟨(ad.add (k * 2)).block, (ad.add (k * 2)).off + 1, none⟩ = some (.int .i64 y) := by
  obtain ⟨ad, e, hb, hc⟩ := h.2 (by omega)
  have hl : k < xs.length := by have := h.1; omega
  have := hc k _ (List.getElem?_eq_getElem hl)
  exact ⟨ad, xs[k].1, xs[k].2, e, hb, List.getElem?_eq_getElem hl, this.1, by rw [← add_one]; exact this.2⟩
theorem Spans.keep (h : Spans w B A n xs) (hk : ∀ p : Addr, p.block < B → w'.cell? p = w.cell? p) : Spans w' B A n xs :=
  ⟨h.1, fun hn => by
    obtain ⟨ad, e, hb, hc⟩ := h.2 hn
    exact ⟨ad, e, hb, fun j x hx => ⟨(hk _ (by rw [add_block]; exact hb)).trans (hc j x hx).1, (hk _ (by rw [add_block]; exact hb)).trans (hc j x hx).2⟩⟩⟩
theorem Spans.below {C : Nat} (h : Spans w B A n xs) (hb : Below C w w') (hC : B ≤ C) : Spans w' B A n xs := h.keep fun _ hp => hb.cell (Nat.lt_of_lt_of_le hp hC)
theorem Spans.wide {C : Nat} (h : Spans w B A n xs) (hC : B ≤ C) : Spans w C A n xs :=
  ⟨h.1, fun hn => by
    obtain ⟨ad, e, hb, hc⟩ := h.2 hn
    exact ⟨ad, e, Nat.lt_of_lt_of_le hb hC, hc⟩⟩
end

theorem grown_of_below {W W' : World} (h : Below W.heap.size W W') : W.grownBy W' none := ⟨h.os, h.tape, h.output, h.size, fun k hk _ => h.block k hk⟩

/-- A row's cells, one behind the other. -/
def cel (xs : List Sp) : List Value := xs.flatMap fun x => [.int .i64 x.1, .int .i64 x.2]
theorem cel_nil : cel [] = [] := rfl
theorem cel_append (xs ys : List Sp) : cel (xs ++ ys) = cel xs ++ cel ys := List.flatMap_append
theorem cel_one (x : Sp) : cel [x] = [.int .i64 x.1, .int .i64 x.2] := rfl
theorem cel_length (xs : List Sp) : (cel xs).length = xs.length * 2 := by
  induction xs with
  | nil => rfl
  | cons x xs ih => rw [show x :: xs = [x] ++ xs from rfl, cel_append, List.length_append, ih, cel_one]; simp; omega
theorem cel_get {xs : List Sp} {j : Nat} {x : Sp} (h : xs[j]? = some x) : (cel xs)[j * 2]? = some (.int .i64 x.1) ∧ (cel xs)[j * 2 + 1]? = some (.int .i64 x.2) := by
  induction xs generalizing j with
  | nil => simp at h
  | cons y ys ih =>
    rw [show y :: ys = [y] ++ ys from rfl, cel_append, cel_one]
    cases j with
    | zero => simp at h; subst h; simp
    | succ j =>
      simp at h
      obtain ⟨h1, h2⟩ := ih h
      have e1 : (j + 1) * 2 = j * 2 + 2 := by omega
      rw [e1, List.getElem?_append_right (by simp), List.getElem?_append_right (by simp)]
      exact ⟨by simpa using h1, by simpa using h2⟩
theorem cel_cell (xs : List Sp) : ∀ u ∈ cel xs, u.oneCell' = true := by
  intro u hu
  obtain ⟨x, _, hx⟩ := List.mem_flatMap.1 hu
  simp at hx
  rcases hx with rfl | rfl <;> rfl

/-- A row of the call's own, that reads as these spans. -/
def Own (w : World) (base : Nat) (A : Option Addr) (n c : Nat) (xs : List Sp) : Prop := w.ownsRow base 32 2 (.slice A n c) n (cel xs)
section
variable {w w' : World} {base n c : Nat} {A : Option Addr} {xs : List Sp}
theorem Own.nil : Own w base none 0 0 [] := World.ownsRow_nil w base _ 2
theorem Own.len (h : Own w base A n c xs) : xs.length = n := by have := h.1; rw [cel_length] at this; omega
theorem Own.spans (h : Own w base A n c xs) : Spans w w.heap.size A n xs ∧ n ≤ c := by
  rcases h.2 with ⟨e, hn⟩ | ⟨g, cap, cur, e, hb, hh, hnc, hm, hs, ht⟩
  · injection e with e1 e2 e3
    subst hn
    have hl := h.len
    exact ⟨⟨hl, fun h => absurd h (by omega)⟩, by omega⟩
  · injection e with e1 e2 e3
    subst e1 e3
    refine ⟨⟨h.len, fun _ => ⟨_, rfl, ?_, fun j x hx => ?_⟩⟩, hnc⟩
    · rcases Nat.lt_or_ge g w.heap.size with hlt | hge
      · exact hlt
      · rw [Array.getElem?_eq_none hge] at hh; cases hh
    · exact ⟨World.ownsRow.cells (g := g) h rfl (j * 2) _ (cel_get hx).1, World.ownsRow.cells (g := g) h rfl (j * 2 + 1) _ (cel_get hx).2⟩
theorem Own.lt (h : Own w base A n c xs) : ∀ k, (Value.slice A n c).ownBlock = some k → base ≤ k ∧ k < w.heap.size := World.ownsRow.lt h
theorem Own.alloc (h : Own w base A n c xs) (o : Obj) : Own (w.alloc o) base A n c xs := World.ownsRow.alloc h o
theorem Own.grown {row : Option Nat} (h : Own w base A n c xs) (hg : w.grownBy w' row) (hne : (Value.slice A n c).ownBlock = none ∨ (Value.slice A n c).ownBlock ≠ row) : Own w' base A n c xs := World.ownsRow.kept h hg hne
theorem Own.below (h : Own w base A n c xs) (hb : Below w.heap.size w w') : Own w' base A n c xs := by
  refine World.ownsRow.kept h (grown_of_below hb) ?_
  cases A with
  | none => exact .inl rfl
  | some a => exact .inr (by simp [Value.ownBlock])
end

/-- What a call gives that makes a row. -/
def Gives (w : World) (zs : List Sp) (e : Ending) (w' : World) : Prop := ∃ A k c, e = .returned (.slice A k c) ∧ Spans w' w'.heap.size A k zs ∧ k ≤ c ∧ Below w.heap.size w w'

theorem info_span : (Try.prog.info? 32).map (fun i => (i.zero, i.size, i.bytes)) = some (some (.agg #[.int .i64 0, .int .i64 0]), 2, 16) := by kernel_rfl

theorem new_cells (w : World) (x y : Int) (j : Nat) (u : Value) (h : [Value.int .i64 x, .int .i64 y][j]? = some u) : (w.alloc (.cells #[.int .i64 x, .int .i64 y] 32)).cell? ((⟨w.heap.size, 0, none⟩ : Addr).add j) = some u := by
  have X := Bx.new w x y
  match j, h with
  | 0, h => simp at h; subst h; exact X.c0
  | 1, h => simp at h; subst h; exact X.c1
  | j + 2, h => simp at h

theorem own_of_row {w : World} {base k : Nat} {v : Value} {xs : List Sp} (h : w.ownsRow base 32 2 v k (cel xs)) : ∃ A c, v = .slice A k c ∧ Own w base A k c xs := by
  rcases h.2 with ⟨rfl, hn⟩ | ⟨g, cap, cur, rfl, hr⟩
  · subst hn; exact ⟨_, _, rfl, h⟩
  · exact ⟨_, _, rfl, h⟩

theorem spans_new1 (w : World) (x y : Int) : Spans (w.alloc (.cells #[.int .i64 x, .int .i64 y] 32)) (w.alloc (.cells #[.int .i64 x, .int .i64 y] 32)).heap.size (some ⟨w.heap.size, 0, none⟩) 1 [(x, y)] := by
  refine ⟨rfl, fun _ => ⟨_, rfl, by simp, fun j z hz => ?_⟩⟩
  have X := Bx.new w x y
  match j, hz with
  | 0, hz => simp at hz; subst hz; exact ⟨X.c0, X.c1⟩
theorem spans_new (w : World) (xs : List Sp) (cs : Array Value) (e : cs.toList = cel xs) : Spans (w.alloc (.cells cs 32)) (w.alloc (.cells cs 32)).heap.size (some ⟨w.heap.size, 0, none⟩) xs.length xs := by
  refine ⟨rfl, fun _ => ⟨_, rfl, by simp, fun j z hz => ?_⟩⟩
  have hh : (w.alloc (.cells cs 32)).heap[w.heap.size]? = some (.cells cs 32 (0, 0)) := heap_alloc_new w _
  have c : ∀ i, (w.alloc (.cells cs 32)).cell? ((⟨w.heap.size, 0, none⟩ : Addr).add i) = (cel xs)[i]? := by
    intro i
    have ea : (⟨w.heap.size, 0, none⟩ : Addr).add i = ⟨w.heap.size, i, none⟩ := by unfold Addr.add; split <;> simp_all
    rw [ea, cell_of_row _ _ i _ _ _ hh, ← e]; simp
  rw [c, c]
  exact cel_get hz

/-- The cells of a row, by their place. -/
theorem spans_cells {w : World} {B : Nat} {ad : Addr} {m : Nat} {ys : List Sp} (h : Spans w B (some ad) m ys) (j : Nat) (u : Value) (hu : (cel ys)[j]? = some u) : w.cell? (ad.add j) = some u := by
  have hl : j < ys.length * 2 := by rw [← cel_length]; exact (List.getElem?_eq_some_iff.1 hu).1
  have hm : j / 2 < ys.length := by omega
  have hy : ys[j / 2]? = some ys[j / 2] := List.getElem?_eq_getElem hm
  obtain ⟨ad', e, _, hc⟩ := h.2 (by have := h.1; omega)
  injection e with e
  subst e
  obtain ⟨c0, c1⟩ := hc _ _ hy
  obtain ⟨g0, g1⟩ := cel_get hy
  rcases (by omega : j = j / 2 * 2 ∨ j = j / 2 * 2 + 1) with hj | hj
  · rw [hj, g0] at hu
    rw [hj, c0]; exact hu
  · rw [hj, g1] at hu
    rw [hj, c1]; exact hu

theorem wpList_app (w : World) {ops : Array Oper} {rest : List Oper} {o : Oper} {a : Act} {Q : Exit → Act → World → Prop} (hgd : o.guard = none) (s x : Operand)
    (ho : o.op = .call { callee := .builtin .append, args := #[s, x], argTypes := #[48, 48] })
    (base : Nat) (A : Option Addr) (n c : Nat) (xs : List Sp) (hs : a.eval s = .slice A n c) (hown : Own w base A n c xs)
    (B : Nat) (C : Option Addr) (m d : Nat) (ys : List Sp) (hx : a.eval x = .slice C m d) (hr : Spans w B C m ys) (hnil : C = none → m = 0 ∧ d = 0) (hlen : n + m ≤ 4000000) (hbase : base ≤ w.heap.size)
    (h : ∀ A' c' w', Own w' base A' (n + m) c' (xs ++ ys) → w.grownBy w' (Value.slice A n c).ownBlock → wpList Try.prog ops Q rest (a.put o.dst (.slice A' (n + m) c')) w') :
    wpList Try.prog ops Q (o :: rest) a w := by
  obtain ⟨i, hi, hz, h1, h2⟩ := info_parts info_span
  cases C with
  | none =>
    obtain ⟨rfl, rfl⟩ := hnil rfl
    have hy : ys = [] := List.eq_nil_of_length_eq_zero hr.1
    subst hy
    refine wpList_append_own_none hgd s x _ ho base 32 i 2 Try.underlying48 hi (.slice A n c) n _ hs hown hx ?_
    have hh := h A c w (by simpa [Own] using hown) (World.grownBy.refl w _)
    simpa using hh
  | some ad =>
    refine wpList_append_own w hgd s x _ ho base 32 i _ 2 16 Try.underlying48 hi hz h1 h2 rfl (by omega) (.slice A n c) n _ hs hown ad m d (cel ys) hx (by rw [cel_length, hr.1]) (spans_cells hr) (cel_cell ys) (by unfold maxLen; omega) (by omega) hbase ?_
    intro v' w' hown' hg _
    rw [← cel_append] at hown'
    obtain ⟨A', c', rfl, hO⟩ := own_of_row hown'
    exact h A' c' w' hO hg

theorem grown_below {w w' : World} {B : Nat} {row : Option Nat} (hg : w.grownBy w' row) (hB : B ≤ w.heap.size) (hr : ∀ k, row = some k → B ≤ k) : Below B w w' := (Below.refl B w).grown hg hB hr

/-- The slice with this address and length reads as this list of ints, in blocks below B. -/
def Ints (w : World) (B : Nat) (A : Option Addr) (n : Nat) (xs : List Int) : Prop :=
  xs.length = n ∧ (0 < n → ∃ ad : Addr, A = some ad ∧ ad.block < B ∧ ∀ (j : Nat) (x : Int), xs[j]? = some x → w.cell? (ad.add j) = some (.int .i64 x))

section
variable {w w' : World} {B n : Nat} {A : Option Addr} {xs : List Int}
theorem Ints.nil {A : Option Addr} : Ints w B A 0 [] := ⟨rfl, fun h => absurd h (by omega)⟩
theorem Ints.get {k : Nat} (h : Ints w B A n xs) (hk : k < n) : ∃ (ad : Addr) (x : Int), A = some ad ∧ ad.block < B ∧ xs[k]? = some x ∧ w.cell? (ad.add k) = some (.int .i64 x) := by
  obtain ⟨ad, e, hb, hc⟩ := h.2 (by omega)
  have hl : k < xs.length := by have := h.1; omega
  exact ⟨ad, xs[k], e, hb, List.getElem?_eq_getElem hl, hc k _ (List.getElem?_eq_getElem hl)⟩
theorem Ints.keep (h : Ints w B A n xs) (hk : ∀ p : Addr, p.block < B → w'.cell? p = w.cell? p) : Ints w' B A n xs :=
  ⟨h.1, fun hn => by
    obtain ⟨ad, e, hb, hc⟩ := h.2 hn
    exact ⟨ad, e, hb, fun j x hx => (hk _ (by rw [add_block]; exact hb)).trans (hc j x hx)⟩⟩
theorem Ints.below {C : Nat} (h : Ints w B A n xs) (hb : Below C w w') (hC : B ≤ C) : Ints w' B A n xs := h.keep fun _ hp => hb.cell (Nat.lt_of_lt_of_le hp hC)
theorem Ints.wide {C : Nat} (h : Ints w B A n xs) (hC : B ≤ C) : Ints w C A n xs :=
  ⟨h.1, fun hn => by
    obtain ⟨ad, e, hb, hc⟩ := h.2 hn
    exact ⟨ad, e, Nat.lt_of_lt_of_le hb hC, hc⟩⟩
end

/-- What Parts gives. -/
def PartsTo (w : World) (s : Sp) (ds : List Int) (e : Ending) (w' : World) : Prop := ∃ zs, Parted s ds zs ∧ Gives w zs e w'

theorem takeI_more {xs : List Int} {k : Nat} {x : Int} (h : xs[k]? = some x) : xs.take (k + 1) = xs.take k ++ [x] := by
  obtain ⟨hl, e⟩ := List.getElem?_eq_some_iff.1 h
  rw [List.take_succ_eq_append_getElem hl, e]

end Spn
end Go.Proofs.Ytheamhjgohacdaa
