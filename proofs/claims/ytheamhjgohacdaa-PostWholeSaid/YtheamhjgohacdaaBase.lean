/-
  Rows of lines and of entries, boxes, slices.Clone of lines. Conditions: those of each theorem.
-/
import Derived.Test.YtheamhjgohacdaaRows
import Derived.Test.YtheamhjgohacdaaBk
import Derived.WalkKit
import Derived.WalkLawsBesides
import Derived.Lib.Hide
import Derived.Deep.QuietTactic
import Derived.BigQuiet
import Derived.Deep.DeepCutAuto
import Derived.Deep.CutBlock
import Derived.Deep.RegionHeld3
import Derived.WalkSmall
import Derived.IntWalk
import Derived.Below
import Derived.Lib.MinMax
import Derived.Lib.SliceRun
import Derived.Laws.AppendOwnNone
import Derived.OwnWalk
import Derived.Maps.AppendAt
import Derived.ArgAppend
namespace Go.Proofs.Ytheamhjgohacdaa
open Go.RowKit Bk
namespace Pst
set_option linter.unusedVariables false

/-- An entry by value; a book by value. -/
abbrev eg (d f : Int) (L : Option Addr) (m c : Nat) : Value := .agg #[.int .i64 d, .int .i64 f, .slice L m c]
abbrev bg (A : Option Addr) (n c : Nat) : Value := .agg #[.slice A n c]

theorem bcell {W w1 : World} (hb : Below W.heap.size W w1) : (∀ b o, b < W.heap.size → w1.cell? ⟨b, o, none⟩ = W.cell? ⟨b, o, none⟩) ∧ (∀ b o, b < W.heap.size → w1.frozen? ⟨b, o, none⟩ = W.frozen? ⟨b, o, none⟩) :=
  ⟨fun b o h => hb.cell (p := ⟨b, o, none⟩) h, fun b o h => hb.frozen (p := ⟨b, o, none⟩) h⟩
theorem add_block (a : Addr) (n : Nat) : (a.add n).block = a.block := by unfold Addr.add; split <;> rfl
theorem add_one (a : Addr) (i : Nat) : a.add (i + 1) = ⟨(a.add i).block, (a.add i).off + 1, none⟩ := by
  unfold Addr.add
  by_cases hi : i = 0 <;> simp [hi, Nat.add_assoc]
theorem add_two (a : Addr) (i : Nat) : a.add (i + 2) = ⟨(a.add i).block, (a.add i).off + 2, none⟩ := by
  unfold Addr.add
  by_cases hi : i = 0 <;> simp [hi, Nat.add_assoc]

/-- Block b is these cells of a struct. -/
def Bx (w : World) (b : Nat) (t : TypeId) (xs : Array Value) : Prop := w.heap[b]? = some (.cells xs t (0, 0))
section
variable {w w1 : World} {b B : Nat} {t : TypeId} {xs : Array Value}
theorem Bx.lt (h : Bx w b t xs) : b < w.heap.size := by
  rcases Nat.lt_or_ge b w.heap.size with hlt | hge
  · exact hlt
  · unfold Bx at h; rw [Array.getElem?_eq_none hge] at h; cases h
theorem Bx.c (h : Bx w b t xs) (o : Nat) : w.cell? ⟨b, o, none⟩ = xs[o]? := by rw [cell_of_row w b o _ _ _ h]
theorem Bx.f (h : Bx w b t xs) (o : Nat) : w.frozen? ⟨b, o, none⟩ = false := by unfold Bx at h; simp [World.frozen?, h]
theorem Bx.below (h : Bx w b t xs) (hb : Below B w w1) (hB : b < B) : Bx w1 b t xs := (hb.block b hB).trans h
theorem Bx.keep (h : Bx w b t xs) (hb : Below w.heap.size w w1) : Bx w1 b t xs := h.below hb h.lt
theorem Bx.alloc (h : Bx w b t xs) (o : Obj) : Bx (w.alloc o) b t xs := (Below.heap_alloc w o b h.lt).trans h
theorem Bx.new (w : World) (t : TypeId) (xs : Array Value) : Bx (w.alloc (.cells xs t)) w.heap.size t xs := heap_alloc_new w _
theorem Bx.set (h : Bx w b t xs) (o : Nat) (z : Value) : Bx (w.setCell ⟨b, o, none⟩ z) b t (xs.setIfInBounds o z) := by
  unfold Bx at h ⊢; rw [heap_setCell_same w b o _ _ _ h]
theorem Bx.far (h : Bx w b t xs) {a : Addr} (hp : b ≠ a.block) (u : Value) : Bx (w.setCell a u) b t xs := (Below.heap_setCell w a u b hp).trans h
end
theorem bx1 {w w1 : World} {t : TypeId} {xs : Array Value} (hb : Below (w.alloc (.cells xs t)).heap.size (w.alloc (.cells xs t)) w1) : Bx w1 w.heap.size t xs ∧ Below w.heap.size w w1 :=
  ⟨(Bx.new w t xs).keep hb, ((Below.refl _ _).alloc (Nat.le_refl _) _).trans (hb.mono (by simp))⟩
theorem alloc_ (w : World) (o : Obj) : Below w.heap.size w (w.alloc o) := (Below.refl _ _).alloc (Nat.le_refl _) _

/-- The slice with this address and length reads as these lines, in blocks that are asked for. -/
def Lns (w : World) (ok : Nat → Prop) (L : Option Addr) (m : Nat) (xs : List Pr) : Prop :=
  xs.length = m ∧ (0 < m → ∃ ad : Addr, L = some ad ∧ ok ad.block ∧ ∀ (j : Nat) (x : Pr), xs[j]? = some x → w.cell? (ad.add (j * 2)) = some (.int .i64 x.1) ∧ w.cell? (ad.add (j * 2 + 1)) = some (.int .i64 x.2))
section
variable {w w' : World} {ok ok' : Nat → Prop} {m : Nat} {L : Option Addr} {xs : List Pr}
theorem Lns.nil {L : Option Addr} : Lns w ok L 0 [] := ⟨rfl, fun h => absurd h (by omega)⟩
theorem Lns.get {k : Nat} (h : Lns w ok L m xs) (hk : k < m) : ∃ (ad : Addr) (x y : Int), L = some ad ∧ ok ad.block ∧ xs[k]? = some (x, y) ∧ w.cell? (ad.add (k * 2)) = some (.int .i64 x) ∧ w.cell? ⟨(ad.add (k * 2)).block, (ad.add (k * 2)).off + 1, none⟩ = some (.int .i64 y) := by
  obtain ⟨ad, e, hb, hc⟩ := h.2 (by omega)
  have hl : k < xs.length := by have := h.1; omega
  have := hc k _ (List.getElem?_eq_getElem hl)
  exact ⟨ad, xs[k].1, xs[k].2, e, hb, List.getElem?_eq_getElem hl, this.1, by rw [← add_one]; exact this.2⟩
theorem Lns.keep (h : Lns w ok L m xs) (hk : ∀ p : Addr, ok p.block → w'.cell? p = w.cell? p) (hw : ∀ b, ok b → ok' b) : Lns w' ok' L m xs :=
  ⟨h.1, fun hn => by
    obtain ⟨ad, e, hb, hc⟩ := h.2 hn
    exact ⟨ad, e, hw _ hb, fun j x hx => ⟨(hk _ (by rw [add_block]; exact hb)).trans (hc j x hx).1, (hk _ (by rw [add_block]; exact hb)).trans (hc j x hx).2⟩⟩⟩
theorem Lns.below (h : Lns w (· < w.heap.size) L m xs) (hb : Below w.heap.size w w') : Lns w' (· < w'.heap.size) L m xs := h.keep (fun _ hp => hb.cell hp) fun b h => Nat.lt_of_lt_of_le h hb.size
theorem Lns.noroom (h : Lns w ok none m xs) : m = 0 := by
  rcases Nat.eq_zero_or_pos m with h0 | h0
  · exact h0
  · obtain ⟨ad, e, _⟩ := h.2 h0; cases e
end

/-- An entry as it lies: its two numbers and its slice. -/
structure Rw where
  d : Int
  f : Int
  L : Option Addr
  m : Nat
  c : Nat
def cel (rs : List Rw) : List Value := rs.flatMap fun r => [.int .i64 r.d, .int .i64 r.f, .slice r.L r.m r.c]
theorem cel_append (xs ys : List Rw) : cel (xs ++ ys) = cel xs ++ cel ys := List.flatMap_append
theorem cel_one (r : Rw) : cel [r] = [.int .i64 r.d, .int .i64 r.f, .slice r.L r.m r.c] := rfl
theorem cel_length (xs : List Rw) : (cel xs).length = xs.length * 3 := by
  induction xs with
  | nil => rfl
  | cons x xs ih => rw [show x :: xs = [x] ++ xs from rfl, cel_append, List.length_append, ih, cel_one]; simp; omega
theorem cel_get {xs : List Rw} {j : Nat} {r : Rw} (h : xs[j]? = some r) : (cel xs)[j * 3]? = some (.int .i64 r.d) ∧ (cel xs)[j * 3 + 1]? = some (.int .i64 r.f) ∧ (cel xs)[j * 3 + 2]? = some (.slice r.L r.m r.c) := by
  induction xs generalizing j with
  | nil => simp at h
  | cons y ys ih =>
    rw [show y :: ys = [y] ++ ys from rfl, cel_append, cel_one]
    cases j with
    | zero => simp at h; subst h; simp
    | succ j =>
      simp at h
      obtain ⟨h1, h2, h3⟩ := ih h
      have e1 : (j + 1) * 3 = j * 3 + 3 := by omega
      rw [e1, List.getElem?_append_right (by simp), List.getElem?_append_right (by simp), List.getElem?_append_right (by simp)]
      exact ⟨by simpa using h1, by simpa using h2, by simpa using h3⟩
theorem cel_cell (xs : List Rw) : ∀ u ∈ cel xs, u.oneCell' = true := by
  intro u hu
  obtain ⟨x, _, hx⟩ := List.mem_flatMap.1 hu
  simp at hx
  rcases hx with rfl | rfl | rfl <;> rfl

/-- What lies means this entry. -/
structure Mean (w : World) (ok : Nat → Prop) (r : Rw) (e : En) : Prop where
  d : r.d = e.day
  f : r.f = e.fr
  l : Lns w ok r.L r.m e.ls
theorem Mean.keep {w w' : World} {ok ok' : Nat → Prop} {r : Rw} {e : En} (h : Mean w ok r e) (hk : ∀ p : Addr, ok p.block → w'.cell? p = w.cell? p) (hw : ∀ b, ok b → ok' b) : Mean w' ok' r e := ⟨h.d, h.f, h.l.keep hk hw⟩

/-- The slice with this address and length lies as these entries, in blocks that are asked for. -/
def Raws (w : World) (ok : Nat → Prop) (A : Option Addr) (n : Nat) (rs : List Rw) : Prop :=
  rs.length = n ∧ (0 < n → ∃ ad : Addr, A = some ad ∧ ok ad.block ∧ ∀ (j : Nat) (r : Rw), rs[j]? = some r → w.cell? (ad.add (j * 3)) = some (.int .i64 r.d) ∧ w.cell? (ad.add (j * 3 + 1)) = some (.int .i64 r.f) ∧ w.cell? (ad.add (j * 3 + 2)) = some (.slice r.L r.m r.c))
def Means (w : World) (ok : Nat → Prop) (rs : List Rw) (es : List En) : Prop := rs.length = es.length ∧ ∀ (j : Nat) (r : Rw) (e : En), rs[j]? = some r → es[j]? = some e → Mean w ok r e
/-- The slice reads as these entries, in blocks that are asked for. -/
def EntsP (w : World) (ok : Nat → Prop) (A : Option Addr) (n : Nat) (es : List En) : Prop := ∃ rs, Raws w ok A n rs ∧ Means w ok rs es
/-- The slice reads as these entries. -/
def Ents (w : World) (A : Option Addr) (n : Nat) (es : List En) : Prop := ∃ rs, Raws w (· < w.heap.size) A n rs ∧ Means w (· < w.heap.size) rs es
section
variable {w w' : World} {ok ok' : Nat → Prop} {n : Nat} {A : Option Addr} {rs : List Rw} {es : List En}
theorem Raws.keep (h : Raws w ok A n rs) (hk : ∀ p : Addr, ok p.block → w'.cell? p = w.cell? p) (hw : ∀ b, ok b → ok' b) : Raws w' ok' A n rs :=
  ⟨h.1, fun hn => by
    obtain ⟨ad, e, hb, hc⟩ := h.2 hn
    have q : ∀ j, w'.cell? (ad.add j) = w.cell? (ad.add j) := fun j => hk _ (by rw [add_block]; exact hb)
    exact ⟨ad, e, hw _ hb, fun j x hx => ⟨(q _).trans (hc j x hx).1, (q _).trans (hc j x hx).2.1, (q _).trans (hc j x hx).2.2⟩⟩⟩
theorem Means.keep (h : Means w ok rs es) (hk : ∀ p : Addr, ok p.block → w'.cell? p = w.cell? p) (hw : ∀ b, ok b → ok' b) : Means w' ok' rs es := ⟨h.1, fun j r e hr he => (h.2 j r e hr he).keep hk hw⟩
theorem EntsP.nil {A : Option Addr} : EntsP w ok A 0 [] := ⟨[], ⟨rfl, fun h => absurd h (by omega)⟩, rfl, fun j r e h => by simp at h⟩
theorem EntsP.keep (h : EntsP w ok A n es) (hk : ∀ p : Addr, ok p.block → w'.cell? p = w.cell? p) (hw : ∀ b, ok b → ok' b) : EntsP w' ok' A n es := by
  obtain ⟨rs, a, b⟩ := h
  exact ⟨rs, a.keep hk hw, b.keep hk hw⟩
theorem EntsP.ents (h : EntsP w ok A n es) (hw : ∀ b, ok b → b < w.heap.size) : Ents w A n es := h.keep (fun _ _ => rfl) hw
theorem Ents.nil {A : Option Addr} : Ents w A 0 [] := ⟨[], ⟨rfl, fun h => absurd h (by omega)⟩, rfl, fun j r e h => by simp at h⟩
theorem Ents.len (h : Ents w A n es) : es.length = n := by obtain ⟨rs, a, b⟩ := h; rw [← b.1]; exact a.1
theorem Ents.below (h : Ents w A n es) (hb : Below w.heap.size w w') : Ents w' A n es := by
  obtain ⟨rs, a, b⟩ := h
  exact ⟨rs, a.keep (fun _ hp => hb.cell hp) fun b h => Nat.lt_of_lt_of_le h hb.size, b.keep (fun _ hp => hb.cell hp) fun b h => Nat.lt_of_lt_of_le h hb.size⟩
theorem Ents.get {k : Nat} (h : Ents w A n es) (hk : k < n) : ∃ (ad : Addr) (d f : Int) (ls : List Pr) (L : Option Addr) (m c : Nat), A = some ad ∧ ad.block < w.heap.size ∧ es[k]? = some ⟨d, f, ls⟩ ∧ w.cell? (ad.add (k * 3)) = some (.int .i64 d) ∧ w.cell? ⟨(ad.add (k * 3)).block, (ad.add (k * 3)).off + 1, none⟩ = some (.int .i64 f) ∧ w.cell? ⟨(ad.add (k * 3)).block, (ad.add (k * 3)).off + 2, none⟩ = some (.slice L m c) ∧ Lns w (· < w.heap.size) L m ls := by
  obtain ⟨rs, a, b⟩ := h
  obtain ⟨ad, e, hb, hc⟩ := a.2 (by omega)
  have hl : k < rs.length := by have := a.1; omega
  have hl2 : k < es.length := by rw [← b.1]; exact hl
  obtain ⟨c0, c1, c2⟩ := hc k _ (List.getElem?_eq_getElem hl)
  have M := b.2 k _ _ (List.getElem?_eq_getElem hl) (List.getElem?_eq_getElem hl2)
  refine ⟨ad, es[k].day, es[k].fr, es[k].ls, rs[k].L, rs[k].m, rs[k].c, e, hb, List.getElem?_eq_getElem hl2, ?_, ?_, ?_, M.l⟩
  · rw [c0, M.d]
  · rw [← add_one, c1, M.f]
  · rw [← add_two, c2]
end

theorem grown_of_below {W W' : World} (h : Below W.heap.size W W') : W.grownBy W' none := ⟨h.os, h.tape, h.output, h.size, fun k hk _ => h.block k hk⟩
theorem below_of_grown {w w' : World} (h : w.grownBy w' none) : Below w.heap.size w w' := (Below.refl _ w).grown h (Nat.le_refl _) (fun k hk => by cases hk)

theorem info_line : (Try.prog.info? 52).map (fun i => (i.zero, i.size, i.bytes)) = some (some (.agg #[.int .i64 0, .int .i64 0]), 2, 16) := by kernel_rfl
theorem info_entry : (Try.prog.info? 24).map (fun i => (i.zero, i.size, i.bytes)) = some (some (.agg #[.int .i64 0, .int .i64 0, .slice none 0 0]), 3, 40) := by kernel_rfl

def cel2 (xs : List Pr) : List Value := xs.flatMap fun x => [.int .i64 x.1, .int .i64 x.2]
theorem cel2_append (xs ys : List Pr) : cel2 (xs ++ ys) = cel2 xs ++ cel2 ys := List.flatMap_append
theorem cel2_one (x : Pr) : cel2 [x] = [.int .i64 x.1, .int .i64 x.2] := rfl
theorem cel2_length (xs : List Pr) : (cel2 xs).length = xs.length * 2 := by
  induction xs with
  | nil => rfl
  | cons x xs ih => rw [show x :: xs = [x] ++ xs from rfl, cel2_append, List.length_append, ih, cel2_one]; simp; omega
theorem cel2_get {xs : List Pr} {j : Nat} {x : Pr} (h : xs[j]? = some x) : (cel2 xs)[j * 2]? = some (.int .i64 x.1) ∧ (cel2 xs)[j * 2 + 1]? = some (.int .i64 x.2) := by
  induction xs generalizing j with
  | nil => simp at h
  | cons y ys ih =>
    rw [show y :: ys = [y] ++ ys from rfl, cel2_append, cel2_one]
    cases j with
    | zero => simp at h; subst h; simp
    | succ j =>
      simp at h
      obtain ⟨h1, h2⟩ := ih h
      have e1 : (j + 1) * 2 = j * 2 + 2 := by omega
      rw [e1, List.getElem?_append_right (by simp), List.getElem?_append_right (by simp)]
      exact ⟨by simpa using h1, by simpa using h2⟩
theorem cel2_cell (xs : List Pr) : ∀ u ∈ cel2 xs, u.oneCell' = true := by
  intro u hu
  obtain ⟨x, _, hx⟩ := List.mem_flatMap.1 hu
  simp at hx
  rcases hx with rfl | rfl <;> rfl
theorem lns_cells {w : World} {ok : Nat → Prop} {ad : Addr} {m : Nat} {ys : List Pr} (h : Lns w ok (some ad) m ys) (j : Nat) (u : Value) (hu : (cel2 ys)[j]? = some u) : w.cell? (ad.add j) = some u := by
  have hl : j < ys.length * 2 := by rw [← cel2_length]; exact (List.getElem?_eq_some_iff.1 hu).1
  have hm : j / 2 < ys.length := by omega
  have hy : ys[j / 2]? = some ys[j / 2] := List.getElem?_eq_getElem hm
  obtain ⟨ad', e, _, hc⟩ := h.2 (by have := h.1; omega)
  injection e with e
  subst e
  obtain ⟨c0, c1⟩ := hc _ _ hy
  obtain ⟨g0, g1⟩ := cel2_get hy
  rcases (by omega : j = j / 2 * 2 ∨ j = j / 2 * 2 + 1) with hj | hj
  · rw [hj, g0] at hu
    rw [hj, c0]; exact hu
  · rw [hj, g1] at hu
    rw [hj, c1]; exact hu

/-- A row of the call's own reads as lines, in a block from base on. -/
theorem lns_own {w : World} {base n : Nat} {v : Value} {xs : List Pr} (h : w.ownsRow base 52 2 v n (cel2 xs)) : ∃ A c, v = .slice A n c ∧ Lns w (fun b => base ≤ b ∧ b < w.heap.size) A n xs := by
  have hl : xs.length = n := by have := h.1; rw [cel2_length] at this; omega
  rcases h.2 with ⟨rfl, hn⟩ | ⟨g, cap, cur, rfl, hb, hh, hnc, hm, hs, ht⟩
  · subst hn
    exact ⟨_, _, rfl, hl, fun h => absurd h (by omega)⟩
  · refine ⟨_, _, rfl, hl, fun _ => ⟨_, rfl, ⟨hb, ?_⟩, fun j x hx => ?_⟩⟩
    · rcases Nat.lt_or_ge g w.heap.size with hlt | hge
      · exact hlt
      · rw [Array.getElem?_eq_none hge] at hh; cases hh
    · exact ⟨World.ownsRow.cells (g := g) h rfl (j * 2) _ (cel2_get hx).1, World.ownsRow.cells (g := g) h rfl (j * 2 + 1) _ (cel2_get hx).2⟩

/-- A copy of lines in memory of the call's own. -/
def Copies (w : World) (m : Nat) (xs : List Pr) (e : Ending) (w' : World) : Prop := ∃ A c, e = .returned (.slice A m c) ∧ Lns w' (fun b => w.heap.size ≤ b ∧ b < w'.heap.size) A m xs ∧ Below w.heap.size w w'

set_option maxHeartbeats 1000000 in
theorem clone_ (L : Option Addr) (m c : Nat) (xs : List Pr) (ok : Nat → Prop) (w : World) (hS : Lns w ok L m xs) (hok : ∀ b, ok b → b < w.heap.size) (hn : m ≤ 1000) :
    Calls Try.prog 33 #[.slice L m c] w (Copies w m xs) := by
  cases L with
  | none =>
    obtain rfl : m = 0 := hS.noroom
    have hx : xs = [] := List.eq_nil_of_length_eq_zero hS.1
    subst hx
    clear hS
    have q : ∀ (w : World) (a : Option Addr) (n c n' c' : Nat), (binOp .eql 22 (.slice a n c) (.slice none n' c')).run Try.prog w = .ok (.bool a.isNone) w := fun w a n c n' c' => Lib.run_eql_slice_nil w _ _ a n c n' c' Try.underlying22
    go_enter Try.func33, Try.ntmps33
    go_wp2
    go_ret
    exact ⟨none, 0, rfl, Lns.nil, Below.refl _ _⟩
  | some ad =>
    have HS := Lib.hid hS
    have HK := Lib.hid hok
    obtain ⟨i, hi, hz, h1, h2⟩ := info_parts info_line
    have HI := Lib.hid hi
    have HZ := Lib.hid hz
    have H1 := Lib.hid h1
    have H2 := Lib.hid h2
    clear hS hok hi hz h1 h2
    have q : ∀ (w : World) (a : Option Addr) (n c n' c' : Nat), (binOp .eql 22 (.slice a n c) (.slice none n' c')).run Try.prog w = .ok (.bool a.isNone) w := fun w a n c n' c' => Lib.run_eql_slice_nil w _ _ a n c n' c' Try.underlying22
    go_enter Try.func33, Try.ntmps33
    go_wp2_with (at_builtin; refine wpList_append_own _ rfl (.tmp 5) (.tmp 6) _ rfl w.heap.size 52 i _ 2 16 Try.underlying22 HI.out HZ.out H1.out H2.out rfl (by omega) (.slice (some ⟨w.heap.size, 0, none⟩) 0 0) 0 [] rfl (World.ownsRow_made w #[] 0 (Nat.le_refl _) (Nat.zero_le _) (by simp)) ad m c (cel2 xs) rfl (by rw [cel2_length, HS.out.1]) (lns_cells (HS.out.keep (ok' := ok) (fun p hp => (alloc_ w _).cell (HK.out _ hp)) fun _ h => h)) (cel2_cell xs) (by unfold maxLen; omega) (by omega) (by simp) ?_; intro v2 w2 hO2 hg2 _; have HO2 := Lib.hid hO2; have HG2 := Lib.hid hg2; clear hO2 hg2)
    obtain ⟨A2, c2, rfl, hL⟩ := lns_own (xs := xs) (by have := HO2.out; rwa [List.nil_append] at this)
    have HL := Lib.hid hL
    clear hL
    go_wp2
    go_ret
    refine ⟨A2, c2, by rw [Nat.zero_add]; rfl, by have := HL.out; rwa [Nat.zero_add] at this, ((Below.refl _ _).alloc (Nat.le_refl _) _).grown HG2.out (by simp) (fun j hj => ?_)⟩
    simp [Value.ownBlock] at hj; omega

end Pst
end Go.Proofs.Ytheamhjgohacdaa
