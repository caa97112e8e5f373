/-
  Boxes, and rows of bills. Conditions: those of each theorem.
-/
import Derived.Test.YtncndofhecdgnaaDoorRows
import Derived.Test.YtncndofhecdgnaaDoorBd
import Derived.WalkKit
import Derived.WalkLawsBesides
import Derived.Lib.Hide
import Derived.Deep.QuietTactic
import Derived.BigQuiet
import Derived.Deep.DeepCutAuto
import Derived.Deep.CutBlock
import Derived.Deep.RegionHeld3
import Derived.WalkSmall
import Derived.IntWalk
import Derived.Below
import Derived.Lib.SliceRun
import Derived.Laws.AppendOwnNone
import Derived.OwnWalk
import Derived.Maps.AppendAt
import Derived.ArgAppend
import Derived.Deep.AppendLies
import Derived.Laws.EntriesVeiled
import Derived.Defers
import Derived.StillTailTactics
import Derived.Deep.SlicePairs
import Derived.Maps.OwnSet
namespace Go.Proofs.YtncndofhecdgnaaDoor
open Go.RowKit
namespace Bil
set_option linter.unusedVariables false

theorem bcell {W w1 : World} (hb : Below W.heap.size W w1) : (∀ b o, b < W.heap.size → w1.cell? ⟨b, o, none⟩ = W.cell? ⟨b, o, none⟩) ∧ (∀ b o, b < W.heap.size → w1.frozen? ⟨b, o, none⟩ = W.frozen? ⟨b, o, none⟩) :=
  ⟨fun b o h => hb.cell (p := ⟨b, o, none⟩) h, fun b o h => hb.frozen (p := ⟨b, o, none⟩) h⟩
theorem add_block (a : Addr) (n : Nat) : (a.add n).block = a.block := by unfold Addr.add; split <;> rfl
theorem add_one (a : Addr) (i : Nat) : a.add (i + 1) = ⟨(a.add i).block, (a.add i).off + 1, none⟩ := by
  unfold Addr.add
  by_cases hi : i = 0 <;> simp [hi, Nat.add_assoc]
theorem add_two (a : Addr) (i : Nat) : a.add (i + 2) = ⟨(a.add i).block, (a.add i).off + 2, none⟩ := by
  unfold Addr.add
  by_cases hi : i = 0 <;> simp [hi, Nat.add_assoc]

/-- Block b is these cells of a struct. -/
def Bx (w : World) (b : Nat) (t : TypeId) (xs : Array Value) : Prop := w.heap[b]? = some (.cells xs t (0, 0))
section
variable {w w1 : World} {b B : Nat} {t : TypeId} {xs : Array Value}
theorem Bx.lt (h : Bx w b t xs) : b < w.heap.size := by
  rcases Nat.lt_or_ge b w.heap.size with hlt | hge
  · exact hlt
  · unfold Bx at h; rw [Array.getElem?_eq_none hge] at h; cases h
theorem Bx.c (h : Bx w b t xs) (o : Nat) : w.cell? ⟨b, o, none⟩ = xs[o]? := by rw [cell_of_row w b o _ _ _ h]
theorem Bx.f (h : Bx w b t xs) (o : Nat) : w.frozen? ⟨b, o, none⟩ = false := by unfold Bx at h; simp [World.frozen?, h]
theorem Bx.below (h : Bx w b t xs) (hb : Below B w w1) (hB : b < B) : Bx w1 b t xs := (hb.block b hB).trans h
theorem Bx.keep (h : Bx w b t xs) (hb : Below w.heap.size w w1) : Bx w1 b t xs := h.below hb h.lt
theorem Bx.alloc (h : Bx w b t xs) (o : Obj) : Bx (w.alloc o) b t xs := (Below.heap_alloc w o b h.lt).trans h
theorem Bx.new (w : World) (t : TypeId) (xs : Array Value) : Bx (w.alloc (.cells xs t)) w.heap.size t xs := heap_alloc_new w _
theorem Bx.set (h : Bx w b t xs) (o : Nat) (z : Value) : Bx (w.setCell ⟨b, o, none⟩ z) b t (xs.setIfInBounds o z) := by
  unfold Bx at h ⊢; rw [heap_setCell_same w b o _ _ _ h]
theorem Bx.far (h : Bx w b t xs) {a : Addr} (hp : b ≠ a.block) (u : Value) : Bx (w.setCell a u) b t xs := (Below.heap_setCell w a u b hp).trans h
end
theorem bx1 {w w1 : World} {t : TypeId} {xs : Array Value} (hb : Below (w.alloc (.cells xs t)).heap.size (w.alloc (.cells xs t)) w1) : Bx w1 w.heap.size t xs ∧ Below w.heap.size w w1 :=
  ⟨(Bx.new w t xs).keep hb, ((Below.refl _ _).alloc (Nat.le_refl _) _).trans (hb.mono (by simp))⟩
theorem alloc_ (w : World) (o : Obj) : Below w.heap.size w (w.alloc o) := (Below.refl _ _).alloc (Nat.le_refl _) _

theorem add_more (a : Addr) (i k : Nat) : a.add (i + (k + 1)) = ⟨(a.add i).block, (a.add i).off + (k + 1), none⟩ := by
  unfold Addr.add
  by_cases hi : i = 0 <;> simp [hi, Nat.add_assoc]

theorem grown_of_below {W W' : World} (h : Below W.heap.size W W') : W.grownBy W' none := ⟨h.os, h.tape, h.output, h.size, fun k hk _ => h.block k hk⟩
theorem below_of_grown {w w' : World} (h : w.grownBy w' none) : Below w.heap.size w w' := (Below.refl _ w).grown h (Nat.le_refl _) (fun k hk => by cases hk)

abbrev Yes (w : World) (b : Bool) (e : Ending) (w' : World) : Prop := e = .returned (.bool b) ∧ Below w.heap.size w w'
theorem below_drewN {B : Nat} {w w' : World} (h : Below B w w') (n : Nat) : Below B w (w'.drewN n) := ⟨h.os, h.tape, h.output, h.size, h.block⟩
theorem below_alloc {w w' : World} {o : Obj} (h : Below (w.alloc o).heap.size (w.alloc o) w') : Below w.heap.size w w' := (alloc_ w o).trans (h.mono (by simp))
theorem undrew {w w' : World} (h : Below w.drew.heap.size w.drew w') : Below w.heap.size w w' := ⟨h.os, h.tape, h.output, h.size, h.block⟩

/-- A world in which all that lay in w lies as it lay. -/
structure Ext (w : World) where
  W : World
  b : Below w.heap.size w W
theorem quietE {P : Program} {id : Nat} {Q : Exit → Act → World → Prop} {a : Act} {w : World} {l : List Oper} (hm : P.follows .mixedOrders = true) (hB : Region.lexB .any l.toArray = true)
    (h : wpQuiet P l.toArray (fun w' => ∃ p : Ext w, w' = p.W) (fun a' => ∀ w', (∃ p : Ext w, w' = p.W) → Q .normal a' w') l a) : (Code.region id l.toArray true).wp P Q a w :=
  wp_region_quiet (C := fun w' => ∃ p : Ext w, w' = p.W) hm hB ⟨⟨{ w with drawn := w.drawn + 1 }, ⟨rfl, rfl, rfl, Nat.le_refl _, fun _ _ => rfl⟩⟩, rfl⟩ (by simpa using h)
theorem ext_of {P : Program} {f : FuncId} {args : Array Value} {w : World} {p : Ext w} {v : Value} (h : Calls P f args p.W fun e w' => e = .returned v ∧ Below p.W.heap.size p.W w') :
    Calls P f args p.W fun e w'' => e = .returned v ∧ ∃ q : Ext w, w'' = q.W := h.mono fun _ _ ⟨he, hb⟩ => ⟨he, ⟨_, p.b.trans (hb.mono p.b.size)⟩, rfl⟩
theorem Bx.ext {w : World} {b : Nat} {t : TypeId} {xs : Array Value} (h : Bx w b t xs) (p : Ext w) (o : Nat) : p.W.cell? ⟨b, o, none⟩ = xs[o]? := (h.keep p.b).c o

/-- A bill by value, and its cells. -/
abbrev bc (b : Bi) : Array Value := #[.int .i64 b.d, .int .i64 b.a, .int .i64 b.p]
abbrev bg (b : Bi) : Value := .agg (bc b)
abbrev zc : Array Value := #[.int .i64 0, .int .i64 0, .int .i64 0]
def cl (b : Bi) : List Value := [.int .i64 b.d, .int .i64 b.a, .int .i64 b.p]
def cel (l : List Bi) : List Value := l.flatMap cl
theorem cel_append (xs ys : List Bi) : cel (xs ++ ys) = cel xs ++ cel ys := List.flatMap_append
theorem cel_one (b : Bi) : cel [b] = cl b := by simp [cel]
theorem cel_length (xs : List Bi) : (cel xs).length = xs.length * 3 := by
  induction xs with
  | nil => rfl
  | cons x xs ih => rw [show x :: xs = [x] ++ xs from rfl, cel_append, List.length_append, ih, cel_one]; simp [cl]; omega
theorem cel_get {xs : List Bi} {j : Nat} {r : Bi} (h : xs[j]? = some r) {o : Nat} (ho : o < 3) : (cel xs)[j * 3 + o]? = (cl r)[o]? := by
  induction xs generalizing j with
  | nil => simp at h
  | cons y ys ih =>
    have hl : (cl y).length = 3 := rfl
    rw [show y :: ys = [y] ++ ys from rfl, cel_append, cel_one]
    cases j with
    | zero => simp at h; subst h; rw [Nat.zero_mul, Nat.zero_add, List.getElem?_append_left (by omega)]
    | succ j =>
      simp at h
      rw [List.getElem?_append_right (by omega), hl, show (j + 1) * 3 + o - 3 = j * 3 + o by omega]
      exact ih h
theorem cel_cell (xs : List Bi) : ∀ u ∈ cel xs, u.oneCell' = true := by
  intro u hu
  obtain ⟨x, _, hx⟩ := List.mem_flatMap.1 hu
  simp [cl] at hx
  rcases hx with rfl | rfl | rfl <;> rfl

/-- Three cells from an address on. -/
structure Thr (w : World) (a : Addr) (b : Bi) : Prop where
  c0 : w.cell? a = some (.int .i64 b.d)
  c1 : w.cell? ⟨a.block, a.off + 1, none⟩ = some (.int .i64 b.a)
  c2 : w.cell? ⟨a.block, a.off + 2, none⟩ = some (.int .i64 b.p)
theorem Thr.keep {w w' : World} {a : Addr} {r : Bi} (h : Thr w a r) (hk : ∀ p : Addr, p.block = a.block → w'.cell? p = w.cell? p) : Thr w' a r :=
  ⟨(hk _ rfl).trans h.c0, (hk ⟨a.block, a.off + 1, none⟩ rfl).trans h.c1, (hk ⟨a.block, a.off + 2, none⟩ rfl).trans h.c2⟩
theorem thr_of {w : World} {a : Addr} {r : Bi} {j : Nat} (h : ∀ (o : Nat) (u : Value), (cl r)[o]? = some u → w.cell? (a.add (j + o)) = some u) : Thr w (a.add j) r :=
  ⟨h 0 _ rfl, by rw [← add_more a j 0]; exact h 1 _ rfl, by rw [← add_more a j 1]; exact h 2 _ rfl⟩
theorem thr_back {w : World} {a : Addr} {r : Bi} {j : Nat} (h : Thr w (a.add j) r) : ∀ (o : Nat) (u : Value), (cl r)[o]? = some u → w.cell? (a.add (j + o)) = some u := by
  intro o u hu
  match o, hu with
  | 0, hu => injection hu with hu; subst hu; exact h.c0
  | 1, hu => injection hu with hu; subst hu; rw [add_more a j 0]; exact h.c1
  | 2, hu => injection hu with hu; subst hu; rw [add_more a j 1]; exact h.c2
/-- The slice with this address and length reads as these bills, in blocks that are asked for. -/
def Raws (w : World) (ok : Nat → Prop) (A : Option Addr) (n : Nat) (l : List Bi) : Prop :=
  l.length = n ∧ (0 < n → ∃ ad : Addr, A = some ad ∧ ok ad.block ∧ ∀ (j : Nat) (b : Bi), l[j]? = some b → Thr w (ad.add (j * 3)) b)
section
variable {w w' : World} {ok ok' : Nat → Prop} {n : Nat} {A : Option Addr} {rs : List Bi}
theorem Raws.nil {A : Option Addr} : Raws w ok A 0 [] := ⟨rfl, fun h => absurd h (by omega)⟩
theorem Raws.keep (h : Raws w ok A n rs) (hk : ∀ p : Addr, ok p.block → w'.cell? p = w.cell? p) (hw : ∀ b, ok b → ok' b) : Raws w' ok' A n rs :=
  ⟨h.1, fun hn => by
    obtain ⟨ad, e, hb, hc⟩ := h.2 hn
    exact ⟨ad, e, hw _ hb, fun j x hx => (hc j x hx).keep fun p hp => hk p (by rw [hp, add_block]; exact hb)⟩⟩
theorem Raws.below (h : Raws w (· < w.heap.size) A n rs) (hb : Below w.heap.size w w') : Raws w' (· < w'.heap.size) A n rs := h.keep (fun _ hp => hb.cell hp) fun b h => Nat.lt_of_lt_of_le h hb.size
theorem Raws.get {k : Nat} (h : Raws w ok A n rs) (hk : k < n) : ∃ (ad : Addr) (r : Bi), A = some ad ∧ ok ad.block ∧ rs[k]? = some r ∧ Thr w (ad.add (k * 3)) r := by
  obtain ⟨ad, e, hb, hc⟩ := h.2 (by omega)
  have hl : k < rs.length := by have := h.1; omega
  exact ⟨ad, rs[k], e, hb, List.getElem?_eq_getElem hl, hc k _ (List.getElem?_eq_getElem hl)⟩
theorem Raws.cells {ad : Addr} (h : Raws w ok (some ad) n rs) (j : Nat) (u : Value) (hu : (cel rs)[j]? = some u) : w.cell? (ad.add j) = some u := by
  have hl : j < rs.length * 3 := by rw [← cel_length]; exact (List.getElem?_eq_some_iff.1 hu).1
  have hm : j / 3 < rs.length := by omega
  have hy : rs[j / 3]? = some rs[j / 3] := List.getElem?_eq_getElem hm
  obtain ⟨ad', e, _, hc⟩ := h.2 (by have := h.1; omega)
  injection e with e
  subst e
  have hj : j / 3 * 3 + j % 3 = j := by omega
  have g := cel_get hy (o := j % 3) (by omega)
  rw [hj] at g
  have := thr_back (hc _ _ hy) (j % 3) u (by rw [← g]; exact hu)
  rwa [hj] at this
end
theorem info_bill : (Tryd.prog.info? 42).map (fun i => (i.zero, i.size, i.bytes)) = some (some (.agg zc), 3, 24) := by kernel_rfl
/-- A row of the call's own reads as bills, in a block from base on. -/
theorem raws_own {w : World} {base n : Nat} {v : Value} {xs : List Bi} (h : w.ownsRow base 42 3 v n (cel xs)) : ∃ A c, v = .slice A n c ∧ Raws w (fun b => base ≤ b ∧ b < w.heap.size) A n xs := by
  have hl : xs.length = n := by have := h.1; rw [cel_length] at this; omega
  rcases h.2 with ⟨rfl, hn⟩ | ⟨g, cap, cur, rfl, hb, hh, hnc, hm, hs, ht⟩
  · subst hn
    exact ⟨_, _, rfl, hl, fun h => absurd h (by omega)⟩
  · refine ⟨_, _, rfl, hl, fun _ => ⟨_, rfl, ⟨hb, ?_⟩, fun j x hx => thr_of fun o u hu => ?_⟩⟩
    · rcases Nat.lt_or_ge g w.heap.size with hlt | hge
      · exact hlt
      · rw [Array.getElem?_eq_none hge] at hh; cases hh
    · have ho : o < 3 := (List.getElem?_eq_some_iff.1 hu).1
      exact World.ownsRow.cells (g := g) h rfl (j * 3 + o) u ((cel_get hx ho).trans hu)

/-- A row of the call's own, that reads as these bills. -/
def Own (w : World) (base : Nat) (A : Option Addr) (n c : Nat) (xs : List Bi) : Prop := w.ownsRow base 42 3 (.slice A n c) n (cel xs)
section
variable {w w' : World} {base n c : Nat} {A : Option Addr} {xs : List Bi}
theorem Own.nil : Own w base none 0 0 [] := World.ownsRow_nil w base _ 3
theorem Own.len (h : Own w base A n c xs) : xs.length = n := by have := h.1; rw [cel_length] at this; omega
theorem Own.lt (h : Own w base A n c xs) : ∀ k, (Value.slice A n c).ownBlock = some k → base ≤ k ∧ k < w.heap.size := World.ownsRow.lt h
theorem Own.below (h : Own w base A n c xs) (hb : Below w.heap.size w w') : Own w' base A n c xs := by
  refine World.ownsRow.kept h (grown_of_below hb) ?_
  cases A with
  | none => exact .inl rfl
  | some a => exact .inr (by simp [Value.ownBlock])
theorem Own.raws (h : Own w base A n c xs) : Raws w (fun b => base ≤ b ∧ b < w.heap.size) A n xs := by
  obtain ⟨A', c', e, hl⟩ := raws_own h
  injection e with e1 e2 e3
  subst e1
  exact hl
theorem Own.drew (h : Own w base A n c xs) : Own w.drew base A n c xs := h
theorem Raws.drew {ok : Nat → Prop} {L : Option Addr} (h : Raws w ok L n xs) : Raws w.drew ok L n xs := h.keep (fun _ _ => rfl) fun _ h => h
theorem Own.made (w : World) : Own (w.alloc (.cells #[] 42)) w.heap.size (some ⟨w.heap.size, 0, none⟩) 0 0 [] := World.ownsRow_made w #[] 0 (Nat.le_refl _) (Nat.zero_le _) (by simp)
theorem Own.one (w : World) (r : Bi) : Own (w.alloc (.cells (bc r) 42)) w.heap.size (some ⟨w.heap.size, 0, none⟩) 1 1 [r] :=
  ⟨by rw [cel_one]; rfl, .inr ⟨w.heap.size, 1, _, rfl, Nat.le_refl _, heap_alloc_new w _, Nat.le_refl _, by unfold maxLen; omega, rfl, by rw [cel_one]; rfl⟩⟩
end
theorem own_of_row {w : World} {base k : Nat} {v : Value} {xs : List Bi} (h : w.ownsRow base 42 3 v k (cel xs)) : ∃ A c, v = .slice A k c ∧ Own w base A k c xs := by
  rcases h.2 with ⟨rfl, hn⟩ | ⟨g, cap, cur, rfl, hr⟩
  · subst hn; exact ⟨_, _, rfl, h⟩
  · exact ⟨_, _, rfl, h⟩
/-- What append does. -/
theorem run_app (w : World) (ty : TypeId) (base : Nat) (A : Option Addr) (n c : Nat) (xs : List Bi) (hown : Own w base A n c xs)
    (ok : Nat → Prop) (C : Option Addr) (m d : Nat) (ys : List Bi) (hr : Raws w ok C m ys) (hnil : C = none → m = 0 ∧ d = 0) (hlen : n + m ≤ 4000000) (hbase : base ≤ w.heap.size) :
    ∃ A' c' w', (Builtin.append_ #[25, 25] ty #[.slice A n c, .slice C m d]).run Tryd.prog w = .ok (.slice A' (n + m) c') w' ∧ Own w' base A' (n + m) c' (xs ++ ys) ∧ w.grownBy w' (Value.slice A n c).ownBlock := by
  obtain ⟨i, hi, hz, h1, h2⟩ := info_parts info_bill
  cases C with
  | none =>
    obtain ⟨rfl, rfl⟩ := hnil rfl
    have hy : ys = [] := List.eq_nil_of_length_eq_zero hr.1
    subst hy
    exact ⟨A, c, w, run_append_owned_none (P := Tryd.prog) (w := w) base _ ty 42 i 3 Tryd.underlying25 hi _ n _ hown, by rw [List.append_nil]; exact hown, World.grownBy.refl w _⟩
  | some ad =>
    obtain ⟨v', w', hrun, hO, hg, _⟩ := run_append_own (P := Tryd.prog) w base 25 ty 42 i _ 3 24 Tryd.underlying25 hi hz h1 h2 rfl (by omega) (.slice A n c) n _ hown ad m d (cel ys) (by rw [cel_length, hr.1]) (Raws.cells hr) (cel_cell ys) (by unfold maxLen; omega) (by omega) hbase
    rw [← cel_append] at hO
    obtain ⟨A', c', rfl, hO'⟩ := own_of_row hO
    exact ⟨A', c', w', hrun, hO', hg⟩
theorem wpList_app (w : World) {ops : Array Oper} {rest : List Oper} {o : Oper} {a : Act} {Q : Exit → Act → World → Prop} (hgd : o.guard = none) (s x : Operand)
    (ho : o.op = .call { callee := .builtin .append, args := #[s, x], argTypes := #[25, 25] })
    (base : Nat) (A : Option Addr) (n c : Nat) (xs : List Bi) (hs : a.eval s = .slice A n c) (hown : Own w base A n c xs)
    (ok : Nat → Prop) (C : Option Addr) (m d : Nat) (ys : List Bi) (hx : a.eval x = .slice C m d) (hr : Raws w ok C m ys) (hnil : C = none → m = 0 ∧ d = 0) (N : Nat) (hN : n + m = N) (hlen : n + m ≤ 4000000) (hbase : base ≤ w.heap.size)
    (h : ∀ A' c' w', Own w' base A' N c' (xs ++ ys) → w.grownBy w' (Value.slice A n c).ownBlock → wpList Tryd.prog ops Q rest (a.put o.dst (.slice A' N c')) w') :
    wpList Tryd.prog ops Q (o :: rest) a w := by
  subst hN
  refine wpList_plain hgd fun K hK => ?_
  obtain ⟨A', c', w', hrun, hO, hg⟩ := run_app w o.type base A n c xs hown ok C m d ys hr hnil hlen hbase
  unfold Oper.wp
  simp [execOp, ho, resolve, invoke, builtin, hs, hx, hrun, Result.andThen]
  exact hK _ _ (h A' c' w' hO hg)
theorem step_app (w : World) {ops : Array Oper} {o : Oper} {a : Act} {K : Act → World → Prop} {Q : Exit → Act → World → Prop} {E : Prop} (hgd : o.guard = none) (s x : Operand)
    (ho : o.op = .call { callee := .builtin .append, args := #[s, x], argTypes := #[25, 25] })
    (base : Nat) (A : Option Addr) (n c : Nat) (xs : List Bi) (hs : a.eval s = .slice A n c) (hown : Own w base A n c xs)
    (ok : Nat → Prop) (C : Option Addr) (m d : Nat) (ys : List Bi) (hx : a.eval x = .slice C m d) (hr : Raws w ok C m ys) (hnil : C = none → m = 0 ∧ d = 0) (N : Nat) (hN : n + m = N) (hlen : n + m ≤ 4000000) (hbase : base ≤ w.heap.size)
    (h : ∀ A' c' w', Own w' base A' N c' (xs ++ ys) → w.grownBy w' (Value.slice A n c).ownBlock → K (a.put o.dst (.slice A' N c')) w') :
    if Region.wanted o (yielded ops a.tmps) = true then Oper.wp Tryd.prog o a w K Q else E := by
  subst hN
  have hw : Region.wanted o (yielded ops a.tmps) = true := by simp [Region.wanted, hgd]
  rw [if_pos hw]
  obtain ⟨A', c', w', hrun, hO, hg⟩ := run_app w o.type base A n c xs hown ok C m d ys hr hnil hlen hbase
  unfold Oper.wp execOp
  simp only [ho, resolve, invoke, builtin, Sem.run_bind, Sem.run_pure, Result.andThen_ok, List.map_toArray, List.map_cons, List.map_nil, hs, hx, hrun]
  exact h A' c' w' hO hg

end Bil
end Go.Proofs.YtncndofhecdgnaaDoor
