/-
  Rows of ints, boxes of two cells, small calls of package step. Conditions: those of each theorem.
-/
import Derived.Test.YtjmbccdcnmmhgaaRows
import Derived.Test.YtjmbccdcnmmhgaaStM
import Derived.WalkKit
import Derived.WalkLawsBesides
import Derived.Lib.Hide
import Derived.Deep.QuietTactic
import Derived.BigQuiet
import Derived.Deep.DeepCutAuto
import Derived.Deep.CutBlock
import Derived.Deep.RegionHeld3
import Derived.WalkSmall
import Derived.IntWalk
import Derived.Below
import Derived.Lib.MinMax
import Derived.Lib.SliceRun
import Derived.Laws.AppendOwnNone
import Derived.OwnWalk
import Derived.Maps.AppendAt
namespace Go.Proofs.Ytjmbccdcnmmhgaa
open Go.RowKit Stm
namespace Stp
set_option linter.unusedVariables false

/-- A span by value; a step by value. -/
abbrev ag (x : Pr) : Value := .agg #[.int .i64 x.1, .int .i64 x.2]
abbrev sg (A : Option Addr) (n c : Nat) (V : Option Addr) (m d : Nat) : Value := .agg #[.slice A n c, .slice V m d]

theorem bcell {W w1 : World} (hb : Below W.heap.size W w1) : (∀ b o, b < W.heap.size → w1.cell? ⟨b, o, none⟩ = W.cell? ⟨b, o, none⟩) ∧ (∀ b o, b < W.heap.size → w1.frozen? ⟨b, o, none⟩ = W.frozen? ⟨b, o, none⟩) :=
  ⟨fun b o h => hb.cell (p := ⟨b, o, none⟩) h, fun b o h => hb.frozen (p := ⟨b, o, none⟩) h⟩
theorem add_block (a : Addr) (n : Nat) : (a.add n).block = a.block := by unfold Addr.add; split <;> rfl
theorem add_add (a : Addr) (i j : Nat) : (a.add i).add j = a.add (i + j) := by
  unfold Addr.add
  by_cases hi : i = 0 <;> by_cases hj : j = 0 <;> simp [hi, hj, Nat.add_assoc]
theorem add_one (a : Addr) (i : Nat) : a.add (i + 1) = ⟨(a.add i).block, (a.add i).off + 1, none⟩ := by
  unfold Addr.add
  by_cases hi : i = 0 <;> simp [hi, Nat.add_assoc]

/-- Block b is two cells of a struct. -/
def Bx (w : World) (b : Nat) (t : TypeId) (x y : Value) : Prop := w.heap[b]? = some (.cells #[x, y] t (0, 0))
section
variable {w w1 : World} {b B : Nat} {t : TypeId} {x y z : Value}
theorem Bx.lt (h : Bx w b t x y) : b < w.heap.size := by
  rcases Nat.lt_or_ge b w.heap.size with hlt | hge
  · exact hlt
  · unfold Bx at h; rw [Array.getElem?_eq_none hge] at h; cases h
theorem Bx.c0 (h : Bx w b t x y) : w.cell? ⟨b, 0, none⟩ = some x := by rw [cell_of_row w b 0 _ _ _ h]; rfl
theorem Bx.c1 (h : Bx w b t x y) : w.cell? ⟨b, 1, none⟩ = some y := by rw [cell_of_row w b 1 _ _ _ h]; rfl
theorem Bx.f (h : Bx w b t x y) (o : Nat) : w.frozen? ⟨b, o, none⟩ = false := by unfold Bx at h; simp [World.frozen?, h]
theorem Bx.below (h : Bx w b t x y) (hb : Below B w w1) (hB : b < B) : Bx w1 b t x y := (hb.block b hB).trans h
theorem Bx.keep (h : Bx w b t x y) (hb : Below w.heap.size w w1) : Bx w1 b t x y := h.below hb h.lt
theorem Bx.alloc (h : Bx w b t x y) (o : Obj) : Bx (w.alloc o) b t x y := (Below.heap_alloc w o b h.lt).trans h
theorem Bx.new (w : World) (t : TypeId) (x y : Value) : Bx (w.alloc (.cells #[x, y] t)) w.heap.size t x y := heap_alloc_new w _
theorem Bx.set0 (h : Bx w b t x y) (z : Value) : Bx (w.setCell ⟨b, 0, none⟩ z) b t z y := by
  unfold Bx at h ⊢; rw [heap_setCell_same w b 0 _ _ _ h]; rfl
theorem Bx.set1 (h : Bx w b t x y) (z : Value) : Bx (w.setCell ⟨b, 1, none⟩ z) b t x z := by
  unfold Bx at h ⊢; rw [heap_setCell_same w b 1 _ _ _ h]; rfl
theorem Bx.far (h : Bx w b t x y) {a : Addr} (hp : b ≠ a.block) (u : Value) : Bx (w.setCell a u) b t x y := (Below.heap_setCell w a u b hp).trans h
theorem bx1 (hb : Below (w.alloc (.cells #[x, y] t)).heap.size (w.alloc (.cells #[x, y] t)) w1) : Bx w1 w.heap.size t x y ∧ Below w.heap.size w w1 :=
  ⟨(Bx.new w t x y).keep hb, ((Below.refl _ _).alloc (Nat.le_refl _) _).trans (hb.mono (by simp))⟩
end

/-- The slice with this address and length reads as this list of ints, in blocks below B. -/
def Ints (w : World) (B : Nat) (A : Option Addr) (n : Nat) (xs : List Int) : Prop :=
  xs.length = n ∧ (0 < n → ∃ ad : Addr, A = some ad ∧ ad.block < B ∧ ∀ (j : Nat) (x : Int), xs[j]? = some x → w.cell? (ad.add j) = some (.int .i64 x))
section
variable {w w' : World} {B n : Nat} {A : Option Addr} {xs : List Int}
theorem Ints.nil {A : Option Addr} : Ints w B A 0 [] := ⟨rfl, fun h => absurd h (by omega)⟩
theorem Ints.get {k : Nat} (h : Ints w B A n xs) (hk : k < n) : ∃ (ad : Addr) (x : Int), A = some ad ∧ ad.block < B ∧ xs[k]? = some x ∧ w.cell? (ad.add k) = some (.int .i64 x) := by
  obtain ⟨ad, e, hb, hc⟩ := h.2 (by omega)
  have hl : k < xs.length := by have := h.1; omega
  exact ⟨ad, xs[k], e, hb, List.getElem?_eq_getElem hl, hc k _ (List.getElem?_eq_getElem hl)⟩
theorem Ints.keep (h : Ints w B A n xs) (hk : ∀ p : Addr, p.block < B → w'.cell? p = w.cell? p) : Ints w' B A n xs :=
  ⟨h.1, fun hn => by
    obtain ⟨ad, e, hb, hc⟩ := h.2 hn
    exact ⟨ad, e, hb, fun j x hx => (hk _ (by rw [add_block]; exact hb)).trans (hc j x hx)⟩⟩
theorem Ints.below {C : Nat} (h : Ints w B A n xs) (hb : Below C w w') (hC : B ≤ C) : Ints w' B A n xs := h.keep fun _ hp => hb.cell (Nat.lt_of_lt_of_le hp hC)
theorem Ints.wide {C : Nat} (h : Ints w B A n xs) (hC : B ≤ C) : Ints w C A n xs :=
  ⟨h.1, fun hn => by
    obtain ⟨ad, e, hb, hc⟩ := h.2 hn
    exact ⟨ad, e, Nat.lt_of_lt_of_le hb hC, hc⟩⟩
end

/-- A step's two rows. -/
structure Sx (w : World) (B : Nat) (A : Option Addr) (n : Nat) (V : Option Addr) (m : Nat) (xs vs : List Int) : Prop where
  a : Ints w B A n xs
  v : Ints w B V m vs
section
variable {w w' : World} {B n m : Nat} {A V : Option Addr} {xs vs : List Int}
theorem Sx.below {C : Nat} (h : Sx w B A n V m xs vs) (hb : Below C w w') (hC : B ≤ C) : Sx w' B A n V m xs vs := ⟨h.a.below hb hC, h.v.below hb hC⟩
theorem Sx.wide {C : Nat} (h : Sx w B A n V m xs vs) (hC : B ≤ C) : Sx w C A n V m xs vs := ⟨h.a.wide hC, h.v.wide hC⟩
theorem Sx.keep_ (h : Sx w w.heap.size A n V m xs vs) (hb : Below w.heap.size w w') : Sx w' w'.heap.size A n V m xs vs := (h.below hb (Nat.le_refl _)).wide hb.size
end

/-- A row of the call's own, that reads as these ints. -/
def OwnI (w : World) (base : Nat) (A : Option Addr) (n c : Nat) (xs : List Int) : Prop := w.ownsRow base 3 1 (.slice A n c) n (xs.map (Value.int .i64))
theorem grown_of_below {W W' : World} (h : Below W.heap.size W W') : W.grownBy W' none := ⟨h.os, h.tape, h.output, h.size, fun k hk _ => h.block k hk⟩
section
variable {w w' : World} {base n c : Nat} {A : Option Addr} {xs : List Int}
theorem OwnI.nil : OwnI w base none 0 0 [] := World.ownsRow_nil w base _ 1
theorem OwnI.len (h : OwnI w base A n c xs) : xs.length = n := by have := h.1; simpa using this
theorem OwnI.ints (h : OwnI w base A n c xs) : Ints w w.heap.size A n xs ∧ n ≤ c := by
  rcases h.2 with ⟨e, hn⟩ | ⟨g, cap, cur, e, hb, hh, hnc, hm, hs, ht⟩
  · injection e with e1 e2 e3
    subst hn
    have hl := h.len
    exact ⟨⟨hl, fun h => absurd h (by omega)⟩, by omega⟩
  · injection e with e1 e2 e3
    subst e1 e3
    refine ⟨⟨h.len, fun _ => ⟨_, rfl, ?_, fun j x hx => ?_⟩⟩, hnc⟩
    · rcases Nat.lt_or_ge g w.heap.size with hlt | hge
      · exact hlt
      · rw [Array.getElem?_eq_none hge] at hh; cases hh
    · exact World.ownsRow.cells (g := g) h rfl j _ (by simp [hx])
theorem OwnI.noroom (h : OwnI w base A n c xs) : A = none → n = 0 ∧ c = 0 := by
  rcases h.2 with ⟨e, hn⟩ | ⟨g, cap, cur, e, _⟩
  · injection e with e1 e2 e3
    exact fun _ => ⟨e2, e3⟩
  · injection e with e1 e2 e3
    intro h; rw [h] at e1; cases e1
theorem OwnI.lt (h : OwnI w base A n c xs) : ∀ k, (Value.slice A n c).ownBlock = some k → base ≤ k ∧ k < w.heap.size := World.ownsRow.lt h
theorem OwnI.alloc (h : OwnI w base A n c xs) (o : Obj) : OwnI (w.alloc o) base A n c xs := World.ownsRow.alloc h o
theorem OwnI.below (h : OwnI w base A n c xs) (hb : Below w.heap.size w w') : OwnI w' base A n c xs := by
  refine World.ownsRow.kept h (grown_of_below hb) ?_
  cases A with
  | none => exact .inl rfl
  | some a => exact .inr (by simp [Value.ownBlock])
theorem OwnI.grown {row : Option Nat} (h : OwnI w base A n c xs) (hg : w.grownBy w' row) (hne : (Value.slice A n c).ownBlock = none ∨ (Value.slice A n c).ownBlock ≠ row) : OwnI w' base A n c xs := World.ownsRow.kept h hg hne
end

theorem info_int : (Try.prog.info? 3).map (fun i => (i.zero, i.size, i.bytes)) = some (some (.int .i64 0), 1, 8) := by kernel_rfl

theorem ints_cells {w : World} {B : Nat} {ad : Addr} {m : Nat} {ys : List Int} (hr : Ints w B (some ad) m ys) (j : Nat) (u : Value) (hu : (ys.map (Value.int .i64))[j]? = some u) : w.cell? (ad.add j) = some u := by
  rw [List.getElem?_map] at hu
  cases hy : ys[j]? with
  | none => rw [hy] at hu; cases hu
  | some y =>
    rw [hy] at hu
    simp at hu
    subst hu
    have hm : 0 < m := by
      have := (List.getElem?_eq_some_iff.1 hy).1
      have := hr.1
      omega
    obtain ⟨ad', e, _, hc⟩ := hr.2 hm
    injection e with e
    subst e
    exact hc j y hy
theorem ints_one (ys : List Int) : ∀ u ∈ ys.map (Value.int .i64), u.oneCell' = true := by
  intro u hu
  obtain ⟨y, _, rfl⟩ := List.mem_map.1 hu
  rfl
theorem own_of_row {w : World} {base k : Nat} {v : Value} {xs : List Int} (h : w.ownsRow base 3 1 v k (xs.map (Value.int .i64))) : ∃ A c, v = .slice A k c ∧ OwnI w base A k c xs := by
  rcases h.2 with ⟨rfl, hn⟩ | ⟨g, cap, cur, rfl, hr⟩
  · subst hn; exact ⟨_, _, rfl, h⟩
  · exact ⟨_, _, rfl, h⟩

theorem wpList_appI (w : World) {ops : Array Oper} {rest : List Oper} {o : Oper} {a : Act} {Q : Exit → Act → World → Prop} (hgd : o.guard = none) (s x : Operand)
    (ho : o.op = .call { callee := .builtin .append, args := #[s, x], argTypes := #[31, 31] })
    (base : Nat) (A : Option Addr) (n c : Nat) (xs : List Int) (hs : a.eval s = .slice A n c) (hown : OwnI w base A n c xs)
    (B : Nat) (C : Option Addr) (m d : Nat) (ys : List Int) (hx : a.eval x = .slice C m d) (hr : Ints w B C m ys) (hnil : C = none → m = 0 ∧ d = 0) (hlen : n + m ≤ 4000000) (hbase : base ≤ w.heap.size)
    (h : ∀ A' c' w', OwnI w' base A' (n + m) c' (xs ++ ys) → w.grownBy w' (Value.slice A n c).ownBlock → wpList Try.prog ops Q rest (a.put o.dst (.slice A' (n + m) c')) w') :
    wpList Try.prog ops Q (o :: rest) a w := by
  obtain ⟨i, hi, hz, h1, h2⟩ := info_parts info_int
  cases C with
  | none =>
    obtain ⟨rfl, rfl⟩ := hnil rfl
    have hy : ys = [] := List.eq_nil_of_length_eq_zero hr.1
    subst hy
    refine wpList_append_own_none hgd s x _ ho base 3 i 1 Try.underlying31 hi (.slice A n c) n _ hs hown hx ?_
    have hh := h A c w (by simpa [OwnI] using hown) (World.grownBy.refl w _)
    simpa using hh
  | some ad =>
    refine wpList_append_own w hgd s x _ ho base 3 i _ 1 8 Try.underlying31 hi hz h1 h2 rfl (by omega) (.slice A n c) n _ hs hown ad m d (ys.map (Value.int .i64)) hx (by simpa using hr.1) (ints_cells hr) (ints_one ys) (by unfold maxLen; omega) (by omega) hbase ?_
    intro v' w' hown' hg _
    rw [← List.map_append] at hown'
    obtain ⟨A', c', rfl, hO⟩ := own_of_row hown'
    exact h A' c' w' hO hg

set_option maxHeartbeats 1000000 in
theorem fits_ (v : Int) (w : World) : Calls Try.prog 29 #[.int .i64 v] w fun e w' => e = .returned (.bool (Stm.fits v)) ∧ w = w' := by
  by_cases h1 : -4000000000000000000 ≤ v
  · have t1 : decide (-4000000000000000000 ≤ v) = true := by simpa using h1
    by_cases h2 : v ≤ 4000000000000000000
    · have t2 : decide (v ≤ 4000000000000000000) = true := by simpa using h2
      rw [(Stm.fits_iff v).2 ⟨h1, h2⟩]
      clear h1 h2
      go_enter Try.func29, Try.ntmps29
      go_wp2
      go_ret
      exact ⟨rfl, rfl⟩
    · have t2 : decide (v ≤ 4000000000000000000) = false := by simpa using h2
      rw [(Stm.fits_not v).2 (fun h => h2 h.2)]
      clear h1 h2
      go_enter Try.func29, Try.ntmps29
      go_wp2
      go_ret
      exact ⟨rfl, rfl⟩
  · have t1 : decide (-4000000000000000000 ≤ v) = false := by simpa using h1
    rw [(Stm.fits_not v).2 (fun h => h1 h.1)]
    clear h1
    go_enter Try.func29, Try.ntmps29
    go_wp2
    go_ret
    exact ⟨rfl, rfl⟩

theorem full_t {a b : Int} (h1 : 1 ≤ a) (h2 : a < b) (h3 : b ≤ 292195) : full (a, b) = true := (full_iff (a, b)).2 ⟨h1, h2, h3⟩
theorem full_f {a b : Int} (h : ¬ (1 ≤ a ∧ a < b ∧ b ≤ 292195)) : full (a, b) = false := by
  cases hf : full (a, b)
  · rfl
  · exact absurd ((full_iff _).1 hf) h

set_option maxHeartbeats 1000000 in
theorem full_ (x : Pr) (w : World) : Calls Try.prog 27 #[ag x] w fun e w' => e = .returned (.bool (full x)) ∧ Below w.heap.size w w' := by
  obtain ⟨a, b⟩ := x
  by_cases h1 : 1 ≤ a
  · have t1 : decide (1 ≤ a) = true := by simpa using h1
    by_cases h2 : a < b
    · have t2 : decide (a < b) = true := by simpa using h2
      by_cases h3 : b ≤ 292195
      · have t3 : decide (b ≤ 292195) = true := by simpa using h3
        rw [full_t h1 h2 h3]
        clear h1 h2 h3
        go_enter Try.func27, Try.ntmps27
        go_wp2
        go_ret
        exact ⟨rfl, (Below.refl _ _).alloc (Nat.le_refl _) _⟩
      · have t3 : decide (b ≤ 292195) = false := by simpa using h3
        rw [full_f (by omega)]
        clear h1 h2 h3
        go_enter Try.func27, Try.ntmps27
        go_wp2
        go_ret
        exact ⟨rfl, (Below.refl _ _).alloc (Nat.le_refl _) _⟩
    · have t2 : decide (a < b) = false := by simpa using h2
      rw [full_f (by omega)]
      clear h1 h2
      go_enter Try.func27, Try.ntmps27
      go_wp2
      go_ret
      exact ⟨rfl, (Below.refl _ _).alloc (Nat.le_refl _) _⟩
  · have t1 : decide (1 ≤ a) = false := by simpa using h1
    rw [full_f (by omega)]
    clear h1
    go_enter Try.func27, Try.ntmps27
    go_wp2
    go_ret
    exact ⟨rfl, (Below.refl _ _).alloc (Nat.le_refl _) _⟩

set_option maxHeartbeats 1000000 in
theorem rfull (x : Pr) (w : World) : Calls Try.prog 13 #[ag x] w fun e w' => e = .returned (.bool (full x)) ∧ Below w.heap.size w w' := by
  obtain ⟨a, b⟩ := x
  by_cases h1 : 1 ≤ a
  · have t1 : decide (1 ≤ a) = true := by simpa using h1
    by_cases h2 : a < b
    · have t2 : decide (a < b) = true := by simpa using h2
      by_cases h3 : b ≤ 292195
      · have t3 : decide (b ≤ 292195) = true := by simpa using h3
        rw [full_t h1 h2 h3]
        clear h1 h2 h3
        go_enter Try.func13, Try.ntmps13
        go_wp2
        go_ret
        exact ⟨rfl, (Below.refl _ _).alloc (Nat.le_refl _) _⟩
      · have t3 : decide (b ≤ 292195) = false := by simpa using h3
        rw [full_f (by omega)]
        clear h1 h2 h3
        go_enter Try.func13, Try.ntmps13
        go_wp2
        go_ret
        exact ⟨rfl, (Below.refl _ _).alloc (Nat.le_refl _) _⟩
    · have t2 : decide (a < b) = false := by simpa using h2
      rw [full_f (by omega)]
      clear h1 h2
      go_enter Try.func13, Try.ntmps13
      go_wp2
      go_ret
      exact ⟨rfl, (Below.refl _ _).alloc (Nat.le_refl _) _⟩
  · have t1 : decide (1 ≤ a) = false := by simpa using h1
    rw [full_f (by omega)]
    clear h1
    go_enter Try.func13, Try.ntmps13
    go_wp2
    go_ret
    exact ⟨rfl, (Below.refl _ _).alloc (Nat.le_refl _) _⟩

theorem inn_t {a b d : Int} (h1 : a ≤ d) (h2 : d < b) : inn (a, b) d = true := (inn_iff (a, b) d).2 ⟨h1, h2⟩
theorem inn_f {a b d : Int} (h : ¬ (a ≤ d ∧ d < b)) : inn (a, b) d = false := by
  cases hf : inn (a, b) d
  · rfl
  · exact absurd ((inn_iff _ _).1 hf) h

set_option maxHeartbeats 1000000 in
theorem in_ (x : Pr) (d : Int) (w : World) : Calls Try.prog 43 #[ag x, .int .i64 d] w fun e w' => e = .returned (.bool (inn x d)) ∧ Below w.heap.size w w' := by
  obtain ⟨a, b⟩ := x
  by_cases h1 : a ≤ d
  · have t1 : decide (a ≤ d) = true := by simpa using h1
    by_cases h2 : d < b
    · have t2 : decide (d < b) = true := by simpa using h2
      rw [inn_t h1 h2]
      clear h1 h2
      go_enter Try.func43, Try.ntmps43
      go_wp2
      go_ret
      exact ⟨rfl, (Below.refl _ _).alloc (Nat.le_refl _) _⟩
    · have t2 : decide (d < b) = false := by simpa using h2
      rw [inn_f (fun h => h2 h.2)]
      clear h1 h2
      go_enter Try.func43, Try.ntmps43
      go_wp2
      go_ret
      exact ⟨rfl, (Below.refl _ _).alloc (Nat.le_refl _) _⟩
  · have t1 : decide (a ≤ d) = false := by simpa using h1
    rw [inn_f (fun h => h1 h.1)]
    clear h1
    go_enter Try.func43, Try.ntmps43
    go_wp2
    go_ret
    exact ⟨rfl, (Below.refl _ _).alloc (Nat.le_refl _) _⟩

end Stp
end Go.Proofs.Ytjmbccdcnmmhgaa
