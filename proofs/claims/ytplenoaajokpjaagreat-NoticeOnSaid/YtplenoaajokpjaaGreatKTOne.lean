/-
  Rows of ints, of bands and of versions, boxes; bands and factors. Conditions: those of each theorem.
-/
import Derived.Test.YtplenoaajokpjaaGreatRows
import Derived.Test.YtplenoaajokpjaaGreatMMath
import Derived.WalkKit
import Derived.WalkLawsBesides
import Derived.Lib.Hide
import Derived.Deep.QuietTactic
import Derived.BigQuiet
import Derived.Deep.DeepCutAuto
import Derived.Deep.CutBlock
import Derived.Deep.RegionHeld3
import Derived.WalkSmall
import Derived.IntWalk
import Derived.Below
import Derived.Lib.MinMax
import Derived.Lib.SliceRun
import Derived.Laws.AppendOwnNone
import Derived.OwnWalk
import Derived.Maps.AppendAt
import Derived.ArgAppend
import Derived.Deep.AppendLies
import Derived.Deep.LoopGhost
namespace Go.Proofs.YtplenoaajokpjaaGreat
open Go.RowKit Ba Tf
namespace Trf
set_option linter.unusedVariables false
theorem bcell {W w1 : World} (hb : Below W.heap.size W w1) : (∀ b o, b < W.heap.size → w1.cell? ⟨b, o, none⟩ = W.cell? ⟨b, o, none⟩) ∧ (∀ b o, b < W.heap.size → w1.frozen? ⟨b, o, none⟩ = W.frozen? ⟨b, o, none⟩) :=
 ⟨fun b o h => hb.cell (p := ⟨b, o, none⟩) h, fun b o h => hb.frozen (p := ⟨b, o, none⟩) h⟩
theorem add_block (a : Addr) (n : Nat) : (a.add n).block = a.block := by unfold Addr.add; split <;> rfl
theorem add_one (a : Addr) (i : Nat) : a.add (i + 1) = ⟨(a.add i).block, (a.add i).off + 1, none⟩ := by
 unfold Addr.add; by_cases hi : i = 0 <;> simp [hi, Nat.add_assoc]
theorem add_two (a : Addr) (i : Nat) : a.add (i + 2) = ⟨(a.add i).block, (a.add i).off + 2, none⟩ := by
 unfold Addr.add; by_cases hi : i = 0 <;> simp [hi, Nat.add_assoc]
def Bx (w : World) (b : Nat) (t : TypeId) (xs : Array Value) : Prop := w.heap[b]? = some (.cells xs t (0, 0))
section
variable {w w1 : World} {b B : Nat} {t : TypeId} {xs : Array Value}
theorem Bx.lt (h : Bx w b t xs) : b < w.heap.size := by
 rcases Nat.lt_or_ge b w.heap.size with hlt | hge
 ·exact hlt
 ·unfold Bx at h; rw [Array.getElem?_eq_none hge] at h; cases h
theorem Bx.c (h : Bx w b t xs) (o : Nat) : w.cell? ⟨b, o, none⟩ = xs[o]? := by rw [cell_of_row w b o _ _ _ h]
theorem Bx.f (h : Bx w b t xs) (o : Nat) : w.frozen? ⟨b, o, none⟩ = false := by unfold Bx at h; simp [World.frozen?, h]
theorem Bx.below (h : Bx w b t xs) (hb : Below B w w1) (hB : b < B) : Bx w1 b t xs := (hb.block b hB).trans h
theorem Bx.keep (h : Bx w b t xs) (hb : Below w.heap.size w w1) : Bx w1 b t xs := h.below hb h.lt
theorem Bx.alloc (h : Bx w b t xs) (o : Obj) : Bx (w.alloc o) b t xs := (Below.heap_alloc w o b h.lt).trans h
theorem Bx.new (w : World) (t : TypeId) (xs : Array Value) : Bx (w.alloc (.cells xs t)) w.heap.size t xs := heap_alloc_new w _
theorem Bx.set (h : Bx w b t xs) (o : Nat) (z : Value) : Bx (w.setCell ⟨b, o, none⟩ z) b t (xs.setIfInBounds o z) := by
 unfold Bx at h ⊢; rw [heap_setCell_same w b o _ _ _ h]
theorem Bx.far (h : Bx w b t xs) {a : Addr} (hp : b ≠ a.block) (u : Value) : Bx (w.setCell a u) b t xs := (Below.heap_setCell w a u b hp).trans h
end
theorem bx1 {w w1 : World} {t : TypeId} {xs : Array Value} (hb : Below (w.alloc (.cells xs t)).heap.size (w.alloc (.cells xs t)) w1) : Bx w1 w.heap.size t xs ∧ Below w.heap.size w w1 :=
 ⟨(Bx.new w t xs).keep hb, ((Below.refl _ _).alloc (Nat.le_refl _) _).trans (hb.mono (by simp))⟩
theorem alloc_ (w : World) (o : Obj) : Below w.heap.size w (w.alloc o) := (Below.refl _ _).alloc (Nat.le_refl _) _
theorem add_more (a : Addr) (i k : Nat) : a.add (i + (k + 1)) = ⟨(a.add i).block, (a.add i).off + (k + 1), none⟩ := by
 unfold Addr.add; by_cases hi : i = 0 <;> simp [hi, Nat.add_assoc]
def Lns (w : World) (ok : Nat → Prop) (L : Option Addr) (m : Nat) (xs : List Pr) : Prop :=
 xs.length = m ∧ (0 < m → ∃ ad : Addr, L = some ad ∧ ok ad.block ∧ ∀ (j : Nat) (x : Pr), xs[j]? = some x → w.cell? (ad.add (j * 2)) = some (.int .i64 x.1) ∧ w.cell? (ad.add (j * 2 + 1)) = some (.int .i64 x.2))
section
variable {w w' : World} {ok ok' : Nat → Prop} {m : Nat} {L : Option Addr} {xs : List Pr}
theorem Lns.nil {L : Option Addr} : Lns w ok L 0 [] := ⟨rfl, fun h => absurd h (by omega)⟩
theorem Lns.get {k : Nat} (h : Lns w ok L m xs) (hk : k < m) : ∃ (ad : Addr) (x y : Int), L = some ad ∧ ok ad.block ∧ xs[k]? = some (x, y) ∧ w.cell? (ad.add (k * 2)) = some (.int .i64 x) ∧ w.cell? ⟨(ad.add (k * 2)).block, (ad.add (k * 2)).off + 1, none⟩ = some (.int .i64 y) := by
 obtain ⟨ad, e, hb, hc⟩ := h.2 (by omega); have hl : k < xs.length := by have := h.1; omega
 have := hc k _ (List.getElem?_eq_getElem hl); exact ⟨ad, xs[k].1, xs[k].2, e, hb, List.getElem?_eq_getElem hl, this.1, by rw [← add_one]; exact this.2⟩
theorem Lns.keep (h : Lns w ok L m xs) (hk : ∀ p : Addr, ok p.block → w'.cell? p = w.cell? p) (hw : ∀ b, ok b → ok' b) : Lns w' ok' L m xs :=
 ⟨h.1, fun hn => by
  obtain ⟨ad, e, hb, hc⟩ := h.2 hn; exact ⟨ad, e, hw _ hb, fun j x hx => ⟨(hk _ (by rw [add_block]; exact hb)).trans (hc j x hx).1, (hk _ (by rw [add_block]; exact hb)).trans (hc j x hx).2⟩⟩⟩
theorem Lns.below (h : Lns w (· < w.heap.size) L m xs) (hb : Below w.heap.size w w') : Lns w' (· < w'.heap.size) L m xs := h.keep (fun _ hp => hb.cell hp) fun b h => Nat.lt_of_lt_of_le h hb.size
theorem Lns.noroom (h : Lns w ok none m xs) : m = 0 := by
 rcases Nat.eq_zero_or_pos m with h0 | h0
 ·exact h0
 ·obtain ⟨ad, e, _⟩ := h.2 h0; cases e
end
def Ins (w : World) (ok : Nat → Prop) (L : Option Addr) (m : Nat) (xs : List Int) : Prop :=
 xs.length = m ∧ (0 < m → ∃ ad : Addr, L = some ad ∧ ok ad.block ∧ ∀ (j : Nat) (x : Int), xs[j]? = some x → w.cell? (ad.add j) = some (.int .i64 x))
section
variable {w w' : World} {ok ok' : Nat → Prop} {m : Nat} {L : Option Addr} {xs : List Int}
theorem Ins.nil {L : Option Addr} : Ins w ok L 0 [] := ⟨rfl, fun h => absurd h (by omega)⟩
theorem Ins.get {k : Nat} (h : Ins w ok L m xs) (hk : k < m) : ∃ (ad : Addr) (x : Int), L = some ad ∧ ok ad.block ∧ xs[k]? = some x ∧ w.cell? (ad.add k) = some (.int .i64 x) := by
 obtain ⟨ad, e, hb, hc⟩ := h.2 (by omega); have hl : k < xs.length := by have := h.1; omega
 exact ⟨ad, xs[k], e, hb, List.getElem?_eq_getElem hl, hc k _ (List.getElem?_eq_getElem hl)⟩
theorem Ins.keep (h : Ins w ok L m xs) (hk : ∀ p : Addr, ok p.block → w'.cell? p = w.cell? p) (hw : ∀ b, ok b → ok' b) : Ins w' ok' L m xs :=
 ⟨h.1, fun hn => by
  obtain ⟨ad, e, hb, hc⟩ := h.2 hn; exact ⟨ad, e, hw _ hb, fun j x hx => (hk _ (by rw [add_block]; exact hb)).trans (hc j x hx)⟩⟩
theorem Ins.below (h : Ins w (· < w.heap.size) L m xs) (hb : Below w.heap.size w w') : Ins w' (· < w'.heap.size) L m xs := h.keep (fun _ hp => hb.cell hp) fun b h => Nat.lt_of_lt_of_le h hb.size
theorem Ins.noroom (h : Ins w ok none m xs) : m = 0 := by
 rcases Nat.eq_zero_or_pos m with h0 | h0
 ·exact h0
 ·obtain ⟨ad, e, _⟩ := h.2 h0; cases e
theorem Ins.cells {ad : Addr} (h : Ins w ok (some ad) m xs) (j : Nat) (u : Value) (hu : (xs.map (Value.int .i64))[j]? = some u) : w.cell? (ad.add j) = some u := by
 rw [List.getElem?_map] at hu; cases e : xs[j]? with
 | none => rw [e] at hu; cases hu
 | some x =>
  rw [e] at hu; obtain ⟨ad', e', _, hc⟩ := h.2 (by have := h.1; have := (List.getElem?_eq_some_iff.1 e).1; omega); injection e' with e'
  subst e'; rw [hc j x e]; exact hu
end
structure Rw where
 v : Ve
 A : Option Addr
 la : Nat
 ca : Nat
 Z : Option Addr
 lz : Nat
 cz : Nat
 P : Option Addr
 lp : Nat
 cp : Nat
abbrev vc (r : Rw) : Array Value := #[.int .i64 r.v.fr, .int .i64 r.v.b0, .int .i64 r.v.b1, .int .i64 r.v.b2, .int .i64 r.v.b3, .slice r.A r.la r.ca, .slice r.Z r.lz r.cz, .slice r.P r.lp r.cp, .int .i64 r.v.mn]
abbrev vg (r : Rw) : Value := .agg #[.int .i64 r.v.fr, .int .i64 r.v.b0, .int .i64 r.v.b1, .int .i64 r.v.b2, .int .i64 r.v.b3, .slice r.A r.la r.ca, .slice r.Z r.lz r.cz, .slice r.P r.lp r.cp, .int .i64 r.v.mn]
abbrev tg (A : Option Addr) (n c : Nat) : Value := .agg #[.slice A n c]
abbrev zc : Array Value := #[.int .i64 0, .int .i64 0, .int .i64 0, .int .i64 0, .int .i64 0, .slice none 0 0, .slice none 0 0, .slice none 0 0, .int .i64 0]
def zr : Rw := ⟨zeroV, none, 0, 0, none, 0, 0, none, 0, 0⟩
def cl (r : Rw) : List Value := [.int .i64 r.v.fr, .int .i64 r.v.b0, .int .i64 r.v.b1, .int .i64 r.v.b2, .int .i64 r.v.b3, .slice r.A r.la r.ca, .slice r.Z r.lz r.cz, .slice r.P r.lp r.cp, .int .i64 r.v.mn]
def cel (rs : List Rw) : List Value := rs.flatMap cl
theorem cel_append (xs ys : List Rw) : cel (xs ++ ys) = cel xs ++ cel ys := List.flatMap_append
theorem cel_one (r : Rw) : cel [r] = cl r := by simp [cel]
theorem cel_length (xs : List Rw) : (cel xs).length = xs.length * 9 := by
 induction xs with
 | nil => rfl
 | cons x xs ih => rw [show x :: xs = [x] ++ xs from rfl, cel_append, List.length_append, ih, cel_one]; simp [cl]; omega
theorem cel_get {xs : List Rw} {j : Nat} {r : Rw} (h : xs[j]? = some r) {o : Nat} (ho : o < 9) : (cel xs)[j * 9 + o]? = (cl r)[o]? := by
 induction xs generalizing j with
 | nil => simp at h
 | cons y ys ih =>
  have hl : (cl y).length = 9 := rfl; rw [show y :: ys = [y] ++ ys from rfl, cel_append, cel_one]; cases j with
  | zero => simp at h; subst h; rw [Nat.zero_mul, Nat.zero_add, List.getElem?_append_left (by omega)]
  | succ j =>
   simp at h; rw [List.getElem?_append_right (by omega), hl, show (j + 1) * 9 + o - 9 = j * 9 + o by omega]; exact ih h
theorem cel_cell (xs : List Rw) : ∀ u ∈ cel xs, u.oneCell' = true := by
 intro u hu; obtain ⟨x, _, hx⟩ := List.mem_flatMap.1 hu; simp [cl] at hx; rcases hx with rfl | rfl | rfl | rfl | rfl | rfl | rfl | rfl | rfl <;> rfl
structure Sm (r : Rw) : Prop where
 a : r.la ≤ 3000
 z : r.lz ≤ 3000
 p : r.lp ≤ 3000
structure Mean (w : World) (ok : Nat → Prop) (r : Rw) : Prop where
 a : Lns w ok r.A r.la r.v.ag
 z : Ins w ok r.Z r.lz r.v.zn
 p : Ins w ok r.P r.lp r.v.pe
section
variable {w w' : World} {ok ok' : Nat → Prop} {r : Rw}
theorem Mean.keep (h : Mean w ok r) (hk : ∀ p : Addr, ok p.block → w'.cell? p = w.cell? p) (hw : ∀ b, ok b → ok' b) : Mean w' ok' r := ⟨h.a.keep hk hw, h.z.keep hk hw, h.p.keep hk hw⟩
theorem Mean.below (h : Mean w (· < w.heap.size) r) (hb : Below w.heap.size w w') : Mean w' (· < w'.heap.size) r := h.keep (fun _ hp => hb.cell hp) fun b h => Nat.lt_of_lt_of_le h hb.size
end
theorem zr_mean (w : World) (ok : Nat → Prop) : Mean w ok zr := ⟨Lns.nil, Ins.nil, Ins.nil⟩
theorem zr_sm : Sm zr := ⟨Nat.zero_le _, Nat.zero_le _, Nat.zero_le _⟩
structure Nin (w : World) (a : Addr) (r : Rw) : Prop where
 c0 : w.cell? a = some (.int .i64 r.v.fr)
 c1 : w.cell? ⟨a.block, a.off + 1, none⟩ = some (.int .i64 r.v.b0)
 c2 : w.cell? ⟨a.block, a.off + 2, none⟩ = some (.int .i64 r.v.b1)
 c3 : w.cell? ⟨a.block, a.off + 3, none⟩ = some (.int .i64 r.v.b2)
 c4 : w.cell? ⟨a.block, a.off + 4, none⟩ = some (.int .i64 r.v.b3)
 c5 : w.cell? ⟨a.block, a.off + 5, none⟩ = some (.slice r.A r.la r.ca)
 c6 : w.cell? ⟨a.block, a.off + 6, none⟩ = some (.slice r.Z r.lz r.cz)
 c7 : w.cell? ⟨a.block, a.off + 7, none⟩ = some (.slice r.P r.lp r.cp)
 c8 : w.cell? ⟨a.block, a.off + 8, none⟩ = some (.int .i64 r.v.mn)
theorem Nin.keep {w w' : World} {a : Addr} {r : Rw} (h : Nin w a r) (hk : ∀ p : Addr, p.block = a.block → w'.cell? p = w.cell? p) : Nin w' a r :=
 ⟨(hk _ rfl).trans h.c0, (hk ⟨a.block, a.off + 1, none⟩ rfl).trans h.c1, (hk ⟨a.block, a.off + 2, none⟩ rfl).trans h.c2, (hk ⟨a.block, a.off + 3, none⟩ rfl).trans h.c3, (hk ⟨a.block, a.off + 4, none⟩ rfl).trans h.c4, (hk ⟨a.block, a.off + 5, none⟩ rfl).trans h.c5, (hk ⟨a.block, a.off + 6, none⟩ rfl).trans h.c6, (hk ⟨a.block, a.off + 7, none⟩ rfl).trans h.c7, (hk ⟨a.block, a.off + 8, none⟩ rfl).trans h.c8⟩
theorem nin_of {w : World} {a : Addr} {r : Rw} {j : Nat} (h : ∀ (o : Nat) (u : Value), (cl r)[o]? = some u → w.cell? (a.add (j + o)) = some u) : Nin w (a.add j) r :=
 ⟨h 0 _ rfl, by rw [← add_more a j 0]; exact h 1 _ rfl, by rw [← add_more a j 1]; exact h 2 _ rfl, by rw [← add_more a j 2]; exact h 3 _ rfl, by rw [← add_more a j 3]; exact h 4 _ rfl, by rw [← add_more a j 4]; exact h 5 _ rfl, by rw [← add_more a j 5]; exact h 6 _ rfl, by rw [← add_more a j 6]; exact h 7 _ rfl, by rw [← add_more a j 7]; exact h 8 _ rfl⟩
theorem nin_back {w : World} {a : Addr} {r : Rw} {j : Nat} (h : Nin w (a.add j) r) : ∀ (o : Nat) (u : Value), (cl r)[o]? = some u → w.cell? (a.add (j + o)) = some u := by
 intro o u hu
 match o, hu with
 | 0, hu => injection hu with hu; subst hu; exact h.c0
 | 1, hu => injection hu with hu; subst hu; rw [add_more a j 0]; exact h.c1
 | 2, hu => injection hu with hu; subst hu; rw [add_more a j 1]; exact h.c2
 | 3, hu => injection hu with hu; subst hu; rw [add_more a j 2]; exact h.c3
 | 4, hu => injection hu with hu; subst hu; rw [add_more a j 3]; exact h.c4
 | 5, hu => injection hu with hu; subst hu; rw [add_more a j 4]; exact h.c5
 | 6, hu => injection hu with hu; subst hu; rw [add_more a j 5]; exact h.c6
 | 7, hu => injection hu with hu; subst hu; rw [add_more a j 6]; exact h.c7
 | 8, hu => injection hu with hu; subst hu; rw [add_more a j 7]; exact h.c8
def Raws (w : World) (ok : Nat → Prop) (A : Option Addr) (n : Nat) (rs : List Rw) : Prop :=
 rs.length = n ∧ (0 < n → ∃ ad : Addr, A = some ad ∧ ok ad.block ∧ ∀ (j : Nat) (r : Rw), rs[j]? = some r → Nin w (ad.add (j * 9)) r)
section
variable {w w' : World} {ok ok' : Nat → Prop} {n : Nat} {A : Option Addr} {rs : List Rw}
theorem Raws.nil {A : Option Addr} : Raws w ok A 0 [] := ⟨rfl, fun h => absurd h (by omega)⟩
theorem Raws.keep (h : Raws w ok A n rs) (hk : ∀ p : Addr, ok p.block → w'.cell? p = w.cell? p) (hw : ∀ b, ok b → ok' b) : Raws w' ok' A n rs :=
 ⟨h.1, fun hn => by
  obtain ⟨ad, e, hb, hc⟩ := h.2 hn; exact ⟨ad, e, hw _ hb, fun j x hx => (hc j x hx).keep fun p hp => hk p (by rw [hp, add_block]; exact hb)⟩⟩
theorem Raws.below (h : Raws w (· < w.heap.size) A n rs) (hb : Below w.heap.size w w') : Raws w' (· < w'.heap.size) A n rs := h.keep (fun _ hp => hb.cell hp) fun b h => Nat.lt_of_lt_of_le h hb.size
theorem Raws.get {k : Nat} (h : Raws w ok A n rs) (hk : k < n) : ∃ (ad : Addr) (r : Rw), A = some ad ∧ ok ad.block ∧ rs[k]? = some r ∧ Nin w (ad.add (k * 9)) r := by
 obtain ⟨ad, e, hb, hc⟩ := h.2 (by omega); have hl : k < rs.length := by have := h.1; omega
 exact ⟨ad, rs[k], e, hb, List.getElem?_eq_getElem hl, hc k _ (List.getElem?_eq_getElem hl)⟩
theorem Raws.noroom (h : Raws w ok none n rs) : n = 0 := by
 rcases Nat.eq_zero_or_pos n with h0 | h0
 ·exact h0
 ·obtain ⟨ad, e, _⟩ := h.2 h0; cases e
theorem Raws.cells {ad : Addr} (h : Raws w ok (some ad) n rs) (j : Nat) (u : Value) (hu : (cel rs)[j]? = some u) : w.cell? (ad.add j) = some u := by
 have hl : j < rs.length * 9 := by rw [← cel_length]; exact (List.getElem?_eq_some_iff.1 hu).1
 have hm : j / 9 < rs.length := by omega
 have hy : rs[j / 9]? = some rs[j / 9] := List.getElem?_eq_getElem hm; obtain ⟨ad', e, _, hc⟩ := h.2 (by have := h.1; omega); injection e with e
 subst e; have hj : j / 9 * 9 + j % 9 = j := by omega
 have g := cel_get hy (o := j % 9) (by omega); rw [hj] at g; have := nin_back (hc _ _ hy) (j % 9) u (by rw [← g]; exact hu); rwa [hj] at this
end
structure Vers (w : World) (A : Option Addr) (n : Nat) (rs : List Rw) : Prop where
 r : Raws w (· < w.heap.size) A n rs
 m : ∀ r ∈ rs, Mean w (· < w.heap.size) r
 s : ∀ r ∈ rs, Sm r
theorem Vers.nil {w : World} {A : Option Addr} : Vers w A 0 [] := ⟨Raws.nil, (fun r h => by cases h), (fun r h => by cases h)⟩
theorem Vers.below {w w' : World} {A : Option Addr} {n : Nat} {rs : List Rw} (h : Vers w A n rs) (hb : Below w.heap.size w w') : Vers w' A n rs := ⟨h.r.below hb, fun r hr => (h.m r hr).below hb, h.s⟩
theorem Vers.get {w : World} {A : Option Addr} {n : Nat} {rs : List Rw} {k : Nat} (h : Vers w A n rs) (hk : k < n) : ∃ (ad : Addr) (r : Rw), A = some ad ∧ ad.block < w.heap.size ∧ rs[k]? = some r ∧ Nin w (ad.add (k * 9)) r ∧ Mean w (· < w.heap.size) r ∧ Sm r := by
 obtain ⟨ad, r, e, hb, hr, hn⟩ := h.r.get hk; exact ⟨ad, r, e, hb, hr, hn, h.m r (List.mem_of_getElem? hr), h.s r (List.mem_of_getElem? hr)⟩
theorem Vers.len {w : World} {A : Option Addr} {n : Nat} {rs : List Rw} (h : Vers w A n rs) : (rs.map Rw.v).length = n := by rw [List.length_map]; exact h.r.1
theorem map_get {rs : List Rw} {k : Nat} {r : Rw} (h : rs[k]? = some r) : (rs.map Rw.v)[k]? = some r.v := by rw [List.getElem?_map, h]; rfl
theorem grown_of_below {W W' : World} (h : Below W.heap.size W W') : W.grownBy W' none := ⟨h.os, h.tape, h.output, h.size, fun k hk _ => h.block k hk⟩
theorem below_of_grown {w w' : World} (h : w.grownBy w' none) : Below w.heap.size w w' := (Below.refl _ w).grown h (Nat.le_refl _) (fun k hk => by cases hk)
theorem info_version : (Tryz.prog.info? 70).map (fun i => (i.zero, i.size, i.bytes)) = some (some (.agg zc), 9, 120) := by kernel_rfl
theorem info_int : (Tryz.prog.info? 3).map (fun i => (i.zero, i.size, i.bytes)) = some (some (.int .i64 0), 1, 8) := by kernel_rfl
theorem info_band : (Tryz.prog.info? 127).map (fun i => (i.zero, i.size, i.bytes)) = some (some (.agg #[.int .i64 0, .int .i64 0]), 2, 16) := by kernel_rfl
def cel2 (xs : List Pr) : List Value := xs.flatMap fun x => [.int .i64 x.1, .int .i64 x.2]
theorem cel2_append (xs ys : List Pr) : cel2 (xs ++ ys) = cel2 xs ++ cel2 ys := List.flatMap_append
theorem cel2_one (x : Pr) : cel2 [x] = [.int .i64 x.1, .int .i64 x.2] := rfl
theorem cel2_length (xs : List Pr) : (cel2 xs).length = xs.length * 2 := by
 induction xs with
 | nil => rfl
 | cons x xs ih => rw [show x :: xs = [x] ++ xs from rfl, cel2_append, List.length_append, ih, cel2_one]; simp; omega
theorem cel2_get {xs : List Pr} {j : Nat} {x : Pr} (h : xs[j]? = some x) : (cel2 xs)[j * 2]? = some (.int .i64 x.1) ∧ (cel2 xs)[j * 2 + 1]? = some (.int .i64 x.2) := by
 induction xs generalizing j with
 | nil => simp at h
 | cons y ys ih =>
  rw [show y :: ys = [y] ++ ys from rfl, cel2_append, cel2_one]; cases j with
  | zero => simp at h; subst h; simp
  | succ j =>
   simp at h; obtain ⟨h1, h2⟩ := ih h; have e1 : (j + 1) * 2 = j * 2 + 2 := by omega
   rw [e1, List.getElem?_append_right (by simp), List.getElem?_append_right (by simp)]; exact ⟨by simpa using h1, by simpa using h2⟩
theorem cel2_cell (xs : List Pr) : ∀ u ∈ cel2 xs, u.oneCell' = true := by
 intro u hu; obtain ⟨x, _, hx⟩ := List.mem_flatMap.1 hu; simp at hx; rcases hx with rfl | rfl <;> rfl
theorem lns_cells {w : World} {ok : Nat → Prop} {ad : Addr} {m : Nat} {ys : List Pr} (h : Lns w ok (some ad) m ys) (j : Nat) (u : Value) (hu : (cel2 ys)[j]? = some u) : w.cell? (ad.add j) = some u := by
 have hl : j < ys.length * 2 := by rw [← cel2_length]; exact (List.getElem?_eq_some_iff.1 hu).1
 have hm : j / 2 < ys.length := by omega
 have hy : ys[j / 2]? = some ys[j / 2] := List.getElem?_eq_getElem hm; obtain ⟨ad', e, _, hc⟩ := h.2 (by have := h.1; omega); injection e with e
 subst e; obtain ⟨c0, c1⟩ := hc _ _ hy; obtain ⟨g0, g1⟩ := cel2_get hy; rcases (by omega : j = j / 2 * 2 ∨ j = j / 2 * 2 + 1) with hj | hj
 ·rw [hj, g0] at hu; rw [hj, c0]; exact hu
 ·rw [hj, g1] at hu; rw [hj, c1]; exact hu
theorem lns_own {w : World} {base n : Nat} {v : Value} {xs : List Pr} (h : w.ownsRow base 127 2 v n (cel2 xs)) : ∃ A c, v = .slice A n c ∧ Lns w (fun b => base ≤ b ∧ b < w.heap.size) A n xs := by
 have hl : xs.length = n := by have := h.1; rw [cel2_length] at this; omega
 rcases h.2 with ⟨rfl, hn⟩ | ⟨g, cap, cur, rfl, hb, hh, hnc, hm, hs, ht⟩
 ·subst hn; exact ⟨_, _, rfl, hl, fun h => absurd h (by omega)⟩
 ·refine ⟨_, _, rfl, hl, fun _ => ⟨_, rfl, ⟨hb, ?_⟩, fun j x hx => ?_⟩⟩
  ·rcases Nat.lt_or_ge g w.heap.size with hlt | hge
   ·exact hlt
   ·rw [Array.getElem?_eq_none hge] at hh; cases hh
  ·exact ⟨World.ownsRow.cells (g := g) h rfl (j * 2) _ (cel2_get hx).1, World.ownsRow.cells (g := g) h rfl (j * 2 + 1) _ (cel2_get hx).2⟩
abbrev Yes (w : World) (b : Bool) (e : Ending) (w' : World) : Prop := e = .returned (.bool b) ∧ Below w.heap.size w w'
theorem below_drewN {B : Nat} {w w' : World} (h : Below B w w') (n : Nat) : Below B w (w'.drewN n) := ⟨h.os, h.tape, h.output, h.size, h.block⟩
theorem below_alloc {w w' : World} {o : Obj} (h : Below (w.alloc o).heap.size (w.alloc o) w') : Below w.heap.size w w' := (alloc_ w o).trans (h.mono (by simp))
end Trf
end Go.Proofs.YtplenoaajokpjaaGreat
namespace Go.Proofs.YtplenoaajokpjaaGreat
open Go.RowKit Ba Tf
namespace Trf
set_option linter.unusedVariables false
set_option maxHeartbeats 1000000 in
theorem within (n lo hi : Int) (w : World) : Calls Tryz.prog 107 #[.int .i64 n, .int .i64 lo, .int .i64 hi] w fun e w' => e = .returned (.bool (wi n lo hi)) ∧ w = w' := by
 by_cases h1 : lo ≤ n
 ·have t1 : decide (lo ≤ n) = true := by simpa using h1
  by_cases h2 : n ≤ hi
  ·have t2 : decide (n ≤ hi) = true := by simpa using h2
   rw [wi_iff.2 ⟨h1, h2⟩]; clear h1 h2; go_enter Tryz.func107, Tryz.ntmps107; go_wp2; go_ret; exact ⟨rfl, rfl⟩
  ·have t2 : decide (n ≤ hi) = false := by simpa using h2
   rw [wi_no (by omega)]; clear h1 h2; go_enter Tryz.func107, Tryz.ntmps107; go_wp2; go_ret; exact ⟨rfl, rfl⟩
 ·have t1 : decide (lo ≤ n) = false := by simpa using h1
  rw [wi_no (by omega)]; clear h1; go_enter Tryz.func107, Tryz.ntmps107; go_wp2; go_ret; exact ⟨rfl, rfl⟩
set_option maxHeartbeats 1000000 in
theorem twithin (n lo hi : Int) (w : World) : Calls Tryz.prog 128 #[.int .i64 n, .int .i64 lo, .int .i64 hi] w fun e w' => e = .returned (.bool (wi n lo hi)) ∧ w = w' := by
 by_cases h1 : lo ≤ n
 ·have t1 : decide (lo ≤ n) = true := by simpa using h1
  by_cases h2 : n ≤ hi
  ·have t2 : decide (n ≤ hi) = true := by simpa using h2
   rw [wi_iff.2 ⟨h1, h2⟩]; clear h1 h2; go_enter Tryz.func128, Tryz.ntmps128; go_wp2; go_ret; exact ⟨rfl, rfl⟩
  ·have t2 : decide (n ≤ hi) = false := by simpa using h2
   rw [wi_no (by omega)]; clear h1 h2; go_enter Tryz.func128, Tryz.ntmps128; go_wp2; go_ret; exact ⟨rfl, rfl⟩
 ·have t1 : decide (lo ≤ n) = false := by simpa using h1
  rw [wi_no (by omega)]; clear h1; go_enter Tryz.func128, Tryz.ntmps128; go_wp2; go_ret; exact ⟨rfl, rfl⟩
set_option maxRecDepth 100000 in
set_option maxHeartbeats 2000000 in
theorem bands_ (L : Option Addr) (m c : Nat) (ls : List Pr) (w : World) (hS : Lns w (· < w.heap.size) L m ls) (hm : m ≤ maxLen) :
  Calls Tryz.prog 130 #[.slice L m c] w (Yes w (bds ls)) := by
 have hl := hS.1; unfold maxLen at hm; by_cases hf : 100 < m
 ·rw [bds_far (by omega)]; have t1 : decide (100 < (m : Int)) = true := by simpa using (show 100 < (m : Int) by omega)
  have t1' : decide (100 < m) = true := by simpa using hf
  clear hS hl hf; go_enter Tryz.func130, Tryz.ntmps130; go_wp2; go_ret; exact ⟨rfl, Below.refl _ _⟩
 rw [bds_near (by omega)]; have t1 : decide (100 < (m : Int)) = false := by simpa using (show ¬ 100 < (m : Int) by omega)
 have t1' : decide (100 < m) = false := by simpa using hf
 have hm2 : m ≤ 100 := by omega
 have HS := Lib.hid hS; have HL := Lib.hid hl; have C := fun n lo hi w => Lib.hid (within n lo hi w)
 obtain ⟨R, hR⟩ : ∃ R, okL 0 ls = R := ⟨_, rfl⟩; rw [hR]; have HR := Lib.hid hR; clear hS hl hR hf hm; go_enter Tryz.func130, Tryz.ntmps130; go_wp2
 go_loopw [3, 5, 11] (fun sl s5 i w' => ∃ (k : Nat) (least : Int) (w1 : World), k ≤ m ∧ 0 ≤ least ∧ least ≤ 201 ∧ i = .int .i64 (k : Int) ∧ sl = .int .i64 least ∧ w1 = w' ∧ Hid (okL least (ls.drop k) = R) ∧ Hid (Below w.heap.size w w1)) (fun _ _ i _ => m - (intOf i).toNat)
 case atStart => exact ⟨0, 0, _, Nat.zero_le _, by omega, by omega, rfl, rfl, rfl, HR, Lib.hid (Below.refl _ _)⟩
 case round =>
  obtain ⟨k, least, w1, hk, hl0, hl1, rfl, rfl, rfl, HB, HW⟩ := hrel; by_cases hlt : k < m
  ·obtain ⟨ad, x, y, rfl, hb, hx, hc0, hc1⟩ := (HS.out.keep (ok' := (· < w.heap.size)) (fun p hp => HW.out.cell hp) fun _ h => h).get hlt; have HD := Lib.hid (drop_get hx); have hlt2 : (k : Int) < (m : Int) := by omega
   have hxl : ad.block < w1.heap.size := by have := HW.out.size; omega
   clear hx hb; cases t7 : wi x least 200
   ·have HF := Lib.hid (show R = false by rw [← HB.out, HD.out]; exact okL_no1 t7)
    go_wp2_with (go_at_call 107; refine (C _ _ _ _).out.mono ?_; rintro e w' ⟨rfl, rfl⟩)
    go_ret; exact ⟨by rw [HF.out]; rfl, HW.out.alloc HW.out.size _⟩
   ·cases t8 : wi y 0 100000
    ·have HF := Lib.hid (show R = false by rw [← HB.out, HD.out]; exact okL_no2 t7 t8)
     go_wp2_with (go_at_call 107; refine (C _ _ _ _).out.mono ?_; rintro e w' ⟨rfl, rfl⟩)
     go_ret; exact ⟨by rw [HF.out]; rfl, HW.out.alloc HW.out.size _⟩
    ·have HN := Lib.hid (show okL (x + 1) (ls.drop (k + 1)) = R by rw [← HB.out, HD.out]; exact (okL_yes (x := (x, y)) t7 t8).symm); obtain ⟨q1, q2⟩ := wi_iff.1 t7
     go_wp2_with (go_at_call 107; refine (C _ _ _ _).out.mono ?_; rintro e w' ⟨rfl, rfl⟩)
     go_roundw
     case rel => exact ⟨k + 1, x + 1, _, by omega, by omega, by omega, by go_num, rfl, rfl, HN, Lib.hid (HW.out.alloc HW.out.size _)⟩
     case measure => simp [intOf]; omega
  ·have HF := Lib.hid (show R = true by rw [← HB.out, List.drop_of_length_le (by rw [HL.out]; omega)]; rfl); go_wp2; go_ret; exact ⟨by rw [HF.out]; rfl, HW.out⟩
theorem okL_ref {least : Int} {x y : Int} {xs : List Pr} (h1 : ¬ x < 0) (h2 : ¬ 200 < x) (h3 : ¬ y < 0) (h4 : ¬ 100000 < y) (h5 : least ≤ x) : okL least ((x, y) :: xs) = okL (x + 1) xs :=
 okL_yes (x := (x, y)) (wi_iff.2 (by simp only; omega)) (wi_iff.2 (by simp only; omega))
theorem okL_bad {least : Int} {x y : Int} {xs : List Pr} (h : x < 0 ∨ 200 < x ∨ y < 0 ∨ 100000 < y ∨ x < least) (h0 : 0 ≤ least) : okL least ((x, y) :: xs) = false := by
 cases t : wi x least 200
 ·exact okL_no1 (x := (x, y)) t
 ·refine okL_no2 (x := (x, y)) t (wi_no ?_); have := wi_iff.1 t; simp only; omega
set_option maxRecDepth 100000 in
set_option maxHeartbeats 2000000 in
theorem rbands (L : Option Addr) (m c : Nat) (ls : List Pr) (w : World) (hS : Lns w (· < w.heap.size) L m ls) (hm : m ≤ maxLen) :
  Calls Tryz.prog 125 #[.slice L m c] w (Yes w (bds ls)) := by
 have hl := hS.1; unfold maxLen at hm; by_cases hf : 100 < m
 ·rw [bds_far (by omega)]; have t1 : decide (100 < (m : Int)) = true := by simpa using (show 100 < (m : Int) by omega)
  have t1' : decide (100 < m) = true := by simpa using hf
  clear hS hl hf; go_enter Tryz.func125, Tryz.ntmps125; go_wp2; go_ret; exact ⟨rfl, Below.refl _ _⟩
 rw [bds_near (by omega)]; have t1 : decide (100 < (m : Int)) = false := by simpa using (show ¬ 100 < (m : Int) by omega)
 have t1' : decide (100 < m) = false := by simpa using hf
 have hm2 : m ≤ 100 := by omega
 have HS := Lib.hid hS; have HL := Lib.hid hl; obtain ⟨R, hR⟩ : ∃ R, okL 0 ls = R := ⟨_, rfl⟩; rw [hR]; have HR := Lib.hid hR; clear hS hl hR hf hm; go_enter Tryz.func125, Tryz.ntmps125; go_wp2
 go_loopw [3] (fun i w' => ∃ (k : Nat) (least : Int) (w1 : World), k ≤ m ∧ 0 ≤ least ∧ least ≤ 201 ∧ i = .int .i64 (k : Int) ∧ w1 = w' ∧ Hid (okL least (ls.drop k) = R) ∧ Hid (Below w.heap.size w w1) ∧ Hid ((k = 0 ∧ least = 0) ∨ ∃ j z, k = j + 1 ∧ ls[j]? = some z ∧ least = z.1 + 1)) (fun i _ => m - (intOf i).toNat)
 case atStart => exact ⟨0, 0, _, Nat.zero_le _, by omega, by omega, rfl, rfl, HR, Lib.hid (Below.refl _ _), Lib.hid (.inl ⟨rfl, rfl⟩)⟩
 case round =>
  obtain ⟨k, least, w1, hk, hl0, hl1, rfl, rfl, HB, HW, HP⟩ := hrel; have HK := Lib.hid (HS.out.keep (w' := w1) (ok' := (· < w.heap.size)) (fun p hp => HW.out.cell hp) fun _ h => h); by_cases hlt : k < m
  ·obtain ⟨ad, x, y, rfl, hb, hx, hc0, hc1⟩ := HK.out.get hlt; have HD := Lib.hid (drop_get hx); have hlt2 : (k : Int) < (m : Int) := by omega
   have HX := Lib.hid hx; clear hx hb; by_cases h0 : x < 0
   ·have t0' : decide (x < 0) = true := by simpa using h0
    have HF := Lib.hid (show R = false by rw [← HB.out, HD.out]; exact okL_bad (by omega) hl0); clear h0; go_wp2; go_ret; exact ⟨by rw [HF.out]; rfl, HW.out⟩
   have t0' : decide (x < 0) = false := by simpa using h0
   by_cases h1 : 200 < x
   ·have t1' : decide (200 < x) = true := by simpa using h1
    have HF := Lib.hid (show R = false by rw [← HB.out, HD.out]; exact okL_bad (by omega) hl0); clear h0 h1; go_wp2; go_ret; exact ⟨by rw [HF.out]; rfl, HW.out⟩
   have t1' : decide (200 < x) = false := by simpa using h1
   by_cases h2 : y < 0
   ·have t2' : decide (y < 0) = true := by simpa using h2
    have HF := Lib.hid (show R = false by rw [← HB.out, HD.out]; exact okL_bad (by omega) hl0); clear h0 h1 h2; go_wp2; go_ret; exact ⟨by rw [HF.out]; rfl, HW.out⟩
   have t2' : decide (y < 0) = false := by simpa using h2
   by_cases h3 : 100000 < y
   ·have t3' : decide (100000 < y) = true := by simpa using h3
    have HF := Lib.hid (show R = false by rw [← HB.out, HD.out]; exact okL_bad (by omega) hl0); clear h0 h1 h2 h3; go_wp2; go_ret; exact ⟨by rw [HF.out]; rfl, HW.out⟩
   have t3' : decide (100000 < y) = false := by simpa using h3
   rcases HP.out with ⟨hk0, hl00⟩ | ⟨j, ⟨z1, z2⟩, hkj, hz, hlz⟩
   ·have HN := Lib.hid (show okL (x + 1) (ls.drop (k + 1)) = R by rw [← HB.out, HD.out]; exact (okL_ref h0 h1 h2 h3 (by omega)).symm); have t4 : decide (0 < (k : Int)) = false := by simpa using (show ¬ 0 < (k : Int) by omega)
    have t4' : decide (0 < k) = false := by simpa using (show ¬ 0 < k by omega)
    have HE := Lib.hid hk0; have hx1 : x + 1 ≤ 201 := by omega
    have hx0 : 0 ≤ x + 1 := by omega
    clear h0 h1 h2 h3 hk0 hl00; go_wp2; go_roundw
    case rel => exact ⟨k + 1, x + 1, _, by omega, hx0, hx1, by go_num, rfl, HN, HW, Lib.hid (.inr ⟨k, (x, y), rfl, HX.out, rfl⟩)⟩
    case measure => simp [intOf]; omega
   ·have t4 : decide (0 < (k : Int)) = true := by simpa using (show 0 < (k : Int) by omega)
    have t4' : decide (0 < k) = true := by simpa using (show 0 < k by omega)
    obtain ⟨ad', z1', z2', ead, _, hzz, hd0, hd1⟩ := HK.out.get (show j < m by omega); injection ead with ead
    subst ead; rw [hz] at hzz; simp only [Option.some.injEq, Prod.mk.injEq] at hzz; obtain ⟨rfl, rfl⟩ := hzz; simp only at hlz; have e1 : (k : Int) - 1 = (j : Int) := by omega
    have hj2 : (j : Int) < (m : Int) := by omega
    have hj1 : 0 ≤ (j : Int) := by omega
    have hk1 : 0 ≤ (k : Int) := by omega
    by_cases h5 : x ≤ z1
    ·have t5 : decide (x ≤ z1) = true := by simpa using h5
     have HF := Lib.hid (show R = false by rw [← HB.out, HD.out]; exact okL_bad (by omega) hl0); clear h0 h1 h2 h3 h5 hkj hz hlz hd1; go_wp2
     go_quiet (fail)
     go_wp2; go_ret; exact ⟨by rw [HF.out]; rfl, below_drewN HW.out _⟩
    ·have t5 : decide (x ≤ z1) = false := by simpa using h5
     have HN := Lib.hid (show okL (x + 1) (ls.drop (k + 1)) = R by rw [← HB.out, HD.out]; exact (okL_ref h0 h1 h2 h3 (by omega)).symm); have hx1 : x + 1 ≤ 201 := by omega
     have hx0 : 0 ≤ x + 1 := by omega
     clear h0 h1 h2 h3 h5 hkj hz hlz hd1; go_wp2
     go_quiet (fail)
     go_wp2; go_roundw
     case rel => exact ⟨k + 1, x + 1, _, by omega, hx0, hx1, by go_num, rfl, HN, Lib.hid (below_drewN HW.out _), Lib.hid (.inr ⟨k, (x, y), rfl, HX.out, rfl⟩)⟩
     case measure => simp [intOf]; omega
  ·have HF := Lib.hid (show R = true by rw [← HB.out, List.drop_of_length_le (by rw [HL.out]; omega)]; rfl); go_wp2; go_ret; exact ⟨by rw [HF.out]; rfl, HW.out⟩
set_option maxRecDepth 100000 in
set_option maxHeartbeats 2000000 in
theorem factors (L : Option Addr) (m c : Nat) (xs : List Int) (w : World) (ok : Nat → Prop) (hS : Ins w ok L m xs) (hm : m ≤ maxLen) :
  Calls Tryz.prog 129 #[.slice L m c] w fun e w' => e = .returned (.bool (fac xs)) ∧ w = w' := by
 have hl := hS.1; unfold maxLen at hm; have HS := Lib.hid hS; have HL := Lib.hid hl; have C := fun n lo hi w => Lib.hid (twithin n lo hi w)
 obtain ⟨R, hR⟩ : ∃ R, fac xs = R := ⟨_, rfl⟩; rw [hR]; have HR := Lib.hid hR; clear hS hl hR; go_enter Tryz.func129, Tryz.ntmps129; go_wp2
 go_loop [4, 7] (fun s4 i => ∃ (k : Nat), k ≤ m ∧ i = .int .i64 (k : Int) ∧ Hid (fac (xs.drop k) = R)) (fun _ i => m - (intOf i).toNat)
 case atStart => exact ⟨0, Nat.zero_le _, rfl, HR⟩
 case round =>
  obtain ⟨k, hk, rfl, HB⟩ := hrel; by_cases hlt : k < m
  ·obtain ⟨ad, x, rfl, hb, hx, hc0⟩ := HS.out.get hlt; have HD := Lib.hid (drop_get hx); have hlt2 : (k : Int) < (m : Int) := by omega
   clear hx hb; cases t7 : wi x 0 100000
   ·have HF := Lib.hid (show R = false by rw [← HB.out, HD.out]; exact fac_no t7)
    go_wp2_with (go_at_call 128; refine (C _ _ _ _).out.mono ?_; rintro e w' ⟨rfl, rfl⟩)
    go_ret; exact ⟨by rw [HF.out]; rfl, rfl⟩
   ·have HN := Lib.hid (show fac (xs.drop (k + 1)) = R by rw [← HB.out, HD.out]; exact (fac_yes t7).symm)
    go_wp2_with (go_at_call 128; refine (C _ _ _ _).out.mono ?_; rintro e w' ⟨rfl, rfl⟩)
    go_round
    case rel => exact ⟨k + 1, by omega, by go_num, HN⟩
    case measure => simp [intOf]; omega
  ·have HF := Lib.hid (show R = true by rw [← HB.out, List.drop_of_length_le (by rw [HL.out]; omega)]; rfl); go_wp2; go_ret; exact ⟨by rw [HF.out]; rfl, rfl⟩
set_option maxRecDepth 100000 in
set_option maxHeartbeats 2000000 in
theorem rfactors (L : Option Addr) (m c : Nat) (xs : List Int) (w : World) (ok : Nat → Prop) (hS : Ins w ok L m xs) (hm : m ≤ maxLen) :
  Calls Tryz.prog 126 #[.slice L m c] w fun e w' => e = .returned (.bool (fac xs)) ∧ w = w' := by
 have hl := hS.1; unfold maxLen at hm; have HS := Lib.hid hS; have HL := Lib.hid hl; obtain ⟨R, hR⟩ : ∃ R, fac xs = R := ⟨_, rfl⟩; rw [hR]; have HR := Lib.hid hR; clear hS hl hR; go_enter Tryz.func126, Tryz.ntmps126; go_wp2
 go_loop [3] (fun i => ∃ (k : Nat), k ≤ m ∧ i = .int .i64 (k : Int) ∧ Hid (fac (xs.drop k) = R)) (fun i => m - (intOf i).toNat)
 case atStart => exact ⟨0, Nat.zero_le _, rfl, HR⟩
 case round =>
  obtain ⟨k, hk, rfl, HB⟩ := hrel; by_cases hlt : k < m
  ·obtain ⟨ad, x, rfl, hb, hx, hc0⟩ := HS.out.get hlt; have HD := Lib.hid (drop_get hx); have hlt2 : (k : Int) < (m : Int) := by omega
   clear hx hb; by_cases h1 : x < 0
   ·have t1 : decide (x < 0) = true := decide_eq_true h1; have HF := Lib.hid (show R = false by rw [← HB.out, HD.out]; exact fac_no (wi_no (by omega))); clear h1; go_wp2; go_ret; exact ⟨by rw [HF.out]; rfl, rfl⟩
   ·have t1 : decide (x < 0) = false := decide_eq_false h1; by_cases h2 : 100000 < x
    ·have t2 : decide (100000 < x) = true := decide_eq_true h2; have HF := Lib.hid (show R = false by rw [← HB.out, HD.out]; exact fac_no (wi_no (by omega))); clear h1 h2; go_wp2; go_ret; exact ⟨by rw [HF.out]; rfl, rfl⟩
    ·have t2 : decide (100000 < x) = false := decide_eq_false h2; have HN := Lib.hid (show fac (xs.drop (k + 1)) = R by rw [← HB.out, HD.out]; exact (fac_yes (wi_iff.2 (by omega))).symm); clear h1 h2; go_wp2
     go_round
     case rel => exact ⟨k + 1, by omega, by go_num, HN⟩
     case measure => simp [intOf]; omega
  ·have HF := Lib.hid (show R = true by rw [← HB.out, List.drop_of_length_le (by rw [HL.out]; omega)]; rfl); go_wp2; go_ret; exact ⟨by rw [HF.out]; rfl, rfl⟩
end Trf
end Go.Proofs.YtplenoaajokpjaaGreat
