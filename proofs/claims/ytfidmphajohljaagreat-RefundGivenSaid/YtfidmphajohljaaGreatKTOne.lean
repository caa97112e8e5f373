/-
  Rows of ints, of bands and of versions, boxes; bands and factors. Conditions: those of each theorem.
-/
import Derived.Test.YtfidmphajohljaaGreatMTm
import Derived.Test.YtfidmphajohljaaGreatRows
import Derived.Test.YtfidmphajohljaaGreatMMath
import Derived.WalkKit
import Derived.WalkLawsBesides
import Derived.Lib.Hide
import Derived.Deep.QuietTactic
import Derived.BigQuiet
import Derived.Deep.DeepCutAuto
import Derived.Deep.CutBlock
import Derived.Deep.RegionHeld3
import Derived.WalkSmall
import Derived.IntWalk
import Derived.Below
import Derived.Lib.MinMax
import Derived.Lib.SliceRun
import Derived.Laws.AppendOwnNone
import Derived.OwnWalk
import Derived.Maps.AppendAt
import Derived.ArgAppend
import Derived.Deep.AppendLies
import Derived.Deep.LoopGhost
set_option linter.unusedVariables false
namespace Go.Proofs.YtfidmphajohljaaGreat
open Go.RowKit Ba Tf
namespace Trf
theorem add_block (a : Addr) (n : Nat) : (a.add n).block = a.block := by unfold Addr.add; split <;> rfl
theorem add_one (a : Addr) (i : Nat) : a.add (i + 1) = ⟨(a.add i).block, (a.add i).off + 1, none⟩ := by
 unfold Addr.add; by_cases hi : i = 0 <;> simp [hi, Nat.add_assoc]
def Bx (w : World) (b : Nat) (t : TypeId) (xs : Array Value) : Prop := w.heap[b]? = some (.cells xs t (0, 0))
section
variable {w w1 : World} {b B : Nat} {t : TypeId} {xs : Array Value}
theorem Bx.lt (h : Bx w b t xs) : b < w.heap.size := Tm.Bx.lt h
theorem Bx.c (h : Bx w b t xs) (o : Nat) : w.cell? ⟨b, o, none⟩ = xs[o]? := by rw [cell_of_row w b o _ _ _ h]
theorem Bx.f (h : Bx w b t xs) (o : Nat) : w.frozen? ⟨b, o, none⟩ = false := by unfold Bx at h; simp [World.frozen?, h]
theorem Bx.below (h : Bx w b t xs) (hb : Below B w w1) (hB : b < B) : Bx w1 b t xs := (hb.block b hB).trans h
theorem Bx.keep (h : Bx w b t xs) (hb : Below w.heap.size w w1) : Bx w1 b t xs := h.below hb h.lt
theorem Bx.alloc (h : Bx w b t xs) (o : Obj) : Bx (w.alloc o) b t xs := (Below.heap_alloc w o b h.lt).trans h
theorem Bx.new (w : World) (t : TypeId) (xs : Array Value) : Bx (w.alloc (.cells xs t)) w.heap.size t xs := heap_alloc_new w _
theorem Bx.set (h : Bx w b t xs) (o : Nat) (z : Value) : Bx (w.setCell ⟨b, o, none⟩ z) b t (xs.setIfInBounds o z) := Tm.Bx.set h o z
theorem Bx.far (h : Bx w b t xs) {a : Addr} (hp : b ≠ a.block) (u : Value) : Bx (w.setCell a u) b t xs := (Below.heap_setCell w a u b hp).trans h
end
theorem alloc_ (w : World) (o : Obj) : Below w.heap.size w (w.alloc o) := (Below.refl _ _).alloc (Nat.le_refl _) _
theorem add_more (a : Addr) (i k : Nat) : a.add (i + (k + 1)) = ⟨(a.add i).block, (a.add i).off + (k + 1), none⟩ := Tm.add_more a i k
def Lns (w : World) (ok : Nat → Prop) (L : Option Addr) (m : Nat) (xs : List Pr) : Prop :=
 xs.length = m ∧ (0 < m → ∃ ad : Addr, L = some ad ∧ ok ad.block ∧ ∀ (j : Nat) (x : Pr), xs[j]? = some x → w.cell? (ad.add (j * 2)) = some (.int .i64 x.1) ∧ w.cell? (ad.add (j * 2 + 1)) = some (.int .i64 x.2))
section
variable {w w' : World} {ok ok' : Nat → Prop} {m : Nat} {L : Option Addr} {xs : List Pr}
theorem Lns.nil {L : Option Addr} : Lns w ok L 0 [] := ⟨rfl, fun h => absurd h (by omega)⟩
theorem Lns.get {k : Nat} (h : Lns w ok L m xs) (hk : k < m) : ∃ (ad : Addr) (x y : Int), L = some ad ∧ ok ad.block ∧ xs[k]? = some (x, y) ∧ w.cell? (ad.add (k * 2)) = some (.int .i64 x) ∧ w.cell? ⟨(ad.add (k * 2)).block, (ad.add (k * 2)).off + 1, none⟩ = some (.int .i64 y) := by
 obtain ⟨ad, e, hb, hc⟩ := h.2 (by omega); have hl : k < xs.length := by have := h.1; omega
 have := hc k _ (List.getElem?_eq_getElem hl); exact ⟨ad, xs[k].1, xs[k].2, e, hb, List.getElem?_eq_getElem hl, this.1, by rw [← add_one]; exact this.2⟩
theorem Lns.keep (h : Lns w ok L m xs) (hk : ∀ p : Addr, ok p.block → w'.cell? p = w.cell? p) (hw : ∀ b, ok b → ok' b) : Lns w' ok' L m xs :=
 ⟨h.1, fun hn => by
  obtain ⟨ad, e, hb, hc⟩ := h.2 hn; exact ⟨ad, e, hw _ hb, fun j x hx => ⟨(hk _ (by rw [add_block]; exact hb)).trans (hc j x hx).1, (hk _ (by rw [add_block]; exact hb)).trans (hc j x hx).2⟩⟩⟩
theorem Lns.noroom (h : Lns w ok none m xs) : m = 0 := by
 rcases Nat.eq_zero_or_pos m with h0 | h0
 ·exact h0
 ·obtain ⟨ad, e, _⟩ := h.2 h0; cases e
end
def Ins (w : World) (ok : Nat → Prop) (L : Option Addr) (m : Nat) (xs : List Int) : Prop :=
 xs.length = m ∧ (0 < m → ∃ ad : Addr, L = some ad ∧ ok ad.block ∧ ∀ (j : Nat) (x : Int), xs[j]? = some x → w.cell? (ad.add j) = some (.int .i64 x))
section
variable {w w' : World} {ok ok' : Nat → Prop} {m : Nat} {L : Option Addr} {xs : List Int}
theorem Ins.nil {L : Option Addr} : Ins w ok L 0 [] := ⟨rfl, fun h => absurd h (by omega)⟩
theorem Ins.keep (h : Ins w ok L m xs) (hk : ∀ p : Addr, ok p.block → w'.cell? p = w.cell? p) (hw : ∀ b, ok b → ok' b) : Ins w' ok' L m xs :=
 ⟨h.1, fun hn => by
  obtain ⟨ad, e, hb, hc⟩ := h.2 hn; exact ⟨ad, e, hw _ hb, fun j x hx => (hk _ (by rw [add_block]; exact hb)).trans (hc j x hx)⟩⟩
theorem Ins.noroom (h : Ins w ok none m xs) : m = 0 := by
 rcases Nat.eq_zero_or_pos m with h0 | h0
 ·exact h0
 ·obtain ⟨ad, e, _⟩ := h.2 h0; cases e
theorem Ins.cells {ad : Addr} (h : Ins w ok (some ad) m xs) (j : Nat) (u : Value) (hu : (xs.map (Value.int .i64))[j]? = some u) : w.cell? (ad.add j) = some u := by
 rw [List.getElem?_map] at hu; cases e : xs[j]? with
 | none => rw [e] at hu; cases hu
 | some x =>
  rw [e] at hu; obtain ⟨ad', e', _, hc⟩ := h.2 (by have := h.1; have := (List.getElem?_eq_some_iff.1 e).1; omega); injection e' with e'
  subst e'; rw [hc j x e]; exact hu
end
structure Rw where
 v : Ve
 A : Option Addr
 la : Nat
 ca : Nat
 Z : Option Addr
 lz : Nat
 cz : Nat
 P : Option Addr
 lp : Nat
 cp : Nat
abbrev vc (r : Rw) : Array Value := #[.int .i64 r.v.fr, .int .i64 r.v.b0, .int .i64 r.v.b1, .int .i64 r.v.b2, .int .i64 r.v.b3, .slice r.A r.la r.ca, .slice r.Z r.lz r.cz, .slice r.P r.lp r.cp, .int .i64 r.v.mn]
abbrev vg (r : Rw) : Value := .agg #[.int .i64 r.v.fr, .int .i64 r.v.b0, .int .i64 r.v.b1, .int .i64 r.v.b2, .int .i64 r.v.b3, .slice r.A r.la r.ca, .slice r.Z r.lz r.cz, .slice r.P r.lp r.cp, .int .i64 r.v.mn]
abbrev tg (A : Option Addr) (n c : Nat) : Value := .agg #[.slice A n c]
abbrev zc : Array Value := #[.int .i64 0, .int .i64 0, .int .i64 0, .int .i64 0, .int .i64 0, .slice none 0 0, .slice none 0 0, .slice none 0 0, .int .i64 0]
def zr : Rw := ⟨zeroV, none, 0, 0, none, 0, 0, none, 0, 0⟩
def cl (r : Rw) : List Value := [.int .i64 r.v.fr, .int .i64 r.v.b0, .int .i64 r.v.b1, .int .i64 r.v.b2, .int .i64 r.v.b3, .slice r.A r.la r.ca, .slice r.Z r.lz r.cz, .slice r.P r.lp r.cp, .int .i64 r.v.mn]
structure Sm (r : Rw) : Prop where
 a : r.la ≤ 3000
 z : r.lz ≤ 3000
 p : r.lp ≤ 3000
structure Mean (w : World) (ok : Nat → Prop) (r : Rw) : Prop where
 a : Lns w ok r.A r.la r.v.ag
 z : Ins w ok r.Z r.lz r.v.zn
 p : Ins w ok r.P r.lp r.v.pe
section
variable {w w' : World} {ok ok' : Nat → Prop} {r : Rw}
theorem Mean.keep (h : Mean w ok r) (hk : ∀ p : Addr, ok p.block → w'.cell? p = w.cell? p) (hw : ∀ b, ok b → ok' b) : Mean w' ok' r := ⟨h.a.keep hk hw, h.z.keep hk hw, h.p.keep hk hw⟩
theorem Mean.below (h : Mean w (· < w.heap.size) r) (hb : Below w.heap.size w w') : Mean w' (· < w'.heap.size) r := h.keep (fun _ hp => hb.cell hp) fun b h => Nat.lt_of_lt_of_le h hb.size
end
theorem zr_mean (w : World) (ok : Nat → Prop) : Mean w ok zr := ⟨Lns.nil, Ins.nil, Ins.nil⟩
theorem zr_sm : Sm zr := ⟨Nat.zero_le _, Nat.zero_le _, Nat.zero_le _⟩
structure Nin (w : World) (a : Addr) (r : Rw) : Prop where
 c0 : w.cell? a = some (.int .i64 r.v.fr)
 c1 : w.cell? ⟨a.block, a.off + 1, none⟩ = some (.int .i64 r.v.b0)
 c2 : w.cell? ⟨a.block, a.off + 2, none⟩ = some (.int .i64 r.v.b1)
 c3 : w.cell? ⟨a.block, a.off + 3, none⟩ = some (.int .i64 r.v.b2)
 c4 : w.cell? ⟨a.block, a.off + 4, none⟩ = some (.int .i64 r.v.b3)
 c5 : w.cell? ⟨a.block, a.off + 5, none⟩ = some (.slice r.A r.la r.ca)
 c6 : w.cell? ⟨a.block, a.off + 6, none⟩ = some (.slice r.Z r.lz r.cz)
 c7 : w.cell? ⟨a.block, a.off + 7, none⟩ = some (.slice r.P r.lp r.cp)
 c8 : w.cell? ⟨a.block, a.off + 8, none⟩ = some (.int .i64 r.v.mn)
theorem Nin.keep {w w' : World} {a : Addr} {r : Rw} (h : Nin w a r) (hk : ∀ p : Addr, p.block = a.block → w'.cell? p = w.cell? p) : Nin w' a r :=
 ⟨(hk _ rfl).trans h.c0, (hk ⟨a.block, a.off + 1, none⟩ rfl).trans h.c1, (hk ⟨a.block, a.off + 2, none⟩ rfl).trans h.c2, (hk ⟨a.block, a.off + 3, none⟩ rfl).trans h.c3, (hk ⟨a.block, a.off + 4, none⟩ rfl).trans h.c4, (hk ⟨a.block, a.off + 5, none⟩ rfl).trans h.c5, (hk ⟨a.block, a.off + 6, none⟩ rfl).trans h.c6, (hk ⟨a.block, a.off + 7, none⟩ rfl).trans h.c7, (hk ⟨a.block, a.off + 8, none⟩ rfl).trans h.c8⟩
theorem nin_of {w : World} {a : Addr} {r : Rw} {j : Nat} (h : ∀ (o : Nat) (u : Value), (cl r)[o]? = some u → w.cell? (a.add (j + o)) = some u) : Nin w (a.add j) r :=
 ⟨h 0 _ rfl, by rw [← add_more a j 0]; exact h 1 _ rfl, by rw [← add_more a j 1]; exact h 2 _ rfl, by rw [← add_more a j 2]; exact h 3 _ rfl, by rw [← add_more a j 3]; exact h 4 _ rfl, by rw [← add_more a j 4]; exact h 5 _ rfl, by rw [← add_more a j 5]; exact h 6 _ rfl, by rw [← add_more a j 6]; exact h 7 _ rfl, by rw [← add_more a j 7]; exact h 8 _ rfl⟩
def Raws (w : World) (ok : Nat → Prop) (A : Option Addr) (n : Nat) (rs : List Rw) : Prop :=
 rs.length = n ∧ (0 < n → ∃ ad : Addr, A = some ad ∧ ok ad.block ∧ ∀ (j : Nat) (r : Rw), rs[j]? = some r → Nin w (ad.add (j * 9)) r)
section
variable {w w' : World} {ok ok' : Nat → Prop} {n : Nat} {A : Option Addr} {rs : List Rw}
theorem Raws.nil {A : Option Addr} : Raws w ok A 0 [] := ⟨rfl, fun h => absurd h (by omega)⟩
theorem Raws.keep (h : Raws w ok A n rs) (hk : ∀ p : Addr, ok p.block → w'.cell? p = w.cell? p) (hw : ∀ b, ok b → ok' b) : Raws w' ok' A n rs :=
 ⟨h.1, fun hn => by
  obtain ⟨ad, e, hb, hc⟩ := h.2 hn; exact ⟨ad, e, hw _ hb, fun j x hx => (hc j x hx).keep fun p hp => hk p (by rw [hp, add_block]; exact hb)⟩⟩
theorem Raws.below (h : Raws w (· < w.heap.size) A n rs) (hb : Below w.heap.size w w') : Raws w' (· < w'.heap.size) A n rs := h.keep (fun _ hp => hb.cell hp) fun b h => Nat.lt_of_lt_of_le h hb.size
theorem Raws.get {k : Nat} (h : Raws w ok A n rs) (hk : k < n) : ∃ (ad : Addr) (r : Rw), A = some ad ∧ ok ad.block ∧ rs[k]? = some r ∧ Nin w (ad.add (k * 9)) r := by
 obtain ⟨ad, e, hb, hc⟩ := h.2 (by omega); have hl : k < rs.length := by have := h.1; omega
 exact ⟨ad, rs[k], e, hb, List.getElem?_eq_getElem hl, hc k _ (List.getElem?_eq_getElem hl)⟩
end
structure Vers (w : World) (A : Option Addr) (n : Nat) (rs : List Rw) : Prop where
 r : Raws w (· < w.heap.size) A n rs
 m : ∀ r ∈ rs, Mean w (· < w.heap.size) r
 s : ∀ r ∈ rs, Sm r
section
variable {w w' : World} {A : Option Addr} {n : Nat} {rs : List Rw} {k : Nat} {r : Rw}
theorem Vers.below (h : Vers w A n rs) (hb : Below w.heap.size w w') : Vers w' A n rs := ⟨h.r.below hb, fun r hr => (h.m r hr).below hb, h.s⟩
theorem Vers.get (h : Vers w A n rs) (hk : k < n) : ∃ (ad : Addr) (r : Rw), A = some ad ∧ ad.block < w.heap.size ∧ rs[k]? = some r ∧ Nin w (ad.add (k * 9)) r ∧ Mean w (· < w.heap.size) r ∧ Sm r := by
 obtain ⟨ad, r, e, hb, hr, hn⟩ := h.r.get hk; exact ⟨ad, r, e, hb, hr, hn, h.m r (List.mem_of_getElem? hr), h.s r (List.mem_of_getElem? hr)⟩
theorem Vers.len (h : Vers w A n rs) : (rs.map Rw.v).length = n := by rw [List.length_map]; exact h.r.1
theorem map_get (h : rs[k]? = some r) : (rs.map Rw.v)[k]? = some r.v := by rw [List.getElem?_map, h]; rfl
end
theorem info_int : (Tryz.prog.info? 3).map (fun i => (i.zero, i.size, i.bytes)) = some (some (.int .i64 0), 1, 8) := by kernel_rfl
theorem info_band : (Tryz.prog.info? 140).map (fun i => (i.zero, i.size, i.bytes)) = some (some (.agg #[.int .i64 0, .int .i64 0]), 2, 16) := by kernel_rfl
def cel2 (xs : List Pr) : List Value := xs.flatMap fun x => [.int .i64 x.1, .int .i64 x.2]
theorem cel2_append (xs ys : List Pr) : cel2 (xs ++ ys) = cel2 xs ++ cel2 ys := List.flatMap_append
theorem cel2_one (x : Pr) : cel2 [x] = [.int .i64 x.1, .int .i64 x.2] := rfl
theorem cel2_length (xs : List Pr) : (cel2 xs).length = xs.length * 2 := by
 induction xs with
 | nil => rfl
 | cons x xs ih => rw [show x :: xs = [x] ++ xs from rfl, cel2_append, List.length_append, ih, cel2_one]; simp; omega
theorem cel2_get {xs : List Pr} {j : Nat} {x : Pr} (h : xs[j]? = some x) : (cel2 xs)[j * 2]? = some (.int .i64 x.1) ∧ (cel2 xs)[j * 2 + 1]? = some (.int .i64 x.2) := by
 induction xs generalizing j with
 | nil => simp at h
 | cons y ys ih =>
  rw [show y :: ys = [y] ++ ys from rfl, cel2_append, cel2_one]; cases j with
  | zero => simp at h; subst h; simp
  | succ j =>
   simp at h; obtain ⟨h1, h2⟩ := ih h; have e1 : (j + 1) * 2 = j * 2 + 2 := by omega
   rw [e1, List.getElem?_append_right (by simp), List.getElem?_append_right (by simp)]; exact ⟨by simpa using h1, by simpa using h2⟩
theorem cel2_cell (xs : List Pr) : ∀ u ∈ cel2 xs, u.oneCell' = true := by
 intro u hu; obtain ⟨x, _, hx⟩ := List.mem_flatMap.1 hu; simp at hx; rcases hx with rfl | rfl <;> rfl
theorem lns_cells {w : World} {ok : Nat → Prop} {ad : Addr} {m : Nat} {ys : List Pr} (h : Lns w ok (some ad) m ys) (j : Nat) (u : Value) (hu : (cel2 ys)[j]? = some u) : w.cell? (ad.add j) = some u := by
 have hl : j < ys.length * 2 := by rw [← cel2_length]; exact (List.getElem?_eq_some_iff.1 hu).1
 have hm : j / 2 < ys.length := by omega
 have hy : ys[j / 2]? = some ys[j / 2] := List.getElem?_eq_getElem hm; obtain ⟨ad', e, _, hc⟩ := h.2 (by have := h.1; omega); injection e with e
 subst e; obtain ⟨c0, c1⟩ := hc _ _ hy; obtain ⟨g0, g1⟩ := cel2_get hy; rcases (by omega : j = j / 2 * 2 ∨ j = j / 2 * 2 + 1) with hj | hj
 ·rw [hj, g0] at hu; rw [hj, c0]; exact hu
 ·rw [hj, g1] at hu; rw [hj, c1]; exact hu
theorem lns_own {w : World} {base n : Nat} {v : Value} {xs : List Pr} (h : w.ownsRow base 140 2 v n (cel2 xs)) : ∃ A c, v = .slice A n c ∧ Lns w (fun b => base ≤ b ∧ b < w.heap.size) A n xs := by
 have hl : xs.length = n := by have := h.1; rw [cel2_length] at this; omega
 rcases h.2 with ⟨rfl, hn⟩ | ⟨g, cap, cur, rfl, hb, hh, hnc, hm, hs, ht⟩
 ·subst hn; exact ⟨_, _, rfl, hl, fun h => absurd h (by omega)⟩
 ·refine ⟨_, _, rfl, hl, fun _ => ⟨_, rfl, ⟨hb, ?_⟩, fun j x hx => ?_⟩⟩
  ·rcases Nat.lt_or_ge g w.heap.size with hlt | hge
   ·exact hlt
   ·rw [Array.getElem?_eq_none hge] at hh; cases hh
  ·exact ⟨World.ownsRow.cells (g := g) h rfl (j * 2) _ (cel2_get hx).1, World.ownsRow.cells (g := g) h rfl (j * 2 + 1) _ (cel2_get hx).2⟩
abbrev Yes (w : World) (b : Bool) (e : Ending) (w' : World) : Prop := e = .returned (.bool b) ∧ Below w.heap.size w w'
theorem below_drewN {B : Nat} {w w' : World} (h : Below B w w') (n : Nat) : Below B w (w'.drewN n) := ⟨h.os, h.tape, h.output, h.size, h.block⟩
end Trf
end Go.Proofs.YtfidmphajohljaaGreat
