/-
  The parts Sw, Eqs, Eq of this proof. Conditions: those of each theorem.
-/
import Derived.Test.YtplenoaajokpjaaGreatMCh
import Derived.Test.YtplenoaajokpjaaGreatMMath
import Derived.Laws.StructEq
import Derived.Test.YtplenoaajokpjaaGreatMRi
import Derived.BigQuiet
namespace Go.Proofs.YtplenoaajokpjaaGreat
open Go.RowKit Ba Cv Sp Te Ag Sl Tm
namespace Slc
set_option linter.unusedVariables false
structure Rw where
 v : Sc
 A : Option Addr
 n : Nat
 c : Nat
abbrev vc (r : Rw) : Array Value := #[.int .i64 r.v.s.1, .int .i64 r.v.s.2, .bool r.v.h.on, .int .i64 r.v.h.r.k, .int .i64 r.v.h.r.v, .int .i64 r.v.h.r.a, .int .i64 r.v.h.r.z, .slice r.A r.n r.c, .int .i64 r.v.y]
abbrev vg (r : Rw) : Value := .agg (vc r)
abbrev zc : Array Value := #[.int .i64 0, .int .i64 0, .bool false, .int .i64 0, .int .i64 0, .int .i64 0, .int .i64 0, .slice none 0 0, .int .i64 0]
def zr : Rw := ⟨zsc, none, 0, 0⟩
def cl (r : Rw) : List Value := [.int .i64 r.v.s.1, .int .i64 r.v.s.2, .bool r.v.h.on, .int .i64 r.v.h.r.k, .int .i64 r.v.h.r.v, .int .i64 r.v.h.r.a, .int .i64 r.v.h.r.z, .slice r.A r.n r.c, .int .i64 r.v.y]
def cel (rs : List Rw) : List Value := rs.flatMap cl
theorem cel_append (xs ys : List Rw) : cel (xs ++ ys) = cel xs ++ cel ys := List.flatMap_append
theorem cel_one (r : Rw) : cel [r] = cl r := by simp [cel]
theorem cel_length (xs : List Rw) : (cel xs).length = xs.length * 9 := by
 induction xs with
 | nil => rfl
 | cons x xs ih => rw [show x :: xs = [x] ++ xs from rfl, cel_append, List.length_append, ih, cel_one]; simp [cl]; omega
theorem cel_get {xs : List Rw} {j : Nat} {r : Rw} (h : xs[j]? = some r) {o : Nat} (ho : o < 9) : (cel xs)[j * 9 + o]? = (cl r)[o]? := by
 induction xs generalizing j with
 | nil => simp at h
 | cons y ys ih =>
  have hl : (cl y).length = 9 := rfl; rw [show y :: ys = [y] ++ ys from rfl, cel_append, cel_one]; cases j with
  | zero => simp at h; subst h; rw [Nat.zero_mul, Nat.zero_add, List.getElem?_append_left (by omega)]
  | succ j =>
   simp at h; rw [List.getElem?_append_right (by omega), hl, show (j + 1) * 9 + o - 9 = j * 9 + o by omega]; exact ih h
theorem cel_cell (xs : List Rw) : ∀ u ∈ cel xs, u.oneCell' = true := by
 intro u hu; obtain ⟨x, _, hx⟩ := List.mem_flatMap.1 hu; simp [cl] at hx; rcases hx with rfl | rfl | rfl | rfl | rfl | rfl | rfl | rfl | rfl <;> rfl
structure Nin (w : World) (a : Addr) (r : Rw) : Prop where
 c0 : w.cell? a = some (.int .i64 r.v.s.1)
 c1 : w.cell? ⟨a.block, a.off + 1, none⟩ = some (.int .i64 r.v.s.2)
 c2 : w.cell? ⟨a.block, a.off + 2, none⟩ = some (.bool r.v.h.on)
 c3 : w.cell? ⟨a.block, a.off + 3, none⟩ = some (.int .i64 r.v.h.r.k)
 c4 : w.cell? ⟨a.block, a.off + 4, none⟩ = some (.int .i64 r.v.h.r.v)
 c5 : w.cell? ⟨a.block, a.off + 5, none⟩ = some (.int .i64 r.v.h.r.a)
 c6 : w.cell? ⟨a.block, a.off + 6, none⟩ = some (.int .i64 r.v.h.r.z)
 c7 : w.cell? ⟨a.block, a.off + 7, none⟩ = some (.slice r.A r.n r.c)
 c8 : w.cell? ⟨a.block, a.off + 8, none⟩ = some (.int .i64 r.v.y)
theorem Nin.keep {w w' : World} {a : Addr} {r : Rw} (h : Nin w a r) (hk : ∀ p : Addr, p.block = a.block → w'.cell? p = w.cell? p) : Nin w' a r :=
 ⟨(hk _ rfl).trans h.c0, (hk ⟨a.block, a.off + 1, none⟩ rfl).trans h.c1, (hk ⟨a.block, a.off + 2, none⟩ rfl).trans h.c2, (hk ⟨a.block, a.off + 3, none⟩ rfl).trans h.c3, (hk ⟨a.block, a.off + 4, none⟩ rfl).trans h.c4, (hk ⟨a.block, a.off + 5, none⟩ rfl).trans h.c5, (hk ⟨a.block, a.off + 6, none⟩ rfl).trans h.c6, (hk ⟨a.block, a.off + 7, none⟩ rfl).trans h.c7, (hk ⟨a.block, a.off + 8, none⟩ rfl).trans h.c8⟩
theorem nin_of {w : World} {a : Addr} {r : Rw} {j : Nat} (h : ∀ (o : Nat) (u : Value), (cl r)[o]? = some u → w.cell? (a.add (j + o)) = some u) : Nin w (a.add j) r :=
 ⟨h 0 _ rfl, by rw [← add_more a j 0]; exact h 1 _ rfl, by rw [← add_more a j 1]; exact h 2 _ rfl, by rw [← add_more a j 2]; exact h 3 _ rfl, by rw [← add_more a j 3]; exact h 4 _ rfl, by rw [← add_more a j 4]; exact h 5 _ rfl, by rw [← add_more a j 5]; exact h 6 _ rfl, by rw [← add_more a j 6]; exact h 7 _ rfl, by rw [← add_more a j 7]; exact h 8 _ rfl⟩
theorem nin_back {w : World} {a : Addr} {r : Rw} {j : Nat} (h : Nin w (a.add j) r) : ∀ (o : Nat) (u : Value), (cl r)[o]? = some u → w.cell? (a.add (j + o)) = some u := by
 intro o u hu
 match o, hu with
 | 0, hu => injection hu with hu; subst hu; exact h.c0
 | 1, hu => injection hu with hu; subst hu; rw [add_more a j 0]; exact h.c1
 | 2, hu => injection hu with hu; subst hu; rw [add_more a j 1]; exact h.c2
 | 3, hu => injection hu with hu; subst hu; rw [add_more a j 2]; exact h.c3
 | 4, hu => injection hu with hu; subst hu; rw [add_more a j 3]; exact h.c4
 | 5, hu => injection hu with hu; subst hu; rw [add_more a j 4]; exact h.c5
 | 6, hu => injection hu with hu; subst hu; rw [add_more a j 5]; exact h.c6
 | 7, hu => injection hu with hu; subst hu; rw [add_more a j 6]; exact h.c7
 | 8, hu => injection hu with hu; subst hu; rw [add_more a j 7]; exact h.c8
def Raws (w : World) (ok : Nat → Prop) (A : Option Addr) (n : Nat) (rs : List Rw) : Prop :=
 rs.length = n ∧ (0 < n → ∃ ad : Addr, A = some ad ∧ ok ad.block ∧ ∀ (j : Nat) (r : Rw), rs[j]? = some r → Nin w (ad.add (j * 9)) r)
section
variable {w w' : World} {ok ok' : Nat → Prop} {n : Nat} {A : Option Addr} {rs : List Rw}
theorem Raws.nil {A : Option Addr} : Raws w ok A 0 [] := ⟨rfl, fun h => absurd h (by omega)⟩
theorem Raws.keep (h : Raws w ok A n rs) (hk : ∀ p : Addr, ok p.block → w'.cell? p = w.cell? p) (hw : ∀ b, ok b → ok' b) : Raws w' ok' A n rs :=
 ⟨h.1, fun hn => by
  obtain ⟨ad, e, hb, hc⟩ := h.2 hn; exact ⟨ad, e, hw _ hb, fun j x hx => (hc j x hx).keep fun p hp => hk p (by rw [hp, add_block]; exact hb)⟩⟩
theorem Raws.below (h : Raws w (· < w.heap.size) A n rs) (hb : Below w.heap.size w w') : Raws w' (· < w'.heap.size) A n rs := h.keep (fun _ hp => hb.cell hp) fun b h => Nat.lt_of_lt_of_le h hb.size
theorem Raws.get {k : Nat} (h : Raws w ok A n rs) (hk : k < n) : ∃ (ad : Addr) (r : Rw), A = some ad ∧ ok ad.block ∧ rs[k]? = some r ∧ Nin w (ad.add (k * 9)) r := by
 obtain ⟨ad, e, hb, hc⟩ := h.2 (by omega); have hl : k < rs.length := by have := h.1; omega
 exact ⟨ad, rs[k], e, hb, List.getElem?_eq_getElem hl, hc k _ (List.getElem?_eq_getElem hl)⟩
theorem Raws.noroom (h : Raws w ok none n rs) : n = 0 := by
 rcases Nat.eq_zero_or_pos n with h0 | h0
 ·exact h0
 ·obtain ⟨ad, e, _⟩ := h.2 h0; cases e
theorem Raws.cells {ad : Addr} (h : Raws w ok (some ad) n rs) (j : Nat) (u : Value) (hu : (cel rs)[j]? = some u) : w.cell? (ad.add j) = some u := by
 have hl : j < rs.length * 9 := by rw [← cel_length]; exact (List.getElem?_eq_some_iff.1 hu).1
 have hm : j / 9 < rs.length := by omega
 have hy : rs[j / 9]? = some rs[j / 9] := List.getElem?_eq_getElem hm; obtain ⟨ad', e, _, hc⟩ := h.2 (by have := h.1; omega); injection e with e
 subst e; have hj : j / 9 * 9 + j % 9 = j := by omega
 have g := cel_get hy (o := j % 9) (by omega); rw [hj] at g; have := nin_back (hc _ _ hy) (j % 9) u (by rw [← g]; exact hu); rwa [hj] at this
end
theorem info_slice : (Tryz.prog.info? 60).map (fun i => (i.zero, i.size, i.bytes)) = some (some (.agg zc), 9, 88) := by kernel_rfl
theorem raws_own {w : World} {base n : Nat} {v : Value} {xs : List Rw} (h : w.ownsRow base 60 9 v n (cel xs)) : ∃ A c, v = .slice A n c ∧ Raws w (fun b => base ≤ b ∧ b < w.heap.size) A n xs := by
 have hl : xs.length = n := by have := h.1; rw [cel_length] at this; omega
 rcases h.2 with ⟨rfl, hn⟩ | ⟨g, cap, cur, rfl, hb, hh, hnc, hm, hs, ht⟩
 ·subst hn; exact ⟨_, _, rfl, hl, fun h => absurd h (by omega)⟩
 ·refine ⟨_, _, rfl, hl, fun _ => ⟨_, rfl, ⟨hb, ?_⟩, fun j x hx => nin_of fun o u hu => ?_⟩⟩
  ·rcases Nat.lt_or_ge g w.heap.size with hlt | hge
   ·exact hlt
   ·rw [Array.getElem?_eq_none hge] at hh; cases hh
  ·have ho : o < 9 := (List.getElem?_eq_some_iff.1 hu).1; exact World.ownsRow.cells (g := g) h rfl (j * 9 + o) u ((cel_get hx ho).trans hu)
def Own (w : World) (base : Nat) (A : Option Addr) (n c : Nat) (xs : List Rw) : Prop := w.ownsRow base 60 9 (.slice A n c) n (cel xs)
section
variable {w w' : World} {base n c : Nat} {A : Option Addr} {xs : List Rw}
theorem Own.nil : Own w base none 0 0 [] := World.ownsRow_nil w base _ 9
theorem Own.len (h : Own w base A n c xs) : xs.length = n := by have := h.1; rw [cel_length] at this; omega
theorem Own.lt (h : Own w base A n c xs) : ∀ k, (Value.slice A n c).ownBlock = some k → base ≤ k ∧ k < w.heap.size := World.ownsRow.lt h
theorem Own.below (h : Own w base A n c xs) (hb : Below w.heap.size w w') : Own w' base A n c xs := by
 refine World.ownsRow.kept h (grown_of_below hb) ?_; cases A with
 | none => exact .inl rfl
 | some a => exact .inr (by simp [Value.ownBlock])
theorem Own.raws (h : Own w base A n c xs) : Raws w (fun b => base ≤ b ∧ b < w.heap.size) A n xs := by
 obtain ⟨A', c', e, hl⟩ := raws_own h; injection e with e1 e2 e3
 subst e1; exact hl
theorem Own.drew (h : Own w base A n c xs) : Own w.drew base A n c xs := h
theorem Raws.drew {ok : Nat → Prop} {L : Option Addr} (h : Raws w ok L n xs) : Raws w.drew ok L n xs := h.keep (fun _ _ => rfl) fun _ h => h
theorem Own.made (w : World) : Own (w.alloc (.cells #[] 60)) w.heap.size (some ⟨w.heap.size, 0, none⟩) 0 0 [] := World.ownsRow_made w #[] 0 (Nat.le_refl _) (Nat.zero_le _) (by simp)
theorem Own.one (w : World) (r : Rw) : Own (w.alloc (.cells (vc r) 60)) w.heap.size (some ⟨w.heap.size, 0, none⟩) 1 1 [r] :=
 ⟨by rw [cel_one]; rfl, .inr ⟨w.heap.size, 1, _, rfl, Nat.le_refl _, heap_alloc_new w _, Nat.le_refl _, by unfold maxLen; omega, rfl, by rw [cel_one]; rfl⟩⟩
end
theorem own_of_row {w : World} {base k : Nat} {v : Value} {xs : List Rw} (h : w.ownsRow base 60 9 v k (cel xs)) : ∃ A c, v = .slice A k c ∧ Own w base A k c xs := by
 rcases h.2 with ⟨rfl, hn⟩ | ⟨g, cap, cur, rfl, hr⟩
 ·subst hn; exact ⟨_, _, rfl, h⟩
 ·exact ⟨_, _, rfl, h⟩
theorem run_app (w : World) (ty : TypeId) (base : Nat) (A : Option Addr) (n c : Nat) (xs : List Rw) (hown : Own w base A n c xs)
  (ok : Nat → Prop) (C : Option Addr) (m d : Nat) (ys : List Rw) (hr : Raws w ok C m ys) (hnil : C = none → m = 0 ∧ d = 0) (hlen : n + m ≤ 4000000) (hbase : base ≤ w.heap.size) :
  ∃ A' c' w', (Builtin.append_ #[56, 56] ty #[.slice A n c, .slice C m d]).run Tryz.prog w = .ok (.slice A' (n + m) c') w' ∧ Own w' base A' (n + m) c' (xs ++ ys) ∧ w.grownBy w' (Value.slice A n c).ownBlock := by
 obtain ⟨i, hi, hz, h1, h2⟩ := info_parts info_slice; cases C with
 | none =>
  obtain ⟨rfl, rfl⟩ := hnil rfl; have hy : ys = [] := List.eq_nil_of_length_eq_zero hr.1; subst hy; exact ⟨A, c, w, run_append_owned_none (P := Tryz.prog) (w := w) base _ ty 60 i 9 Tryz.underlying56 hi _ n _ hown, by rw [List.append_nil]; exact hown, World.grownBy.refl w _⟩
 | some ad =>
  obtain ⟨v', w', hrun, hO, hg, _⟩ := run_append_own (P := Tryz.prog) w base 56 ty 60 i _ 9 88 Tryz.underlying56 hi hz h1 h2 rfl (by omega) (.slice A n c) n _ hown ad m d (cel ys) (by rw [cel_length, hr.1]) (Raws.cells hr) (cel_cell ys) (by unfold maxLen; omega) (by omega) hbase; rw [← cel_append] at hO; obtain ⟨A', c', rfl, hO'⟩ := own_of_row hO; exact ⟨A', c', w', hrun, hO', hg⟩
theorem wpList_app (w : World) {ops : Array Oper} {rest : List Oper} {o : Oper} {a : Act} {Q : Exit → Act → World → Prop} (hgd : o.guard = none) (s x : Operand)
  (ho : o.op = .call { callee := .builtin .append, args := #[s, x], argTypes := #[56, 56] })
  (base : Nat) (A : Option Addr) (n c : Nat) (xs : List Rw) (hs : a.eval s = .slice A n c) (hown : Own w base A n c xs)
  (ok : Nat → Prop) (C : Option Addr) (m d : Nat) (ys : List Rw) (hx : a.eval x = .slice C m d) (hr : Raws w ok C m ys) (hnil : C = none → m = 0 ∧ d = 0) (N : Nat) (hN : n + m = N) (hlen : n + m ≤ 4000000) (hbase : base ≤ w.heap.size)
  (h : ∀ A' c' w', Own w' base A' N c' (xs ++ ys) → w.grownBy w' (Value.slice A n c).ownBlock → wpList Tryz.prog ops Q rest (a.put o.dst (.slice A' N c')) w') :
  wpList Tryz.prog ops Q (o :: rest) a w := by
 subst hN; refine wpList_plain hgd fun K hK => ?_
 obtain ⟨A', c', w', hrun, hO, hg⟩ := run_app w o.type base A n c xs hown ok C m d ys hr hnil hlen hbase; unfold Oper.wp; simp [execOp, ho, resolve, invoke, builtin, hs, hx, hrun, Result.andThen]; exact hK _ _ (h A' c' w' hO hg)
theorem step_app (w : World) {ops : Array Oper} {o : Oper} {a : Act} {K : Act → World → Prop} {Q : Exit → Act → World → Prop} {E : Prop} (hgd : o.guard = none) (s x : Operand)
  (ho : o.op = .call { callee := .builtin .append, args := #[s, x], argTypes := #[56, 56] })
  (base : Nat) (A : Option Addr) (n c : Nat) (xs : List Rw) (hs : a.eval s = .slice A n c) (hown : Own w base A n c xs)
  (ok : Nat → Prop) (C : Option Addr) (m d : Nat) (ys : List Rw) (hx : a.eval x = .slice C m d) (hr : Raws w ok C m ys) (hnil : C = none → m = 0 ∧ d = 0) (N : Nat) (hN : n + m = N) (hlen : n + m ≤ 4000000) (hbase : base ≤ w.heap.size)
  (h : ∀ A' c' w', Own w' base A' N c' (xs ++ ys) → w.grownBy w' (Value.slice A n c).ownBlock → K (a.put o.dst (.slice A' N c')) w') :
  if Region.wanted o (yielded ops a.tmps) = true then Oper.wp Tryz.prog o a w K Q else E := by
 subst hN; have hw : Region.wanted o (yielded ops a.tmps) = true := by simp [Region.wanted, hgd]
 rw [if_pos hw]; obtain ⟨A', c', w', hrun, hO, hg⟩ := run_app w o.type base A n c xs hown ok C m d ys hr hnil hlen hbase; unfold Oper.wp execOp; simp only [ho, resolve, invoke, builtin, Sem.run_bind, Sem.run_pure, Result.andThen_ok, List.map_toArray, List.map_cons, List.map_nil, hs, hx, hrun]; exact h A' c' w' hO hg
theorem Own.fits {w : World} {base n c : Nat} {A : Option Addr} {xs : List Rw} (h : Own w base A n c xs) : n ≤ c ∧ (A = none → n = 0 ∧ c = 0) := by
 rcases h.2 with ⟨e, hn⟩ | ⟨g, cap, cur, e, _, _, hnc, _⟩
 ·injection e with e1 e2 e3; exact ⟨by omega, fun _ => ⟨hn, e3⟩⟩
 ·injection e with e1 e2 e3; subst e3; exact ⟨hnc, fun h0 => by rw [e1] at h0; cases h0⟩
theorem Own.low {w : World} {base base' n c : Nat} {A : Option Addr} {xs : List Rw} (h : Own w base A n c xs) (hb : base' ≤ base) : Own w base' A n c xs := by
 refine ⟨h.1, ?_⟩; rcases h.2 with h | ⟨g, cap, cur, e, hb2, r⟩
 ·exact .inl h
 ·exact .inr ⟨g, cap, cur, e, Nat.le_trans hb hb2, r⟩
theorem Own.form {w : World} {base n c : Nat} {A : Option Addr} {xs : List Rw} (h : Own w base A n c xs) (hn : 0 < n) : ∃ g, A = some ⟨g, 0, none⟩ ∧ base ≤ g ∧ g < w.heap.size := by
 rcases h.2 with ⟨e, h0⟩ | ⟨g, cap, cur, e, hb, hh, _⟩
 ·omega
 ·injection e with e1 e2 e3
  refine ⟨g, e1, hb, ?_⟩; rcases Nat.lt_or_ge g w.heap.size with hlt | hge
  ·exact hlt
  ·rw [Array.getElem?_eq_none hge] at hh; cases hh
theorem Own.far {w : World} {base n c : Nat} {A : Option Addr} {rs : List Rw} (h : Own w base A n c rs) {a : Addr} (hp : a.block < base) (u : Value) : Own (w.setCell a u) base A n c rs := by
 refine ⟨h.1, ?_⟩; rcases h.2 with h | ⟨g, cap, cur, e, hb, hh, r⟩
 ·exact .inl h
 ·exact .inr ⟨g, cap, cur, e, hb, (Below.heap_setCell w a u g (by omega)).trans hh, r⟩
theorem Raws.at {w : World} {ok : Nat → Prop} {g n j : Nat} {rs : List Rw} {r : Rw} (h : Raws w ok (some ⟨g, 0, none⟩) n rs) (hr : rs[j]? = some r) : Nin w ⟨g, j * 9, none⟩ r := by
 obtain ⟨ad, e, _, hc⟩ := h.2 (by have := h.1; have := (List.getElem?_eq_some_iff.1 hr).1; omega); injection e with e
 subst e; have := hc j r hr; rwa [Addr.add_lit, Nat.zero_add] at this
theorem Own.frozen {w : World} {base n c g : Nat} {rs : List Rw} (h : Own w base (some ⟨g, 0, none⟩) n c rs) (o : Nat) : w.frozen? ⟨g, o, none⟩ = false := by
 rcases h.2 with ⟨e, _⟩ | ⟨g', cap, cur, e, _, hh, _⟩
 ·cases e
 ·injection e with e; injection e with e; injection e with e
  subst e; simp [World.frozen?, hh]
theorem cel_set (j : Nat) (u : Value) (f : Rw → Rw) (hf : ∀ r, cl (f r) = (cl r).set j u) (hj : j < 9) : ∀ (rs : List Rw) (i : Nat) (r : Rw), rs[i]? = some r → cel (rs.set i (f r)) = (cel rs).set (i * 9 + j) u
 | [], i, r, h => by simp at h
 | y :: ys, 0, r, h => by
  simp at h; subst h; rw [List.set_cons_zero, show ∀ z : Rw, z :: ys = [z] ++ ys from fun _ => rfl, cel_append, cel_one, show y :: ys = [y] ++ ys from rfl, cel_append, cel_one]; rw [List.set_append_left _ _ (by show 0 * 9 + j < 9; omega), hf, Nat.zero_mul, Nat.zero_add]
 | y :: ys, i + 1, r, h => by
  simp at h; rw [List.set_cons_succ, show ∀ (z : Rw) (zs : List Rw), z :: zs = [z] ++ zs from fun _ _ => rfl, cel_append, cel_one, show y :: ys = [y] ++ ys from rfl, cel_append, cel_one, cel_set j u f hf hj ys i r h]; rw [List.set_append_right _ _ (by show 9 ≤ (i + 1) * 9 + j; omega)]
  congr 2
  show i * 9 + j = (i + 1) * 9 + j - 9
  omega
theorem Own.put {w : World} {base n c g i : Nat} {rs : List Rw} {r : Rw} (h : Own w base (some ⟨g, 0, none⟩) n c rs) (hr : rs[i]? = some r) (j : Nat) (u : Value) (f : Rw → Rw) (hf : ∀ r, cl (f r) = (cl r).set j u) (hj : j < 9) : Own (w.setCell ⟨g, i * 9 + j, none⟩ u) base (some ⟨g, 0, none⟩) n c (rs.set i (f r)) := by
 refine ⟨by have := h.1; rw [cel_length] at this ⊢; rw [List.length_set]; exact this, ?_⟩; rcases h.2 with ⟨e, _⟩ | ⟨g', cap, cur, e, hb, hh, hnc, hm, hs, ht⟩
 ·cases e
 ·injection e with e1 e2 e3
  injection e1 with e1
  injection e1 with e1
  subst e1 e3; refine .inr ⟨g, c, cur.setIfInBounds (i * 9 + j) u, rfl, hb, heap_setCell_same w g _ _ _ _ hh, hnc, hm, by simpa using hs, ?_⟩; rw [Array.toList_setIfInBounds, List.take_set, ht, cel_set j u f hf hj rs i r hr]
def Rw.setY (y : Int) (r : Rw) : Rw := ⟨⟨r.v.s, r.v.h, y⟩, r.A, r.n, r.c⟩
def Rw.setT (t : Int) (r : Rw) : Rw := ⟨⟨(r.v.s.1, t), r.v.h, r.v.y⟩, r.A, r.n, r.c⟩
theorem Own.putY {w : World} {base n c g i : Nat} {rs : List Rw} {r : Rw} (h : Own w base (some ⟨g, 0, none⟩) n c rs) (hr : rs[i]? = some r) (y : Int) : Own (w.setCell ⟨g, i * 9 + 8, none⟩ (.int .i64 y)) base (some ⟨g, 0, none⟩) n c (rs.set i (r.setY y)) := h.put hr 8 _ (Rw.setY y) (fun _ => rfl) (by omega)
theorem Own.putT {w : World} {base n c g i : Nat} {rs : List Rw} {r : Rw} (h : Own w base (some ⟨g, 0, none⟩) n c rs) (hr : rs[i]? = some r) (t : Int) : Own (w.setCell ⟨g, i * 9 + 1, none⟩ (.int .i64 t)) base (some ⟨g, 0, none⟩) n c (rs.set i (r.setT t)) := h.put hr 1 _ (Rw.setT t) (fun _ => rfl) (by omega)
theorem grown_set {w : World} {g : Nat} (o : Nat) (u : Value) (n c : Nat) : w.grownBy (w.setCell ⟨g, o, none⟩ u) (Value.slice (some ⟨g, 0, none⟩) n c).ownBlock := ⟨rfl, rfl, rfl, by rw [World.size_setCell]; exact Nat.le_refl _, fun k hk hne => Below.heap_setCell w _ u k (fun e => hne (by rw [e]; rfl))⟩
end Slc
end Go.Proofs.YtplenoaajokpjaaGreat

namespace Go.Proofs.YtplenoaajokpjaaGreat
open Go.RowKit Ba Cv Sp Te Ag Sl Tm
namespace Slc
set_option linter.unusedVariables false
set_option maxHeartbeats 1000000 in
theorem eq_cover (d : Nat) (w : World) (p l g e s p' l' g' e' s' : Int) : (Op.equalIn (d + 2) 41 (.agg #[.int .i64 p, .int .i64 l, .int .i64 g, .int .i64 e, .int .i64 s]) (.agg #[.int .i64 p', .int .i64 l', .int .i64 g', .int .i64 e', .int .i64 s'])).run Tryz.prog w = .ok (p == p' && l == l' && g == g' && e == e' && s == s') w := by
 have hS : Tryz.prog.underlying 41 = some (.struct (Tryz.prog.fieldsOf 41)) := by kernel_rfl
 have hp : Tryz.prog.stoodInHeld 41 = false := by kernel_rfl
 have u3 := Tryz.underlying3; have a3 := Tryz.isAgg3; have z3 := Tryz.sizeOf3; rw [show d + 2 = (d + 1) + 1 from rfl, run_equalIn_agg w (d + 1) 41 _ _ hS hp]; simp only [Program.fieldsOf, Tryz.underlying41]; go_simp; by_cases h0 : p = p' <;> by_cases h1 : l = l' <;> by_cases h2 : g = g' <;> by_cases h3 : e = e' <;> by_cases h4 : s = s' <;> simp [h0, h1, h2, h3, h4]
theorem eq_span (d : Nat) (w : World) (a b a' b' : Int) : (Op.equalIn (d + 2) 27 (.agg #[.int .i64 a, .int .i64 b]) (.agg #[.int .i64 a', .int .i64 b'])).run Tryz.prog w = .ok (a == a' && b == b') w := by
 have hS : Tryz.prog.underlying 27 = some (.struct (Tryz.prog.fieldsOf 27)) := by kernel_rfl
 have hp : Tryz.prog.stoodInHeld 27 = false := by kernel_rfl
 have u3 := Tryz.underlying3; have a3 := Tryz.isAgg3; have z3 := Tryz.sizeOf3; rw [show d + 2 = (d + 1) + 1 from rfl, run_equalIn_agg w (d + 1) 27 _ _ hS hp]; simp only [Program.fieldsOf, Tryz.underlying27]; go_simp; by_cases h0 : a = a' <;> by_cases h1 : b = b' <;> simp [h0, h1]
set_option maxHeartbeats 1000000 in
theorem eq_risk (d : Nat) (w : World) (k v a z k' v' a' z' : Int) : (Op.equalIn (d + 2) 29 (.agg #[.int .i64 k, .int .i64 v, .int .i64 a, .int .i64 z]) (.agg #[.int .i64 k', .int .i64 v', .int .i64 a', .int .i64 z'])).run Tryz.prog w = .ok (k == k' && v == v' && a == a' && z == z') w := by
 have hS : Tryz.prog.underlying 29 = some (.struct (Tryz.prog.fieldsOf 29)) := by kernel_rfl
 have hp : Tryz.prog.stoodInHeld 29 = false := by kernel_rfl
 have u3 := Tryz.underlying3; have a3 := Tryz.isAgg3; have z3 := Tryz.sizeOf3; rw [show d + 2 = (d + 1) + 1 from rfl, run_equalIn_agg w (d + 1) 29 _ _ hS hp]; simp only [Program.fieldsOf, Tryz.underlying29]; go_simp; by_cases h0 : k = k' <;> by_cases h1 : v = v' <;> by_cases h2 : a = a' <;> by_cases h3 : z = z' <;> simp [h0, h1, h2, h3]
set_option maxHeartbeats 1000000 in
theorem eq_holding (d : Nat) (w : World) (k v a z k' v' a' z' : Int) (o o' : Bool) : (Op.equalIn (d + 3) 137 (.agg #[.bool o, .int .i64 k, .int .i64 v, .int .i64 a, .int .i64 z]) (.agg #[.bool o', .int .i64 k', .int .i64 v', .int .i64 a', .int .i64 z'])).run Tryz.prog w = .ok (o == o' && (k == k' && v == v' && a == a' && z == z')) w := by
 have hS : Tryz.prog.underlying 137 = some (.struct (Tryz.prog.fieldsOf 137)) := by kernel_rfl
 have hp : Tryz.prog.stoodInHeld 137 = false := by kernel_rfl
 have u3 := Tryz.underlying3; have a3 := Tryz.isAgg3; have z3 := Tryz.sizeOf3; have u4 := Tryz.underlying4; have a4 := Tryz.isAgg4; have z4 := Tryz.sizeOf4; have a5 := Tryz.isAgg29; have z5 := Tryz.sizeOf29; have q5 := eq_risk; rw [show d + 3 = (d + 2) + 1 from rfl, run_equalIn_agg w (d + 2) 137 _ _ hS hp]; simp only [Program.fieldsOf, Tryz.underlying137]; go_simp; by_cases h0 : o = o'
 ·by_cases h1 : k = k'
  ·by_cases h2 : v = v'
   ·by_cases h3 : a = a'
    ·by_cases h4 : z = z' <;> simp [h0, h1, h2, h3, h4]
    ·simp [h0, h1, h2, h3]
   ·simp [h0, h1, h2]
  ·simp [h0, h1]
 ·simp [h0]
end Slc
end Go.Proofs.YtplenoaajokpjaaGreat

namespace Go.Proofs.YtplenoaajokpjaaGreat
open Go.RowKit Ba Cv Sp Te Ag Sl Tm
namespace Slc
set_option linter.unusedVariables false
theorem eq_step {xs ys : List Co} {k : Nat} {x y : Co} (hx : xs[k]? = some x) (hy : ys[k]? = some y) (e : xs.take k = ys.take k) (h : x = y) : xs.take (k + 1) = ys.take (k + 1) := by
 rw [take_get hx, take_get hy, e, h]
theorem eq_no {xs ys : List Co} {k : Nat} {x y : Co} (hx : xs[k]? = some x) (hy : ys[k]? = some y) (h : x ≠ y) : decide (xs = ys) = false := by
 refine decide_eq_false fun e => h ?_
 rw [e, hy] at hx; exact (Option.some.inj hx).symm
theorem eq_len {xs ys : List Co} {n m : Nat} (hx : xs.length = n) (hy : ys.length = m) (h : n ≠ m) : decide (xs = ys) = false := by
 refine decide_eq_false fun e => h ?_
 rw [← hx, ← hy, e]
theorem run_cover (x y : Co) (w : World) : (Op.equalIn 10000 41 (cg x) (cg y)).run Tryz.prog w = .ok (decide (x = y)) w := by
 obtain ⟨p, l, g, d, s⟩ := x; obtain ⟨p2, l2, g2, d2, s2⟩ := y; refine (eq_cover 9998 w p l g d s p2 l2 g2 d2 s2).trans (congrArg (fun b => Result.ok b w) ?_); rw [Bool.eq_iff_iff]; simp [and_assoc]
set_option maxRecDepth 100000 in
set_option maxHeartbeats 2000000 in
theorem equal (A A2 : Option Addr) (n n2 c c2 : Nat) (cs ds : List Co) (w : World) (ok ok2 : Nat → Prop) (hS : Cvs w ok A n cs) (hS2 : Cvs w ok2 A2 n2 ds) (hm : n ≤ 3000) (hm2 : n2 ≤ 3000) :
  Calls Tryz.prog 124 #[.slice A n c, .slice A2 n2 c2] w (Yes w (decide (cs = ds))) := by
 have HS := Lib.hid hS; have HS2 := Lib.hid hS2; clear hS hS2; by_cases hn : n = n2
 ·subst hn; have hn1 : (n : Int) = (n : Int) := rfl; go_enter Tryz.func124, Tryz.ntmps124; go_wp2
  go_loopw [13] (fun i w' => ∃ (k nd : Nat), k ≤ n ∧ i = .int .i64 (k : Int) ∧ w' = w.drewN nd ∧ Hid (cs.take k = ds.take k)) (fun i _ => n - (intOf i).toNat)
  case atStart => exact ⟨0, 0, Nat.zero_le _, rfl, rfl, Lib.hid rfl⟩
  case round =>
   obtain ⟨k, nd, hk, rfl, rfl, HE⟩ := hrel; by_cases hlt : k < n
   ·obtain ⟨ad, x, rfl, hb, hx, hN⟩ := HS.out.get hlt; obtain ⟨ad2, y, rfl, hb2, hy, hN2⟩ := HS2.out.get hlt; have hlt2 : (k : Int) < (n : Int) := by omega
    obtain ⟨c0, c1, c2, c3, c4⟩ := hN; obtain ⟨d0, d1, d2, d3, d4⟩ := hN2; have HX := Lib.hid hx; have HY := Lib.hid hy; clear hx hy hb hb2; obtain ⟨p, l, g, d, s⟩ := x; obtain ⟨p2, l2, g2, e2, s2⟩ := y; by_cases e : (⟨p, l, g, d, s⟩ : Co) = ⟨p2, l2, g2, e2, s2⟩
    ·have HE2 := Lib.hid (eq_step HX.out HY.out HE.out e); have q : ∀ w : World, (Op.equalIn 10000 41 (cg ⟨p, l, g, d, s⟩) (cg ⟨p2, l2, g2, e2, s2⟩)).run Tryz.prog w = .ok true w := fun w => by rw [run_cover, decide_eq_true e]
     go_wp2
     go_quiet (fail)
     go_wp2; go_roundw
     case rel => exact ⟨k + 1, _, by omega, by go_num, rfl, HE2⟩
     case measure => simp [intOf]; omega
    ·have HN := Lib.hid (eq_no HX.out HY.out e); have q : ∀ w : World, (Op.equalIn 10000 41 (cg ⟨p, l, g, d, s⟩) (cg ⟨p2, l2, g2, e2, s2⟩)).run Tryz.prog w = .ok false w := fun w => by rw [run_cover, decide_eq_false e]
     go_wp2
     go_quiet (fail)
     go_wp2; go_ret; exact ⟨congrArg (fun b => Ending.returned (.bool b)) HN.out.symm, below_drewN (below_drewN (Below.refl _ _) _) _⟩
   ·go_wp2; go_ret; have h1 := HS.out.1; have h2 := HS2.out.1; have e := HE.out; rw [List.take_of_length_le (by omega), List.take_of_length_le (by omega)] at e; exact ⟨congrArg (fun b => Ending.returned (.bool b)) (decide_eq_true e).symm, below_drewN (Below.refl _ _) _⟩
 ·have HN := Lib.hid (eq_len HS.out.1 HS2.out.1 hn); have t1 : decide ((n : Int) = (n2 : Int)) = false := decide_eq_false (by omega); go_enter Tryz.func124, Tryz.ntmps124; go_wp2; go_ret; exact ⟨congrArg (fun b => Ending.returned (.bool b)) HN.out.symm, Below.refl _ _⟩
set_option maxRecDepth 100000 in
set_option maxHeartbeats 2000000 in
theorem rsame_covers (A A2 : Option Addr) (n n2 c c2 : Nat) (cs ds : List Co) (w : World) (ok ok2 : Nat → Prop) (hS : Cvs w ok A n cs) (hS2 : Cvs w ok2 A2 n2 ds) (hm : n ≤ 3000) (hm2 : n2 ≤ 3000) :
  Calls Tryz.prog 76 #[.slice A n c, .slice A2 n2 c2] w (Yes w (decide (cs = ds))) := by
 have HS := Lib.hid hS; have HS2 := Lib.hid hS2; clear hS hS2; by_cases hn : n = n2
 ·subst hn; have hn1 : (n : Int) = (n : Int) := rfl; go_enter Tryz.func76, Tryz.ntmps76; go_wp2
  go_loopw [5] (fun i w' => ∃ (k nd : Nat), k ≤ n ∧ i = .int .i64 (k : Int) ∧ w' = w.drewN nd ∧ Hid (cs.take k = ds.take k)) (fun i _ => n - (intOf i).toNat)
  case atStart => exact ⟨0, 0, Nat.zero_le _, rfl, rfl, Lib.hid rfl⟩
  case round =>
   obtain ⟨k, nd, hk, rfl, rfl, HE⟩ := hrel; by_cases hlt : k < n
   ·obtain ⟨ad, x, rfl, hb, hx, hN⟩ := HS.out.get hlt; obtain ⟨ad2, y, rfl, hb2, hy, hN2⟩ := HS2.out.get hlt; have hlt2 : (k : Int) < (n : Int) := by omega
    obtain ⟨c0, c1, c2, c3, c4⟩ := hN; obtain ⟨d0, d1, d2, d3, d4⟩ := hN2; have HX := Lib.hid hx; have HY := Lib.hid hy; clear hx hy hb hb2; obtain ⟨p, l, g, d, s⟩ := x; obtain ⟨p2, l2, g2, e2, s2⟩ := y; by_cases e : (⟨p, l, g, d, s⟩ : Co) = ⟨p2, l2, g2, e2, s2⟩
    ·have HE2 := Lib.hid (eq_step HX.out HY.out HE.out e); have q : ∀ w : World, (Op.equalIn 10000 41 (cg ⟨p, l, g, d, s⟩) (cg ⟨p2, l2, g2, e2, s2⟩)).run Tryz.prog w = .ok true w := fun w => by rw [run_cover, decide_eq_true e]
     go_wp2
     go_quiet (fail)
     go_wp2; go_roundw
     case rel => exact ⟨k + 1, _, by omega, by go_num, rfl, HE2⟩
     case measure => simp [intOf]; omega
    ·have HN := Lib.hid (eq_no HX.out HY.out e); have q : ∀ w : World, (Op.equalIn 10000 41 (cg ⟨p, l, g, d, s⟩) (cg ⟨p2, l2, g2, e2, s2⟩)).run Tryz.prog w = .ok false w := fun w => by rw [run_cover, decide_eq_false e]
     go_wp2
     go_quiet (fail)
     go_wp2; go_ret; exact ⟨congrArg (fun b => Ending.returned (.bool b)) HN.out.symm, below_drewN (below_drewN (Below.refl _ _) _) _⟩
   ·go_wp2; go_ret; have h1 := HS.out.1; have h2 := HS2.out.1; have e := HE.out; rw [List.take_of_length_le (by omega), List.take_of_length_le (by omega)] at e; exact ⟨congrArg (fun b => Ending.returned (.bool b)) (decide_eq_true e).symm, below_drewN (Below.refl _ _) _⟩
 ·have HN := Lib.hid (eq_len HS.out.1 HS2.out.1 hn); have t1 : decide ((n : Int) = (n2 : Int)) = false := decide_eq_false (by omega); go_enter Tryz.func76, Tryz.ntmps76; go_wp2; go_ret; exact ⟨congrArg (fun b => Ending.returned (.bool b)) HN.out.symm, Below.refl _ _⟩
end Slc
end Go.Proofs.YtplenoaajokpjaaGreat
