/-
  Rows of covers. Conditions: those of each theorem.
-/
import Derived.Test.YtcnlllamldlnmaaBase
import Derived.Deep.SlicePairs
namespace Go.Proofs.Ytcnlllamldlnmaa
open Go.RowKit Ba Cv Sp Te
namespace Tm
set_option linter.unusedVariables false

/-- Five cells from an address on. -/
structure Fiv (w : World) (a : Addr) (c : Co) : Prop where
  c0 : w.cell? a = some (.int .i64 c.p)
  c1 : w.cell? ⟨a.block, a.off + 1, none⟩ = some (.int .i64 c.l)
  c2 : w.cell? ⟨a.block, a.off + 2, none⟩ = some (.int .i64 c.g)
  c3 : w.cell? ⟨a.block, a.off + 3, none⟩ = some (.int .i64 c.d)
  c4 : w.cell? ⟨a.block, a.off + 4, none⟩ = some (.int .i64 c.s)
theorem Fiv.keep {w w' : World} {a : Addr} {c : Co} (h : Fiv w a c) (hk : ∀ p : Addr, p.block = a.block → w'.cell? p = w.cell? p) : Fiv w' a c :=
  ⟨(hk _ rfl).trans h.c0, (hk ⟨a.block, a.off + 1, none⟩ rfl).trans h.c1, (hk ⟨a.block, a.off + 2, none⟩ rfl).trans h.c2, (hk ⟨a.block, a.off + 3, none⟩ rfl).trans h.c3, (hk ⟨a.block, a.off + 4, none⟩ rfl).trans h.c4⟩
def cl5 (c : Co) : List Value := [.int .i64 c.p, .int .i64 c.l, .int .i64 c.g, .int .i64 c.d, .int .i64 c.s]
theorem fiv_of {w : World} {a : Addr} {c : Co} {j : Nat} (h : ∀ (o : Nat) (u : Value), (cl5 c)[o]? = some u → w.cell? (a.add (j + o)) = some u) : Fiv w (a.add j) c :=
  ⟨h 0 _ rfl, by rw [← add_more a j 0]; exact h 1 _ rfl, by rw [← add_more a j 1]; exact h 2 _ rfl, by rw [← add_more a j 2]; exact h 3 _ rfl, by rw [← add_more a j 3]; exact h 4 _ rfl⟩
theorem fiv_back {w : World} {a : Addr} {c : Co} {j : Nat} (h : Fiv w (a.add j) c) : ∀ (o : Nat) (u : Value), (cl5 c)[o]? = some u → w.cell? (a.add (j + o)) = some u := by
  intro o u hu
  match o, hu with
  | 0, hu => injection hu with hu; subst hu; exact h.c0
  | 1, hu => injection hu with hu; subst hu; rw [add_more a j 0]; exact h.c1
  | 2, hu => injection hu with hu; subst hu; rw [add_more a j 1]; exact h.c2
  | 3, hu => injection hu with hu; subst hu; rw [add_more a j 2]; exact h.c3
  | 4, hu => injection hu with hu; subst hu; rw [add_more a j 3]; exact h.c4
def cel5 (cs : List Co) : List Value := cs.flatMap cl5
theorem cel5_append (xs ys : List Co) : cel5 (xs ++ ys) = cel5 xs ++ cel5 ys := List.flatMap_append
theorem cel5_one (c : Co) : cel5 [c] = cl5 c := by simp [cel5]
theorem cel5_length (xs : List Co) : (cel5 xs).length = xs.length * 5 := by
  induction xs with
  | nil => rfl
  | cons x xs ih => rw [show x :: xs = [x] ++ xs from rfl, cel5_append, List.length_append, ih, cel5_one]; simp [cl5]; omega
theorem cel5_get {xs : List Co} {j : Nat} {c : Co} (h : xs[j]? = some c) {o : Nat} (ho : o < 5) : (cel5 xs)[j * 5 + o]? = (cl5 c)[o]? := by
  induction xs generalizing j with
  | nil => simp at h
  | cons y ys ih =>
    have hl : (cl5 y).length = 5 := rfl
    rw [show y :: ys = [y] ++ ys from rfl, cel5_append, cel5_one]
    cases j with
    | zero => simp at h; subst h; rw [Nat.zero_mul, Nat.zero_add, List.getElem?_append_left (by omega)]
    | succ j =>
      simp at h
      rw [List.getElem?_append_right (by omega), hl, show (j + 1) * 5 + o - 5 = j * 5 + o by omega]
      exact ih h
theorem cel5_cell (xs : List Co) : ∀ u ∈ cel5 xs, u.oneCell' = true := by
  intro u hu
  obtain ⟨x, _, hx⟩ := List.mem_flatMap.1 hu
  simp [cl5] at hx
  rcases hx with rfl | rfl | rfl | rfl | rfl <;> rfl

/-- The slice with this address and length reads as these covers, in blocks that are asked for. -/
def Cvs (w : World) (ok : Nat → Prop) (A : Option Addr) (n : Nat) (cs : List Co) : Prop :=
  cs.length = n ∧ (0 < n → ∃ ad : Addr, A = some ad ∧ ok ad.block ∧ ∀ (j : Nat) (c : Co), cs[j]? = some c → Fiv w (ad.add (j * 5)) c)
section
variable {w w' : World} {ok ok' : Nat → Prop} {n : Nat} {A : Option Addr} {cs : List Co}
theorem Cvs.nil {A : Option Addr} : Cvs w ok A 0 [] := ⟨rfl, fun h => absurd h (by omega)⟩
theorem Cvs.keep (h : Cvs w ok A n cs) (hk : ∀ p : Addr, ok p.block → w'.cell? p = w.cell? p) (hw : ∀ b, ok b → ok' b) : Cvs w' ok' A n cs :=
  ⟨h.1, fun hn => by
    obtain ⟨ad, e, hb, hc⟩ := h.2 hn
    exact ⟨ad, e, hw _ hb, fun j x hx => (hc j x hx).keep fun p hp => hk p (by rw [hp, add_block]; exact hb)⟩⟩
theorem Cvs.below (h : Cvs w (· < w.heap.size) A n cs) (hb : Below w.heap.size w w') : Cvs w' (· < w'.heap.size) A n cs := h.keep (fun _ hp => hb.cell hp) fun b h => Nat.lt_of_lt_of_le h hb.size
theorem Cvs.get {k : Nat} (h : Cvs w ok A n cs) (hk : k < n) : ∃ (ad : Addr) (c : Co), A = some ad ∧ ok ad.block ∧ cs[k]? = some c ∧ Fiv w (ad.add (k * 5)) c := by
  obtain ⟨ad, e, hb, hc⟩ := h.2 (by omega)
  have hl : k < cs.length := by have := h.1; omega
  exact ⟨ad, cs[k], e, hb, List.getElem?_eq_getElem hl, hc k _ (List.getElem?_eq_getElem hl)⟩
theorem Cvs.noroom (h : Cvs w ok none n cs) : n = 0 := by
  rcases Nat.eq_zero_or_pos n with h0 | h0
  · exact h0
  · obtain ⟨ad, e, _⟩ := h.2 h0; cases e
theorem Cvs.cells {ad : Addr} (h : Cvs w ok (some ad) n cs) (j : Nat) (u : Value) (hu : (cel5 cs)[j]? = some u) : w.cell? (ad.add j) = some u := by
  have hl : j < cs.length * 5 := by rw [← cel5_length]; exact (List.getElem?_eq_some_iff.1 hu).1
  have hm : j / 5 < cs.length := by omega
  have hy : cs[j / 5]? = some cs[j / 5] := List.getElem?_eq_getElem hm
  obtain ⟨ad', e, _, hc⟩ := h.2 (by have := h.1; omega)
  injection e with e
  subst e
  have hj : j / 5 * 5 + j % 5 = j := by omega
  have g := cel5_get hy (o := j % 5) (by omega)
  rw [hj] at g
  have := fiv_back (hc _ _ hy) (j % 5) u (by rw [← g]; exact hu)
  rwa [hj] at this
theorem Cvs.take (h : Cvs w ok A n cs) {k : Nat} (hk : k ≤ n) : Cvs w ok A k (cs.take k) := by
  refine ⟨by rw [List.length_take, h.1]; omega, fun hn => ?_⟩
  obtain ⟨ad, e, hb, hc⟩ := h.2 (by omega)
  refine ⟨ad, e, hb, fun j c hj => hc j c ?_⟩
  rw [List.getElem?_take] at hj
  split at hj
  · exact hj
  · cases hj
theorem add_add (a : Addr) (i j : Nat) : (a.add i).add j = a.add (i + j) := Go.Deep.add_add a i j
theorem Cvs.drop {ad : Addr} (h : Cvs w ok (some ad) n cs) {k : Nat} (hk : k ≤ n) : Cvs w ok (some (ad.add (k * 5))) (n - k) (cs.drop k) := by
  refine ⟨by rw [List.length_drop, h.1], fun hn => ?_⟩
  obtain ⟨ad', e, hb, hc⟩ := h.2 (by omega)
  injection e with e
  subst e
  refine ⟨_, rfl, by rw [add_block]; exact hb, fun j c hj => ?_⟩
  rw [List.getElem?_drop] at hj
  have := hc (k + j) c hj
  rw [add_add, ← Nat.add_mul]
  exact this
end
end Tm
end Go.Proofs.Ytcnlllamldlnmaa
