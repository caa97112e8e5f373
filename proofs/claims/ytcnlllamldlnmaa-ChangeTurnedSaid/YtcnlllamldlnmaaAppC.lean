/-
  Rows of changes of the call's own, and appending to them. Conditions: those of each theorem.
-/
import Derived.Test.YtcnlllamldlnmaaChs
namespace Go.Proofs.Ytcnlllamldlnmaa
open Go.RowKit Ba Cv Sp Te Ag
namespace Tm
set_option linter.unusedVariables false

theorem info_change : (Try.prog.info? 26).map (fun i => (i.zero, i.size, i.bytes)) = some (some (.agg zc), 9, 88) := by kernel_rfl
/-- A row of the call's own reads as changes, in a block from base on. -/
theorem raws_own {w : World} {base n : Nat} {v : Value} {xs : List Rw} (h : w.ownsRow base 26 9 v n (cel xs)) : ∃ A c, v = .slice A n c ∧ Raws w (fun b => base ≤ b ∧ b < w.heap.size) A n xs := by
  have hl : xs.length = n := by have := h.1; rw [cel_length] at this; omega
  rcases h.2 with ⟨rfl, hn⟩ | ⟨g, cap, cur, rfl, hb, hh, hnc, hm, hs, ht⟩
  · subst hn
    exact ⟨_, _, rfl, hl, fun h => absurd h (by omega)⟩
  · refine ⟨_, _, rfl, hl, fun _ => ⟨_, rfl, ⟨hb, ?_⟩, fun j x hx => nin_of fun o u hu => ?_⟩⟩
    · rcases Nat.lt_or_ge g w.heap.size with hlt | hge
      · exact hlt
      · rw [Array.getElem?_eq_none hge] at hh; cases hh
    · have ho : o < 9 := (List.getElem?_eq_some_iff.1 hu).1
      exact World.ownsRow.cells (g := g) h rfl (j * 9 + o) u ((cel_get hx ho).trans hu)

/-- A row of the call's own, that reads as these changes. -/
def Own (w : World) (base : Nat) (A : Option Addr) (n c : Nat) (xs : List Rw) : Prop := w.ownsRow base 26 9 (.slice A n c) n (cel xs)
section
variable {w w' : World} {base n c : Nat} {A : Option Addr} {xs : List Rw}
theorem Own.nil : Own w base none 0 0 [] := World.ownsRow_nil w base _ 9
theorem Own.len (h : Own w base A n c xs) : xs.length = n := by have := h.1; rw [cel_length] at this; omega
theorem Own.lt (h : Own w base A n c xs) : ∀ k, (Value.slice A n c).ownBlock = some k → base ≤ k ∧ k < w.heap.size := World.ownsRow.lt h
theorem Own.below (h : Own w base A n c xs) (hb : Below w.heap.size w w') : Own w' base A n c xs := by
  refine World.ownsRow.kept h (grown_of_below hb) ?_
  cases A with
  | none => exact .inl rfl
  | some a => exact .inr (by simp [Value.ownBlock])
theorem Own.raws (h : Own w base A n c xs) : Raws w (fun b => base ≤ b ∧ b < w.heap.size) A n xs := by
  obtain ⟨A', c', e, hl⟩ := raws_own h
  injection e with e1 e2 e3
  subst e1
  exact hl
theorem Own.drew (h : Own w base A n c xs) : Own w.drew base A n c xs := h
theorem Raws.drew {ok : Nat → Prop} {L : Option Addr} (h : Raws w ok L n xs) : Raws w.drew ok L n xs := h.keep (fun _ _ => rfl) fun _ h => h
theorem Own.made (w : World) : Own (w.alloc (.cells #[] 26)) w.heap.size (some ⟨w.heap.size, 0, none⟩) 0 0 [] := World.ownsRow_made w #[] 0 (Nat.le_refl _) (Nat.zero_le _) (by simp)
theorem Own.one (w : World) (r : Rw) : Own (w.alloc (.cells (vc r) 26)) w.heap.size (some ⟨w.heap.size, 0, none⟩) 1 1 [r] :=
  ⟨by rw [cel_one]; rfl, .inr ⟨w.heap.size, 1, _, rfl, Nat.le_refl _, heap_alloc_new w _, Nat.le_refl _, by unfold maxLen; omega, rfl, by rw [cel_one]; rfl⟩⟩
end
theorem own_of_row {w : World} {base k : Nat} {v : Value} {xs : List Rw} (h : w.ownsRow base 26 9 v k (cel xs)) : ∃ A c, v = .slice A k c ∧ Own w base A k c xs := by
  rcases h.2 with ⟨rfl, hn⟩ | ⟨g, cap, cur, rfl, hr⟩
  · subst hn; exact ⟨_, _, rfl, h⟩
  · exact ⟨_, _, rfl, h⟩
/-- What append does. -/
theorem run_app (w : World) (ty : TypeId) (base : Nat) (A : Option Addr) (n c : Nat) (xs : List Rw) (hown : Own w base A n c xs)
    (ok : Nat → Prop) (C : Option Addr) (m d : Nat) (ys : List Rw) (hr : Raws w ok C m ys) (hnil : C = none → m = 0 ∧ d = 0) (hlen : n + m ≤ 4000000) (hbase : base ≤ w.heap.size) :
    ∃ A' c' w', (Builtin.append_ #[31, 31] ty #[.slice A n c, .slice C m d]).run Try.prog w = .ok (.slice A' (n + m) c') w' ∧ Own w' base A' (n + m) c' (xs ++ ys) ∧ w.grownBy w' (Value.slice A n c).ownBlock := by
  obtain ⟨i, hi, hz, h1, h2⟩ := info_parts info_change
  cases C with
  | none =>
    obtain ⟨rfl, rfl⟩ := hnil rfl
    have hy : ys = [] := List.eq_nil_of_length_eq_zero hr.1
    subst hy
    exact ⟨A, c, w, run_append_owned_none (P := Try.prog) (w := w) base _ ty 26 i 9 Try.underlying31 hi _ n _ hown, by rw [List.append_nil]; exact hown, World.grownBy.refl w _⟩
  | some ad =>
    obtain ⟨v', w', hrun, hO, hg, _⟩ := run_append_own (P := Try.prog) w base 31 ty 26 i _ 9 88 Try.underlying31 hi hz h1 h2 rfl (by omega) (.slice A n c) n _ hown ad m d (cel ys) (by rw [cel_length, hr.1]) (Raws.cells hr) (cel_cell ys) (by unfold maxLen; omega) (by omega) hbase
    rw [← cel_append] at hO
    obtain ⟨A', c', rfl, hO'⟩ := own_of_row hO
    exact ⟨A', c', w', hrun, hO', hg⟩
theorem wpList_app (w : World) {ops : Array Oper} {rest : List Oper} {o : Oper} {a : Act} {Q : Exit → Act → World → Prop} (hgd : o.guard = none) (s x : Operand)
    (ho : o.op = .call { callee := .builtin .append, args := #[s, x], argTypes := #[31, 31] })
    (base : Nat) (A : Option Addr) (n c : Nat) (xs : List Rw) (hs : a.eval s = .slice A n c) (hown : Own w base A n c xs)
    (ok : Nat → Prop) (C : Option Addr) (m d : Nat) (ys : List Rw) (hx : a.eval x = .slice C m d) (hr : Raws w ok C m ys) (hnil : C = none → m = 0 ∧ d = 0) (N : Nat) (hN : n + m = N) (hlen : n + m ≤ 4000000) (hbase : base ≤ w.heap.size)
    (h : ∀ A' c' w', Own w' base A' N c' (xs ++ ys) → w.grownBy w' (Value.slice A n c).ownBlock → wpList Try.prog ops Q rest (a.put o.dst (.slice A' N c')) w') :
    wpList Try.prog ops Q (o :: rest) a w := by
  subst hN
  refine wpList_plain hgd fun K hK => ?_
  obtain ⟨A', c', w', hrun, hO, hg⟩ := run_app w o.type base A n c xs hown ok C m d ys hr hnil hlen hbase
  unfold Oper.wp
  simp [execOp, ho, resolve, invoke, builtin, hs, hx, hrun, Result.andThen]
  exact hK _ _ (h A' c' w' hO hg)
theorem step_app (w : World) {ops : Array Oper} {o : Oper} {a : Act} {K : Act → World → Prop} {Q : Exit → Act → World → Prop} {E : Prop} (hgd : o.guard = none) (s x : Operand)
    (ho : o.op = .call { callee := .builtin .append, args := #[s, x], argTypes := #[31, 31] })
    (base : Nat) (A : Option Addr) (n c : Nat) (xs : List Rw) (hs : a.eval s = .slice A n c) (hown : Own w base A n c xs)
    (ok : Nat → Prop) (C : Option Addr) (m d : Nat) (ys : List Rw) (hx : a.eval x = .slice C m d) (hr : Raws w ok C m ys) (hnil : C = none → m = 0 ∧ d = 0) (N : Nat) (hN : n + m = N) (hlen : n + m ≤ 4000000) (hbase : base ≤ w.heap.size)
    (h : ∀ A' c' w', Own w' base A' N c' (xs ++ ys) → w.grownBy w' (Value.slice A n c).ownBlock → K (a.put o.dst (.slice A' N c')) w') :
    if Region.wanted o (yielded ops a.tmps) = true then Oper.wp Try.prog o a w K Q else E := by
  subst hN
  have hw : Region.wanted o (yielded ops a.tmps) = true := by simp [Region.wanted, hgd]
  rw [if_pos hw]
  obtain ⟨A', c', w', hrun, hO, hg⟩ := run_app w o.type base A n c xs hown ok C m d ys hr hnil hlen hbase
  unfold Oper.wp execOp
  simp only [ho, resolve, invoke, builtin, Sem.run_bind, Sem.run_pure, Result.andThen_ok, List.map_toArray, List.map_cons, List.map_nil, hs, hx, hrun]
  exact h A' c' w' hO hg


end Tm
end Go.Proofs.Ytcnlllamldlnmaa
