/-
  Slices of ints that the call itself makes and appends to. Conditions: those of each theorem.
-/
import Derived.Test.YtdamojbjamolaaaFacts
import Derived.Laws.AppendOwnNone
import Derived.Maps.AppendAt
import Derived.OwnWalk
namespace Go.Proofs.Ytdamojbjamolaaa
open Go.RowKit
namespace Num

/-- A slice of the call's own, that reads as these ints. -/
def Own (w : World) (base : Nat) (A : Option Addr) (n c : Nat) (xs : List Int) : Prop := w.ownsRow base 3 1 (.slice A n c) n (xs.map (Value.int .i64))

section
variable {w w' : World} {base n c : Nat} {A : Option Addr} {xs : List Int}
theorem Own.nil : Own w base none 0 0 [] := World.ownsRow_nil w base _ 1
theorem Own.lit (w : World) (xs : List Int) (hb : base ≤ w.heap.size) (hn : xs.length ≤ 1000000) : Own (w.alloc (.cells (xs.map (Value.int .i64)).toArray 3)) base (some ⟨w.heap.size, 0, none⟩) xs.length xs.length xs :=
  World.ownsRow_lit w (xs.map (Value.int .i64)).toArray xs.length hb (by unfold maxLen; omega) (by simp)
theorem Own.len (h : Own w base A n c xs) : xs.length = n := by have := h.1; simpa using this
theorem Own.ints (h : Own w base A n c xs) : Ints w w.heap.size A n xs ∧ n ≤ c := by
  rcases h.2 with ⟨e, hn⟩ | ⟨g, cap, cur, e, hb, hh, hnc, hm, hs, ht⟩
  · injection e with e1 e2 e3
    subst hn
    have hl := h.len
    exact ⟨⟨hl, fun h => absurd h (by omega)⟩, by omega⟩
  · injection e with e1 e2 e3
    subst e1 e3
    refine ⟨⟨h.len, fun _ => ⟨_, rfl, ?_, fun j x hx => ?_⟩⟩, hnc⟩
    · rcases Nat.lt_or_ge g w.heap.size with hlt | hge
      · exact hlt
      · rw [Array.getElem?_eq_none hge] at hh; cases hh
    · exact World.ownsRow.cells (g := g) h rfl j _ (by simp [hx])
theorem Own.lt (h : Own w base A n c xs) : ∀ k, (Value.slice A n c).ownBlock = some k → base ≤ k ∧ k < w.heap.size := World.ownsRow.lt h
theorem Own.alloc (h : Own w base A n c xs) (o : Obj) : Own (w.alloc o) base A n c xs := World.ownsRow.alloc h o
theorem Own.grown {row : Option Nat} (h : Own w base A n c xs) (hg : w.grownBy w' row) (hne : (Value.slice A n c).ownBlock = none ∨ (Value.slice A n c).ownBlock ≠ row) : Own w' base A n c xs := World.ownsRow.kept h hg hne
theorem Own.below (h : Own w base A n c xs) (hb : Below w.heap.size w w') : Own w' base A n c xs := by
  have hg : w.grownBy w' none := ⟨hb.os, hb.tape, hb.output, hb.size, fun k hk _ => hb.block k hk⟩
  refine World.ownsRow.kept h hg ?_
  cases A with
  | none => exact .inl rfl
  | some a => exact .inr (by simp [Value.ownBlock])
end

theorem wpList_app (w : World) {ops : Array Oper} {rest : List Oper} {o : Oper} {a : Act} {Q : Exit → Act → World → Prop} (hgd : o.guard = none) (s x : Operand)
    (ho : o.op = .call { callee := .builtin .append, args := #[s, x], argTypes := #[28, 28] })
    (base : Nat) (A : Option Addr) (n c : Nat) (xs : List Int) (hs : a.eval s = .slice A n c) (hown : Own w base A n c xs)
    (B : Nat) (C : Option Addr) (m d : Nat) (ys : List Int) (hx : a.eval x = .slice C m d) (hr : Ints w B C m ys) (hnil : C = none → m = 0 ∧ d = 0) (hlen : n + m ≤ 1000000) (hbase : base ≤ w.heap.size)
    (h : ∀ A' c' w', Own w' base A' (n + m) c' (xs ++ ys) → w.grownBy w' (Value.slice A n c).ownBlock → wpList Try.prog ops Q rest (a.put o.dst (.slice A' (n + m) c')) w') :
    wpList Try.prog ops Q (o :: rest) a w := by
  obtain ⟨i, hi, hz, h1, h2⟩ := info_parts info_int
  cases C with
  | none =>
    obtain ⟨rfl, rfl⟩ := hnil rfl
    have hy : ys = [] := List.eq_nil_of_length_eq_zero hr.1
    subst hy
    refine wpList_append_own_none hgd s x _ ho base 3 i 1 Try.underlying28 hi (.slice A n c) n _ hs hown hx ?_
    have hh := h A c w (by simpa [Own] using hown) (World.grownBy.refl w _)
    simpa using hh
  | some ad =>
    refine wpList_append_own w hgd s x _ ho base 3 i _ 1 8 Try.underlying28 hi hz h1 h2 rfl (by omega) (.slice A n c) n _ hs hown ad m d (ys.map (Value.int .i64)) hx (by simpa using hr.1) ?_ ?_ (by unfold maxLen; omega) (by omega) hbase ?_
    · intro j u hu
      rw [List.getElem?_map] at hu
      cases hy : ys[j]? with
      | none => rw [hy] at hu; cases hu
      | some y =>
        rw [hy] at hu
        simp at hu
        subst hu
        have hm : 0 < m := by
          have := (List.getElem?_eq_some_iff.1 hy).1
          have := hr.1
          omega
        obtain ⟨ad', e, _, hc⟩ := hr.2 hm
        injection e with e
        subst e
        exact hc j y hy
    · intro u hu
      obtain ⟨y, _, rfl⟩ := List.mem_map.1 hu
      rfl
    · intro v' w' hown' hg _
      have hform : ∃ A' c', v' = .slice A' (n + m) c' := by
        rcases hown'.2 with ⟨rfl, hn⟩ | ⟨g, cap, cur, rfl, _⟩
        · exact ⟨none, 0, by rw [hn]⟩
        · exact ⟨_, _, rfl⟩
      obtain ⟨A', c', rfl⟩ := hform
      exact h A' c' w' (by simpa [Own] using hown') hg

theorem grown_below {w w' : World} {B : Nat} {row : Option Nat} (hg : w.grownBy w' row) (hB : B ≤ w.heap.size) (hr : ∀ k, row = some k → B ≤ k) : Below B w w' := (Below.refl B w).grown hg hB hr

end Num
end Go.Proofs.Ytdamojbjamolaaa
