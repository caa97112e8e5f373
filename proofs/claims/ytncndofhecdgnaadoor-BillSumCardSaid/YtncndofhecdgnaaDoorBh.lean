/-
  What the arguments read as, and that the program does as the laws ask. Conditions: those of each theorem.
-/
import Derived.Test.YtncndofhecdgnaaDoorBs
import Derived.Test.YtncndofhecdgnaaDoorBe
import Derived.Test.YtncndofhecdgnaaDoorAwake
import Derived.ProofKit
import Derived.OpenShut
import Derived.ChangeOld
import Derived.Below
import Derived.Lib.SmallJoins
namespace Go.Proofs.YtncndofhecdgnaaDoor
open Go.ChangeShapes Go.WideShapes Go.ChangeAt Go.RowKit
namespace Bil
set_option linter.unusedVariables false

theorem asks_ : Asks where
  ri A n c l w h hn := right_ A n c l w h (Nat.le_trans hn (by omega))
  pl x s m w hT hx h1 h2 hm := plan_ x s m w hT hx h1 h2 hm
  pa A n c l a w h hn ha := pay_ A n c l a w h (Nat.le_trans hn (by omega)) ha
  op A n c l y w h hn hc hy := open_ A n c l y w h (Nat.le_trans hn (by omega)) hc
  tu A n c l x y w h hn hx hy := turned_ A n c l x y w h (Nat.le_trans hn (by omega)) hx hy

theorem list_of {α : Type} {P : Nat → α → Prop} : ∀ n : Nat, (∀ i, i < n → ∃ a, P i a) → ∃ l : List α, l.length = n ∧ ∀ j x, l[j]? = some x → P j x
  | 0, _ => ⟨[], rfl, fun j x h => by simp at h⟩
  | n + 1, h => by
    obtain ⟨l, hl, hp⟩ := list_of n fun i hi => h i (by omega)
    obtain ⟨a, ha⟩ := h n (by omega)
    refine ⟨l ++ [a], by simp [hl], fun j x hx => ?_⟩
    rcases Nat.lt_or_ge j n with hj | hj
    · rw [List.getElem?_append_left (by omega)] at hx; exact hp j x hx
    · rw [List.getElem?_append_right (by omega), hl] at hx
      have hj' : j = n := by
        have := (List.getElem?_eq_some_iff.1 hx).1
        simp at this; omega
      subst hj'
      simp at hx
      subst hx
      exact ha
theorem open_cells {H : Type} {enc : TypeId × Value → H} {W : World} {sp : Nat → Bool} {cs : List Value} {fuel : Nat} {x : DataW H × List MemPlace}
    (h : DataW.trod enc Tryd.prog W 0 sp true fuel 42 cs = some x) : ∃ b : Bi, cs = cl b := by
  obtain ⟨xs, k', hk', rfl, hlen, hxl, hf⟩ := DataW.trod_struct Tryd.underlying42 h
  have hc3 : (Tryd.prog.cellsOf 42) = 3 := by kernel_rfl
  rw [hc3] at hlen
  match xs, hxl, cs, hlen with
  | [y0, y1, y2], _, [v0, v1, v2], _ =>
    have g0 := hf 0 _ rfl
    have g1 := hf 1 _ rfl
    have g2 := hf 2 _ rfl
    have q1 : (Tryd.prog.cellsOf 3) = 1 := by kernel_rfl
    simp [q1] at g0 g1 g2
    obtain ⟨p0, e0, _, _⟩ := DataW.trod_int Tryd.underlying3 g0
    obtain ⟨p1, e1, _, _⟩ := DataW.trod_int Tryd.underlying3 g1
    obtain ⟨p2, e2, _, _⟩ := DataW.trod_int Tryd.underlying3 g2
    simp at e0 e1 e2
    subst e0 e1 e2
    exact ⟨⟨p0, p1, p2⟩, rfl⟩
/-- A row of bills that came in. -/
theorem open_bills {H : Type} {enc : TypeId × Value → H} {W : World} {base : Nat} {sp : Nat → Bool} {v : Value} {d : DataW H} {p : List MemPlace}
    (hv : Value.okWide Tryd.prog W .any base 25 v) (h : DataW.Trod enc Tryd.prog W 0 sp true 25 v d p) : ∃ A n c l, v = .slice A n c ∧ n ≤ c ∧ Raws W (· < W.heap.size) A n l := by
  obtain ⟨A, n, c, rfl⟩ := okWide_slice Tryd.underlying25 hv
  refine ⟨A, n, c, ?_⟩
  obtain ⟨fuel, hf⟩ := h
  rcases Go.Deep.open_slice Tryd.underlying25 hf with ⟨hcs, _⟩ | ⟨a, len, cap, m, k, D, Pl, hcs, _, hl, hm, hmm, _, hx⟩
  · simp [Value.cells] at hcs
    obtain ⟨rfl, rfl, rfl⟩ := hcs
    exact ⟨[], rfl, Nat.le_refl _, Raws.nil⟩
  · simp [Value.cells] at hcs
    obtain ⟨rfl, rfl, rfl⟩ := hcs
    have hnm : n ≤ m := by rw [hmm]; split <;> omega
    have hc3 : (Tryd.prog.cellsOf 42) = 3 := by kernel_rfl
    have each : ∀ i, i < n → ∃ b : Bi, Thr W (a.add (i * 3)) b := by
      intro i hi
      obtain ⟨cs', h1, h2⟩ := hx i (by omega)
      rw [hc3] at h1
      obtain ⟨_, hlen, hcell⟩ := World.cells?_some h1
      obtain ⟨b, rfl⟩ := open_cells h2
      refine ⟨b, thr_of fun o u hu => ?_⟩
      have ho : o < 3 := (List.getElem?_eq_some_iff.1 hu).1
      have := hcell o ho
      rw [Go.Deep.add_add] at this
      rw [this, ← hu]
    obtain ⟨xs, hlx, hc⟩ := list_of n each
    refine ⟨xs, rfl, hl, hlx, fun hn => ⟨a, rfl, ?_, hc⟩⟩
    obtain ⟨z, hz⟩ := each 0 hn
    have := World.block_lt_of_cell? _ _ hz.c0
    rwa [add_block] at this
/-- A span by value: its form. -/
theorem open_span {H : Type} {enc : TypeId × Value → H} {W : World} {base : Nat} {sp : Nat → Bool} {v : Value} {d : DataW H} {p : List MemPlace}
    (hv : Value.okWide Tryd.prog W .any base 23 v) (h : DataW.Trod enc Tryd.prog W 0 sp true 23 v d p) : ∃ s : Int × Int, v = sg s ∧ In s.1 ∧ In s.2 := by
  obtain ⟨v0, v1, y0, y1, n, rfl, _, _, h0, h1⟩ := Go.Joins.open_agg2 Tryd.underlying23 (by kernel_rfl) (by kernel_rfl) hv h
  obtain ⟨a, e0, _, wa⟩ := DataW.trod_int Tryd.underlying3 h0
  obtain ⟨b, e1, _, wb⟩ := DataW.trod_int Tryd.underlying3 h1
  simp at e0 e1
  exact ⟨(a, b), by rw [e0, e1], Day.i64_of wa, Day.i64_of wb⟩

end Bil
end Go.Proofs.YtncndofhecdgnaaDoor
