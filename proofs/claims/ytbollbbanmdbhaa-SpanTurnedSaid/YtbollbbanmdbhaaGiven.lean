/-
  What the arguments read as; how worlds follow one another in a law's last statement. Conditions: those of each theorem.
-/
import Derived.Test.YtbollbbanmdbhaaAlive
import Derived.ProofKit
import Derived.OpenShut
import Derived.ChangeOld
import Derived.Below
import Derived.Lib.SmallJoins
import Derived.Deep.SlicePairs
namespace Go.Proofs.Ytbollbbanmdbhaa
open Go.ChangeShapes Go.WideShapes Go.ChangeAt Go.RowKit Sp
namespace Spn
set_option linter.unusedVariables false

theorem own : ownKnob Try.prog.godebug = none := by kernel_rfl
theorem laidOut : laidOutB Try.prog = true := by kernel_rfl

theorem i64_of {n : Int} (h : (Lit.int .i64 n).wf = true) : -9223372036854775808 ≤ n ∧ n ≤ 9223372036854775807 := by
  simpa [Lit.wf, IntKind.min, IntKind.max, IntKind.signed, IntKind.bits] using h

/-- A span by value: its form. -/
theorem open_span {H : Type} {enc : TypeId × Value → H} {W : World} {base : Nat} {sp : Nat → Bool} {v : Value} {d : DataW H} {p : List MemPlace}
    (hv : Value.okWide Try.prog W .any base 23 v) (h : DataW.Trod enc Try.prog W 0 sp true 23 v d p) : ∃ x : Sp, v = ag x := by
  obtain ⟨v0, v1, y0, y1, n, rfl, _, _, h0, h1⟩ := Go.Joins.open_agg2 Try.underlying23 (by kernel_rfl) (by kernel_rfl) hv h
  obtain ⟨a, e0, _, _⟩ := DataW.trod_int Try.underlying3 h0
  obtain ⟨b, e1, _, _⟩ := DataW.trod_int Try.underlying3 h1
  simp at e0 e1
  exact ⟨(a, b), by rw [e0, e1]⟩

/-- A row of spans that came in. -/
structure GivenS (w : World) (A : Option Addr) (n c : Nat) (xs : List Sp) : Prop where
  spans : Spans w w.heap.size A n xs
  cap : n ≤ c
  len : n ≤ maxLen
  noroom : A = none → n = 0 ∧ c = 0
/-- A row of days that came in. -/
structure GivenI (w : World) (A : Option Addr) (n c : Nat) (xs : List Int) : Prop where
  ints : Ints w w.heap.size A n xs
  cap : n ≤ c
  len : n ≤ maxLen
  noroom : A = none → n = 0 ∧ c = 0

theorem open_spans {H : Type} {enc : TypeId × Value → H} {W : World} {base : Nat} {sp : Nat → Bool} {v : Value} {d : DataW H} {p : List MemPlace}
    (hv : Value.okWide Try.prog W .any base 30 v) (h : DataW.Trod enc Try.prog W 0 sp true 30 v d p) : ∃ A n c xs, v = .slice A n c ∧ GivenS W A n c xs := by
  obtain ⟨A, n, c, rfl⟩ := okWide_slice Try.underlying30 hv
  refine ⟨A, n, c, ?_⟩
  obtain ⟨fuel, hf⟩ := h
  rcases Go.Deep.open_slice_pairs Try.underlying30 Try.underlying23 (by kernel_rfl) rfl rfl (by kernel_rfl) (by kernel_rfl) hf with ⟨hcs, _⟩ | ⟨a, len, cap, m, k, V0, V1, D0, D1, P0, P1, hcs, _, hl, hm, hmm, _, hx⟩
  · simp [Value.cells] at hcs
    obtain ⟨rfl, rfl, rfl⟩ := hcs
    exact ⟨[], rfl, ⟨Spans.nil, Nat.le_refl _, by unfold maxLen; omega, fun _ => ⟨rfl, rfl⟩⟩⟩
  · simp [Value.cells] at hcs
    obtain ⟨rfl, rfl, rfl⟩ := hcs
    have hnm : n ≤ m := by rw [hmm]; split <;> omega
    have each : ∀ i, i < n → ∃ z : Sp, W.cell? (a.add (i * 2)) = some (.int .i64 z.1) ∧ W.cell? (a.add (i * 2 + 1)) = some (.int .i64 z.2) := by
      intro i hi
      obtain ⟨h0, h1, g0, g1⟩ := hx i (by omega)
      obtain ⟨p, e0, _, _⟩ := DataW.trod_int Try.underlying3 g0
      obtain ⟨q, e1, _, _⟩ := DataW.trod_int Try.underlying3 g1
      simp at e0 e1
      exact ⟨(p, q), by rw [h0, e0], by rw [h1, e1]⟩
    have key : ∀ k, k ≤ n → ∃ xs : List Sp, xs.length = k ∧ ∀ j x, xs[j]? = some x → W.cell? (a.add (j * 2)) = some (.int .i64 x.1) ∧ W.cell? (a.add (j * 2 + 1)) = some (.int .i64 x.2) := by
      intro k
      induction k with
      | zero => intro _; exact ⟨[], rfl, fun j x hx => by simp at hx⟩
      | succ k ih =>
        intro hk
        obtain ⟨xs, hlx, hc⟩ := ih (by omega)
        obtain ⟨z, hz⟩ := each k (by omega)
        refine ⟨xs ++ [z], by simp [hlx], fun j x hx => ?_⟩
        rcases Nat.lt_or_ge j k with hj | hj
        · rw [List.getElem?_append_left (by omega)] at hx; exact hc j x hx
        · rw [List.getElem?_append_right (by omega), hlx] at hx
          have hj' : j = k := by
            have := (List.getElem?_eq_some_iff.1 hx).1
            simp at this; omega
          subst hj'
          simp at hx
          subst hx
          exact hz
    obtain ⟨xs, hlx, hc⟩ := key n (Nat.le_refl _)
    refine ⟨xs, rfl, ⟨⟨hlx, fun hn => ⟨a, rfl, ?_, hc⟩⟩, hl, Nat.le_trans hl hm, fun h => by cases h⟩⟩
    obtain ⟨z, hz⟩ := each 0 hn
    have := World.block_lt_of_cell? _ _ hz.1
    rwa [add_block] at this

theorem open_days {H : Type} {enc : TypeId × Value → H} {W : World} {base : Nat} {sp : Nat → Bool} {v : Value} {d : DataW H} {p : List MemPlace}
    (hv : Value.okWide Try.prog W .any base 37 v) (h : DataW.Trod enc Try.prog W 0 sp true 37 v d p) : ∃ A n c xs, v = .slice A n c ∧ GivenI W A n c xs := by
  obtain ⟨A, n, c, rfl⟩ := okWide_slice Try.underlying37 hv
  refine ⟨A, n, c, ?_⟩
  obtain ⟨fuel, hf⟩ := h
  rcases open_ints Try.underlying37 Try.underlying3 (by kernel_rfl) hf with ⟨hcs, _⟩ | ⟨x, l, c', zs, hcs, _, hl, hm, hz, _, hcell, hwz⟩
  · simp [Value.cells] at hcs
    obtain ⟨rfl, rfl, rfl⟩ := hcs
    exact ⟨[], rfl, ⟨Ints.nil, Nat.le_refl _, by unfold maxLen; omega, fun _ => ⟨rfl, rfl⟩⟩⟩
  · simp [Value.cells] at hcs
    obtain ⟨rfl, rfl, rfl⟩ := hcs
    have hz' : n ≤ zs.length := by rw [hz]; split <;> omega
    refine ⟨zs.take n, rfl, ⟨⟨by rw [List.length_take]; omega, fun hn => ⟨x, rfl, ?_, fun j y hj => ?_⟩⟩, hl, Nat.le_trans hl hm, fun h => by cases h⟩⟩
    · have h0 := hcell 0 (by omega)
      have := World.block_lt_of_cell? _ _ h0
      rwa [add_block] at this
    · obtain ⟨hlt, e⟩ := List.getElem?_eq_some_iff.1 hj
      rw [List.length_take] at hlt
      rw [hcell j (by omega)]
      rw [List.getElem_take] at e
      simp only [List.getD_eq_getElem?_getD, List.getElem?_eq_getElem (show j < zs.length by omega), Option.getD_some, e]

/-- The world that a call was made in is the one that was named, but for draws. -/
abbrev Like (V W : World) : Prop := V.heap = W.heap ∧ V.os = W.os ∧ V.tape = W.tape ∧ V.output = W.output
theorem nextW {w W V w' : World} (h1 : Below w.heap.size w W) (h2 : Below V.heap.size V w') (e : Like V W) : Below w.heap.size w w' := by
  obtain ⟨e1, e2, e3, e4⟩ := e
  refine ⟨h2.os.trans (e2.trans h1.os), h2.tape.trans (e3.trans h1.tape), h2.output.trans (e4.trans h1.output), ?_, fun i hi => ?_⟩
  · have a := h1.size
    have b := h2.size
    rw [e1] at b
    exact Nat.le_trans a b
  · have a := h1.size
    exact (h2.block i (by rw [e1]; omega)).trans (by rw [e1]; exact h1.block i hi)
theorem stepW {w W V w' : World} (h1 : Below w.heap.size w W) (h2 : Below V.heap.size V w') (e : Like V W) : Below W.heap.size W w' := nextW (Below.refl _ _) h2 e

/-- A world in which all that lay in w lies as it lay. -/
structure Ext (w : World) where
  W : World
  b : Below w.heap.size w W

/-- A region whose operations read what lay there, and whose callees make memory of their own and answer the same in every such world: one walk, in the order of the text. -/
theorem quietE {P : Program} {id : Nat} {Q : Exit → Act → World → Prop} {a : Act} {w : World} {l : List Oper} (hm : P.follows .mixedOrders = true) (hB : Region.lexB .any l.toArray = true)
    (h : wpQuiet P l.toArray (fun w' => ∃ p : Ext w, w' = p.W) (fun a' => ∀ w', (∃ p : Ext w, w' = p.W) → Q .normal a' w') l a) : (Code.region id l.toArray true).wp P Q a w :=
  wp_region_quiet (C := fun w' => ∃ p : Ext w, w' = p.W) hm hB ⟨⟨{ w with drawn := w.drawn + 1 }, ⟨rfl, rfl, rfl, Nat.le_refl _, fun _ _ => rfl⟩⟩, rfl⟩ (by simpa using h)
theorem ext_of {P : Program} {f : FuncId} {args : Array Value} {w : World} {p : Ext w} {v : Value} (h : Calls P f args p.W fun e w' => e = .returned v ∧ Below p.W.heap.size p.W w') :
    Calls P f args p.W fun e w'' => e = .returned v ∧ ∃ q : Ext w, w'' = q.W := h.mono fun _ _ ⟨he, hb⟩ => ⟨he, ⟨_, p.b.trans (hb.mono p.b.size)⟩, rfl⟩
theorem Bx.ext {w : World} {b : Nat} {x y : Int} (h : Bx w b x y) (p : Ext w) : p.W.cell? ⟨b, 0, none⟩ = some (.int .i64 x) ∧ p.W.cell? ⟨b, 1, none⟩ = some (.int .i64 y) := ⟨(h.keep p.b).c0, (h.keep p.b).c1⟩

end Spn
end Go.Proofs.Ytbollbbanmdbhaa
