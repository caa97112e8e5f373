/-
  What the arguments read as; how worlds follow one another in a law's last statement. Conditions: those of each theorem.
-/
import Derived.Test.YtdehfjjdjdgkkaaAwake
import Derived.ProofKit
import Derived.OpenShut
import Derived.ChangeOld
import Derived.Below
import Derived.Lib.SmallJoins
import Derived.Deep.SlicePairs
namespace Go.Proofs.Ytdehfjjdjdgkkaa
open Go.ChangeShapes Go.WideShapes Go.ChangeAt Go.RowKit Ba
namespace Rsk
set_option linter.unusedVariables false

theorem own : ownKnob Try.prog.godebug = none := by kernel_rfl
theorem laidOut : laidOutB Try.prog = true := by kernel_rfl
theorem i64_of {n : Int} (h : (Lit.int .i64 n).wf = true) : -9223372036854775808 ≤ n ∧ n ≤ 9223372036854775807 := by
  simpa [Lit.wf, IntKind.min, IntKind.max, IntKind.signed, IntKind.bits] using h

theorem u8_of {n : Int} (h : (Lit.int .u8 n).wf = true) : 0 ≤ n ∧ n ≤ 255 := by
  simpa [Lit.wf, IntKind.min, IntKind.max, IntKind.signed, IntKind.bits] using h
theorem u32_of {n : Int} (h : (Lit.int .u32 n).wf = true) : 0 ≤ n ∧ n ≤ 4294967295 := by
  simpa [Lit.wf, IntKind.min, IntKind.max, IntKind.signed, IntKind.bits] using h
theorem u64_of {n : Int} (h : (Lit.int .u64 n).wf = true) : 0 ≤ n ∧ n ≤ 18446744073709551615 := by
  simpa [Lit.wf, IntKind.min, IntKind.max, IntKind.signed, IntKind.bits] using h

/-- Lines, by their slice. -/
theorem open_lines {H : Type} {enc : TypeId × Value → H} {W : World} {sp : Nat → Bool} {v : Value} {fuel : Nat} {x : DataW H × List MemPlace}
    (h : DataW.trod enc Try.prog W 0 sp true fuel 26 [v] = some x) : ∃ L m c ls, v = .slice L m c ∧ Lns W (· < W.heap.size) L m ls ∧ m ≤ maxLen ∧ (L = none → m = 0 ∧ c = 0) := by
  rcases Go.Deep.open_slice_pairs Try.underlying26 Try.underlying31 (by kernel_rfl) rfl rfl (by kernel_rfl) (by kernel_rfl) h with ⟨hcs, _⟩ | ⟨a, len, cap, m, k, V0, V1, D0, D1, P0, P1, hcs, _, hl, hm, hmm, _, hx⟩
  · simp at hcs
    subst hcs
    exact ⟨none, 0, 0, [], rfl, Lns.nil, by unfold maxLen; omega, fun _ => ⟨rfl, rfl⟩⟩
  · simp at hcs
    subst hcs
    have hnm : len ≤ m := by rw [hmm]; split <;> omega
    have each : ∀ i, i < len → ∃ z : Pr, W.cell? (a.add (i * 2)) = some (.int .i64 z.1) ∧ W.cell? (a.add (i * 2 + 1)) = some (.int .i64 z.2) := by
      intro i hi
      obtain ⟨h0, h1, g0, g1⟩ := hx i (by omega)
      obtain ⟨p, e0, _, _⟩ := DataW.trod_int Try.underlying3 g0
      obtain ⟨q, e1, _, _⟩ := DataW.trod_int Try.underlying3 g1
      simp at e0 e1
      exact ⟨(p, q), by rw [h0, e0], by rw [h1, e1]⟩
    have key : ∀ k, k ≤ len → ∃ xs : List Pr, xs.length = k ∧ ∀ j x, xs[j]? = some x → W.cell? (a.add (j * 2)) = some (.int .i64 x.1) ∧ W.cell? (a.add (j * 2 + 1)) = some (.int .i64 x.2) := by
      intro k
      induction k with
      | zero => intro _; exact ⟨[], rfl, fun j x hx => by simp at hx⟩
      | succ k ih =>
        intro hk
        obtain ⟨xs, hlx, hc⟩ := ih (by omega)
        obtain ⟨z, hz⟩ := each k (by omega)
        refine ⟨xs ++ [z], by simp [hlx], fun j x hx => ?_⟩
        rcases Nat.lt_or_ge j k with hj | hj
        · rw [List.getElem?_append_left (by omega)] at hx; exact hc j x hx
        · rw [List.getElem?_append_right (by omega), hlx] at hx
          have hj' : j = k := by
            have := (List.getElem?_eq_some_iff.1 hx).1
            simp at this; omega
          subst hj'
          simp at hx
          subst hx
          exact hz
    obtain ⟨xs, hlx, hc⟩ := key len (Nat.le_refl _)
    refine ⟨some a, len, cap, xs, rfl, ⟨hlx, fun hn => ⟨a, rfl, ?_, hc⟩⟩, Nat.le_trans hl hm, fun hnil => by cases hnil⟩
    obtain ⟨z, hz⟩ := each 0 hn
    have := World.block_lt_of_cell? _ _ hz.1
    rwa [add_block] at this

/-- A row of bands that came in. -/
structure Given (w : World) (L : Option Addr) (m c : Nat) (ls : List Pr) : Prop where
  l : Lns w (· < w.heap.size) L m ls
  n : L = none → m = 0 ∧ c = 0
  m : m ≤ maxLen
theorem open_bands {H : Type} {enc : TypeId × Value → H} {W : World} {base : Nat} {sp : Nat → Bool} {v : Value} {d : DataW H} {p : List MemPlace}
    (hv : Value.okWide Try.prog W .any base 26 v) (h : DataW.Trod enc Try.prog W 0 sp true 26 v d p) : ∃ L m c ls, v = .slice L m c ∧ Given W L m c ls := by
  obtain ⟨A, n, c, rfl⟩ := okWide_slice Try.underlying26 hv
  obtain ⟨fuel, hf⟩ := h
  obtain ⟨L, m, c, ls, e, hl, hm, hn⟩ := open_lines hf
  exact ⟨L, m, c, ls, e, hl, hn, hm⟩
/-- A risk by value: its form. -/
theorem open_risk {H : Type} {enc : TypeId × Value → H} {W : World} {base : Nat} {sp : Nat → Bool} {v : Value} {d : DataW H} {p : List MemPlace}
    (hv : Value.okWide Try.prog W .any base 23 v) (h : DataW.Trod enc Try.prog W 0 sp true 23 v d p) : ∃ k x a z : Int, v = rg k x a z := by
  obtain ⟨v0, v1, v2, v3, y0, y1, y2, y3, n, rfl, _, _, h0, h1, h2, h3⟩ := Go.Joins.open_agg4 Try.underlying23 (by kernel_rfl) (by kernel_rfl) hv h
  obtain ⟨a, e0, _, _⟩ := DataW.trod_int Try.underlying3 h0
  obtain ⟨b, e1, _, _⟩ := DataW.trod_int Try.underlying3 h1
  obtain ⟨c, e2, _, _⟩ := DataW.trod_int Try.underlying3 h2
  obtain ⟨d, e3, _, _⟩ := DataW.trod_int Try.underlying3 h3
  simp at e0 e1 e2 e3
  exact ⟨a, b, c, d, by rw [e0, e1, e2, e3]⟩
/-- A band by value: its form. -/
theorem open_band {H : Type} {enc : TypeId × Value → H} {W : World} {base : Nat} {sp : Nat → Bool} {v : Value} {d : DataW H} {p : List MemPlace}
    (hv : Value.okWide Try.prog W .any base 31 v) (h : DataW.Trod enc Try.prog W 0 sp true 31 v d p) : ∃ x y : Int, v = .agg #[.int .i64 x, .int .i64 y] := by
  obtain ⟨v0, v1, y0, y1, n, rfl, _, _, h0, h1⟩ := Go.Joins.open_agg2 Try.underlying31 (by kernel_rfl) (by kernel_rfl) hv h
  obtain ⟨a, e0, _, _⟩ := DataW.trod_int Try.underlying3 h0
  obtain ⟨b, e1, _, _⟩ := DataW.trod_int Try.underlying3 h1
  simp at e0 e1
  exact ⟨a, b, by rw [e0, e1]⟩

/-- A world in which all that lay in w lies as it lay. -/
structure Ext (w : World) where
  W : World
  b : Below w.heap.size w W
theorem quietE {P : Program} {id : Nat} {Q : Exit → Act → World → Prop} {a : Act} {w : World} {l : List Oper} (hm : P.follows .mixedOrders = true) (hB : Region.lexB .any l.toArray = true)
    (h : wpQuiet P l.toArray (fun w' => ∃ p : Ext w, w' = p.W) (fun a' => ∀ w', (∃ p : Ext w, w' = p.W) → Q .normal a' w') l a) : (Code.region id l.toArray true).wp P Q a w :=
  wp_region_quiet (C := fun w' => ∃ p : Ext w, w' = p.W) hm hB ⟨⟨{ w with drawn := w.drawn + 1 }, ⟨rfl, rfl, rfl, Nat.le_refl _, fun _ _ => rfl⟩⟩, rfl⟩ (by simpa using h)
theorem ext_of {P : Program} {f : FuncId} {args : Array Value} {w : World} {p : Ext w} {v : Value} (h : Calls P f args p.W fun e w' => e = .returned v ∧ Below p.W.heap.size p.W w') :
    Calls P f args p.W fun e w'' => e = .returned v ∧ ∃ q : Ext w, w'' = q.W := h.mono fun _ _ ⟨he, hb⟩ => ⟨he, ⟨_, p.b.trans (hb.mono p.b.size)⟩, rfl⟩
theorem Bx.ext {w : World} {b : Nat} {t : TypeId} {xs : Array Value} (h : Bx w b t xs) (p : Ext w) (o : Nat) : p.W.cell? ⟨b, o, none⟩ = xs[o]? := (h.keep p.b).c o

end Rsk
end Go.Proofs.Ytdehfjjdjdgkkaa
