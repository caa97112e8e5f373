/-
  What the arguments read as; how worlds follow one another in a law's last statement. Conditions: those of each theorem.
-/
import Derived.Test.YtheamhjgohacdaaLive
import Derived.ProofKit
import Derived.OpenShut
import Derived.ChangeOld
import Derived.Below
import Derived.Lib.SmallJoins
import Derived.Deep.SlicePairs
namespace Go.Proofs.Ytheamhjgohacdaa
open Go.ChangeShapes Go.WideShapes Go.ChangeAt Go.RowKit Bk
namespace Pst
set_option linter.unusedVariables false

theorem own : ownKnob Try.prog.godebug = none := by kernel_rfl
theorem laidOut : laidOutB Try.prog = true := by kernel_rfl
theorem i64_of {n : Int} (h : (Lit.int .i64 n).wf = true) : -9223372036854775808 ≤ n ∧ n ≤ 9223372036854775807 := by
  simpa [Lit.wf, IntKind.min, IntKind.max, IntKind.signed, IntKind.bits] using h

/-- Lines, by their slice. -/
theorem open_lines {H : Type} {enc : TypeId × Value → H} {W : World} {sp : Nat → Bool} {v : Value} {fuel : Nat} {x : DataW H × List MemPlace}
    (h : DataW.trod enc Try.prog W 0 sp true fuel 22 [v] = some x) : ∃ L m c ls, v = .slice L m c ∧ Lns W (· < W.heap.size) L m ls ∧ m ≤ maxLen := by
  rcases Go.Deep.open_slice_pairs Try.underlying22 Try.underlying52 (by kernel_rfl) rfl rfl (by kernel_rfl) (by kernel_rfl) h with ⟨hcs, _⟩ | ⟨a, len, cap, m, k, V0, V1, D0, D1, P0, P1, hcs, _, hl, hm, hmm, _, hx⟩
  · simp at hcs
    subst hcs
    exact ⟨none, 0, 0, [], rfl, Lns.nil, by unfold maxLen; omega⟩
  · simp at hcs
    subst hcs
    have hnm : len ≤ m := by rw [hmm]; split <;> omega
    have each : ∀ i, i < len → ∃ z : Pr, W.cell? (a.add (i * 2)) = some (.int .i64 z.1) ∧ W.cell? (a.add (i * 2 + 1)) = some (.int .i64 z.2) := by
      intro i hi
      obtain ⟨h0, h1, g0, g1⟩ := hx i (by omega)
      obtain ⟨p, e0, _, _⟩ := DataW.trod_int Try.underlying3 g0
      obtain ⟨q, e1, _, _⟩ := DataW.trod_int Try.underlying3 g1
      simp at e0 e1
      exact ⟨(p, q), by rw [h0, e0], by rw [h1, e1]⟩
    have key : ∀ k, k ≤ len → ∃ xs : List Pr, xs.length = k ∧ ∀ j x, xs[j]? = some x → W.cell? (a.add (j * 2)) = some (.int .i64 x.1) ∧ W.cell? (a.add (j * 2 + 1)) = some (.int .i64 x.2) := by
      intro k
      induction k with
      | zero => intro _; exact ⟨[], rfl, fun j x hx => by simp at hx⟩
      | succ k ih =>
        intro hk
        obtain ⟨xs, hlx, hc⟩ := ih (by omega)
        obtain ⟨z, hz⟩ := each k (by omega)
        refine ⟨xs ++ [z], by simp [hlx], fun j x hx => ?_⟩
        rcases Nat.lt_or_ge j k with hj | hj
        · rw [List.getElem?_append_left (by omega)] at hx; exact hc j x hx
        · rw [List.getElem?_append_right (by omega), hlx] at hx
          have hj' : j = k := by
            have := (List.getElem?_eq_some_iff.1 hx).1
            simp at this; omega
          subst hj'
          simp at hx
          subst hx
          exact hz
    obtain ⟨xs, hlx, hc⟩ := key len (Nat.le_refl _)
    refine ⟨some a, len, cap, xs, rfl, ⟨hlx, fun hn => ⟨a, rfl, ?_, hc⟩⟩, Nat.le_trans hl hm⟩
    obtain ⟨z, hz⟩ := each 0 hn
    have := World.block_lt_of_cell? _ _ hz.1
    rwa [add_block] at this

/-- An entry that came in. -/
structure GivenE (w : World) (L : Option Addr) (m : Nat) (ls : List Pr) : Prop where
  l : Lns w (· < w.heap.size) L m ls
  m : m ≤ maxLen
theorem open_entry {H : Type} {enc : TypeId × Value → H} {W : World} {base : Nat} {sp : Nat → Bool} {v : Value} {d : DataW H} {p : List MemPlace}
    (hv : Value.okWide Try.prog W .any base 24 v) (h : DataW.Trod enc Try.prog W 0 sp true 24 v d p) : ∃ d f L m c ls, v = eg d f L m c ∧ GivenE W L m ls := by
  obtain ⟨v0, v1, v2, y0, y1, y2, n, rfl, _, _, h0, h1, h2⟩ := Go.Joins.open_agg3 Try.underlying24 (by kernel_rfl) (by kernel_rfl) hv h
  obtain ⟨a, e0, _, _⟩ := DataW.trod_int Try.underlying3 h0
  obtain ⟨b, e1, _, _⟩ := DataW.trod_int Try.underlying3 h1
  obtain ⟨L, m, c, ls, rfl, hl, hm⟩ := open_lines h2
  simp at e0 e1
  exact ⟨a, b, L, m, c, ls, by rw [e0, e1], ⟨hl, hm⟩⟩

/-- A row of entries that came in. -/
structure GivenL (w : World) (A : Option Addr) (n c : Nat) (es : List En) : Prop where
  e : Ents w A n es
  few : Few es
  len : n ≤ maxLen
  cap : n ≤ c
theorem open_entries {H : Type} {enc : TypeId × Value → H} {W : World} {sp : Nat → Bool} {v : Value} {fuel : Nat} {x : DataW H × List MemPlace}
    (h : DataW.trod enc Try.prog W 0 sp true fuel 27 [v] = some x) : ∃ A n c es, v = .slice A n c ∧ GivenL W A n c es := by
  rcases Go.Deep.open_slice Try.underlying27 h with ⟨hcs, _⟩ | ⟨a, len, cap, m, k, D, Pl, hcs, _, hl, hm, hmm, _, hx⟩
  · simp at hcs
    subst hcs
    exact ⟨none, 0, 0, [], rfl, Ents.nil, (fun e he => by cases he), by unfold maxLen; omega, Nat.le_refl _⟩
  · simp at hcs
    subst hcs
    have hnm : len ≤ m := by rw [hmm]; split <;> omega
    have hc3 : (Try.prog.cellsOf 24) = 3 := by kernel_rfl
    have each : ∀ i, i < len → ∃ (r : Rw) (e : En), W.cell? (a.add (i * 3)) = some (.int .i64 r.d) ∧ W.cell? (a.add (i * 3 + 1)) = some (.int .i64 r.f) ∧ W.cell? (a.add (i * 3 + 2)) = some (.slice r.L r.m r.c) ∧ Mean W (· < W.heap.size) r e ∧ e.ls.length ≤ maxLen := by
      intro i hi
      obtain ⟨cs', h1, h2⟩ := hx i (by omega)
      rw [hc3] at h1
      obtain ⟨_, hlen, hcell⟩ := World.cells?_some h1
      obtain ⟨xs, k', hk', hxy, _, hxl, hf⟩ := DataW.trod_struct Try.underlying24 h2
      match xs, hxl, cs', hlen with
      | [y0, y1, y2], _, [v0, v1, v2], _ =>
        have g0 := hf 0 _ rfl
        have g1 := hf 1 _ rfl
        have g2 := hf 2 _ rfl
        have q1 : (Try.prog.cellsOf 3) = 1 := by kernel_rfl
        have q2 : (Try.prog.cellsOf 22) = 1 := by kernel_rfl
        simp [q1, q2] at g0 g1 g2
        have c0 := hcell 0 (by omega)
        have c1 := hcell 1 (by omega)
        have c2 := hcell 2 (by omega)
        rw [Go.Deep.add_add] at c0 c1 c2
        obtain ⟨p, e0, _, _⟩ := DataW.trod_int Try.underlying3 g0
        obtain ⟨q, e1, _, _⟩ := DataW.trod_int Try.underlying3 g1
        obtain ⟨L, m', c', ls, rfl, hl', hm'⟩ := open_lines g2
        simp at e0 e1
        subst e0 e1
        exact ⟨⟨p, q, L, m', c'⟩, ⟨p, q, ls⟩, by simpa using c0, by simpa using c1, by simpa using c2, ⟨rfl, rfl, hl'⟩, by rw [show (⟨p, q, ls⟩ : En).ls.length = m' from hl'.1]; exact hm'⟩
    have key : ∀ k, k ≤ len → ∃ (rs : List Rw) (es : List En), rs.length = k ∧ es.length = k ∧ (∀ (j : Nat) (r : Rw), rs[j]? = some r → W.cell? (a.add (j * 3)) = some (.int .i64 r.d) ∧ W.cell? (a.add (j * 3 + 1)) = some (.int .i64 r.f) ∧ W.cell? (a.add (j * 3 + 2)) = some (.slice r.L r.m r.c)) ∧ (∀ (j : Nat) (r : Rw) (e : En), rs[j]? = some r → es[j]? = some e → Mean W (· < W.heap.size) r e) ∧ Few es := by
      intro k
      induction k with
      | zero => intro _; exact ⟨[], [], rfl, rfl, (fun j x hx => by simp at hx), (fun j r e hr => by simp at hr), fun e he => by cases he⟩
      | succ k ih =>
        intro hk
        obtain ⟨rs, es, hlr, hle, hc, hM, hF⟩ := ih (by omega)
        obtain ⟨r0, e0, z0, z1, z2, hm0, hf0⟩ := each k (by omega)
        refine ⟨rs ++ [r0], es ++ [e0], by simp [hlr], by simp [hle], fun j x hx => ?_, (means_snoc ⟨by rw [hlr, hle], hM⟩ hm0).2, fun e he => ?_⟩
        · rcases Nat.lt_or_ge j k with hj | hj
          · rw [List.getElem?_append_left (by omega)] at hx; exact hc j x hx
          · rw [List.getElem?_append_right (by omega), hlr] at hx
            have hj' : j = k := by
              have := (List.getElem?_eq_some_iff.1 hx).1
              simp at this; omega
            subst hj'
            simp at hx
            subst hx
            exact ⟨z0, z1, z2⟩
        · rcases List.mem_append.1 he with he | he
          · exact hF e he
          · simp at he; subst he; exact hf0
    obtain ⟨rs, es, hlr, hle, hc, hM, hF⟩ := key len (Nat.le_refl _)
    refine ⟨some a, len, cap, es, rfl, ⟨rs, ⟨hlr, fun hn => ⟨a, rfl, ?_, hc⟩⟩, by rw [hlr, hle], hM⟩, hF, Nat.le_trans hl hm, hl⟩
    obtain ⟨r0, e0, z0, _⟩ := each 0 hn
    have := World.block_lt_of_cell? _ _ z0
    rwa [add_block] at this
theorem open_list {H : Type} {enc : TypeId × Value → H} {W : World} {base : Nat} {sp : Nat → Bool} {v : Value} {d : DataW H} {p : List MemPlace}
    (hv : Value.okWide Try.prog W .any base 27 v) (h : DataW.Trod enc Try.prog W 0 sp true 27 v d p) : ∃ A n c es, v = .slice A n c ∧ GivenL W A n c es := by
  obtain ⟨A, n, c, rfl⟩ := okWide_slice Try.underlying27 hv
  obtain ⟨fuel, hf⟩ := h
  exact open_entries hf
theorem open_book {H : Type} {enc : TypeId × Value → H} {W : World} {base : Nat} {sp : Nat → Bool} {v : Value} {d : DataW H} {p : List MemPlace}
    (hv : Value.okWide Try.prog W .any base 29 v) (h : DataW.Trod enc Try.prog W 0 sp true 29 v d p) : ∃ A n c es, v = bg A n c ∧ GivenL W A n c es := by
  obtain ⟨cs, rfl, hsz⟩ := okWide_struct Try.underlying29 hv
  have hc1 : (Try.prog.cellsOf 29) = 1 := by kernel_rfl
  rw [hc1] at hsz
  obtain ⟨l⟩ := cs
  match l, hsz with
  | [u], _ =>
    obtain ⟨fuel, hf⟩ := h
    obtain ⟨xs, k', hk', hxy, _, hxl, hff⟩ := DataW.trod_struct Try.underlying29 hf
    match xs, hxl with
    | [y0], _ =>
      have g0 := hff 0 _ rfl
      have q1 : (Try.prog.cellsOf 27) = 1 := by kernel_rfl
      simp [q1, Value.cells] at g0
      obtain ⟨A, n, c, es, rfl, G⟩ := open_entries g0
      exact ⟨A, n, c, es, rfl, G⟩

/-- A span by value: its form. -/
theorem open_span {H : Type} {enc : TypeId × Value → H} {W : World} {base : Nat} {sp : Nat → Bool} {v : Value} {d : DataW H} {p : List MemPlace}
    (hv : Value.okWide Try.prog W .any base 32 v) (h : DataW.Trod enc Try.prog W 0 sp true 32 v d p) : ∃ x : Pr, v = Spn.ag x := by
  obtain ⟨v0, v1, y0, y1, n, rfl, _, _, h0, h1⟩ := Go.Joins.open_agg2 Try.underlying32 (by kernel_rfl) (by kernel_rfl) hv h
  obtain ⟨a, e0, _, _⟩ := DataW.trod_int Try.underlying3 h0
  obtain ⟨b, e1, _, _⟩ := DataW.trod_int Try.underlying3 h1
  simp at e0 e1
  exact ⟨(a, b), by rw [e0, e1]⟩
/-- Two ints by value: their form. -/
theorem open_two {H : Type} {enc : TypeId × Value → H} {W : World} {base : Nat} {sp : Nat → Bool} {v : Value} {d : DataW H} {p : List MemPlace}
    (hv : Value.okWide Try.prog W .any base 30 v) (h : DataW.Trod enc Try.prog W 0 sp true 30 v d p) : ∃ x : Pr, v = .agg #[.int .i64 x.1, .int .i64 x.2] := by
  obtain ⟨cs, rfl, hsz, _⟩ : ∃ cs, v = .agg cs ∧ cs.size = Try.prog.cellsOf 30 ∧ Row.okWide Try.prog W .any base 30 cs := by
    simpa [Value.okWide, Try.underlying30] using hv
  have hc2 : (Try.prog.cellsOf 30) = 2 := by kernel_rfl
  have hc1 : (Try.prog.cellsOf 3) = 1 := by kernel_rfl
  rw [hc2] at hsz
  obtain ⟨l⟩ := cs
  match l, hsz with
  | [u0, u1], _ =>
    obtain ⟨fuel, hf⟩ := h
    obtain ⟨ys, m, _, _, hl, hyl, hg⟩ := DataW.trod_array Try.underlying30 hf
    have g0 := hg 0 (by omega)
    have g1 := hg 1 (by omega)
    rw [List.getElem?_eq_getElem (by omega : 0 < ys.length), hc1] at g0
    rw [List.getElem?_eq_getElem (by omega : 1 < ys.length), hc1] at g1
    simp [Value.cells] at g0 g1
    obtain ⟨a, e0, _, _⟩ := DataW.trod_int Try.underlying3 g0
    obtain ⟨b, e1, _, _⟩ := DataW.trod_int Try.underlying3 g1
    simp at e0 e1
    subst e0 e1
    exact ⟨(a, b), rfl⟩

/-- A world in which all that lay in w lies as it lay. -/
structure Ext (w : World) where
  W : World
  b : Below w.heap.size w W
theorem quietE {P : Program} {id : Nat} {Q : Exit → Act → World → Prop} {a : Act} {w : World} {l : List Oper} (hm : P.follows .mixedOrders = true) (hB : Region.lexB .any l.toArray = true)
    (h : wpQuiet P l.toArray (fun w' => ∃ p : Ext w, w' = p.W) (fun a' => ∀ w', (∃ p : Ext w, w' = p.W) → Q .normal a' w') l a) : (Code.region id l.toArray true).wp P Q a w :=
  wp_region_quiet (C := fun w' => ∃ p : Ext w, w' = p.W) hm hB ⟨⟨{ w with drawn := w.drawn + 1 }, ⟨rfl, rfl, rfl, Nat.le_refl _, fun _ _ => rfl⟩⟩, rfl⟩ (by simpa using h)
theorem ext_of {P : Program} {f : FuncId} {args : Array Value} {w : World} {p : Ext w} {v : Value} (h : Calls P f args p.W fun e w' => e = .returned v ∧ Below p.W.heap.size p.W w') :
    Calls P f args p.W fun e w'' => e = .returned v ∧ ∃ q : Ext w, w'' = q.W := h.mono fun _ _ ⟨he, hb⟩ => ⟨he, ⟨_, p.b.trans (hb.mono p.b.size)⟩, rfl⟩
theorem Bx.ext {w : World} {b : Nat} {t : TypeId} {xs : Array Value} (h : Bx w b t xs) (p : Ext w) (o : Nat) : p.W.cell? ⟨b, o, none⟩ = xs[o]? := (h.keep p.b).c o

end Pst
end Go.Proofs.Ytheamhjgohacdaa
