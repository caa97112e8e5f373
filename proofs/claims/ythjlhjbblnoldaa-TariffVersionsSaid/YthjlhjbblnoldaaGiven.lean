/-
  What the arguments read as; how worlds follow one another in a law's last statement. Conditions: those of each theorem.
-/
import Derived.Test.YthjlhjbblnoldaaAlive
import Derived.Test.YthjlhjbblnoldaaFew
import Derived.ProofKit
import Derived.OpenShut
import Derived.ChangeOld
import Derived.Below
import Derived.SizedLaws
import Derived.Lib.SmallJoins
import Derived.Deep.SlicePairs
namespace Go.Proofs.Ythjlhjbblnoldaa
open Go.ChangeShapes Go.WideShapes Go.ChangeAt Go.RowKit Ba Tf
namespace Trf
set_option linter.unusedVariables false

theorem own : ownKnob Try.prog.godebug = none := by kernel_rfl
theorem laidOut : laidOutB Try.prog = true := by kernel_rfl
theorem i64_of {n : Int} (h : (Lit.int .i64 n).wf = true) : -9223372036854775808 ≤ n ∧ n ≤ 9223372036854775807 := by
  simpa [Lit.wf, IntKind.min, IntKind.max, IntKind.signed, IntKind.bits] using h
theorem by_int : Try.prog.bytesOf 3 = 8 := by kernel_rfl
theorem by_band : Try.prog.bytesOf 58 = 16 := by kernel_rfl
theorem by_version : Try.prog.bytesOf 26 = 120 := by kernel_rfl
theorem reach : reachBytes = 140737488351232 := rfl

theorem list_of {α : Type} {P : Nat → α → Prop} : ∀ n : Nat, (∀ i, i < n → ∃ a, P i a) → ∃ l : List α, l.length = n ∧ ∀ j x, l[j]? = some x → P j x
  | 0, _ => ⟨[], rfl, fun j x h => by simp at h⟩
  | n + 1, h => by
    obtain ⟨l, hl, hp⟩ := list_of n fun i hi => h i (by omega)
    obtain ⟨a, ha⟩ := h n (by omega)
    refine ⟨l ++ [a], by simp [hl], fun j x hx => ?_⟩
    rcases Nat.lt_or_ge j n with hj | hj
    · rw [List.getElem?_append_left (by omega)] at hx; exact hp j x hx
    · rw [List.getElem?_append_right (by omega), hl] at hx
      have hj' : j = n := by
        have := (List.getElem?_eq_some_iff.1 hx).1
        simp at this; omega
      subst hj'
      simp at hx
      subst hx
      exact ha
theorem weights_all {H : Type} {P : Program} {e : TypeId} {d : DataW H} {l : List (DataW H)} (hd : d ∈ l) {k : Nat} (hk : k ∈ d.weights P e) : k ∈ DataW.weightsAll P e l := by
  induction l with
  | nil => cases hd
  | cons x xs ih =>
    simp only [DataW.weightsAll, List.mem_append]
    rcases List.mem_cons.1 hd with rfl | hd
    · exact .inl hk
    · exact .inr (ih hd)

theorem open_ints {H : Type} {enc : TypeId × Value → H} {W : World} {sp : Nat → Bool} {v : Value} {fuel : Nat} {x : DataW H × List MemPlace}
    (h : DataW.trod enc Try.prog W 0 sp true fuel 24 [v] = some x) (hw : ∀ k ∈ x.1.weights Try.prog 24, k ≤ reachBytes) : ∃ L m c xs, v = .slice L m c ∧ Ins W (· < W.heap.size) L m xs ∧ m ≤ 140737488355328 := by
  rcases Go.Deep.open_slice Try.underlying24 h with ⟨hcs, _⟩ | ⟨a, len, cap, m, k, D, Pl, hcs, _, hl, hm, hmm, rfl, hx⟩
  · simp at hcs
    subst hcs
    exact ⟨none, 0, 0, [], rfl, Ins.nil, by omega⟩
  · simp at hcs
    subst hcs
    have hnm : len ≤ m := by rw [hmm]; split <;> omega
    have hc1 : (Try.prog.cellsOf 3) = 1 := by kernel_rfl
    have each : ∀ i, i < len → ∃ z : Int, W.cell? (a.add i) = some (.int .i64 z) := by
      intro i hi
      obtain ⟨cs', h1, h2⟩ := hx i (by omega)
      rw [hc1, Nat.mul_one] at h1
      obtain ⟨_, hlen, hcell⟩ := World.cells?_some h1
      match cs', hlen with
      | [v0], _ =>
        have c0 := hcell 0 (by omega)
        rw [Go.Deep.add_add] at c0
        obtain ⟨p, e0, _, _⟩ := DataW.trod_int Try.underlying3 h2
        simp at e0
        subst e0
        exact ⟨p, by simpa using c0⟩
    obtain ⟨xs, hlx, hc⟩ := list_of len each
    have hb := hw ((((List.range len).map D).length + ((List.range (m - len)).map fun j => D (len + j)).length) * Try.prog.bytesOf 3) (by simp [DataW.weights, Try.underlying24])
    rw [by_int, reach] at hb
    simp only [List.length_map, List.length_range] at hb
    refine ⟨some a, len, cap, xs, rfl, ⟨hlx, fun hn => ⟨a, rfl, ?_, hc⟩⟩, by omega⟩
    obtain ⟨z, hz⟩ := each 0 hn
    have := World.block_lt_of_cell? _ _ hz
    rwa [add_block] at this
theorem open_bands {H : Type} {enc : TypeId × Value → H} {W : World} {sp : Nat → Bool} {v : Value} {fuel : Nat} {x : DataW H × List MemPlace}
    (h : DataW.trod enc Try.prog W 0 sp true fuel 23 [v] = some x) (hw : ∀ k ∈ x.1.weights Try.prog 23, k ≤ reachBytes) : ∃ L m c ls, v = .slice L m c ∧ Lns W (· < W.heap.size) L m ls ∧ m ≤ 140737488355328 := by
  rcases Go.Deep.open_slice_pairs Try.underlying23 Try.underlying58 (by kernel_rfl) rfl rfl (by kernel_rfl) (by kernel_rfl) h with ⟨hcs, _⟩ | ⟨a, len, cap, m, k, V0, V1, D0, D1, P0, P1, hcs, _, hl, hm, hmm, rfl, hx⟩
  · simp at hcs
    subst hcs
    exact ⟨none, 0, 0, [], rfl, Lns.nil, by omega⟩
  · simp at hcs
    subst hcs
    have hnm : len ≤ m := by rw [hmm]; split <;> omega
    have each : ∀ i, i < len → ∃ z : Pr, W.cell? (a.add (i * 2)) = some (.int .i64 z.1) ∧ W.cell? (a.add (i * 2 + 1)) = some (.int .i64 z.2) := by
      intro i hi
      obtain ⟨h0, h1, g0, g1⟩ := hx i (by omega)
      obtain ⟨p, e0, _, _⟩ := DataW.trod_int Try.underlying3 g0
      obtain ⟨q, e1, _, _⟩ := DataW.trod_int Try.underlying3 g1
      simp at e0 e1
      exact ⟨(p, q), by rw [h0, e0], by rw [h1, e1]⟩
    obtain ⟨xs, hlx, hc⟩ := list_of len each
    have hb := hw ((((List.range len).map fun i => DataW.agg [D0 i, D1 i]).length + ((List.range (m - len)).map fun j => DataW.agg [D0 (len + j), D1 (len + j)]).length) * Try.prog.bytesOf 58) (by simp [DataW.weights, Try.underlying23])
    rw [by_band, reach] at hb
    simp only [List.length_map, List.length_range] at hb
    refine ⟨some a, len, cap, xs, rfl, ⟨hlx, fun hn => ⟨a, rfl, ?_, hc⟩⟩, by omega⟩
    obtain ⟨z, hz⟩ := each 0 hn
    have := World.block_lt_of_cell? _ _ hz.1
    rwa [add_block] at this

/-- A version's nine cells. -/
theorem open_nine {H : Type} {enc : TypeId × Value → H} {W : World} {sp : Nat → Bool} {cs : List Value} {fuel : Nat} {x : DataW H × List MemPlace}
    (h : DataW.trod enc Try.prog W 0 sp true fuel 26 cs = some x) (hw : ∀ k ∈ x.1.weights Try.prog 26, k ≤ reachBytes) : ∃ r : Rw, cs = cl r ∧ Mean W (· < W.heap.size) r ∧ Lo r := by
  obtain ⟨xs, k', hk', rfl, hlen, hxl, hf⟩ := DataW.trod_struct Try.underlying26 h
  have hc9 : (Try.prog.cellsOf 26) = 9 := by kernel_rfl
  rw [hc9] at hlen
  match xs, hxl, cs, hlen with
  | [y0, y1, y2, y3, y4, y5], _, [v0, v1, v2, v3, v4, v5, v6, v7, v8], _ =>
    have g0 := hf 0 _ rfl
    have g1 := hf 1 _ rfl
    have g2 := hf 2 _ rfl
    have g3 := hf 3 _ rfl
    have g4 := hf 4 _ rfl
    have g5 := hf 5 _ rfl
    have q1 : (Try.prog.cellsOf 3) = 1 := by kernel_rfl
    have q2 : (Try.prog.cellsOf 24) = 1 := by kernel_rfl
    have q3 : (Try.prog.cellsOf 23) = 1 := by kernel_rfl
    have q4 : (Try.prog.cellsOf 22) = 4 := by kernel_rfl
    simp [q1, q2, q3, q4] at g0 g1 g2 g3 g4 g5
    obtain ⟨p0, e0, _, _⟩ := DataW.trod_int Try.underlying3 g0
    obtain ⟨p8, e8, _, _⟩ := DataW.trod_int Try.underlying3 g5
    obtain ⟨ys, m, _, _, hl, hyl, hg⟩ := DataW.trod_array Try.underlying22 g1
    have i0 := hg 0 (by omega)
    have i1 := hg 1 (by omega)
    have i2 := hg 2 (by omega)
    have i3 := hg 3 (by omega)
    rw [List.getElem?_eq_getElem (by omega : 0 < ys.length), q1] at i0
    rw [List.getElem?_eq_getElem (by omega : 1 < ys.length), q1] at i1
    rw [List.getElem?_eq_getElem (by omega : 2 < ys.length), q1] at i2
    rw [List.getElem?_eq_getElem (by omega : 3 < ys.length), q1] at i3
    simp at i0 i1 i2 i3
    obtain ⟨p1, e1, _, _⟩ := DataW.trod_int Try.underlying3 i0
    obtain ⟨p2, e2, _, _⟩ := DataW.trod_int Try.underlying3 i1
    obtain ⟨p3, e3, _, _⟩ := DataW.trod_int Try.underlying3 i2
    obtain ⟨p4, e4, _, _⟩ := DataW.trod_int Try.underlying3 i3
    have hU : Try.prog.underlying 26 = some (.struct _) := Try.underlying26
    have w2 : ∀ k ∈ y2.1.weights Try.prog 23, k ≤ reachBytes := fun k hk => hw k (by simp only [DataW.weights, hU]; exact DataW.weights_mem_each (j := 2) rfl rfl k hk)
    have w3 : ∀ k ∈ y3.1.weights Try.prog 24, k ≤ reachBytes := fun k hk => hw k (by simp only [DataW.weights, hU]; exact DataW.weights_mem_each (j := 3) rfl rfl k hk)
    have w4 : ∀ k ∈ y4.1.weights Try.prog 24, k ≤ reachBytes := fun k hk => hw k (by simp only [DataW.weights, hU]; exact DataW.weights_mem_each (j := 4) rfl rfl k hk)
    obtain ⟨A, la, ca, ag, rfl, ha, la2⟩ := open_bands g2 w2
    obtain ⟨Z, lz, cz, zn, rfl, hz, lz2⟩ := open_ints g3 w3
    obtain ⟨P, lp, cp, pe, rfl, hp, lp2⟩ := open_ints g4 w4
    simp at e0 e1 e2 e3 e4 e8
    subst e0 e1 e2 e3 e4 e8
    exact ⟨⟨⟨p0, p1, p2, p3, p4, ag, zn, pe, p8⟩, A, la, ca, Z, lz, cz, P, lp, cp⟩, rfl, ⟨ha, hz, hp⟩, ⟨la2, lz2, lp2⟩⟩

/-- A version that came in. -/
structure GivenV (w : World) (r : Rw) : Prop where
  m : Mean w (· < w.heap.size) r
  l : Lo r
theorem open_version {H : Type} {enc : TypeId × Value → H} {W : World} {base : Nat} {sp : Nat → Bool} {v : Value} {d : DataW H} {p : List MemPlace}
    (hv : Value.okWide Try.prog W .any base 26 v) (h : DataW.Trod enc Try.prog W 0 sp true 26 v d p) (hw : ∀ k ∈ d.weights Try.prog 26, k ≤ reachBytes) : ∃ r, v = vg r ∧ GivenV W r := by
  obtain ⟨cs, rfl, hsz⟩ := okWide_struct Try.underlying26 hv
  obtain ⟨fuel, hf⟩ := h
  obtain ⟨r, e, hm, hl⟩ := open_nine hf hw
  obtain ⟨l⟩ := cs
  simp [Value.cells] at e
  subst e
  exact ⟨r, rfl, hm, hl⟩

/-- A row of versions that came in. -/
structure GivenT (w : World) (A : Option Addr) (n c : Nat) (rs : List Rw) : Prop where
  r : Raws w (· < w.heap.size) A n rs
  m : ∀ r ∈ rs, Mean w (· < w.heap.size) r
  l : ∀ r ∈ rs, Lo r
  big : n * 120 ≤ 140737488351232
  cap : n ≤ c
  nil : A = none → n = 0 ∧ c = 0
theorem open_versions {H : Type} {enc : TypeId × Value → H} {W : World} {sp : Nat → Bool} {v : Value} {fuel : Nat} {x : DataW H × List MemPlace}
    (h : DataW.trod enc Try.prog W 0 sp true fuel 27 [v] = some x) (hw : ∀ k ∈ x.1.weights Try.prog 27, k ≤ reachBytes) : ∃ A n c rs, v = .slice A n c ∧ GivenT W A n c rs := by
  rcases Go.Deep.open_slice Try.underlying27 h with ⟨hcs, _⟩ | ⟨a, len, cap, m, k, D, Pl, hcs, _, hl, hm, hmm, rfl, hx⟩
  · simp at hcs
    subst hcs
    exact ⟨none, 0, 0, [], rfl, Raws.nil, (fun r h => by cases h), (fun r h => by cases h), by omega, Nat.le_refl _, fun _ => ⟨rfl, rfl⟩⟩
  · simp at hcs
    subst hcs
    have hnm : len ≤ m := by rw [hmm]; split <;> omega
    have hc9 : (Try.prog.cellsOf 26) = 9 := by kernel_rfl
    have each : ∀ i, i < len → ∃ r : Rw, Nin W (a.add (i * 9)) r ∧ Mean W (· < W.heap.size) r ∧ Lo r := by
      intro i hi
      obtain ⟨cs', h1, h2⟩ := hx i (by omega)
      rw [hc9] at h1
      obtain ⟨_, hlen, hcell⟩ := World.cells?_some h1
      obtain ⟨r, rfl, hM, hL⟩ := open_nine h2 fun k hk => hw k (by
        simp only [DataW.weights, Try.underlying27, List.mem_cons, List.mem_append]
        exact .inr (.inl (weights_all (List.mem_map.2 ⟨i, List.mem_range.2 hi, rfl⟩) hk)))
      refine ⟨r, nin_of fun o u hu => ?_, hM, hL⟩
      have ho : o < 9 := (List.getElem?_eq_some_iff.1 hu).1
      have := hcell o ho
      rw [Go.Deep.add_add] at this
      rw [this, ← hu]
    obtain ⟨rs, hlr, hc⟩ := list_of len each
    have hb := hw ((((List.range len).map D).length + ((List.range (m - len)).map fun j => D (len + j)).length) * Try.prog.bytesOf 26) (by simp [DataW.weights, Try.underlying27])
    rw [by_version, reach] at hb
    simp only [List.length_map, List.length_range] at hb
    have mem : ∀ r ∈ rs, ∃ i, rs[i]? = some r := fun r hr => List.mem_iff_getElem?.1 hr
    refine ⟨some a, len, cap, rs, rfl, ⟨hlr, fun hn => ⟨a, rfl, ?_, fun j r hr => (hc j r hr).1⟩⟩, fun r hr => by obtain ⟨i, hi⟩ := mem r hr; exact (hc i r hi).2.1, fun r hr => by obtain ⟨i, hi⟩ := mem r hr; exact (hc i r hi).2.2, by omega, hl, fun e => by cases e⟩
    obtain ⟨r0, z0, _⟩ := each 0 hn
    have := World.block_lt_of_cell? _ _ z0.c0
    rwa [add_block] at this
theorem open_tariff {H : Type} {enc : TypeId × Value → H} {W : World} {base : Nat} {sp : Nat → Bool} {v : Value} {d : DataW H} {p : List MemPlace}
    (hv : Value.okWide Try.prog W .any base 29 v) (h : DataW.Trod enc Try.prog W 0 sp true 29 v d p) (hw : ∀ k ∈ d.weights Try.prog 29, k ≤ reachBytes) : ∃ A n c rs, v = tg A n c ∧ GivenT W A n c rs := by
  obtain ⟨cs, rfl, hsz⟩ := okWide_struct Try.underlying29 hv
  have hc1 : (Try.prog.cellsOf 29) = 1 := by kernel_rfl
  rw [hc1] at hsz
  obtain ⟨l⟩ := cs
  match l, hsz with
  | [u], _ =>
    obtain ⟨fuel, hf⟩ := h
    obtain ⟨xs, k', hk', hxy, _, hxl, hff⟩ := DataW.trod_struct Try.underlying29 hf
    match xs, hxl with
    | [y0], _ =>
      have g0 := hff 0 _ rfl
      have q1 : (Try.prog.cellsOf 27) = 1 := by kernel_rfl
      simp [q1, Value.cells] at g0
      have hU : Try.prog.underlying 29 = some (.struct _) := Try.underlying29
      injection hxy with hd _
      subst hd
      obtain ⟨A, n, c, rs, rfl, G⟩ := open_versions g0 fun k hk => hw k (by simp only [DataW.weights, hU]; exact DataW.weights_mem_each (j := 0) rfl rfl k hk)
      exact ⟨A, n, c, rs, rfl, G⟩

/-- A world in which all that lay in w lies as it lay. -/
structure Ext (w : World) where
  W : World
  b : Below w.heap.size w W
theorem quietE {P : Program} {id : Nat} {Q : Exit → Act → World → Prop} {a : Act} {w : World} {l : List Oper} (hm : P.follows .mixedOrders = true) (hB : Region.lexB .any l.toArray = true)
    (h : wpQuiet P l.toArray (fun w' => ∃ p : Ext w, w' = p.W) (fun a' => ∀ w', (∃ p : Ext w, w' = p.W) → Q .normal a' w') l a) : (Code.region id l.toArray true).wp P Q a w :=
  wp_region_quiet (C := fun w' => ∃ p : Ext w, w' = p.W) hm hB ⟨⟨{ w with drawn := w.drawn + 1 }, ⟨rfl, rfl, rfl, Nat.le_refl _, fun _ _ => rfl⟩⟩, rfl⟩ (by simpa using h)
theorem ext_of {P : Program} {f : FuncId} {args : Array Value} {w : World} {p : Ext w} {v : Value} (h : Calls P f args p.W fun e w' => e = .returned v ∧ Below p.W.heap.size p.W w') :
    Calls P f args p.W fun e w'' => e = .returned v ∧ ∃ q : Ext w, w'' = q.W := h.mono fun _ _ ⟨he, hb⟩ => ⟨he, ⟨_, p.b.trans (hb.mono p.b.size)⟩, rfl⟩
theorem Bx.ext {w : World} {b : Nat} {t : TypeId} {xs : Array Value} (h : Bx w b t xs) (p : Ext w) (o : Nat) : p.W.cell? ⟨b, o, none⟩ = xs[o]? := (h.keep p.b).c o

end Trf
end Go.Proofs.Ythjlhjbblnoldaa
