/-
  What the arguments read as. Conditions: those of each theorem.
-/
import Derived.Test.YtinhhphnbbdoeaaAlive
import Derived.ProofKit
import Derived.OpenShut
import Derived.ChangeOld
import Derived.Below
import Derived.SizedLaws
import Derived.Lib.SmallJoins
import Derived.Deep.SlicePairs
namespace Go.Proofs.Ytinhhphnbbdoeaa
open Go.ChangeShapes Go.WideShapes Go.ChangeAt Go.RowKit Ba Tf Cv Qm
namespace Qo
set_option linter.unusedVariables false

theorem own : ownKnob Try.prog.godebug = none := by kernel_rfl
theorem laidOut : laidOutB Try.prog = true := by kernel_rfl
theorem i64_of {n : Int} (h : (Lit.int .i64 n).wf = true) : -9223372036854775808 ≤ n ∧ n ≤ 9223372036854775807 := by
  simpa [Lit.wf, IntKind.min, IntKind.max, IntKind.signed, IntKind.bits] using h
theorem by_int : Try.prog.bytesOf 3 = 8 := by kernel_rfl
theorem by_band : Try.prog.bytesOf 59 = 16 := by kernel_rfl
theorem by_version : Try.prog.bytesOf 26 = 120 := by kernel_rfl
theorem reach : reachBytes = 140737488351232 := rfl

theorem list_of {α : Type} {P : Nat → α → Prop} : ∀ n : Nat, (∀ i, i < n → ∃ a, P i a) → ∃ l : List α, l.length = n ∧ ∀ j x, l[j]? = some x → P j x
  | 0, _ => ⟨[], rfl, fun j x h => by simp at h⟩
  | n + 1, h => by
    obtain ⟨l, hl, hp⟩ := list_of n fun i hi => h i (by omega)
    obtain ⟨a, ha⟩ := h n (by omega)
    refine ⟨l ++ [a], by simp [hl], fun j x hx => ?_⟩
    rcases Nat.lt_or_ge j n with hj | hj
    · rw [List.getElem?_append_left (by omega)] at hx; exact hp j x hx
    · rw [List.getElem?_append_right (by omega), hl] at hx
      have hj' : j = n := by
        have := (List.getElem?_eq_some_iff.1 hx).1
        simp at this; omega
      subst hj'
      simp at hx
      subst hx
      exact ha
theorem weights_all {H : Type} {P : Program} {e : TypeId} {d : DataW H} {l : List (DataW H)} (hd : d ∈ l) {k : Nat} (hk : k ∈ d.weights P e) : k ∈ DataW.weightsAll P e l := by
  induction l with
  | nil => cases hd
  | cons x xs ih =>
    simp only [DataW.weightsAll, List.mem_append]
    rcases List.mem_cons.1 hd with rfl | hd
    · exact .inl hk
    · exact .inr (ih hd)

theorem open_ints {H : Type} {enc : TypeId × Value → H} {W : World} {sp : Nat → Bool} {v : Value} {fuel : Nat} {x : DataW H × List MemPlace}
    (h : DataW.trod enc Try.prog W 0 sp true fuel 24 [v] = some x) (hw : ∀ k ∈ x.1.weights Try.prog 24, k ≤ reachBytes) : ∃ L m c xs, v = .slice L m c ∧ Ins W (· < W.heap.size) L m xs ∧ m ≤ 140737488355328 := by
  rcases Go.Deep.open_slice Try.underlying24 h with ⟨hcs, _⟩ | ⟨a, len, cap, m, k, D, Pl, hcs, _, hl, hm, hmm, rfl, hx⟩
  · simp at hcs
    subst hcs
    exact ⟨none, 0, 0, [], rfl, Ins.nil, by omega⟩
  · simp at hcs
    subst hcs
    have hnm : len ≤ m := by rw [hmm]; split <;> omega
    have hc1 : (Try.prog.cellsOf 3) = 1 := by kernel_rfl
    have each : ∀ i, i < len → ∃ z : Int, W.cell? (a.add i) = some (.int .i64 z) := by
      intro i hi
      obtain ⟨cs', h1, h2⟩ := hx i (by omega)
      rw [hc1, Nat.mul_one] at h1
      obtain ⟨_, hlen, hcell⟩ := World.cells?_some h1
      match cs', hlen with
      | [v0], _ =>
        have c0 := hcell 0 (by omega)
        rw [Go.Deep.add_add] at c0
        obtain ⟨p, e0, _, _⟩ := DataW.trod_int Try.underlying3 h2
        simp at e0
        subst e0
        exact ⟨p, by simpa using c0⟩
    obtain ⟨xs, hlx, hc⟩ := list_of len each
    have hb := hw ((((List.range len).map D).length + ((List.range (m - len)).map fun j => D (len + j)).length) * Try.prog.bytesOf 3) (by simp [DataW.weights, Try.underlying24])
    rw [by_int, reach] at hb
    simp only [List.length_map, List.length_range] at hb
    refine ⟨some a, len, cap, xs, rfl, ⟨hlx, fun hn => ⟨a, rfl, ?_, hc⟩⟩, by omega⟩
    obtain ⟨z, hz⟩ := each 0 hn
    have := World.block_lt_of_cell? _ _ hz
    rwa [add_block] at this
theorem open_bands {H : Type} {enc : TypeId × Value → H} {W : World} {sp : Nat → Bool} {v : Value} {fuel : Nat} {x : DataW H × List MemPlace}
    (h : DataW.trod enc Try.prog W 0 sp true fuel 23 [v] = some x) (hw : ∀ k ∈ x.1.weights Try.prog 23, k ≤ reachBytes) : ∃ L m c ls, v = .slice L m c ∧ Lns W (· < W.heap.size) L m ls ∧ m ≤ 140737488355328 := by
  rcases Go.Deep.open_slice_pairs Try.underlying23 Try.underlying59 (by kernel_rfl) rfl rfl (by kernel_rfl) (by kernel_rfl) h with ⟨hcs, _⟩ | ⟨a, len, cap, m, k, V0, V1, D0, D1, P0, P1, hcs, _, hl, hm, hmm, rfl, hx⟩
  · simp at hcs
    subst hcs
    exact ⟨none, 0, 0, [], rfl, Lns.nil, by omega⟩
  · simp at hcs
    subst hcs
    have hnm : len ≤ m := by rw [hmm]; split <;> omega
    have each : ∀ i, i < len → ∃ z : Pr, W.cell? (a.add (i * 2)) = some (.int .i64 z.1) ∧ W.cell? (a.add (i * 2 + 1)) = some (.int .i64 z.2) := by
      intro i hi
      obtain ⟨h0, h1, g0, g1⟩ := hx i (by omega)
      obtain ⟨p, e0, _, _⟩ := DataW.trod_int Try.underlying3 g0
      obtain ⟨q, e1, _, _⟩ := DataW.trod_int Try.underlying3 g1
      simp at e0 e1
      exact ⟨(p, q), by rw [h0, e0], by rw [h1, e1]⟩
    obtain ⟨xs, hlx, hc⟩ := list_of len each
    have hb := hw ((((List.range len).map fun i => DataW.agg [D0 i, D1 i]).length + ((List.range (m - len)).map fun j => DataW.agg [D0 (len + j), D1 (len + j)]).length) * Try.prog.bytesOf 59) (by simp [DataW.weights, Try.underlying23])
    rw [by_band, reach] at hb
    simp only [List.length_map, List.length_range] at hb
    refine ⟨some a, len, cap, xs, rfl, ⟨hlx, fun hn => ⟨a, rfl, ?_, hc⟩⟩, by omega⟩
    obtain ⟨z, hz⟩ := each 0 hn
    have := World.block_lt_of_cell? _ _ hz.1
    rwa [add_block] at this

/-- A version's nine cells. -/
theorem open_nine {H : Type} {enc : TypeId × Value → H} {W : World} {sp : Nat → Bool} {cs : List Value} {fuel : Nat} {x : DataW H × List MemPlace}
    (h : DataW.trod enc Try.prog W 0 sp true fuel 26 cs = some x) (hw : ∀ k ∈ x.1.weights Try.prog 26, k ≤ reachBytes) : ∃ r : Rw, cs = cl r ∧ Mean W (· < W.heap.size) r ∧ Lo r := by
  obtain ⟨xs, k', hk', rfl, hlen, hxl, hf⟩ := DataW.trod_struct Try.underlying26 h
  have hc9 : (Try.prog.cellsOf 26) = 9 := by kernel_rfl
  rw [hc9] at hlen
  match xs, hxl, cs, hlen with
  | [y0, y1, y2, y3, y4, y5], _, [v0, v1, v2, v3, v4, v5, v6, v7, v8], _ =>
    have g0 := hf 0 _ rfl
    have g1 := hf 1 _ rfl
    have g2 := hf 2 _ rfl
    have g3 := hf 3 _ rfl
    have g4 := hf 4 _ rfl
    have g5 := hf 5 _ rfl
    have q1 : (Try.prog.cellsOf 3) = 1 := by kernel_rfl
    have q2 : (Try.prog.cellsOf 24) = 1 := by kernel_rfl
    have q3 : (Try.prog.cellsOf 23) = 1 := by kernel_rfl
    have q4 : (Try.prog.cellsOf 22) = 4 := by kernel_rfl
    simp [q1, q2, q3, q4] at g0 g1 g2 g3 g4 g5
    obtain ⟨p0, e0, _, _⟩ := DataW.trod_int Try.underlying3 g0
    obtain ⟨p8, e8, _, _⟩ := DataW.trod_int Try.underlying3 g5
    obtain ⟨ys, m, _, _, hl, hyl, hg⟩ := DataW.trod_array Try.underlying22 g1
    have i0 := hg 0 (by omega)
    have i1 := hg 1 (by omega)
    have i2 := hg 2 (by omega)
    have i3 := hg 3 (by omega)
    rw [List.getElem?_eq_getElem (by omega : 0 < ys.length), q1] at i0
    rw [List.getElem?_eq_getElem (by omega : 1 < ys.length), q1] at i1
    rw [List.getElem?_eq_getElem (by omega : 2 < ys.length), q1] at i2
    rw [List.getElem?_eq_getElem (by omega : 3 < ys.length), q1] at i3
    simp at i0 i1 i2 i3
    obtain ⟨p1, e1, _, _⟩ := DataW.trod_int Try.underlying3 i0
    obtain ⟨p2, e2, _, _⟩ := DataW.trod_int Try.underlying3 i1
    obtain ⟨p3, e3, _, _⟩ := DataW.trod_int Try.underlying3 i2
    obtain ⟨p4, e4, _, _⟩ := DataW.trod_int Try.underlying3 i3
    have hU : Try.prog.underlying 26 = some (.struct _) := Try.underlying26
    have w2 : ∀ k ∈ y2.1.weights Try.prog 23, k ≤ reachBytes := fun k hk => hw k (by simp only [DataW.weights, hU]; exact DataW.weights_mem_each (j := 2) rfl rfl k hk)
    have w3 : ∀ k ∈ y3.1.weights Try.prog 24, k ≤ reachBytes := fun k hk => hw k (by simp only [DataW.weights, hU]; exact DataW.weights_mem_each (j := 3) rfl rfl k hk)
    have w4 : ∀ k ∈ y4.1.weights Try.prog 24, k ≤ reachBytes := fun k hk => hw k (by simp only [DataW.weights, hU]; exact DataW.weights_mem_each (j := 4) rfl rfl k hk)
    obtain ⟨A, la, ca, ag, rfl, ha, la2⟩ := open_bands g2 w2
    obtain ⟨Z, lz, cz, zn, rfl, hz, lz2⟩ := open_ints g3 w3
    obtain ⟨P, lp, cp, pe, rfl, hp, lp2⟩ := open_ints g4 w4
    simp at e0 e1 e2 e3 e4 e8
    subst e0 e1 e2 e3 e4 e8
    exact ⟨⟨⟨p0, p1, p2, p3, p4, ag, zn, pe, p8⟩, A, la, ca, Z, lz, cz, P, lp, cp⟩, rfl, ⟨ha, hz, hp⟩, ⟨la2, lz2, lp2⟩⟩

/-- A version that came in. -/
structure GivenV (w : World) (r : Rw) : Prop where
  m : Mean w (· < w.heap.size) r
  l : Lo r
theorem open_version {H : Type} {enc : TypeId × Value → H} {W : World} {base : Nat} {sp : Nat → Bool} {v : Value} {d : DataW H} {p : List MemPlace}
    (hv : Value.okWide Try.prog W .any base 26 v) (h : DataW.Trod enc Try.prog W 0 sp true 26 v d p) (hw : ∀ k ∈ d.weights Try.prog 26, k ≤ reachBytes) : ∃ r, v = vg r ∧ GivenV W r := by
  obtain ⟨cs, rfl, hsz⟩ := okWide_struct Try.underlying26 hv
  obtain ⟨fuel, hf⟩ := h
  obtain ⟨r, e, hm, hl⟩ := open_nine hf hw
  obtain ⟨l⟩ := cs
  simp [Value.cells] at e
  subst e
  exact ⟨r, rfl, hm, hl⟩

theorem open_risk {H : Type} {enc : TypeId × Value → H} {W : World} {base : Nat} {sp : Nat → Bool} {v : Value} {d : DataW H} {p : List MemPlace}
    (hv : Value.okWide Try.prog W .any base 28 v) (h : DataW.Trod enc Try.prog W 0 sp true 28 v d p) (_hw : ∀ k ∈ d.weights Try.prog 28, k ≤ reachBytes) : ∃ x : Ri, v = rg x := by
  obtain ⟨v0, v1, v2, v3, y0, y1, y2, y3, n, rfl, _, _, h0, h1, h2, h3⟩ := Go.Joins.open_agg4 Try.underlying28 (by kernel_rfl) (by kernel_rfl) hv h
  obtain ⟨a, e0, _, _⟩ := DataW.trod_int Try.underlying3 h0
  obtain ⟨b, e1, _, _⟩ := DataW.trod_int Try.underlying3 h1
  obtain ⟨c, e2, _, _⟩ := DataW.trod_int Try.underlying3 h2
  obtain ⟨d, e3, _, _⟩ := DataW.trod_int Try.underlying3 h3
  simp at e0 e1 e2 e3
  exact ⟨⟨a, b, c, d⟩, by rw [e0, e1, e2, e3]⟩

/-- A cover's five cells. -/
theorem open_five {H : Type} {enc : TypeId × Value → H} {W : World} {sp : Nat → Bool} {cs : List Value} {fuel : Nat} {x : DataW H × List MemPlace}
    (h : DataW.trod enc Try.prog W 0 sp true fuel 30 cs = some x) : ∃ c : Co, cs = cl5 c := by
  obtain ⟨xs, k', hk', rfl, hlen, hxl, hf⟩ := DataW.trod_struct Try.underlying30 h
  have hc5 : (Try.prog.cellsOf 30) = 5 := by kernel_rfl
  rw [hc5] at hlen
  match xs, hxl, cs, hlen with
  | [y0, y1, y2, y3, y4], _, [v0, v1, v2, v3, v4], _ =>
    have g0 := hf 0 _ rfl
    have g1 := hf 1 _ rfl
    have g2 := hf 2 _ rfl
    have g3 := hf 3 _ rfl
    have g4 := hf 4 _ rfl
    have q1 : (Try.prog.cellsOf 3) = 1 := by kernel_rfl
    simp [q1] at g0 g1 g2 g3 g4
    obtain ⟨p0, e0, _, _⟩ := DataW.trod_int Try.underlying3 g0
    obtain ⟨p1, e1, _, _⟩ := DataW.trod_int Try.underlying3 g1
    obtain ⟨p2, e2, _, _⟩ := DataW.trod_int Try.underlying3 g2
    obtain ⟨p3, e3, _, _⟩ := DataW.trod_int Try.underlying3 g3
    obtain ⟨p4, e4, _, _⟩ := DataW.trod_int Try.underlying3 g4
    simp at e0 e1 e2 e3 e4
    subst e0 e1 e2 e3 e4
    exact ⟨⟨p0, p1, p2, p3, p4⟩, rfl⟩
theorem open_cover {H : Type} {enc : TypeId × Value → H} {W : World} {base : Nat} {sp : Nat → Bool} {v : Value} {d : DataW H} {p : List MemPlace}
    (hv : Value.okWide Try.prog W .any base 30 v) (h : DataW.Trod enc Try.prog W 0 sp true 30 v d p) (_hw : ∀ k ∈ d.weights Try.prog 30, k ≤ reachBytes) : ∃ c : Co, v = cg c := by
  obtain ⟨cs, rfl, hsz⟩ := okWide_struct Try.underlying30 hv
  obtain ⟨fuel, hf⟩ := h
  obtain ⟨c, e⟩ := open_five hf
  obtain ⟨l⟩ := cs
  simp [Value.cells] at e
  subst e
  exact ⟨c, rfl⟩

/-- A row of covers that came in. -/
structure GivenC (w : World) (A : Option Addr) (n c : Nat) (cs : List Co) : Prop where
  r : Cvs w (· < w.heap.size) A n cs
  m : n ≤ maxLen
  cap : n ≤ c
  nil : A = none → n = 0 ∧ c = 0
theorem covers_of {H : Type} {enc : TypeId × Value → H} {W : World} {sp : Nat → Bool} {v : Value} {fuel : Nat} {x : DataW H × List MemPlace}
    (hf : DataW.trod enc Try.prog W 0 sp true fuel 37 [v] = some x) : ∃ A n c cs, v = .slice A n c ∧ GivenC W A n c cs := by
  rcases Go.Deep.open_slice Try.underlying37 hf with ⟨hcs, _⟩ | ⟨a, n, cap, m, k, D, Pl, hcs, _, hl, hm, hmm, rfl, hx⟩
  · simp at hcs
    subst hcs
    exact ⟨none, 0, 0, [], rfl, Cvs.nil, by unfold maxLen; omega, Nat.le_refl _, fun _ => ⟨rfl, rfl⟩⟩
  · simp at hcs
    subst hcs
    have hnm : n ≤ m := by rw [hmm]; split <;> omega
    have hc5 : (Try.prog.cellsOf 30) = 5 := by kernel_rfl
    have each : ∀ i, i < n → ∃ c : Co, Fiv W (a.add (i * 5)) c := by
      intro i hi
      obtain ⟨cs', h1, h2⟩ := hx i (by omega)
      rw [hc5] at h1
      obtain ⟨_, hlen, hcell⟩ := World.cells?_some h1
      obtain ⟨c, rfl⟩ := open_five h2
      refine ⟨c, fiv_of fun o u hu => ?_⟩
      have ho : o < 5 := (List.getElem?_eq_some_iff.1 hu).1
      have := hcell o ho
      rw [Go.Deep.add_add] at this
      rw [this, ← hu]
    obtain ⟨xs, hlx, hc⟩ := list_of n each
    refine ⟨some a, n, cap, xs, rfl, ⟨hlx, fun hn => ⟨a, rfl, ?_, hc⟩⟩, by omega, hl, fun e => by cases e⟩
    obtain ⟨z, hz⟩ := each 0 hn
    have := World.block_lt_of_cell? _ _ hz.c0
    rwa [add_block] at this

theorem open_covers {H : Type} {enc : TypeId × Value → H} {W : World} {base : Nat} {sp : Nat → Bool} {v : Value} {d : DataW H} {p : List MemPlace}
    (hv : Value.okWide Try.prog W .any base 37 v) (h : DataW.Trod enc Try.prog W 0 sp true 37 v d p) (_hw : ∀ k ∈ d.weights Try.prog 37, k ≤ reachBytes) : ∃ A n c cs, v = .slice A n c ∧ GivenC W A n c cs := by
  obtain ⟨A, n, c, rfl⟩ := okWide_slice Try.underlying37 hv
  obtain ⟨fuel, hf⟩ := h
  exact covers_of hf

theorem ints_list (l : List Value) (h : ∀ v ∈ l, ∃ x : Int, v = .int .i64 x ∧ -9223372036854775808 ≤ x ∧ x ≤ 9223372036854775807) :
    ∃ xs : List Int, l = xs.map (Value.int .i64) ∧ ∀ x ∈ xs, -9223372036854775808 ≤ x ∧ x ≤ 9223372036854775807 := by
  induction l with
  | nil => exact ⟨[], rfl, fun x hx => by cases hx⟩
  | cons v l ih =>
    obtain ⟨x, rfl, hx⟩ := h v (by simp)
    obtain ⟨xs, rfl, hxs⟩ := ih fun u hu => h u (by simp [hu])
    refine ⟨x :: xs, rfl, fun y hy => ?_⟩
    rcases List.mem_cons.1 hy with rfl | hy
    · exact hx
    · exact hxs y hy
theorem open_arr3 {H : Type} {enc : TypeId × Value → H} {W : World} {base : Nat} {sp : Nat → Bool} {v : Value} {d : DataW H} {p : List MemPlace}
    (hv : Value.okWide Try.prog W .any base 40 v) (h : DataW.Trod enc Try.prog W 0 sp true 40 v d p) (_hw : ∀ k ∈ d.weights Try.prog 40, k ≤ reachBytes) :
    ∃ z0 z1 z2 : Int, v = .agg #[.int .i64 z0, .int .i64 z1, .int .i64 z2] ∧ (-9223372036854775808 ≤ z0 ∧ z0 ≤ 9223372036854775807) ∧ (-9223372036854775808 ≤ z1 ∧ z1 ≤ 9223372036854775807) ∧ (-9223372036854775808 ≤ z2 ∧ z2 ≤ 9223372036854775807) := by
  obtain ⟨cs, rfl, hsz, _⟩ : ∃ cs, v = .agg cs ∧ cs.size = Try.prog.cellsOf 40 ∧ Row.okWide Try.prog W .any base 40 cs := by
    simpa [Value.okWide, Try.underlying40] using hv
  have hn : Try.prog.cellsOf 40 = 3 := by kernel_rfl
  have h1 : Try.prog.cellsOf 3 = 1 := by kernel_rfl
  obtain ⟨l⟩ := cs
  obtain ⟨fuel, hf⟩ := h
  obtain ⟨ys, m, _, _, hl, hyl, hg⟩ := DataW.trod_array Try.underlying40 hf
  simp only [Value.cells] at hl hg
  have hln : l.length = 3 := by rw [← hn]; simpa using hsz
  have each : ∀ v ∈ l, ∃ x : Int, v = .int .i64 x ∧ -9223372036854775808 ≤ x ∧ x ≤ 9223372036854775807 := by
    intro v hv
    obtain ⟨i, hi, rfl⟩ := List.getElem_of_mem hv
    have hgi := hg i (by omega)
    rw [List.getElem?_eq_getElem (by omega : i < ys.length), h1, Nat.mul_one] at hgi
    have e1 : (l.drop i).take 1 = [l[i]] := by rw [List.drop_eq_getElem_cons hi]; rfl
    rw [e1] at hgi
    obtain ⟨x, e0, _, wx⟩ := DataW.trod_int Try.underlying3 hgi
    simp at e0
    exact ⟨x, e0, i64_of wx⟩
  obtain ⟨xs, e, hb⟩ := ints_list l each
  subst e
  have hx : xs.length = 3 := by simpa using hln
  match xs, hx with
  | [a, b, c], _ => exact ⟨a, b, c, rfl, hb a (by simp), hb b (by simp), hb c (by simp)⟩

end Qo
end Go.Proofs.Ytinhhphnbbdoeaa
