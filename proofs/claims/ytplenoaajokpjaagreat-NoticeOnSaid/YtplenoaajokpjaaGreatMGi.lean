/-
  The parts GiT, GiH, Given12 of this proof. Conditions: those of each theorem.
-/
import Derived.Test.YtplenoaajokpjaaGreatKTOne
import Derived.ProofKit
import Derived.OpenShut
import Derived.ChangeOld
import Derived.Below
import Derived.SizedLaws
import Derived.Lib.SmallJoins
import Derived.Deep.SlicePairs
import Derived.Test.YtplenoaajokpjaaGreatMCh
import Derived.Test.YtplenoaajokpjaaGreatMAt
namespace Go.Proofs.YtplenoaajokpjaaGreat
open Go.ChangeShapes Go.WideShapes Go.ChangeAt Go.RowKit Ba Tf
namespace Trf
set_option linter.unusedVariables false
set_option maxRecDepth 100000
structure Lo (r : Rw) : Prop where
 a : r.la ≤ 140737488355328
 z : r.lz ≤ 140737488355328
 p : r.lp ≤ 140737488355328
theorem own : ownKnob Tryz.prog.godebug = none := by kernel_rfl
theorem laidOut : laidOutB Tryz.prog = true := by kernel_rfl
theorem i64_of {n : Int} (h : (Lit.int .i64 n).wf = true) : -9223372036854775808 ≤ n ∧ n ≤ 9223372036854775807 := by
 simpa [Lit.wf, IntKind.min, IntKind.max, IntKind.signed, IntKind.bits] using h
theorem by_int : Tryz.prog.bytesOf 3 = 8 := by kernel_rfl
theorem by_band : Tryz.prog.bytesOf 127 = 16 := by kernel_rfl
theorem by_version : Tryz.prog.bytesOf 70 = 120 := by kernel_rfl
theorem reach : reachBytes = 140737488351232 := rfl
theorem list_of {α : Type} {P : Nat → α → Prop} : ∀ n : Nat, (∀ i, i < n → ∃ a, P i a) → ∃ l : List α, l.length = n ∧ ∀ j x, l[j]? = some x → P j x
 | 0, _ => ⟨[], rfl, fun j x h => by simp at h⟩
 | n + 1, h => by
  obtain ⟨l, hl, hp⟩ := list_of n fun i hi => h i (by omega)
  obtain ⟨a, ha⟩ := h n (by omega); refine ⟨l ++ [a], by simp [hl], fun j x hx => ?_⟩; rcases Nat.lt_or_ge j n with hj | hj
  ·rw [List.getElem?_append_left (by omega)] at hx; exact hp j x hx
  ·rw [List.getElem?_append_right (by omega), hl] at hx
   have hj' : j = n := by
    have := (List.getElem?_eq_some_iff.1 hx).1; simp at this; omega
   subst hj'; simp at hx; subst hx; exact ha
theorem weights_all {H : Type} {P : Program} {e : TypeId} {d : DataW H} {l : List (DataW H)} (hd : d ∈ l) {k : Nat} (hk : k ∈ d.weights P e) : k ∈ DataW.weightsAll P e l := by
 induction l with
 | nil => cases hd
 | cons x xs ih =>
  simp only [DataW.weightsAll, List.mem_append]; rcases List.mem_cons.1 hd with rfl | hd
  ·exact .inl hk
  ·exact .inr (ih hd)
theorem open_ints {H : Type} {enc : TypeId × Value → H} {W : World} {sp : Nat → Bool} {v : Value} {fuel : Nat} {x : DataW H × List MemPlace}
  (h : DataW.trod enc Tryz.prog W 0 sp true fuel 68 [v] = some x) (hw : ∀ k ∈ x.1.weights Tryz.prog 68, k ≤ reachBytes) : ∃ L m c xs, v = .slice L m c ∧ Ins W (· < W.heap.size) L m xs ∧ m ≤ 140737488355328 := by
 rcases Go.Deep.open_slice Tryz.underlying68 h with ⟨hcs, _⟩ | ⟨a, len, cap, m, k, D, Pl, hcs, _, hl, hm, hmm, rfl, hx⟩
 ·simp at hcs; subst hcs; exact ⟨none, 0, 0, [], rfl, Ins.nil, by omega⟩
 ·simp at hcs; subst hcs; have hnm : len ≤ m := by rw [hmm]; split <;> omega
  have hc1 : (Tryz.prog.cellsOf 3) = 1 := by kernel_rfl
  have each : ∀ i, i < len → ∃ z : Int, W.cell? (a.add i) = some (.int .i64 z) := by
   intro i hi; obtain ⟨cs', h1, h2⟩ := hx i (by omega); rw [hc1, Nat.mul_one] at h1; obtain ⟨_, hlen, hcell⟩ := World.cells?_some h1
   match cs', hlen with
   | [v0], _ =>
    have c0 := hcell 0 (by omega); rw [Go.Deep.add_add] at c0; obtain ⟨p, e0, _, _⟩ := DataW.trod_int Tryz.underlying3 h2; simp at e0; subst e0; exact ⟨p, by simpa using c0⟩
  obtain ⟨xs, hlx, hc⟩ := list_of len each; have hb := hw ((((List.range len).map D).length + ((List.range (m - len)).map fun j => D (len + j)).length) * Tryz.prog.bytesOf 3) (by simp [DataW.weights, Tryz.underlying68]); rw [by_int, reach] at hb; simp only [List.length_map, List.length_range] at hb; refine ⟨some a, len, cap, xs, rfl, ⟨hlx, fun hn => ⟨a, rfl, ?_, hc⟩⟩, by omega⟩; obtain ⟨z, hz⟩ := each 0 hn; have := World.block_lt_of_cell? _ _ hz; rwa [add_block] at this
theorem open_bands {H : Type} {enc : TypeId × Value → H} {W : World} {sp : Nat → Bool} {v : Value} {fuel : Nat} {x : DataW H × List MemPlace}
  (h : DataW.trod enc Tryz.prog W 0 sp true fuel 67 [v] = some x) (hw : ∀ k ∈ x.1.weights Tryz.prog 67, k ≤ reachBytes) : ∃ L m c ls, v = .slice L m c ∧ Lns W (· < W.heap.size) L m ls ∧ m ≤ 140737488355328 := by
 rcases Go.Deep.open_slice_pairs Tryz.underlying67 Tryz.underlying127 (by kernel_rfl) rfl rfl (by kernel_rfl) (by kernel_rfl) h with ⟨hcs, _⟩ | ⟨a, len, cap, m, k, V0, V1, D0, D1, P0, P1, hcs, _, hl, hm, hmm, rfl, hx⟩
 ·simp at hcs; subst hcs; exact ⟨none, 0, 0, [], rfl, Lns.nil, by omega⟩
 ·simp at hcs; subst hcs; have hnm : len ≤ m := by rw [hmm]; split <;> omega
  have each : ∀ i, i < len → ∃ z : Pr, W.cell? (a.add (i * 2)) = some (.int .i64 z.1) ∧ W.cell? (a.add (i * 2 + 1)) = some (.int .i64 z.2) := by
   intro i hi; obtain ⟨h0, h1, g0, g1⟩ := hx i (by omega); obtain ⟨p, e0, _, _⟩ := DataW.trod_int Tryz.underlying3 g0; obtain ⟨q, e1, _, _⟩ := DataW.trod_int Tryz.underlying3 g1; simp at e0 e1; exact ⟨(p, q), by rw [h0, e0], by rw [h1, e1]⟩
  obtain ⟨xs, hlx, hc⟩ := list_of len each; have hb := hw ((((List.range len).map fun i => DataW.agg [D0 i, D1 i]).length + ((List.range (m - len)).map fun j => DataW.agg [D0 (len + j), D1 (len + j)]).length) * Tryz.prog.bytesOf 127) (by simp [DataW.weights, Tryz.underlying67]); rw [by_band, reach] at hb; simp only [List.length_map, List.length_range] at hb; refine ⟨some a, len, cap, xs, rfl, ⟨hlx, fun hn => ⟨a, rfl, ?_, hc⟩⟩, by omega⟩; obtain ⟨z, hz⟩ := each 0 hn; have := World.block_lt_of_cell? _ _ hz.1; rwa [add_block] at this
theorem open_nine {H : Type} {enc : TypeId × Value → H} {W : World} {sp : Nat → Bool} {cs : List Value} {fuel : Nat} {x : DataW H × List MemPlace}
  (h : DataW.trod enc Tryz.prog W 0 sp true fuel 70 cs = some x) (hw : ∀ k ∈ x.1.weights Tryz.prog 70, k ≤ reachBytes) : ∃ r : Rw, cs = cl r ∧ Mean W (· < W.heap.size) r ∧ Lo r := by
 obtain ⟨xs, k', hk', rfl, hlen, hxl, hf⟩ := DataW.trod_struct Tryz.underlying70 h; have hc9 : (Tryz.prog.cellsOf 70) = 9 := by kernel_rfl
 rw [hc9] at hlen
 match xs, hxl, cs, hlen with
 | [y0, y1, y2, y3, y4, y5], _, [v0, v1, v2, v3, v4, v5, v6, v7, v8], _ =>
  have g0 := hf 0 _ rfl; have g1 := hf 1 _ rfl; have g2 := hf 2 _ rfl; have g3 := hf 3 _ rfl; have g4 := hf 4 _ rfl; have g5 := hf 5 _ rfl; have q1 : (Tryz.prog.cellsOf 3) = 1 := by kernel_rfl
  have q2 : (Tryz.prog.cellsOf 68) = 1 := by kernel_rfl
  have q3 : (Tryz.prog.cellsOf 67) = 1 := by kernel_rfl
  have q4 : (Tryz.prog.cellsOf 66) = 4 := by kernel_rfl
  simp [q1, q2, q3, q4] at g0 g1 g2 g3 g4 g5; obtain ⟨p0, e0, _, _⟩ := DataW.trod_int Tryz.underlying3 g0; obtain ⟨p8, e8, _, _⟩ := DataW.trod_int Tryz.underlying3 g5; obtain ⟨ys, m, _, _, hl, hyl, hg⟩ := DataW.trod_array Tryz.underlying66 g1; have i0 := hg 0 (by omega); have i1 := hg 1 (by omega); have i2 := hg 2 (by omega); have i3 := hg 3 (by omega); rw [List.getElem?_eq_getElem (by omega : 0 < ys.length), q1] at i0; rw [List.getElem?_eq_getElem (by omega : 1 < ys.length), q1] at i1; rw [List.getElem?_eq_getElem (by omega : 2 < ys.length), q1] at i2; rw [List.getElem?_eq_getElem (by omega : 3 < ys.length), q1] at i3; simp at i0 i1 i2 i3; obtain ⟨p1, e1, _, _⟩ := DataW.trod_int Tryz.underlying3 i0; obtain ⟨p2, e2, _, _⟩ := DataW.trod_int Tryz.underlying3 i1; obtain ⟨p3, e3, _, _⟩ := DataW.trod_int Tryz.underlying3 i2; obtain ⟨p4, e4, _, _⟩ := DataW.trod_int Tryz.underlying3 i3; have hU : Tryz.prog.underlying 70 = some (.struct _) := Tryz.underlying70; have w2 : ∀ k ∈ y2.1.weights Tryz.prog 67, k ≤ reachBytes := fun k hk => hw k (by simp only [DataW.weights, hU]; exact DataW.weights_mem_each (j := 2) rfl rfl k hk)
  have w3 : ∀ k ∈ y3.1.weights Tryz.prog 68, k ≤ reachBytes := fun k hk => hw k (by simp only [DataW.weights, hU]; exact DataW.weights_mem_each (j := 3) rfl rfl k hk)
  have w4 : ∀ k ∈ y4.1.weights Tryz.prog 68, k ≤ reachBytes := fun k hk => hw k (by simp only [DataW.weights, hU]; exact DataW.weights_mem_each (j := 4) rfl rfl k hk)
  obtain ⟨A, la, ca, ag, rfl, ha, la2⟩ := open_bands g2 w2; obtain ⟨Z, lz, cz, zn, rfl, hz, lz2⟩ := open_ints g3 w3; obtain ⟨P, lp, cp, pe, rfl, hp, lp2⟩ := open_ints g4 w4; simp at e0 e1 e2 e3 e4 e8; subst e0 e1 e2 e3 e4 e8; exact ⟨⟨⟨p0, p1, p2, p3, p4, ag, zn, pe, p8⟩, A, la, ca, Z, lz, cz, P, lp, cp⟩, rfl, ⟨ha, hz, hp⟩, ⟨la2, lz2, lp2⟩⟩
structure GivenV (w : World) (r : Rw) : Prop where
 m : Mean w (· < w.heap.size) r
 l : Lo r
theorem open_version {H : Type} {enc : TypeId × Value → H} {W : World} {base : Nat} {sp : Nat → Bool} {v : Value} {d : DataW H} {p : List MemPlace}
  (hv : Value.okWide Tryz.prog W .any base 70 v) (h : DataW.Trod enc Tryz.prog W 0 sp true 70 v d p) (hw : ∀ k ∈ d.weights Tryz.prog 70, k ≤ reachBytes) : ∃ r, v = vg r ∧ GivenV W r := by
 obtain ⟨cs, rfl, hsz⟩ := okWide_struct Tryz.underlying70 hv; obtain ⟨fuel, hf⟩ := h; obtain ⟨r, e, hm, hl⟩ := open_nine hf hw; obtain ⟨l⟩ := cs; simp [Value.cells] at e; subst e; exact ⟨r, rfl, hm, hl⟩
structure GivenT (w : World) (A : Option Addr) (n c : Nat) (rs : List Rw) : Prop where
 r : Raws w (· < w.heap.size) A n rs
 m : ∀ r ∈ rs, Mean w (· < w.heap.size) r
 l : ∀ r ∈ rs, Lo r
 big : n * 120 ≤ 140737488351232
 cap : n ≤ c
 nil : A = none → n = 0 ∧ c = 0
theorem open_versions {H : Type} {enc : TypeId × Value → H} {W : World} {sp : Nat → Bool} {v : Value} {fuel : Nat} {x : DataW H × List MemPlace}
  (h : DataW.trod enc Tryz.prog W 0 sp true fuel 36 [v] = some x) (hw : ∀ k ∈ x.1.weights Tryz.prog 36, k ≤ reachBytes) : ∃ A n c rs, v = .slice A n c ∧ GivenT W A n c rs := by
 rcases Go.Deep.open_slice Tryz.underlying36 h with ⟨hcs, _⟩ | ⟨a, len, cap, m, k, D, Pl, hcs, _, hl, hm, hmm, rfl, hx⟩
 ·simp at hcs; subst hcs; exact ⟨none, 0, 0, [], rfl, Raws.nil, (fun r h => by cases h), (fun r h => by cases h), by omega, Nat.le_refl _, fun _ => ⟨rfl, rfl⟩⟩
 ·simp at hcs; subst hcs; have hnm : len ≤ m := by rw [hmm]; split <;> omega
  have hc9 : (Tryz.prog.cellsOf 70) = 9 := by kernel_rfl
  have each : ∀ i, i < len → ∃ r : Rw, Nin W (a.add (i * 9)) r ∧ Mean W (· < W.heap.size) r ∧ Lo r := by
   intro i hi; obtain ⟨cs', h1, h2⟩ := hx i (by omega); rw [hc9] at h1; obtain ⟨_, hlen, hcell⟩ := World.cells?_some h1
   obtain ⟨r, rfl, hM, hL⟩ := open_nine h2 fun k hk => hw k (by
    simp only [DataW.weights, Tryz.underlying36, List.mem_cons, List.mem_append]; exact .inr (.inl (weights_all (List.mem_map.2 ⟨i, List.mem_range.2 hi, rfl⟩) hk)))
   refine ⟨r, nin_of fun o u hu => ?_, hM, hL⟩; have ho : o < 9 := (List.getElem?_eq_some_iff.1 hu).1; have := hcell o ho; rw [Go.Deep.add_add] at this; rw [this, ← hu]
  obtain ⟨rs, hlr, hc⟩ := list_of len each; have hb := hw ((((List.range len).map D).length + ((List.range (m - len)).map fun j => D (len + j)).length) * Tryz.prog.bytesOf 70) (by simp [DataW.weights, Tryz.underlying36]); rw [by_version, reach] at hb; simp only [List.length_map, List.length_range] at hb; have mem : ∀ r ∈ rs, ∃ i, rs[i]? = some r := fun r hr => List.mem_iff_getElem?.1 hr
  refine ⟨some a, len, cap, rs, rfl, ⟨hlr, fun hn => ⟨a, rfl, ?_, fun j r hr => (hc j r hr).1⟩⟩, fun r hr => by obtain ⟨i, hi⟩ := mem r hr; exact (hc i r hi).2.1, fun r hr => by obtain ⟨i, hi⟩ := mem r hr; exact (hc i r hi).2.2, by omega, hl, fun e => by cases e⟩; obtain ⟨r0, z0, _⟩ := each 0 hn; have := World.block_lt_of_cell? _ _ z0.c0; rwa [add_block] at this
theorem open_tariff {H : Type} {enc : TypeId × Value → H} {W : World} {base : Nat} {sp : Nat → Bool} {v : Value} {d : DataW H} {p : List MemPlace}
  (hv : Value.okWide Tryz.prog W .any base 38 v) (h : DataW.Trod enc Tryz.prog W 0 sp true 38 v d p) (hw : ∀ k ∈ d.weights Tryz.prog 38, k ≤ reachBytes) : ∃ A n c rs, v = tg A n c ∧ GivenT W A n c rs := by
 obtain ⟨cs, rfl, hsz⟩ := okWide_struct Tryz.underlying38 hv; have hc1 : (Tryz.prog.cellsOf 38) = 1 := by kernel_rfl
 rw [hc1] at hsz; obtain ⟨l⟩ := cs
 match l, hsz with
 | [u], _ =>
  obtain ⟨fuel, hf⟩ := h; obtain ⟨xs, k', hk', hxy, _, hxl, hff⟩ := DataW.trod_struct Tryz.underlying38 hf
  match xs, hxl with
  | [y0], _ =>
   have g0 := hff 0 _ rfl; have q1 : (Tryz.prog.cellsOf 36) = 1 := by kernel_rfl
   simp [q1, Value.cells] at g0; have hU : Tryz.prog.underlying 38 = some (.struct _) := Tryz.underlying38; injection hxy with hd _
   subst hd; obtain ⟨A, n, c, rs, rfl, G⟩ := open_versions g0 fun k hk => hw k (by simp only [DataW.weights, hU]; exact DataW.weights_mem_each (j := 0) rfl rfl k hk)
   exact ⟨A, n, c, rs, rfl, G⟩
end Trf
end Go.Proofs.YtplenoaajokpjaaGreat

namespace Go.Proofs.YtplenoaajokpjaaGreat
open Go.ChangeShapes Go.WideShapes Go.ChangeAt Go.RowKit Ba Cv Sp Te Ag
namespace Tm
set_option linter.unusedVariables false
set_option maxRecDepth 100000
theorem own : ownKnob Tryz.prog.godebug = none := by kernel_rfl
theorem laidOut : laidOutB Tryz.prog = true := by kernel_rfl
theorem i64_of {n : Int} (h : (Lit.int .i64 n).wf = true) : -9223372036854775808 ≤ n ∧ n ≤ 9223372036854775807 := by
 simpa [Lit.wf, IntKind.min, IntKind.max, IntKind.signed, IntKind.bits] using h
theorem list_of {α : Type} {P : Nat → α → Prop} : ∀ n : Nat, (∀ i, i < n → ∃ a, P i a) → ∃ l : List α, l.length = n ∧ ∀ j x, l[j]? = some x → P j x
 | 0, _ => ⟨[], rfl, fun j x h => by simp at h⟩
 | n + 1, h => by
  obtain ⟨l, hl, hp⟩ := list_of n fun i hi => h i (by omega)
  obtain ⟨a, ha⟩ := h n (by omega); refine ⟨l ++ [a], by simp [hl], fun j x hx => ?_⟩; rcases Nat.lt_or_ge j n with hj | hj
  ·rw [List.getElem?_append_left (by omega)] at hx; exact hp j x hx
  ·rw [List.getElem?_append_right (by omega), hl] at hx
   have hj' : j = n := by
    have := (List.getElem?_eq_some_iff.1 hx).1; simp at this; omega
   subst hj'; simp at hx; subst hx; exact ha
theorem open_two {H : Type} {enc : TypeId × Value → H} {W : World} {sp : Nat → Bool} {cs : List Value} {fuel : Nat} {x : DataW H × List MemPlace}
  (h : DataW.trod enc Tryz.prog W 0 sp true fuel 27 cs = some x) : ∃ c : Sp, cs = [.int .i64 c.1, .int .i64 c.2] := by
 obtain ⟨xs, k', hk', rfl, hlen, hxl, hf⟩ := DataW.trod_struct Tryz.underlying27 h; have hc : (Tryz.prog.cellsOf 27) = 2 := by kernel_rfl
 rw [hc] at hlen
 match xs, hxl, cs, hlen with
 | [y0, y1], _, [v0, v1], _ =>
  have g0 := hf 0 _ rfl; have g1 := hf 1 _ rfl; have q1 : (Tryz.prog.cellsOf 3) = 1 := by kernel_rfl
  simp [q1] at g0 g1; obtain ⟨p0, e0, _, _⟩ := DataW.trod_int Tryz.underlying3 g0; obtain ⟨p1, e1, _, _⟩ := DataW.trod_int Tryz.underlying3 g1; simp at e0 e1; subst e0 e1; exact ⟨(p0, p1), rfl⟩
theorem open_four {H : Type} {enc : TypeId × Value → H} {W : World} {sp : Nat → Bool} {cs : List Value} {fuel : Nat} {x : DataW H × List MemPlace}
  (h : DataW.trod enc Tryz.prog W 0 sp true fuel 29 cs = some x) : ∃ c : Ri, cs = [.int .i64 c.k, .int .i64 c.v, .int .i64 c.a, .int .i64 c.z] := by
 obtain ⟨xs, k', hk', rfl, hlen, hxl, hf⟩ := DataW.trod_struct Tryz.underlying29 h; have hc : (Tryz.prog.cellsOf 29) = 4 := by kernel_rfl
 rw [hc] at hlen
 match xs, hxl, cs, hlen with
 | [y0, y1, y2, y3], _, [v0, v1, v2, v3], _ =>
  have g0 := hf 0 _ rfl; have g1 := hf 1 _ rfl; have g2 := hf 2 _ rfl; have g3 := hf 3 _ rfl; have q1 : (Tryz.prog.cellsOf 3) = 1 := by kernel_rfl
  simp [q1] at g0 g1 g2 g3; obtain ⟨p0, e0, _, _⟩ := DataW.trod_int Tryz.underlying3 g0; obtain ⟨p1, e1, _, _⟩ := DataW.trod_int Tryz.underlying3 g1; obtain ⟨p2, e2, _, _⟩ := DataW.trod_int Tryz.underlying3 g2; obtain ⟨p3, e3, _, _⟩ := DataW.trod_int Tryz.underlying3 g3; simp at e0 e1 e2 e3; subst e0 e1 e2 e3; exact ⟨⟨p0, p1, p2, p3⟩, rfl⟩
theorem open_five {H : Type} {enc : TypeId × Value → H} {W : World} {sp : Nat → Bool} {cs : List Value} {fuel : Nat} {x : DataW H × List MemPlace}
  (h : DataW.trod enc Tryz.prog W 0 sp true fuel 41 cs = some x) : ∃ c : Co, cs = cl5 c := by
 obtain ⟨xs, k', hk', rfl, hlen, hxl, hf⟩ := DataW.trod_struct Tryz.underlying41 h; have hc5 : (Tryz.prog.cellsOf 41) = 5 := by kernel_rfl
 rw [hc5] at hlen
 match xs, hxl, cs, hlen with
 | [y0, y1, y2, y3, y4], _, [v0, v1, v2, v3, v4], _ =>
  have g0 := hf 0 _ rfl; have g1 := hf 1 _ rfl; have g2 := hf 2 _ rfl; have g3 := hf 3 _ rfl; have g4 := hf 4 _ rfl; have q1 : (Tryz.prog.cellsOf 3) = 1 := by kernel_rfl
  simp [q1] at g0 g1 g2 g3 g4; obtain ⟨p0, e0, _, _⟩ := DataW.trod_int Tryz.underlying3 g0; obtain ⟨p1, e1, _, _⟩ := DataW.trod_int Tryz.underlying3 g1; obtain ⟨p2, e2, _, _⟩ := DataW.trod_int Tryz.underlying3 g2; obtain ⟨p3, e3, _, _⟩ := DataW.trod_int Tryz.underlying3 g3; obtain ⟨p4, e4, _, _⟩ := DataW.trod_int Tryz.underlying3 g4; simp at e0 e1 e2 e3 e4; subst e0 e1 e2 e3 e4; exact ⟨⟨p0, p1, p2, p3, p4⟩, rfl⟩
theorem reach : reachBytes = 140737488351232 := rfl
theorem by_cover : Tryz.prog.bytesOf 41 = 40 := by kernel_rfl
theorem by_change : Tryz.prog.bytesOf 52 = 88 := by kernel_rfl
theorem weights_all {H : Type} {P : Program} {e : TypeId} {d : DataW H} {l : List (DataW H)} (hd : d ∈ l) {k : Nat} (hk : k ∈ d.weights P e) : k ∈ DataW.weightsAll P e l := by
 induction l with
 | nil => cases hd
 | cons x xs ih =>
  simp only [DataW.weightsAll, List.mem_append]; rcases List.mem_cons.1 hd with rfl | hd
  ·exact .inl hk
  ·exact .inr (ih hd)
structure GivenC (w : World) (A : Option Addr) (n c : Nat) (cs : List Co) : Prop where
 r : Cvs w (· < w.heap.size) A n cs
 m : n ≤ 140737488355328
theorem covers_of {H : Type} {enc : TypeId × Value → H} {W : World} {sp : Nat → Bool} {v : Value} {fuel : Nat} {x : DataW H × List MemPlace}
  (hf : DataW.trod enc Tryz.prog W 0 sp true fuel 30 [v] = some x) (hw : ∀ k ∈ x.1.weights Tryz.prog 30, k ≤ reachBytes) : ∃ A n c cs, v = .slice A n c ∧ GivenC W A n c cs := by
 rcases Go.Deep.open_slice Tryz.underlying30 hf with ⟨hcs, _⟩ | ⟨a, n, cap, m, k, D, Pl, hcs, _, hl, hm, hmm, rfl, hx⟩
 ·simp at hcs; subst hcs; exact ⟨none, 0, 0, [], rfl, Cvs.nil, by omega⟩
 ·simp at hcs; subst hcs; have hnm : n ≤ m := by rw [hmm]; split <;> omega
  have hc5 : (Tryz.prog.cellsOf 41) = 5 := by kernel_rfl
  have each : ∀ i, i < n → ∃ c : Co, Fiv W (a.add (i * 5)) c := by
   intro i hi; obtain ⟨cs', h1, h2⟩ := hx i (by omega); rw [hc5] at h1; obtain ⟨_, hlen, hcell⟩ := World.cells?_some h1; obtain ⟨c, rfl⟩ := open_five h2; refine ⟨c, fiv_of fun o u hu => ?_⟩; have ho : o < 5 := (List.getElem?_eq_some_iff.1 hu).1; have := hcell o ho; rw [Go.Deep.add_add] at this; rw [this, ← hu]
  obtain ⟨xs, hlx, hc⟩ := list_of n each; have hb := hw ((((List.range n).map D).length + ((List.range (m - n)).map fun j => D (n + j)).length) * Tryz.prog.bytesOf 41) (by simp [DataW.weights, Tryz.underlying30]); rw [by_cover, reach] at hb; simp only [List.length_map, List.length_range] at hb; refine ⟨some a, n, cap, xs, rfl, ⟨hlx, fun hn => ⟨a, rfl, ?_, hc⟩⟩, by omega⟩; obtain ⟨z, hz⟩ := each 0 hn; have := World.block_lt_of_cell? _ _ hz.c0; rwa [add_block] at this
theorem open_seven {H : Type} {enc : TypeId × Value → H} {W : World} {sp : Nat → Bool} {cs : List Value} {fuel : Nat} {x : DataW H × List MemPlace}
  (h : DataW.trod enc Tryz.prog W 0 sp true fuel 32 cs = some x) (hw : ∀ k ∈ x.1.weights Tryz.prog 32, k ≤ reachBytes) : ∃ (s : Sp) (r : Ri) (A : Option Addr) (n c : Nat) (ls : List Co), cs = [.int .i64 s.1, .int .i64 s.2, .int .i64 r.k, .int .i64 r.v, .int .i64 r.a, .int .i64 r.z, .slice A n c] ∧ GivenC W A n c ls := by
 obtain ⟨xs, k', hk', rfl, hlen, hxl, hf⟩ := DataW.trod_struct Tryz.underlying32 h; have hc : (Tryz.prog.cellsOf 32) = 7 := by kernel_rfl
 rw [hc] at hlen
 match xs, hxl, cs, hlen with
 | [y0, y1, y2], _, [v0, v1, v2, v3, v4, v5, v6], _ =>
  have g0 := hf 0 _ rfl; have g1 := hf 1 _ rfl; have g2 := hf 2 _ rfl; have q1 : (Tryz.prog.cellsOf 27) = 2 := by kernel_rfl
  have q2 : (Tryz.prog.cellsOf 29) = 4 := by kernel_rfl
  have q3 : (Tryz.prog.cellsOf 30) = 1 := by kernel_rfl
  simp [q1, q2, q3] at g0 g1 g2; have hU : Tryz.prog.underlying 32 = some (.struct _) := Tryz.underlying32; have w2 : ∀ k ∈ y2.1.weights Tryz.prog 30, k ≤ reachBytes := fun k hk => hw k (by simp only [DataW.weights, hU]; exact DataW.weights_mem_each (j := 2) rfl rfl k hk)
  obtain ⟨s, e0⟩ := open_two g0; obtain ⟨r, e1⟩ := open_four g1; obtain ⟨A, n, c, ls, e2, hg⟩ := covers_of g2 w2; simp at e0 e1; obtain ⟨rfl, rfl⟩ := e0; obtain ⟨rfl, rfl, rfl, rfl⟩ := e1; subst e2; exact ⟨s, r, A, n, c, ls, rfl, hg⟩
theorem open_terms {H : Type} {enc : TypeId × Value → H} {W : World} {base : Nat} {sp : Nat → Bool} {v : Value} {d : DataW H} {p : List MemPlace}
  (hv : Value.okWide Tryz.prog W .any base 32 v) (h : DataW.Trod enc Tryz.prog W 0 sp true 32 v d p) (hw : ∀ k ∈ d.weights Tryz.prog 32, k ≤ reachBytes) : ∃ (s : Sp) (r : Ri) (A : Option Addr) (n c : Nat) (ls : List Co), v = tg s r A n c ∧ GivenC W A n c ls := by
 obtain ⟨cs, rfl, hsz⟩ := okWide_struct Tryz.underlying32 hv; obtain ⟨fuel, hf⟩ := h; obtain ⟨s, r, A, n, c, ls, e, hg⟩ := open_seven hf hw; obtain ⟨l⟩ := cs; simp [Value.cells] at e; subst e; exact ⟨s, r, A, n, c, ls, rfl, hg⟩
structure GivenR (w : World) (r : Rw) : Prop where
 c : Cvs w (· < w.heap.size) r.A r.n r.v.cs
 m : r.n ≤ 140737488355328
theorem open_nine {H : Type} {enc : TypeId × Value → H} {W : World} {sp : Nat → Bool} {cs : List Value} {fuel : Nat} {x : DataW H × List MemPlace}
  (h : DataW.trod enc Tryz.prog W 0 sp true fuel 52 cs = some x) (hw : ∀ k ∈ x.1.weights Tryz.prog 52, k ≤ reachBytes) : ∃ r : Rw, cs = cl r ∧ GivenR W r := by
 obtain ⟨xs, k', hk', rfl, hlen, hxl, hf⟩ := DataW.trod_struct Tryz.underlying52 h; have hc9 : (Tryz.prog.cellsOf 52) = 9 := by kernel_rfl
 rw [hc9] at hlen
 match xs, hxl, cs, hlen with
 | [y0, y1, y2, y3, y4, y5], _, [v0, v1, v2, v3, v4, v5, v6, v7, v8], _ =>
  have g0 := hf 0 _ rfl; have g1 := hf 1 _ rfl; have g2 := hf 2 _ rfl; have g3 := hf 3 _ rfl; have g4 := hf 4 _ rfl; have g5 := hf 5 _ rfl; have q1 : (Tryz.prog.cellsOf 3) = 1 := by kernel_rfl
  have q2 : (Tryz.prog.cellsOf 29) = 4 := by kernel_rfl
  have q3 : (Tryz.prog.cellsOf 30) = 1 := by kernel_rfl
  simp [q1, q2, q3] at g0 g1 g2 g3 g4 g5; obtain ⟨p0, e0, _, _⟩ := DataW.trod_int Tryz.underlying3 g0; obtain ⟨p1, e1, _, _⟩ := DataW.trod_int Tryz.underlying3 g1; obtain ⟨p2, e2, _, _⟩ := DataW.trod_int Tryz.underlying3 g2; obtain ⟨p8, e8, _, _⟩ := DataW.trod_int Tryz.underlying3 g5; have hU : Tryz.prog.underlying 52 = some (.struct _) := Tryz.underlying52; have w4 : ∀ k ∈ y4.1.weights Tryz.prog 30, k ≤ reachBytes := fun k hk => hw k (by simp only [DataW.weights, hU]; exact DataW.weights_mem_each (j := 4) rfl rfl k hk)
  obtain ⟨r, e3⟩ := open_four g3; obtain ⟨A, n, c, ls, e4, hg⟩ := covers_of g4 w4; simp at e0 e1 e2 e3 e8; obtain ⟨rfl, rfl, rfl, rfl⟩ := e3; subst e0 e1 e2 e4 e8; exact ⟨⟨⟨p0, p1, p2, r, ls, p8⟩, A, n, c⟩, rfl, hg.r, hg.m⟩
theorem open_change {H : Type} {enc : TypeId × Value → H} {W : World} {base : Nat} {sp : Nat → Bool} {v : Value} {d : DataW H} {p : List MemPlace}
  (hv : Value.okWide Tryz.prog W .any base 52 v) (h : DataW.Trod enc Tryz.prog W 0 sp true 52 v d p) (hw : ∀ k ∈ d.weights Tryz.prog 52, k ≤ reachBytes) : ∃ r, v = vg r ∧ GivenR W r := by
 obtain ⟨cs, rfl, hsz⟩ := okWide_struct Tryz.underlying52 hv; obtain ⟨fuel, hf⟩ := h; obtain ⟨r, e, hg⟩ := open_nine hf hw; obtain ⟨l⟩ := cs; simp [Value.cells, cl] at e; subst e; exact ⟨r, rfl, hg⟩
structure GivenS (w : World) (B : Option Addr) (m d : Nat) (rs : List Rw) : Prop where
 r : Raws w (· < w.heap.size) B m rs
 k : ∀ r ∈ rs, GivenR w r
 hm : m ≤ 140737488355328
 f : m ≤ d
 z : B = none → m = 0 ∧ d = 0
theorem open_changes {H : Type} {enc : TypeId × Value → H} {W : World} {sp : Nat → Bool} {v : Value} {fuel : Nat} {x : DataW H × List MemPlace}
  (h : DataW.trod enc Tryz.prog W 0 sp true fuel 33 [v] = some x) (hw : ∀ k ∈ x.1.weights Tryz.prog 33, k ≤ reachBytes) : ∃ A n c rs, v = .slice A n c ∧ GivenS W A n c rs := by
 rcases Go.Deep.open_slice Tryz.underlying33 h with ⟨hcs, _⟩ | ⟨a, len, cap, m, k, D, Pl, hcs, _, hl, hm, hmm, rfl, hx⟩
 ·simp at hcs; subst hcs; exact ⟨none, 0, 0, [], rfl, Raws.nil, (fun r h => by cases h), by omega, Nat.le_refl _, fun _ => ⟨rfl, rfl⟩⟩
 ·simp at hcs; subst hcs; have hnm : len ≤ m := by rw [hmm]; split <;> omega
  have hc9 : (Tryz.prog.cellsOf 52) = 9 := by kernel_rfl
  have each : ∀ i, i < len → ∃ r : Rw, Nin W (a.add (i * 9)) r ∧ GivenR W r := by
   intro i hi; obtain ⟨cs', h1, h2⟩ := hx i (by omega); rw [hc9] at h1; obtain ⟨_, hlen, hcell⟩ := World.cells?_some h1
   obtain ⟨r, rfl, hM⟩ := open_nine h2 fun k hk => hw k (by
    simp only [DataW.weights, Tryz.underlying33, List.mem_cons, List.mem_append]; exact .inr (.inl (weights_all (List.mem_map.2 ⟨i, List.mem_range.2 hi, rfl⟩) hk)))
   refine ⟨r, nin_of fun o u hu => ?_, hM⟩; have ho : o < 9 := (List.getElem?_eq_some_iff.1 hu).1; have := hcell o ho; rw [Go.Deep.add_add] at this; rw [this, ← hu]
  obtain ⟨rs, hlr, hc⟩ := list_of len each; have hb := hw ((((List.range len).map D).length + ((List.range (m - len)).map fun j => D (len + j)).length) * Tryz.prog.bytesOf 52) (by simp [DataW.weights, Tryz.underlying33]); rw [by_change, reach] at hb; simp only [List.length_map, List.length_range] at hb; have mem : ∀ r ∈ rs, ∃ i, rs[i]? = some r := fun r hr => List.mem_iff_getElem?.1 hr
  refine ⟨some a, len, cap, rs, rfl, ⟨hlr, fun hn => ⟨a, rfl, ?_, fun j r hr => (hc j r hr).1⟩⟩, fun r hr => by obtain ⟨i, hi⟩ := mem r hr; exact (hc i r hi).2, by omega, hl, fun e => by cases e⟩; obtain ⟨r0, z0, _⟩ := each 0 hn; have := World.block_lt_of_cell? _ _ z0.c0; rwa [add_block] at this
structure GivenH (w : World) (h : Hr) : Prop where
 M : HM w (· < w.heap.size) h
 n : h.n ≤ 140737488355328
 k : ∀ r ∈ h.rs, r.n ≤ 140737488355328
 m : h.m ≤ 140737488355328
 f : h.m ≤ h.d
 z : h.B = none → h.m = 0 ∧ h.d = 0
theorem open_history {H : Type} {enc : TypeId × Value → H} {W : World} {base : Nat} {sp : Nat → Bool} {v : Value} {d : DataW H} {p : List MemPlace}
  (hv : Value.okWide Tryz.prog W .any base 35 v) (h : DataW.Trod enc Tryz.prog W 0 sp true 35 v d p) (hw : ∀ k ∈ d.weights Tryz.prog 35, k ≤ reachBytes) : ∃ h, v = hg h ∧ GivenH W h := by
 obtain ⟨cs, rfl, hsz⟩ := okWide_struct Tryz.underlying35 hv; have hc10 : (Tryz.prog.cellsOf 35) = 10 := by kernel_rfl
 rw [hc10] at hsz; obtain ⟨l⟩ := cs
 match l, hsz with
 | [v0, v1, v2, v3, v4, v5, v6, v7, v8, v9], _ =>
  obtain ⟨fuel, hf⟩ := h; obtain ⟨xs, k', hk', hxy, _, hxl, hff⟩ := DataW.trod_struct Tryz.underlying35 hf
  match xs, hxl with
  | [y0, y1, y2, y3], _ =>
   have g0 := hff 0 _ rfl; have g1 := hff 1 _ rfl; have g2 := hff 2 _ rfl; have g3 := hff 3 _ rfl; have q1 : (Tryz.prog.cellsOf 3) = 1 := by kernel_rfl
   have q2 : (Tryz.prog.cellsOf 32) = 7 := by kernel_rfl
   have q3 : (Tryz.prog.cellsOf 33) = 1 := by kernel_rfl
   simp [q1, q2, q3, Value.cells] at g0 g1 g2 g3; obtain ⟨p0, e0, _, _⟩ := DataW.trod_int Tryz.underlying3 g0; obtain ⟨p1, e1, _, _⟩ := DataW.trod_int Tryz.underlying3 g1; have hU : Tryz.prog.underlying 35 = some (.struct _) := Tryz.underlying35; injection hxy with hd _
   subst hd; have w2 : ∀ k ∈ y2.1.weights Tryz.prog 32, k ≤ reachBytes := fun k hk => hw k (by simp only [DataW.weights, hU]; exact DataW.weights_mem_each (j := 2) rfl rfl k hk)
   have w3 : ∀ k ∈ y3.1.weights Tryz.prog 33, k ≤ reachBytes := fun k hk => hw k (by simp only [DataW.weights, hU]; exact DataW.weights_mem_each (j := 3) rfl rfl k hk)
   obtain ⟨s, r, A, n, c, ls, e2, hg⟩ := open_seven g2 w2; obtain ⟨B, m, d, rs, e3, hs⟩ := open_changes g3 w3; simp at e0 e1 e2; obtain ⟨rfl, rfl, rfl, rfl, rfl, rfl, rfl⟩ := e2; subst e0 e1 e3; exact ⟨⟨p0, p1, s, r, A, n, c, ls, B, m, d, rs⟩, rfl, ⟨hg.r, hs.r, fun r hr => (hs.k r hr).c⟩, hg.m, fun r hr => (hs.k r hr).m, hs.hm, hs.f, hs.z⟩
theorem GivenH.small {w : World} {h : Hr} (g : GivenH w h) (hn : h.n ≤ 3000) (hm : h.m ≤ 2000) (hk : ∀ r ∈ h.rs, r.n ≤ 3000) : HS h := ⟨hn, hm, hk, g.z, g.f⟩
end Tm
end Go.Proofs.YtplenoaajokpjaaGreat

namespace Go.Proofs.YtplenoaajokpjaaGreat
open Go.ChangeShapes Go.WideShapes Go.ChangeAt Go.RowKit Ba Cv Sp Te Ag Sl Tm
namespace Slc
set_option linter.unusedVariables false
set_option maxRecDepth 100000
theorem own : ownKnob Tryz.prog.godebug = none := by kernel_rfl
theorem laidOut : laidOutB Tryz.prog = true := by kernel_rfl
theorem i64_of {n : Int} (h : (Lit.int .i64 n).wf = true) : -9223372036854775808 ≤ n ∧ n ≤ 9223372036854775807 := Tm.i64_of h
theorem u8_of {n : Int} (h : (Lit.int .u8 n).wf = true) : 0 ≤ n ∧ n ≤ 255 := by
 simpa [Lit.wf, IntKind.min, IntKind.max, IntKind.signed, IntKind.bits] using h
theorem u32_of {n : Int} (h : (Lit.int .u32 n).wf = true) : 0 ≤ n ∧ n ≤ 4294967295 := by
 simpa [Lit.wf, IntKind.min, IntKind.max, IntKind.signed, IntKind.bits] using h
theorem by_slice : Tryz.prog.bytesOf 60 = 88 := by kernel_rfl
theorem open_history {H : Type} {enc : TypeId × Value → H} {W : World} {base : Nat} {sp : Nat → Bool} {v : Value} {d : DataW H} {p : List MemPlace} (hv : Value.okWide Tryz.prog W .any base 35 v) (h : DataW.Trod enc Tryz.prog W 0 sp true 35 v d p) (hw : ∀ k ∈ d.weights Tryz.prog 35, k ≤ reachBytes) : ∃ h, v = hg h ∧ GivenH W h := Tm.open_history hv h hw
theorem open_tariff {H : Type} {enc : TypeId × Value → H} {W : World} {base : Nat} {sp : Nat → Bool} {v : Value} {d : DataW H} {p : List MemPlace} (hv : Value.okWide Tryz.prog W .any base 38 v) (h : DataW.Trod enc Tryz.prog W 0 sp true 38 v d p) (hw : ∀ k ∈ d.weights Tryz.prog 38, k ≤ reachBytes) : ∃ A n c rs, v = Trf.tg A n c ∧ Trf.GivenT W A n c rs := Trf.open_tariff hv h hw
theorem open_version {H : Type} {enc : TypeId × Value → H} {W : World} {base : Nat} {sp : Nat → Bool} {v : Value} {d : DataW H} {p : List MemPlace} (hv : Value.okWide Tryz.prog W .any base 70 v) (h : DataW.Trod enc Tryz.prog W 0 sp true 70 v d p) (hw : ∀ k ∈ d.weights Tryz.prog 70, k ≤ reachBytes) : ∃ r, v = Trf.vg r ∧ Trf.GivenV W r := Trf.open_version hv h hw
theorem open_change {H : Type} {enc : TypeId × Value → H} {W : World} {base : Nat} {sp : Nat → Bool} {v : Value} {d : DataW H} {p : List MemPlace} (hv : Value.okWide Tryz.prog W .any base 52 v) (h : DataW.Trod enc Tryz.prog W 0 sp true 52 v d p) (hw : ∀ k ∈ d.weights Tryz.prog 52, k ≤ reachBytes) : ∃ r, v = Tm.vg r ∧ GivenR W r := Tm.open_change hv h hw
theorem open_changes {H : Type} {enc : TypeId × Value → H} {W : World} {base : Nat} {sp : Nat → Bool} {v : Value} {d : DataW H} {p : List MemPlace} (hv : Value.okWide Tryz.prog W .any base 33 v) (h : DataW.Trod enc Tryz.prog W 0 sp true 33 v d p) (hw : ∀ k ∈ d.weights Tryz.prog 33, k ≤ reachBytes) : ∃ A n c rs, v = .slice A n c ∧ GivenS W A n c rs := by
 obtain ⟨fuel, hf⟩ := h; obtain ⟨A0, n0, c0, rfl⟩ := okWide_slice Tryz.underlying33 hv; exact Tm.open_changes hf hw
structure GivenL (w : World) (r : Rw) : Prop where
 c : Cvs w (· < w.heap.size) r.A r.n r.v.h.cs
 m : r.n ≤ 140737488355328
theorem open_nine {H : Type} {enc : TypeId × Value → H} {W : World} {sp : Nat → Bool} {cs : List Value} {fuel : Nat} {x : DataW H × List MemPlace}
  (h : DataW.trod enc Tryz.prog W 0 sp true fuel 60 cs = some x) (hw : ∀ k ∈ x.1.weights Tryz.prog 60, k ≤ reachBytes) : ∃ r : Rw, cs = cl r ∧ GivenL W r := by
 obtain ⟨xs, k', hk', rfl, hlen, hxl, hf⟩ := DataW.trod_struct Tryz.underlying60 h; have hc9 : (Tryz.prog.cellsOf 60) = 9 := by kernel_rfl
 rw [hc9] at hlen
 match xs, hxl, cs, hlen with
 | [y0, y1, y2, y3, y4], _, [v0, v1, v2, v3, v4, v5, v6, v7, v8], _ =>
  have g0 := hf 0 _ rfl; have g1 := hf 1 _ rfl; have g2 := hf 2 _ rfl; have g3 := hf 3 _ rfl; have g4 := hf 4 _ rfl; have q1 : (Tryz.prog.cellsOf 3) = 1 := by kernel_rfl
  have q2 : (Tryz.prog.cellsOf 29) = 4 := by kernel_rfl
  have q3 : (Tryz.prog.cellsOf 30) = 1 := by kernel_rfl
  have q4 : (Tryz.prog.cellsOf 27) = 2 := by kernel_rfl
  have q5 : (Tryz.prog.cellsOf 4) = 1 := by kernel_rfl
  simp [q1, q2, q3, q4, q5] at g0 g1 g2 g3 g4; obtain ⟨s, e0⟩ := open_two g0; obtain ⟨b, e1, _⟩ := DataW.trod_bool Tryz.underlying4 g1; obtain ⟨p8, e8, _, _⟩ := DataW.trod_int Tryz.underlying3 g4; have hU : Tryz.prog.underlying 60 = some (.struct _) := Tryz.underlying60; have w3 : ∀ k ∈ y3.1.weights Tryz.prog 30, k ≤ reachBytes := fun k hk => hw k (by simp only [DataW.weights, hU]; exact DataW.weights_mem_each (j := 3) rfl rfl k hk)
  obtain ⟨r, e3⟩ := open_four g2; obtain ⟨A, n, c, ls, e4, hg⟩ := covers_of g3 w3; simp at e0 e1 e3 e8; obtain ⟨rfl, rfl⟩ := e0; obtain ⟨rfl, rfl, rfl, rfl⟩ := e3; subst e1 e4 e8; exact ⟨⟨⟨s, ⟨b, r, ls⟩, p8⟩, A, n, c⟩, rfl, hg.r, hg.m⟩
theorem open_slice {H : Type} {enc : TypeId × Value → H} {W : World} {base : Nat} {sp : Nat → Bool} {v : Value} {d : DataW H} {p : List MemPlace} (hv : Value.okWide Tryz.prog W .any base 60 v) (h : DataW.Trod enc Tryz.prog W 0 sp true 60 v d p) (hw : ∀ k ∈ d.weights Tryz.prog 60, k ≤ reachBytes) : ∃ r, v = vg r ∧ GivenL W r := by
 obtain ⟨cs, rfl, hsz⟩ := okWide_struct Tryz.underlying60 hv; obtain ⟨fuel, hf⟩ := h; obtain ⟨r, e, hg⟩ := open_nine hf hw; obtain ⟨l⟩ := cs; simp [Value.cells, cl] at e; subst e; exact ⟨r, rfl, hg⟩
structure GivenP (w : World) (B : Option Addr) (m : Nat) (rs : List Rw) : Prop where
 r : Raws w (· < w.heap.size) B m rs
 k : ∀ r ∈ rs, GivenL w r
 hm : m ≤ 140737488355328
theorem slices_of {H : Type} {enc : TypeId × Value → H} {W : World} {sp : Nat → Bool} {v : Value} {fuel : Nat} {x : DataW H × List MemPlace}
  (h : DataW.trod enc Tryz.prog W 0 sp true fuel 56 [v] = some x) (hw : ∀ k ∈ x.1.weights Tryz.prog 56, k ≤ reachBytes) : ∃ A n c rs, v = .slice A n c ∧ GivenP W A n rs := by
 rcases Go.Deep.open_slice Tryz.underlying56 h with ⟨hcs, _⟩ | ⟨a, len, cap, m, k, D, Pl, hcs, _, hl, hm, hmm, rfl, hx⟩
 ·simp at hcs; subst hcs; exact ⟨none, 0, 0, [], rfl, Raws.nil, (fun r h => by cases h), by omega⟩
 ·simp at hcs; subst hcs; have hnm : len ≤ m := by rw [hmm]; split <;> omega
  have hc9 : (Tryz.prog.cellsOf 60) = 9 := by kernel_rfl
  have each : ∀ i, i < len → ∃ r : Rw, Nin W (a.add (i * 9)) r ∧ GivenL W r := by
   intro i hi; obtain ⟨cs', h1, h2⟩ := hx i (by omega); rw [hc9] at h1; obtain ⟨_, hlen, hcell⟩ := World.cells?_some h1
   obtain ⟨r, rfl, hM⟩ := open_nine h2 fun k hk => hw k (by
    simp only [DataW.weights, Tryz.underlying56, List.mem_cons, List.mem_append]; exact .inr (.inl (Tm.weights_all (List.mem_map.2 ⟨i, List.mem_range.2 hi, rfl⟩) hk)))
   refine ⟨r, nin_of fun o u hu => ?_, hM⟩; have ho : o < 9 := (List.getElem?_eq_some_iff.1 hu).1; have := hcell o ho; rw [Go.Deep.add_add] at this; rw [this, ← hu]
  obtain ⟨rs, hlr, hc⟩ := Tm.list_of len each; have hb := hw ((((List.range len).map D).length + ((List.range (m - len)).map fun j => D (len + j)).length) * Tryz.prog.bytesOf 60) (by simp [DataW.weights, Tryz.underlying56]); rw [by_slice, Tm.reach] at hb; simp only [List.length_map, List.length_range] at hb; have mem : ∀ r ∈ rs, ∃ i, rs[i]? = some r := fun r hr => List.mem_iff_getElem?.1 hr
  refine ⟨some a, len, cap, rs, rfl, ⟨hlr, fun hn => ⟨a, rfl, ?_, fun j r hr => (hc j r hr).1⟩⟩, fun r hr => by obtain ⟨i, hi⟩ := mem r hr; exact (hc i r hi).2, by omega⟩; obtain ⟨r0, z0, _⟩ := each 0 hn; have := World.block_lt_of_cell? _ _ z0.c0; rwa [add_block] at this
theorem open_slices {H : Type} {enc : TypeId × Value → H} {W : World} {base : Nat} {sp : Nat → Bool} {v : Value} {d : DataW H} {p : List MemPlace} (hv : Value.okWide Tryz.prog W .any base 56 v) (h : DataW.Trod enc Tryz.prog W 0 sp true 56 v d p) (hw : ∀ k ∈ d.weights Tryz.prog 56, k ≤ reachBytes) : ∃ A n c rs, v = .slice A n c ∧ GivenP W A n rs := by
 obtain ⟨fuel, h⟩ := h; obtain ⟨A0, n0, c0, rfl⟩ := okWide_slice Tryz.underlying56 hv; exact slices_of h hw
end Slc
end Go.Proofs.YtplenoaajokpjaaGreat
