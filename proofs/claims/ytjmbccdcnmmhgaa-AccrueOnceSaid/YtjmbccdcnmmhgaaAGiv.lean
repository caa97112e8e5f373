/-
  What the arguments read as. Conditions: those of each theorem.
-/
import Derived.Test.YtjmbccdcnmmhgaaSw
import Derived.Test.YtjmbccdcnmmhgaaZApp
import Derived.ProofKit
import Derived.OpenShut
import Derived.ChangeOld
import Derived.Below
import Derived.SizedLaws
import Derived.Lib.SmallJoins
import Derived.Deep.SlicePairs
namespace Go.Proofs.Ytjmbccdcnmmhgaa
open Go.ChangeShapes Go.WideShapes Go.ChangeAt Go.RowKit Ba Cv Sp Te Ag Sl Tm Slc
namespace Acr
set_option linter.unusedVariables false
set_option maxRecDepth 100000

theorem own : ownKnob Try.prog.godebug = none := by kernel_rfl
theorem laidOut : laidOutB Try.prog = true := by kernel_rfl
theorem i64_of {n : Int} (h : (Lit.int .i64 n).wf = true) : -9223372036854775808 ≤ n ∧ n ≤ 9223372036854775807 := by
  simpa [Lit.wf, IntKind.min, IntKind.max, IntKind.signed, IntKind.bits] using h
theorem list_of {α : Type} {P : Nat → α → Prop} : ∀ n : Nat, (∀ i, i < n → ∃ a, P i a) → ∃ l : List α, l.length = n ∧ ∀ j x, l[j]? = some x → P j x
  | 0, _ => ⟨[], rfl, fun j x h => by simp at h⟩
  | n + 1, h => by
    obtain ⟨l, hl, hp⟩ := list_of n fun i hi => h i (by omega)
    obtain ⟨a, ha⟩ := h n (by omega)
    refine ⟨l ++ [a], by simp [hl], fun j x hx => ?_⟩
    rcases Nat.lt_or_ge j n with hj | hj
    · rw [List.getElem?_append_left (by omega)] at hx; exact hp j x hx
    · rw [List.getElem?_append_right (by omega), hl] at hx
      have hj' : j = n := by
        have := (List.getElem?_eq_some_iff.1 hx).1
        simp at this; omega
      subst hj'
      simp at hx
      subst hx
      exact ha
/-- A span's two cells. -/
theorem open_two {H : Type} {enc : TypeId × Value → H} {W : World} {sp : Nat → Bool} {cs : List Value} {fuel : Nat} {x : DataW H × List MemPlace}
    (h : DataW.trod enc Try.prog W 0 sp true fuel 30 cs = some x) : ∃ c : Sp, cs = [.int .i64 c.1, .int .i64 c.2] := by
  obtain ⟨xs, k', hk', rfl, hlen, hxl, hf⟩ := DataW.trod_struct Try.underlying30 h
  have hc : (Try.prog.cellsOf 30) = 2 := by kernel_rfl
  rw [hc] at hlen
  match xs, hxl, cs, hlen with
  | [y0, y1], _, [v0, v1], _ =>
    have g0 := hf 0 _ rfl
    have g1 := hf 1 _ rfl
    have q1 : (Try.prog.cellsOf 3) = 1 := by kernel_rfl
    simp [q1] at g0 g1
    obtain ⟨p0, e0, _, _⟩ := DataW.trod_int Try.underlying3 g0
    obtain ⟨p1, e1, _, _⟩ := DataW.trod_int Try.underlying3 g1
    simp at e0 e1
    subst e0 e1
    exact ⟨(p0, p1), rfl⟩
/-- A risk's four cells. -/
theorem open_four {H : Type} {enc : TypeId × Value → H} {W : World} {sp : Nat → Bool} {cs : List Value} {fuel : Nat} {x : DataW H × List MemPlace}
    (h : DataW.trod enc Try.prog W 0 sp true fuel 46 cs = some x) : ∃ c : Ri, cs = [.int .i64 c.k, .int .i64 c.v, .int .i64 c.a, .int .i64 c.z] := by
  obtain ⟨xs, k', hk', rfl, hlen, hxl, hf⟩ := DataW.trod_struct Try.underlying46 h
  have hc : (Try.prog.cellsOf 46) = 4 := by kernel_rfl
  rw [hc] at hlen
  match xs, hxl, cs, hlen with
  | [y0, y1, y2, y3], _, [v0, v1, v2, v3], _ =>
    have g0 := hf 0 _ rfl
    have g1 := hf 1 _ rfl
    have g2 := hf 2 _ rfl
    have g3 := hf 3 _ rfl
    have q1 : (Try.prog.cellsOf 3) = 1 := by kernel_rfl
    simp [q1] at g0 g1 g2 g3
    obtain ⟨p0, e0, _, _⟩ := DataW.trod_int Try.underlying3 g0
    obtain ⟨p1, e1, _, _⟩ := DataW.trod_int Try.underlying3 g1
    obtain ⟨p2, e2, _, _⟩ := DataW.trod_int Try.underlying3 g2
    obtain ⟨p3, e3, _, _⟩ := DataW.trod_int Try.underlying3 g3
    simp at e0 e1 e2 e3
    subst e0 e1 e2 e3
    exact ⟨⟨p0, p1, p2, p3⟩, rfl⟩
theorem reach : reachBytes = 140737488351232 := rfl
theorem weights_all {H : Type} {P : Program} {e : TypeId} {d : DataW H} {l : List (DataW H)} (hd : d ∈ l) {k : Nat} (hk : k ∈ d.weights P e) : k ∈ DataW.weightsAll P e l := by
  induction l with
  | nil => cases hd
  | cons x xs ih =>
    simp only [DataW.weightsAll, List.mem_append]
    rcases List.mem_cons.1 hd with rfl | hd
    · exact .inl hk
    · exact .inr (ih hd)
theorem u8_of {n : Int} (h : (Lit.int .u8 n).wf = true) : 0 ≤ n ∧ n ≤ 255 := by
  simpa [Lit.wf, IntKind.min, IntKind.max, IntKind.signed, IntKind.bits] using h
theorem u32_of {n : Int} (h : (Lit.int .u32 n).wf = true) : 0 ≤ n ∧ n ≤ 4294967295 := by
  simpa [Lit.wf, IntKind.min, IntKind.max, IntKind.signed, IntKind.bits] using h
theorem by_slice : Try.prog.bytesOf 49 = 88 := by kernel_rfl
theorem open_nine {H : Type} {enc : TypeId × Value → H} {W : World} {sp : Nat → Bool} {cs : List Value} {fuel : Nat} {x : DataW H × List MemPlace}
    (h : DataW.trod enc Try.prog W 0 sp true fuel 49 cs = some x) : ∃ r : Rw, cs = cl r := by
  obtain ⟨xs, k', hk', rfl, hlen, hxl, hf⟩ := DataW.trod_struct Try.underlying49 h
  have hc9 : (Try.prog.cellsOf 49) = 9 := by kernel_rfl
  rw [hc9] at hlen
  match xs, hxl, cs, hlen with
  | [y0, y1, y2, y3, y4], _, [v0, v1, v2, v3, v4, v5, v6, v7, v8], _ =>
    have g0 := hf 0 _ rfl
    have g1 := hf 1 _ rfl
    have g2 := hf 2 _ rfl
    have g3 := hf 3 _ rfl
    have g4 := hf 4 _ rfl
    have q1 : (Try.prog.cellsOf 3) = 1 := by kernel_rfl
    have q2 : (Try.prog.cellsOf 46) = 4 := by kernel_rfl
    have q3 : (Try.prog.cellsOf 47) = 1 := by kernel_rfl
    have q4 : (Try.prog.cellsOf 30) = 2 := by kernel_rfl
    have q5 : (Try.prog.cellsOf 4) = 1 := by kernel_rfl
    simp [q1, q2, q3, q4, q5] at g0 g1 g2 g3 g4
    obtain ⟨s, e0⟩ := open_two g0
    obtain ⟨b, e1, _⟩ := DataW.trod_bool Try.underlying4 g1
    obtain ⟨p8, e8, _, _⟩ := DataW.trod_int Try.underlying3 g4
    obtain ⟨r, e3⟩ := open_four g2
    obtain ⟨A, n, c, e4⟩ : ∃ A n c, v7 = .slice A n c := by
      rcases Go.Deep.open_slice Try.underlying47 g3 with ⟨hcs, _⟩ | ⟨a, len, cap, m, k, D, Pl, hcs, _⟩
      · simp at hcs; exact ⟨none, 0, 0, hcs⟩
      · simp at hcs; exact ⟨some a, len, cap, hcs⟩
    simp at e0 e1 e3 e8
    obtain ⟨rfl, rfl⟩ := e0
    obtain ⟨rfl, rfl, rfl, rfl⟩ := e3
    subst e1 e4 e8
    exact ⟨⟨⟨s, ⟨b, r, []⟩, p8⟩, A, n, c⟩, rfl⟩
/-- A row of slices that came in. -/
structure GivenA (w : World) (B : Option Addr) (m c : Nat) (rs : List Rw) : Prop where
  r : Raws w (· < w.heap.size) B m rs
  hm : m ≤ 140737488355328
  f : m ≤ c
  z : B = none → m = 0 ∧ c = 0
theorem slices_of {H : Type} {enc : TypeId × Value → H} {W : World} {sp : Nat → Bool} {v : Value} {fuel : Nat} {x : DataW H × List MemPlace}
    (h : DataW.trod enc Try.prog W 0 sp true fuel 22 [v] = some x) (hw : ∀ k ∈ x.1.weights Try.prog 22, k ≤ reachBytes) : ∃ A n c rs, v = .slice A n c ∧ GivenA W A n c rs := by
  rcases Go.Deep.open_slice Try.underlying22 h with ⟨hcs, _⟩ | ⟨a, len, cap, m, k, D, Pl, hcs, _, hl, hm, hmm, rfl, hx⟩
  · simp at hcs
    subst hcs
    exact ⟨none, 0, 0, [], rfl, Raws.nil, by omega, Nat.le_refl _, fun _ => ⟨rfl, rfl⟩⟩
  · simp at hcs
    subst hcs
    have hnm : len ≤ m := by rw [hmm]; split <;> omega
    have hc9 : (Try.prog.cellsOf 49) = 9 := by kernel_rfl
    have each : ∀ i, i < len → ∃ r : Rw, Nin W (a.add (i * 9)) r := by
      intro i hi
      obtain ⟨cs', h1, h2⟩ := hx i (by omega)
      rw [hc9] at h1
      obtain ⟨_, hlen, hcell⟩ := World.cells?_some h1
      obtain ⟨r, rfl⟩ := open_nine h2
      refine ⟨r, nin_of fun o u hu => ?_⟩
      have ho : o < 9 := (List.getElem?_eq_some_iff.1 hu).1
      have := hcell o ho
      rw [Go.Deep.add_add] at this
      rw [this, ← hu]
    obtain ⟨rs, hlr, hc⟩ := list_of len each
    have hb := hw ((((List.range len).map D).length + ((List.range (m - len)).map fun j => D (len + j)).length) * Try.prog.bytesOf 49) (by simp [DataW.weights, Try.underlying22])
    rw [by_slice, reach] at hb
    simp only [List.length_map, List.length_range] at hb
    refine ⟨some a, len, cap, rs, rfl, ⟨hlr, fun hn => ⟨a, rfl, ?_, fun j r hr => hc j r hr⟩⟩, by omega, by omega, fun h => by cases h⟩
    obtain ⟨r0, z0⟩ := each 0 hn
    have := World.block_lt_of_cell? _ _ z0.c0
    rwa [add_block] at this
theorem open_slices {H : Type} {enc : TypeId × Value → H} {W : World} {base : Nat} {sp : Nat → Bool} {v : Value} {d : DataW H} {p : List MemPlace} (hv : Value.okWide Try.prog W .any base 22 v) (h : DataW.Trod enc Try.prog W 0 sp true 22 v d p) (hw : ∀ k ∈ d.weights Try.prog 22, k ≤ reachBytes) : ∃ A n c rs, v = .slice A n c ∧ GivenA W A n c rs := by
  obtain ⟨fuel, h⟩ := h
  obtain ⟨A0, n0, c0, rfl⟩ := okWide_slice Try.underlying22 hv
  exact slices_of h hw

theorem open_twoB {H : Type} {enc : TypeId × Value → H} {W : World} {sp : Nat → Bool} {cs : List Value} {fuel : Nat} {x : DataW H × List MemPlace}
    (h : DataW.trod enc Try.prog W 0 sp true fuel 30 cs = some x) : ∃ a b : Int, cs = [.int .i64 a, .int .i64 b] ∧ (-9223372036854775808 ≤ a ∧ a ≤ 9223372036854775807) ∧ (-9223372036854775808 ≤ b ∧ b ≤ 9223372036854775807) := by
  obtain ⟨xs, k', hk', rfl, hlen, hxl, hf⟩ := DataW.trod_struct Try.underlying30 h
  have hc : (Try.prog.cellsOf 30) = 2 := by kernel_rfl
  rw [hc] at hlen
  match xs, hxl, cs, hlen with
  | [y0, y1], _, [v0, v1], _ =>
    have g0 := hf 0 _ rfl
    have g1 := hf 1 _ rfl
    have q1 : (Try.prog.cellsOf 3) = 1 := by kernel_rfl
    simp [q1] at g0 g1
    obtain ⟨p0, e0, _, w0⟩ := DataW.trod_int Try.underlying3 g0
    obtain ⟨p1, e1, _, w1⟩ := DataW.trod_int Try.underlying3 g1
    simp at e0 e1
    subst e0 e1
    exact ⟨p0, p1, rfl, i64_of w0, i64_of w1⟩
theorem open_span {H : Type} {enc : TypeId × Value → H} {W : World} {base : Nat} {sp : Nat → Bool} {v : Value} {d : DataW H} {p : List MemPlace} (hv : Value.okWide Try.prog W .any base 30 v) (h : DataW.Trod enc Try.prog W 0 sp true 30 v d p) (hw : ∀ k ∈ d.weights Try.prog 30, k ≤ reachBytes) : ∃ z0 z1 : Int, v = .agg #[.int .i64 z0, .int .i64 z1] ∧ (-9223372036854775808 ≤ z0 ∧ z0 ≤ 9223372036854775807) ∧ (-9223372036854775808 ≤ z1 ∧ z1 ≤ 9223372036854775807) := by
  obtain ⟨cs, rfl, hsz⟩ := okWide_struct Try.underlying30 hv
  obtain ⟨fuel, hf⟩ := h
  obtain ⟨a, b, e, hg⟩ := open_twoB hf
  obtain ⟨l⟩ := cs
  simp [Value.cells] at e
  subst e
  exact ⟨a, b, rfl, hg⟩
/-- Days that came in. -/
structure GivenI (w : World) (A : Option Addr) (n c : Nat) (xs : List Int) : Prop where
  i : Stp.Ints w w.heap.size A n xs
  m : n ≤ 9223372036854775807
theorem open_days {H : Type} {enc : TypeId × Value → H} {W : World} {base : Nat} {sp : Nat → Bool} {v : Value} {d : DataW H} {p : List MemPlace}
    (hv : Value.okWide Try.prog W .any base 31 v) (h : DataW.Trod enc Try.prog W 0 sp true 31 v d p) (hw : ∀ k ∈ d.weights Try.prog 31, k ≤ reachBytes) : ∃ A n c xs, v = .slice A n c ∧ GivenI W A n c xs := by
  obtain ⟨A, n, c, rfl⟩ := okWide_slice Try.underlying31 hv
  refine ⟨A, n, c, ?_⟩
  obtain ⟨fuel, hf⟩ := h
  rcases open_ints Try.underlying31 Try.underlying3 (by kernel_rfl) hf with ⟨hcs, _⟩ | ⟨x, l, c', zs, hcs, _, hl, hm, hz, _, hcell, hwz⟩
  · simp [Value.cells] at hcs
    obtain ⟨rfl, rfl, rfl⟩ := hcs
    exact ⟨[], rfl, ⟨Stp.Ints.nil, by omega⟩⟩
  · simp [Value.cells] at hcs
    obtain ⟨rfl, rfl, rfl⟩ := hcs
    have hz' : n ≤ zs.length := by rw [hz]; split <;> omega
    refine ⟨zs.take n, rfl, ⟨⟨by rw [List.length_take]; omega, fun hn => ⟨x, rfl, ?_, fun j y hj => ?_⟩⟩, by have := Nat.le_trans hl hm; unfold maxLen at this; omega⟩⟩
    · have h0 := hcell 0 (by omega)
      have := World.block_lt_of_cell? _ _ h0
      rwa [Stp.add_block] at this
    · obtain ⟨hlt, e⟩ := List.getElem?_eq_some_iff.1 hj
      rw [List.length_take] at hlt
      rw [hcell j (by omega)]
      rw [List.getElem_take] at e
      simp only [List.getD_eq_getElem?_getD, List.getElem?_eq_getElem (show j < zs.length by omega), Option.getD_some, e]

end Acr
end Go.Proofs.Ytjmbccdcnmmhgaa
