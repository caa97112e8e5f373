/-
  What the arguments read as; the laws' own awake. Conditions: those of each theorem.
-/
import Derived.Test.YtjcehjofimkjaaaRef
import Derived.ProofKit
import Derived.OpenShut
import Derived.ChangeOld
import Derived.Below
import Derived.Lib.SmallJoins
import Derived.Deep.SlicePairs
namespace Go.Proofs.Ytjcehjofimkjaaa
open Go.ChangeShapes Go.WideShapes Go.ChangeAt Go.RowKit Cv
namespace Cvr
set_option linter.unusedVariables false

theorem own : ownKnob Try.prog.godebug = none := by kernel_rfl
theorem laidOut : laidOutB Try.prog = true := by kernel_rfl
theorem i64_of {n : Int} (h : (Lit.int .i64 n).wf = true) : -9223372036854775808 ≤ n ∧ n ≤ 9223372036854775807 := by
  simpa [Lit.wf, IntKind.min, IntKind.max, IntKind.signed, IntKind.bits] using h
theorem u32_of {n : Int} (h : (Lit.int .u32 n).wf = true) : 0 ≤ n ∧ n ≤ 4294967295 := by
  simpa [Lit.wf, IntKind.min, IntKind.max, IntKind.signed, IntKind.bits] using h
theorem u64_of {n : Int} (h : (Lit.int .u64 n).wf = true) : 0 ≤ n ∧ n ≤ 18446744073709551615 := by
  simpa [Lit.wf, IntKind.min, IntKind.max, IntKind.signed, IntKind.bits] using h

/-- The slice with this address and length reads as these ints, in blocks that are asked for. -/
def Ins (w : World) (ok : Nat → Prop) (L : Option Addr) (m : Nat) (xs : List Int) : Prop :=
  xs.length = m ∧ (0 < m → ∃ ad : Addr, L = some ad ∧ ok ad.block ∧ ∀ (j : Nat) (x : Int), xs[j]? = some x → w.cell? (ad.add j) = some (.int .i64 x))
section
variable {w w' : World} {ok ok' : Nat → Prop} {m : Nat} {L : Option Addr} {xs : List Int}
theorem Ins.nil {L : Option Addr} : Ins w ok L 0 [] := ⟨rfl, fun h => absurd h (by omega)⟩
theorem Ins.get {k : Nat} (h : Ins w ok L m xs) (hk : k < m) : ∃ (ad : Addr) (x : Int), L = some ad ∧ ok ad.block ∧ xs[k]? = some x ∧ w.cell? (ad.add k) = some (.int .i64 x) := by
  obtain ⟨ad, e, hb, hc⟩ := h.2 (by omega)
  have hl : k < xs.length := by have := h.1; omega
  exact ⟨ad, xs[k], e, hb, List.getElem?_eq_getElem hl, hc k _ (List.getElem?_eq_getElem hl)⟩
theorem Ins.keep (h : Ins w ok L m xs) (hk : ∀ p : Addr, ok p.block → w'.cell? p = w.cell? p) (hw : ∀ b, ok b → ok' b) : Ins w' ok' L m xs :=
  ⟨h.1, fun hn => by
    obtain ⟨ad, e, hb, hc⟩ := h.2 hn
    exact ⟨ad, e, hw _ hb, fun j x hx => (hk _ (by rw [add_block]; exact hb)).trans (hc j x hx)⟩⟩
theorem Ins.below (h : Ins w (· < w.heap.size) L m xs) (hb : Below w.heap.size w w') : Ins w' (· < w'.heap.size) L m xs := h.keep (fun _ hp => hb.cell hp) fun b h => Nat.lt_of_lt_of_le h hb.size
theorem Ins.noroom (h : Ins w ok none m xs) : m = 0 := by
  rcases Nat.eq_zero_or_pos m with h0 | h0
  · exact h0
  · obtain ⟨ad, e, _⟩ := h.2 h0; cases e
end


/-- A cover by value: its form. -/
theorem open_cover {H : Type} {enc : TypeId × Value → H} {W : World} {base : Nat} {sp : Nat → Bool} {v : Value} {d : DataW H} {p : List MemPlace}
    (hv : Value.okWide Try.prog W .any base 23 v) (h : DataW.Trod enc Try.prog W 0 sp true 23 v d p) : ∃ c : Co, v = cg c := by
  obtain ⟨cs, rfl, hsz⟩ := okWide_struct Try.underlying23 hv
  obtain ⟨fuel, hf⟩ := h
  obtain ⟨xs, k', hk', e, hlen, hxl, hg⟩ := DataW.trod_struct Try.underlying23 hf
  have hc5 : (Try.prog.cellsOf 23) = 5 := by kernel_rfl
  rw [hc5] at hlen
  obtain ⟨l⟩ := cs
  simp [Value.cells] at hlen hg
  match xs, hxl, l, hlen with
  | [y0, y1, y2, y3, y4], _, [v0, v1, v2, v3, v4], _ =>
    have g0 := hg 0 _ rfl
    have g1 := hg 1 _ rfl
    have g2 := hg 2 _ rfl
    have g3 := hg 3 _ rfl
    have g4 := hg 4 _ rfl
    have q1 : (Try.prog.cellsOf 3) = 1 := by kernel_rfl
    simp [q1] at g0 g1 g2 g3 g4
    obtain ⟨p0, e0, _, _⟩ := DataW.trod_int Try.underlying3 g0
    obtain ⟨p1, e1, _, _⟩ := DataW.trod_int Try.underlying3 g1
    obtain ⟨p2, e2, _, _⟩ := DataW.trod_int Try.underlying3 g2
    obtain ⟨p3, e3, _, _⟩ := DataW.trod_int Try.underlying3 g3
    obtain ⟨p4, e4, _, _⟩ := DataW.trod_int Try.underlying3 g4
    simp at e0 e1 e2 e3 e4
    exact ⟨⟨p0, p1, p2, p3, p4⟩, by rw [e0, e1, e2, e3, e4]⟩

/-- A row of ints that came in. -/
structure GivenI (w : World) (A : Option Addr) (n c : Nat) (xs : List Int) : Prop where
  l : Ins w (· < w.heap.size) A n xs
  m : n ≤ maxLen
  i : ∀ x ∈ xs, I64 x
theorem ints_of {H : Type} {enc : TypeId × Value → H} {W : World} {sp : Nat → Bool} {v : Value} {fuel : Nat} {y : DataW H × List MemPlace} (hf : DataW.trod enc Try.prog W 0 sp true fuel 29 [v] = some y) : ∃ A n c xs, v = .slice A n c ∧ GivenI W A n c xs := by
  rcases open_ints Try.underlying29 Try.underlying3 (by kernel_rfl) hf with ⟨hcs, _⟩ | ⟨x, l, c', zs, hcs, _, hl, hm, hz, _, hcell, hwz⟩
  · simp at hcs
    subst hcs
    exact ⟨none, 0, 0, [], rfl, Ins.nil, by unfold maxLen; omega, fun x hx => by simp at hx⟩
  · simp at hcs
    subst hcs
    have hz' : l ≤ zs.length := by rw [hz]; split <;> omega
    refine ⟨_, l, c', zs.take l, rfl, ⟨by rw [List.length_take]; omega, fun hn => ⟨x, rfl, ?_, fun j y hj => ?_⟩⟩, Nat.le_trans hl hm, fun y hy => ?_⟩
    · have h0 := hcell 0 (by omega)
      have := World.block_lt_of_cell? _ _ h0
      rwa [add_block] at this
    · obtain ⟨hlt, e⟩ := List.getElem?_eq_some_iff.1 hj
      rw [List.length_take] at hlt
      rw [hcell j (by omega)]
      rw [List.getElem_take] at e
      simp only [List.getD_eq_getElem?_getD, List.getElem?_eq_getElem (show j < zs.length by omega), Option.getD_some, e]
    · exact i64_of (hwz y (List.mem_of_mem_take hy))

theorem open_is {H : Type} {enc : TypeId × Value → H} {W : World} {base : Nat} {sp : Nat → Bool} {v : Value} {d : DataW H} {p : List MemPlace}
    (hv : Value.okWide Try.prog W .any base 29 v) (h : DataW.Trod enc Try.prog W 0 sp true 29 v d p) : ∃ A n c xs, v = .slice A n c ∧ GivenI W A n c xs := by
  obtain ⟨A, n, c, rfl⟩ := okWide_slice Try.underlying29 hv
  obtain ⟨fuel, hf⟩ := h
  exact ints_of hf

theorem al1 : Ok ⟨1, 1000, 1500, 100, 8000⟩ := by unfold Ok; decide
theorem al2 : pay ⟨1, 1000, 1500, 100, 8000⟩ 600 0 = 400 := by decide +kernel
theorem al3 : pay ⟨1, 1000, 1500, 100, 8000⟩ 2000 900 = 600 := by decide +kernel

set_option maxRecDepth 100000 in
set_option maxHeartbeats 2000000 in
theorem awake (w : World) : Calls Try.prog 8 #[] w (Yes w true) := by
  have C1 := fun w => Lib.hid (right_ ⟨1, 1000, 1500, 100, 8000⟩ w)
  have C2 := fun w => Lib.hid (pays ⟨1, 1000, 1500, 100, 8000⟩ 600 0 w (by constructor <;> omega) (by constructor <;> omega))
  have C3 := fun w => Lib.hid (pays ⟨1, 1000, 1500, 100, 8000⟩ 2000 900 w (by constructor <;> omega) (by constructor <;> omega))
  rw [ok_yes al1] at C1
  rw [al2] at C2
  rw [al3] at C3
  go_enter Try.func8, Try.ntmps8
  go_wp2_with fail
  refine (C1 _).out.mono ?_
  rintro e w1 ⟨rfl, hb1⟩
  have HX1 := Lib.hid (bx1 hb1).1
  have HB1 := Lib.hid (below_alloc hb1)
  clear hb1
  have x0 := HX1.out.c 0
  have x1 := HX1.out.c 1
  have x2 := HX1.out.c 2
  have x3 := HX1.out.c 3
  have x4 := HX1.out.c 4
  go_wp2_with fail
  refine (C2 _).out.mono ?_
  rintro e w2 ⟨rfl, hb2⟩
  have HX2 := Lib.hid (HX1.out.keep hb2)
  have HB2 := Lib.hid (HB1.out.trans (hb2.mono HB1.out.size))
  clear hb2 x0 x1 x2 x3 x4 HX1 HB1
  have x0 := HX2.out.c 0
  have x1 := HX2.out.c 1
  have x2 := HX2.out.c 2
  have x3 := HX2.out.c 3
  have x4 := HX2.out.c 4
  go_wp2_with fail
  refine (C3 _).out.mono ?_
  rintro e w3 ⟨rfl, hb3⟩
  have HB3 := Lib.hid (HB2.out.trans (hb3.mono HB2.out.size))
  clear hb3 x0 x1 x2 x3 x4 HX2 HB2
  go_wp2
  go_ret
  exact ⟨rfl, HB3.out⟩
end Cvr
end Go.Proofs.Ytjcehjofimkjaaa
