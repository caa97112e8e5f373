/-
  Days that came in: a slice of ints. Conditions: those of each theorem.
-/
import Derived.Test.YtheamhjgohacdaaGiven
import Derived.Test.YtheamhjgohacdaaRParts
namespace Go.Proofs.Ytheamhjgohacdaa
open Go.ChangeShapes Go.WideShapes Go.ChangeAt Go.RowKit Bk Spn
namespace Pst
set_option linter.unusedVariables false

structure GivenI (w : World) (A : Option Addr) (n c : Nat) (xs : List Int) : Prop where
  ints : Spn.Ints w w.heap.size A n xs
  cap : n ≤ c
  len : n ≤ maxLen
  nil : A = none → n = 0 ∧ c = 0
theorem open_days {H : Type} {enc : TypeId × Value → H} {W : World} {base : Nat} {sp : Nat → Bool} {v : Value} {d : DataW H} {p : List MemPlace}
    (hv : Value.okWide Try.prog W .any base 47 v) (h : DataW.Trod enc Try.prog W 0 sp true 47 v d p) : ∃ A n c xs, v = .slice A n c ∧ GivenI W A n c xs := by
  obtain ⟨A, n, c, rfl⟩ := okWide_slice Try.underlying47 hv
  refine ⟨A, n, c, ?_⟩
  obtain ⟨fuel, hf⟩ := h
  rcases open_ints Try.underlying47 Try.underlying3 (by kernel_rfl) hf with ⟨hcs, _⟩ | ⟨x, l, c', zs, hcs, _, hl, hm, hz, _, hcell, hwz⟩
  · simp [Value.cells] at hcs
    obtain ⟨rfl, rfl, rfl⟩ := hcs
    exact ⟨[], rfl, ⟨Ints.nil, Nat.le_refl _, by unfold maxLen; omega, fun _ => ⟨rfl, rfl⟩⟩⟩
  · simp [Value.cells] at hcs
    obtain ⟨rfl, rfl, rfl⟩ := hcs
    have hz' : n ≤ zs.length := by rw [hz]; split <;> omega
    refine ⟨zs.take n, rfl, ⟨⟨by rw [List.length_take]; omega, fun hn => ⟨x, rfl, ?_, fun j y hj => ?_⟩⟩, hl, Nat.le_trans hl hm, fun h => by cases h⟩⟩
    · have h0 := hcell 0 (by omega)
      have := World.block_lt_of_cell? _ _ h0
      rwa [Spn.add_block] at this
    · obtain ⟨hlt, e⟩ := List.getElem?_eq_some_iff.1 hj
      rw [List.length_take] at hlt
      rw [hcell j (by omega)]
      rw [List.getElem_take] at e
      simp only [List.getD_eq_getElem?_getD, List.getElem?_eq_getElem (show j < zs.length by omega), Option.getD_some, e]

/-- What an account has in all parts of a span is what it has in the span. -/
def sumB (acc : Int) (b : List En) (zs : List Sp.Sp) : Int := (zs.map fun p => bal (Sp.inn p) acc b).sum
theorem sumB_snoc (acc : Int) (b : List En) (zs : List Sp.Sp) (p : Sp.Sp) : sumB acc b (zs ++ [p]) = sumB acc b zs + bal (Sp.inn p) acc b := by simp [sumB]
theorem sumB_cons (acc : Int) (b : List En) (zs : List Sp.Sp) (p : Sp.Sp) : sumB acc b (p :: zs) = bal (Sp.inn p) acc b + sumB acc b zs := by simp [sumB]
theorem sumB_chain {acc : Int} {b : List En} {f t : Int} {zs : List Sp.Sp} (h : Sp.Chain f t zs) (h1 : 1 ≤ f) (h2 : t ≤ 292195) : sumB acc b zs = bal (Sp.inn (f, t)) acc b := by
  induction zs generalizing f with
  | nil =>
    have h' : f = t := h
    rw [bal_none fun e _ => ?_]
    · rfl
    · cases e' : Sp.inn (f, t) e.day
      · rfl
      · rw [Sp.inn_iff] at e'; simp only at e'; omega
  | cons x xs ih =>
    have a := h.1
    have c := h.2.1
    have d := h.2.2.le
    rw [sumB_cons, ih h.2.2 (by omega)]
    refine (bal_part fun z => ?_).symm
    have e1 := Sp.inn_iff (f, t) z
    have e2 := Sp.inn_iff x z
    have e3 := Sp.inn_iff (x.2, t) z
    simp only at e1 e3
    cases c1 : Sp.inn (f, t) z <;> cases c2 : Sp.inn x z <;> cases c3 : Sp.inn (x.2, t) z <;> simp only [c1, c2, c3, true_iff, false_iff, Bool.false_eq_true] at e1 e2 e3 <;> simp <;> omega
theorem sumB_parts {acc : Int} {b : List En} {s : Sp.Sp} {ds : List Int} {zs : List Sp.Sp} (h : Sp.Parted s ds zs) : sumB acc b zs = bal (Sp.inn s) acc b := by
  cases hs : Sp.has s
  · rw [h.none hs, bal_none fun e _ => ?_]
    · rfl
    · cases e' : Sp.inn s e.day
      · rfl
      · rw [Sp.inn_has e'] at hs; cases hs
  · have hs' := (Sp.has_iff s).1 hs
    exact sumB_chain (h.chain hs) (by omega) (by omega)

end Pst
end Go.Proofs.Ytheamhjgohacdaa
