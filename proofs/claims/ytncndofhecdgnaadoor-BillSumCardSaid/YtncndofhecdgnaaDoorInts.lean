/-
  Slices of ints that read as lists; num.anyBelowZero, num.sum, the document's Sum and Same over them. Conditions: those of each theorem.
-/
import Derived.Test.YtncndofhecdgnaaDoorRefEven
namespace Go.Proofs.YtncndofhecdgnaaDoor
open Go.RowKit NumMath NumBits
namespace Num

/-- The slice with this address and length reads as this list of ints, in blocks below B. -/
def Ints (w : World) (B : Nat) (A : Option Addr) (n : Nat) (xs : List Int) : Prop :=
  xs.length = n ∧ (0 < n → ∃ ad : Addr, A = some ad ∧ ad.block < B ∧ ∀ (j : Nat) (x : Int), xs[j]? = some x → w.cell? (ad.add j) = some (.int .i64 x))

theorem add_block (a : Addr) (n : Nat) : (a.add n).block = a.block := by unfold Addr.add; split <;> rfl

section
variable {w w' : World} {B n : Nat} {A : Option Addr} {xs : List Int}
theorem Ints.nil {A : Option Addr} : Ints w B A 0 [] := ⟨rfl, fun h => absurd h (by omega)⟩
theorem Ints.get {k : Nat} (h : Ints w B A n xs) (hk : k < n) : ∃ (ad : Addr) (x : Int), A = some ad ∧ ad.block < B ∧ xs[k]? = some x ∧ w.cell? (ad.add k) = some (.int .i64 x) := by
  obtain ⟨ad, e, hb, hc⟩ := h.2 (by omega)
  have hl : k < xs.length := by have := h.1; omega
  exact ⟨ad, xs[k], e, hb, List.getElem?_eq_getElem hl, hc k _ (List.getElem?_eq_getElem hl)⟩
theorem Ints.keep (h : Ints w B A n xs) (hk : ∀ p : Addr, p.block < B → w'.cell? p = w.cell? p) : Ints w' B A n xs :=
  ⟨h.1, fun hn => by
    obtain ⟨ad, e, hb, hc⟩ := h.2 hn
    exact ⟨ad, e, hb, fun j x hx => (hk _ (by rw [add_block]; exact hb)).trans (hc j x hx)⟩⟩
theorem Ints.below {C : Nat} (h : Ints w B A n xs) (hb : Below C w w') (hC : B ≤ C) : Ints w' B A n xs := h.keep fun _ hp => hb.cell (Nat.lt_of_lt_of_le hp hC)
theorem Ints.wide {C : Nat} (h : Ints w B A n xs) (hC : B ≤ C) : Ints w C A n xs :=
  ⟨h.1, fun hn => by
    obtain ⟨ad, e, hb, hc⟩ := h.2 hn
    exact ⟨ad, e, Nat.lt_of_lt_of_le hb hC, hc⟩⟩
end

theorem take_more {xs : List Int} {k : Nat} {x : Int} (h : xs[k]? = some x) : xs.take (k + 1) = xs.take k ++ [x] := by
  obtain ⟨hl, e⟩ := List.getElem?_eq_some_iff.1 h
  rw [List.take_succ_eq_append_getElem hl, e]

def nonneg (xs : List Int) : Prop := ∀ x ∈ xs, 0 ≤ x
def anyNeg (xs : List Int) : Bool := xs.any (fun x => decide (x < 0))
def sumL (xs : List Int) : Int := xs.foldl (· + ·) 0

theorem sumL_snoc (xs : List Int) (x : Int) : sumL (xs ++ [x]) = sumL xs + x := by simp [sumL, List.foldl_append]
theorem foldl_add (xs : List Int) (a : Int) : xs.foldl (· + ·) a = a + xs.foldl (· + ·) 0 := by
  induction xs generalizing a with
  | nil => simp
  | cons x xs ih => simp only [List.foldl_cons]; rw [ih (a + x), ih (0 + x)]; omega
theorem sumL_cons (x : Int) (xs : List Int) : sumL (x :: xs) = x + sumL xs := by
  unfold sumL; rw [List.foldl_cons, foldl_add]; omega
theorem sumL_append (xs ys : List Int) : sumL (xs ++ ys) = sumL xs + sumL ys := by
  unfold sumL; rw [List.foldl_append, foldl_add]
theorem sumL_nonneg {xs : List Int} (h : nonneg xs) : 0 ≤ sumL xs := by
  induction xs with
  | nil => simp [sumL]
  | cons x xs ih => rw [sumL_cons]; have := h x (by simp); have := ih (fun y hy => h y (by simp [hy])); omega
theorem nonneg_take {xs : List Int} (h : nonneg xs) (k : Nat) : nonneg (xs.take k) := fun x hx => h x (List.mem_of_mem_take hx)
theorem sumL_take_le {xs : List Int} (h : nonneg xs) (k : Nat) : sumL (xs.take k) ≤ sumL xs := by
  have e : sumL xs = sumL (xs.take k) + sumL (xs.drop k) := by rw [← sumL_append, List.take_append_drop]
  have := sumL_nonneg (xs := xs.drop k) (fun x hx => h x (List.mem_of_mem_drop hx))
  omega
theorem mem_of_get {xs : List Int} {k : Nat} {x : Int} (h : xs[k]? = some x) : x ∈ xs := List.mem_of_getElem? h
theorem anyNeg_false {xs : List Int} : anyNeg xs = false ↔ nonneg xs := by
  simp [anyNeg, nonneg]

set_option maxHeartbeats 1000000 in
theorem anyBelow (A : Option Addr) (n c B : Nat) (xs : List Int) (w : World) (h : Ints w B A n xs) (hn : n ≤ maxLen) :
    Calls Tryd.prog 50 #[.slice A n c] w fun e w' => e = .returned (.bool (anyNeg xs)) ∧ w = w' := by
  unfold maxLen at hn
  have H := Lib.hid h
  clear h
  go_enter Tryd.func50, Tryd.ntmps50
  go_wp2
  go_loop [7] (fun i => ∃ k : Nat, k ≤ n ∧ i = .int .i64 (k : Int) ∧ Hid (nonneg (xs.take k))) (fun i => n - (intOf i).toNat)
  case atStart => exact ⟨0, Nat.zero_le _, rfl, Lib.hid (by simp [nonneg])⟩
  case round =>
    obtain ⟨k, hk, rfl, HN⟩ := hrel
    by_cases hlt : k < n
    · obtain ⟨ad, x, rfl, hb, hx, hc⟩ := H.out.get hlt
      have HX := Lib.hid hx
      clear hx
      by_cases hx0 : x < 0
      · have t : decide (x < 0) = true := by simpa using hx0
        go_wp2
        go_ret
        refine ⟨congrArg Ending.returned (congrArg Value.bool ?_), rfl⟩
        have : anyNeg xs = true := by
          unfold anyNeg; rw [List.any_eq_true]; exact ⟨x, mem_of_get HX.out, t⟩
        rw [this]
      · have t : decide (x < 0) = false := by simpa using hx0
        go_wp2
        go_round
        case rel =>
          refine ⟨k + 1, by omega, by go_num, Lib.hid ?_⟩
          rw [take_more HX.out]
          intro y hy
          rcases List.mem_append.1 hy with h | h
          · exact HN.out y h
          · simp at h; omega
        case measure => simp [intOf]; omega
    · go_wp2
      go_ret
      refine ⟨congrArg Ending.returned (congrArg Value.bool ?_), rfl⟩
      have e : xs.take k = xs := List.take_of_length_le (by have := H.out.1; omega)
      have := HN.out
      rw [e] at this
      rw [anyNeg_false.2 this]

def sumVal (xs : List Int) : Value := if sumL xs ≤ 4000000000000000000 then .tuple #[.int .i64 (sumL xs), .bool true] else .tuple #[.int .i64 0, .bool false]
theorem sumVal_ok {xs : List Int} (h : sumL xs ≤ 4000000000000000000) : Ending.returned (.tuple #[.int .i64 (sumL xs), .bool true]) = .returned (sumVal xs) := by rw [sumVal, if_pos h]
theorem sumVal_no {xs : List Int} {k : Nat} {x : Int} (hp : nonneg xs) (hx : xs[k]? = some x) (h : 4000000000000000000 - sumL (xs.take k) < x) : Ending.returned (.tuple #[.int .i64 0, .bool false]) = .returned (sumVal xs) := by
  have := sumL_take_le hp (k + 1)
  rw [take_more hx, sumL_snoc] at this
  rw [sumVal, if_neg (by omega)]

-- SUMS
set_option maxRecDepth 100000 in
set_option maxHeartbeats 1000000 in
theorem sum (A : Option Addr) (n c B : Nat) (xs : List Int) (w : World) (h : Ints w B A n xs) (hn : n ≤ maxLen) (hp : nonneg xs) :
    Calls Tryd.prog 51 #[.slice A n c] w fun e w' => e = .returned (sumVal xs) ∧ w = w' := by
  unfold maxLen at hn
  have H := Lib.hid h
  have HP := Lib.hid hp
  clear h hp
  go_enter Tryd.func51, Tryd.ntmps51
  go_wp2
  go_loop [4, 9] (fun s i => ∃ (k : Nat) (t : Int), k ≤ n ∧ i = .int .i64 (k : Int) ∧ s = .int .i64 t ∧ 0 ≤ t ∧ t ≤ 4000000000000000000 ∧ Hid (t = sumL (xs.take k))) (fun _ i => n - (intOf i).toNat)
  case atStart => exact ⟨0, 0, Nat.zero_le _, rfl, rfl, by omega, by omega, Lib.hid (by simp [sumL])⟩
  case round =>
    obtain ⟨k, t, hk, rfl, rfl, ht0, ht1, HT⟩ := hrel
    by_cases hlt : k < n
    · obtain ⟨ad, x, rfl, hb, hx, hc⟩ := H.out.get hlt
      have hx0 : 0 ≤ x := HP.out x (mem_of_get hx)
      have HX := Lib.hid hx
      clear hx
      obtain ⟨d, hd⟩ : ∃ d : Int, d = 4000000000000000000 - t := ⟨_, rfl⟩
      have ed : 4000000000000000000 - t = d := hd.symm
      have HD := Lib.hid hd
      clear hd
      by_cases ho : d < x
      · have tt : decide (d < x) = true := by simpa using ho
        go_wp2
        go_ret2
        refine ⟨sumVal_no HP.out HX.out ?_, rfl⟩
        rw [← HT.out, ← HD.out]
        exact ho
      · have tt : decide (d < x) = false := by simpa using ho
        have hs : t + x ≤ 4000000000000000000 := by have := HD.out; omega
        go_wp2
        go_round
        case rel =>
          refine ⟨k + 1, t + x, by omega, by go_num, rfl, by omega, by omega, Lib.hid ?_⟩
          rw [take_more HX.out, sumL_snoc, ← HT.out]
        case measure => simp [intOf]; omega
    · go_wp2
      go_ret2
      have e : xs.take k = xs := List.take_of_length_le (by have := H.out.1; omega)
      have ht := HT.out
      rw [e] at ht
      subst ht
      exact ⟨sumVal_ok ht1, rfl⟩

end Num
end Go.Proofs.YtncndofhecdgnaaDoor
