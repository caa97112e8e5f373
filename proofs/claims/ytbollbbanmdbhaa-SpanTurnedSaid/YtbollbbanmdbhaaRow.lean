/-
  Rows of spans: slices that read as lists of pairs; the document's Same. Conditions: those of each theorem.
-/
import Derived.Test.YtbollbbanmdbhaaTwo
namespace Go.Proofs.Ytbollbbanmdbhaa
open Go.RowKit Sp
namespace Spn
set_option linter.unusedVariables false

theorem add_block (a : Addr) (n : Nat) : (a.add n).block = a.block := by unfold Addr.add; split <;> rfl
theorem add_add (a : Addr) (i j : Nat) : (a.add i).add j = a.add (i + j) := by
  unfold Addr.add
  by_cases hi : i = 0 <;> by_cases hj : j = 0 <;> simp [hi, hj, Nat.add_assoc]

theorem add_one (a : Addr) (i : Nat) : a.add (i + 1) = ⟨(a.add i).block, (a.add i).off + 1, none⟩ := by
  unfold Addr.add
  by_cases hi : i = 0 <;> simp [hi, Nat.add_assoc]

/-- The slice with this address and length reads as this list of spans, in blocks below B. -/
def Spans (w : World) (B : Nat) (A : Option Addr) (n : Nat) (xs : List Sp) : Prop :=
  xs.length = n ∧ (0 < n → ∃ ad : Addr, A = some ad ∧ ad.block < B ∧ ∀ (j : Nat) (x : Sp), xs[j]? = some x → w.cell? (ad.add (j * 2)) = some (.int .i64 x.1) ∧ w.cell? (ad.add (j * 2 + 1)) = some (.int .i64 x.2))

section
variable {w w' : World} {B n : Nat} {A : Option Addr} {xs : List Sp}
theorem Spans.nil {A : Option Addr} : Spans w B A 0 [] := ⟨rfl, fun h => absurd h (by omega)⟩
theorem Spans.get {k : Nat} (h : Spans w B A n xs) (hk : k < n) : ∃ (ad : Addr) (x y : Int), A = some ad ∧ ad.block < B ∧ xs[k]? = some (x, y) ∧ w.cell? (ad.add (k * 2)) = some (.int .i64 x) ∧ w.cell? ⟨(ad.add (k * 2)).block, (ad.add (k * 2)).off + 1, none⟩ = some (.int .i64 y) := by
  obtain ⟨ad, e, hb, hc⟩ := h.2 (by omega)
  have hl : k < xs.length := by have := h.1; omega
  have := hc k _ (List.getElem?_eq_getElem hl)
  exact ⟨ad, xs[k].1, xs[k].2, e, hb, List.getElem?_eq_getElem hl, this.1, by rw [← add_one]; exact this.2⟩
theorem Spans.keep (h : Spans w B A n xs) (hk : ∀ p : Addr, p.block < B → w'.cell? p = w.cell? p) : Spans w' B A n xs :=
  ⟨h.1, fun hn => by
    obtain ⟨ad, e, hb, hc⟩ := h.2 hn
    exact ⟨ad, e, hb, fun j x hx => ⟨(hk _ (by rw [add_block]; exact hb)).trans (hc j x hx).1, (hk _ (by rw [add_block]; exact hb)).trans (hc j x hx).2⟩⟩⟩
theorem Spans.below {C : Nat} (h : Spans w B A n xs) (hb : Below C w w') (hC : B ≤ C) : Spans w' B A n xs := h.keep fun _ hp => hb.cell (Nat.lt_of_lt_of_le hp hC)
theorem Spans.wide {C : Nat} (h : Spans w B A n xs) (hC : B ≤ C) : Spans w C A n xs :=
  ⟨h.1, fun hn => by
    obtain ⟨ad, e, hb, hc⟩ := h.2 hn
    exact ⟨ad, e, Nat.lt_of_lt_of_le hb hC, hc⟩⟩
end

set_option maxRecDepth 100000 in
set_option maxHeartbeats 1000000 in
theorem same (A C : Option Addr) (n c d B D : Nat) (xs : List Sp) (w : World) (h : Spans w B A n xs) (h2 : Spans w D C n xs) (hn : n ≤ maxLen) :
    Calls Try.prog 20 #[.slice A n c, .slice C n d] w fun e w' => e = .returned (.bool true) ∧ Below w.heap.size w w' := by
  unfold maxLen at hn
  have H := Lib.hid h
  have H2 := Lib.hid h2
  clear h h2
  go_enter Try.func20, Try.ntmps20
  go_wp2
  go_loopw [5] (fun i w' => ∃ (k nd : Nat), k ≤ n ∧ i = .int .i64 (k : Int) ∧ w' = w.drewN nd) (fun i _ => n - (intOf i).toNat)
  case atStart => exact ⟨0, 0, Nat.zero_le _, rfl, rfl⟩
  case round =>
    obtain ⟨k, nd, hk, rfl, rfl⟩ := hrel
    by_cases hlt : k < n
    · obtain ⟨ad, x, y, rfl, hb, hx, hc, hc'⟩ := H.out.get hlt
      obtain ⟨ad2, x2, y2, rfl, hb2, hx2, hc2, hc2'⟩ := H2.out.get hlt
      obtain ⟨rfl, rfl⟩ : x = x2 ∧ y = y2 := by rw [hx] at hx2; simpa using hx2
      clear hx hx2
      have hlt2 : (k : Int) < (n : Int) := by omega
      go_wp2
      go_quiet (fail)
      go_wp2
      go_roundw
      case rel => exact ⟨k + 1, _, by omega, by go_num, rfl⟩
      case measure => simp [intOf]; omega
    · go_wp2
      go_ret
      exact ⟨rfl, below_drewN (Below.refl _ _) _⟩

end Spn
end Go.Proofs.Ytbollbbanmdbhaa
