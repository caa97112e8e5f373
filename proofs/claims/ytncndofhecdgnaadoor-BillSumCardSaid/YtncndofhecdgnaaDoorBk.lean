/-
  Bills that are written into: slices.Repeat, raise, deal. Conditions: those of each theorem.
-/
import Derived.Test.YtncndofhecdgnaaDoorBg
import Derived.Test.YtncndofhecdgnaaDoorSplit
import Derived.Laws.CopyOwn
namespace Go.Proofs.YtncndofhecdgnaaDoor
open Go.RowKit
namespace Bil
set_option linter.unusedVariables false

/-- math/bits.Mul of one by a small number. -/
theorem mul1 (m : Nat) (hm : m ≤ 1000) (w : World) : Calls Tryd.prog 53 #[.int .u64 1, .int .u64 (m : Int)] w fun e w' => e = .returned (.tuple #[.int .u64 0, .int .u64 (m : Int)]) ∧ w' = w := by
  have C := NumBits.mul64 1 m (by omega) (by omega) w
  have e1 : (1 * m / 18446744073709551616 : Nat) = 0 := by omega
  have e2 : (1 * m % 18446744073709551616 : Nat) = m := by omega
  rw [e1, e2] at C
  have C := Lib.hid C
  go_enter Tryd.func53, Tryd.ntmps53
  go_wp2_with fail
  refine C.out.mono ?_
  rintro e w1 ⟨rfl, rfl⟩
  go_wp2
  go_ret2
  exact ⟨rfl, rfl⟩
/-- A row of ones, the rest not yet. -/
def onz (m k : Nat) : List Value := List.replicate k (.int .i64 1) ++ List.replicate (m - k) (.int .i64 0)
theorem onz_len {m k : Nat} (h : k ≤ m) : (onz m k).length = m := by simp [onz]; omega
theorem onz_splice {m k j : Nat} (h : k + j ≤ m) : splice (onz m k) k (List.replicate j (.int .i64 1)) = onz m (k + j) := by
  unfold splice onz
  rw [List.take_append_of_le_length (by simp), List.drop_append, List.take_of_length_le (by simp)]
  simp only [List.length_replicate, List.drop_replicate, ← List.append_assoc, List.replicate_append_replicate]
  rw [show k - (k + j) = 0 by omega, show m - k - (k + j - k) = m - (k + j) by omega]
  simp
theorem onz_get {m k j : Nat} (h : j < k) : (onz m k)[j]? = some (.int .i64 1) := by
  unfold onz
  rw [List.getElem?_append_left (by simpa using h), List.getElem?_replicate, if_pos h]
theorem zeros_onz (m : Nat) : Num.zeros m = (onz m 0).toArray := by unfold Num.zeros onz; simp
def RepTo (w : World) (m : Nat) (e : Ending) (w' : World) : Prop := ∃ A c, e = .returned (.slice A m c) ∧ Num.Ints w' w'.heap.size A m (List.replicate m 1) ∧ Below w.heap.size w w'
set_option maxRecDepth 100000 in
set_option maxHeartbeats 4000000 in
theorem repeat_ (m : Nat) (hm : 1 ≤ m ∧ m ≤ 1000) (g c : Nat) (w : World) (h : w.cell? ⟨g, 0, none⟩ = some (.int .i64 1)) (hg : g < w.heap.size) : Calls Tryd.prog 42 #[.slice (some ⟨g, 0, none⟩) 1 c, .int .i64 (m : Int)] w (RepTo w m) := by
  have C := Lib.hid (mul1 m hm.2 w)
  have hmk := Num.make_ints m (by omega)
  have h0 : 1 ≤ m := hm.1
  have h9 : m ≤ 1000 := hm.2
  have t1 : decide ((m : Int) < 0) = false := decide_eq_false (by omega)
  have t2 : decide (9223372036854775807 < (m : Int)) = false := decide_eq_false (by omega)
  have HH := Lib.hid (And.intro h hg)
  have HH9 := Lib.hid h9
  clear h hg hm
  go_enter Tryd.func42, Tryd.ntmps42
  go_wp2_with fail
  refine C.out.mono ?_
  rintro e w1 ⟨rfl, rfl⟩
  clear C
  go_upto_region 7 with fail
  have HGZ := Lib.hid (show (w1.alloc (.cells (Num.zeros m) 3)).heap[w1.heap.size]? = some (.cells (onz m 0).toArray 3 (0, 0)) by rw [zeros_onz]; exact heap_alloc_new w1 _)
  have HB2 := Lib.hid (alloc_ w1 (.cells (Num.zeros m) 3))
  obtain ⟨W2, hW2⟩ : ∃ W2, w1.alloc (.cells (Num.zeros m) 3) = W2 := ⟨_, rfl⟩
  obtain ⟨G, hG⟩ : ∃ G, w1.heap.size = G := ⟨_, rfl⟩
  have HC2 := Lib.hid (show W2.cell? ⟨g, 0, none⟩ = some (.int .i64 1) from (hW2 ▸ HB2.out.cell (p := ⟨g, 0, none⟩) HH.out.2).trans HH.out.1)
  rw [hW2, hG] at HGZ
  rw [hW2] at HB2
  have HGS := Lib.hid hG
  rw [hW2, hG]
  clear hW2 hG
  obtain ⟨X1, hX1⟩ : ∃ X1, List.replicate 1 (Value.int .i64 1) = X1 := ⟨_, rfl⟩
  have HX1 := Lib.hid hX1
  have HL1 := Lib.hid (show X1.length = 1 by rw [← hX1]; rfl)
  have HN1 := Lib.hid (show X1.length = Nat.min 1 m by rw [HL1.out]; exact (Nat.min_eq_left h0).symm)
  have HP1 := Lib.hid (fun (_ : 0 < X1.length) => (show (some ⟨G, 0, none⟩ : Option Addr) = some ⟨G, 0, none⟩ ∧ ∃ ad, (some ⟨g, 0, none⟩ : Option Addr) = some ad ∧ ∀ j v, X1[j]? = some v → W2.cell? (ad.add j) = some v from ⟨rfl, _, rfl, fun j v hv => by
    rw [← HX1.out] at hv
    cases j with
    | zero => simp at hv; subst hv; exact HC2.out
    | succ j => simp at hv⟩))
  have HF1 := Lib.hid (show 0 + X1.length ≤ (onz m 0).length by rw [HL1.out, onz_len (Nat.zero_le _)]; omega)
  have HO1 := Lib.hid (show ∀ v ∈ X1, v.oneCell' = true from fun v hv => by rw [← HX1.out] at hv; simp at hv; subst hv; rfl)
  have HGE := Lib.hid (show w1.heap.size ≤ G by rw [HGS.out]; exact Nat.le_refl _)
  clear hX1
  go_wp2_with (with_reducible refine wpList_copy_splice rfl (.tmp 31) (.tmp 32) 59 59 rfl 3 Tryd.underlying59 (by kernel_rfl) _ _ _ _ _ _ rfl rfl G 0 (onz m 0) 3 HGZ.out X1 HN1.out HP1.out HF1.out HO1.out w1.heap.size w1 HB2.out HGE.out ?_; (intro w3 hG3 hB3; have HB3 := Lib.hid hB3; clear hB3))
  have HG3 := Lib.hid (show w3.heap[G]? = some (.cells (onz m 1).toArray 3 (0, 0)) by rw [hG3.out, ← HX1.out, onz_splice (by omega)])
  rw [HL1.out]
  clear hG3 HN1 HP1 HF1 HO1 HX1 HL1 HGZ HC2 HB2 hmk
  go_loopw [8] (fun vk w' => ∃ (k : Nat) (V : World), 1 ≤ k ∧ k ≤ m ∧ vk = .int .i64 (k : Int) ∧ V = w' ∧ Hid (V.heap[G]? = some (.cells (onz m k).toArray 3 (0, 0))) ∧ Hid (Below w1.heap.size w1 V)) (fun vk _ => m - (intOf vk).toNat)
  case atStart => exact ⟨1, w3, Nat.le_refl _, h0, rfl, rfl, HG3, HB3⟩
  case round =>
    clear HG3 HB3
    obtain ⟨k, V, hk1, hk, rfl, rfl, HG, HB⟩ := hrel
    by_cases hlt : k < m
    · have hlt2 : (k : Int) < (m : Int) := by omega
      obtain ⟨j, hj⟩ : ∃ j, Nat.min k (m - k) = j := ⟨_, rfl⟩
      have hjb : 1 ≤ j ∧ j ≤ k ∧ j ≤ m - k := by
        have h1 : j = min k (m - k) := hj.symm
        omega
      obtain ⟨X, hX⟩ : ∃ X, List.replicate j (Value.int .i64 1) = X := ⟨_, rfl⟩
      have HXX := Lib.hid hX
      have HL := Lib.hid (show X.length = j by rw [← hX]; simp)
      have HN := Lib.hid (show X.length = Nat.min k (m - k) by rw [HL.out, hj])
      have HP := Lib.hid (show ∀ j v, X[j]? = some v → V.drew.cell? ((⟨G, 0, none⟩ : Addr).add j) = some v from fun i v hv => by
        rw [← HXX.out] at hv
        obtain ⟨hi, e⟩ := List.getElem?_eq_some_iff.1 hv
        simp at e hi
        subst e
        rw [Addr.add_lit]
        rw [show V.drew.cell? ⟨G, 0 + i, none⟩ = V.cell? ⟨G, 0 + i, none⟩ from rfl, cell_of_row V G _ _ _ _ HG.out, Nat.zero_add]
        simpa using onz_get (m := m) (k := k) (j := i) (by omega))
      have HF := Lib.hid (show k + X.length ≤ (onz m k).length by rw [HL.out, onz_len hk]; omega)
      have HO := Lib.hid (show ∀ v ∈ X, v.oneCell' = true from fun v hv => by rw [← HXX.out] at hv; simp at hv; rw [hv.2]; rfl)
      have HGD := Lib.hid (show V.drew.heap[G]? = some (.cells (onz m k).toArray 3 (0, 0)) from HG.out)
      have HBD := Lib.hid (show Below w1.heap.size w1 V.drew from HB.out.trans ⟨rfl, rfl, rfl, Nat.le_refl _, fun _ _ => rfl⟩)
      have hmk : ¬ (m = k) := by omega
      have HJ := Lib.hid (show 1 ≤ j ∧ k + j ≤ m by omega)
      clear hX hj hjb hlt hk1 h0 h9 t1 t2
      have hk2 : (k : Int) ≤ (m : Int) := by omega
      go_wp2
      go_region_law (go_loud (refine step_copy_splice rfl (.tmp 41) (.tmp 44) 59 59 rfl 3 Tryd.underlying59 (by kernel_rfl) (some ⟨G, k, none⟩) (some ⟨G, 0, none⟩) (m - k) (m - k) k m (by kernel_rfl) (by kernel_rfl) G k (onz m k) 3 HGD.out X HN.out (fun _ => ⟨rfl, _, rfl, HP.out⟩) HF.out HO.out w1.heap.size w1 HBD.out HGE.out ?_); (intro w4 hG4 hB4; have HB4 := Lib.hid hB4; clear hB4))
      have HG4 := Lib.hid (show w4.heap[G]? = some (.cells (onz m (k + j)).toArray 3 (0, 0)) by rw [hG4.out, ← HXX.out, onz_splice (by have := HN.out; have := HL.out; have h5 : Nat.min k (m - k) ≤ m - k := Nat.min_le_right _ _; omega)])
      rw [HL.out]
      clear hG4
      dsimp only [Exit.then, Exit.inBlock]
      go_step
      go_step
      have e8 : IntKind.i64.wrap ((k : Int) + (j : Int)) = ((k + j : Nat) : Int) := by rw [IntWalk.i64_left, IntWalk.wrap64_in _ ⟨by omega, by have := HJ.out; have := HH9.out; omega⟩]; rfl
      rw [e8]
      refine ⟨?_, ?_⟩
      · refine ⟨_, _, _, _, _, _, _, _, _, _, _, _, _, _, ⟨k + j, w4, ?_, ?_, rfl, rfl, HG4, HB4⟩, rfl⟩
        · have := HJ.out; omega
        · exact HJ.out.2
      · show m - (intOf (.int .i64 ((k + j : Nat) : Int))).toNat < m - (intOf (.int .i64 (k : Int))).toNat
        have := HJ.out; simp [intOf]; omega
    · obtain rfl : k = m := by omega
      go_wp2
      go_ret
      refine ⟨_, _, rfl, ⟨by simp, fun _ => ⟨_, rfl, ?_, fun i x hx => ?_⟩⟩, HB.out⟩
      · rcases Nat.lt_or_ge G V.heap.size with h | h
        · exact h
        · have := HG.out; rw [Array.getElem?_eq_none h] at this; cases this
      · have hi : i < k := by have := (List.getElem?_eq_some_iff.1 hx).1; simpa using this
        rw [Addr.add_lit, cell_of_row V G _ _ _ _ HG.out, Nat.zero_add, List.getElem?_toArray, onz_get hi]
        rw [List.getElem?_replicate, if_pos hi] at hx
        injection hx with hx
        rw [hx]

end Bil
end Go.Proofs.YtncndofhecdgnaaDoor
