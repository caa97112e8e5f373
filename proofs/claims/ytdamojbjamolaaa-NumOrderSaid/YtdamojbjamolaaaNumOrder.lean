/-
  The statement NumOrder holds: for every input the call returns true, and each argument reads afterwards as it read before. Conditions: none beside those that the row itself bears.
-/
import Derived.Test.YtdamojbjamolaaaGiven
namespace Go.Proofs.Ytdamojbjamolaaa.numOrder
open Go.ChangeShapes Go.WideShapes Go.ChangeAt Go.RowKit
set_option linter.unusedVariables false

set_option maxRecDepth 100000 in
set_option maxHeartbeats 2000000 in
theorem ord_err (a b c z0 z1 x ec y gc u hc bm cm : Int) (w : World) (eb : max b z0 = bm) (ecm : max c z1 = cm)
    (c1 : ∀ w : World, Hid (Calls Try.prog 12 #[.int .i64 a, .int .i64 b, .int .i64 c] w fun e w' => e = .returned (.tuple #[.int .i64 x, .int .i64 ec]) ∧ Below w.heap.size w w'))
    (c2 : ∀ w : World, Hid (Calls Try.prog 12 #[.int .i64 b, .int .i64 a, .int .i64 c] w fun e w' => e = .returned (.tuple #[.int .i64 x, .int .i64 ec]) ∧ Below w.heap.size w w'))
    (c3 : ∀ w : World, Hid (Calls Try.prog 12 #[.int .i64 a, .int .i64 bm, .int .i64 c] w fun e w' => e = .returned (.tuple #[.int .i64 y, .int .i64 gc]) ∧ Below w.heap.size w w'))
    (c4 : ∀ w : World, Hid (Calls Try.prog 12 #[.int .i64 a, .int .i64 b, .int .i64 cm] w fun e w' => e = .returned (.tuple #[.int .i64 u, .int .i64 hc]) ∧ Below w.heap.size w w'))
    (te : (ec == 0) = false) (te2 : (ec != 0) = true) :
    Calls Try.prog 9 #[.agg #[.int .i64 a, .int .i64 b, .int .i64 c], .agg #[.int .i64 z0, .int .i64 z1]] w fun e w' => e = .returned (.bool true) ∧ Below w.heap.size w w' := by
  go_enter Try.func9, Try.ntmps9
  go_wp2
  go_quiet (fail)
  go_wp2_with fail
  refine ((c1 _).out).mono ?_
  rintro e w1 ⟨rfl, hbw1⟩
  have Bw1 := Lib.hid hbw1
  clear hbw1
  go_wp2_with fail
  refine ((c2 _).out).mono ?_
  rintro e w2 ⟨rfl, hbw2⟩
  have Bw2 := Lib.hid (Bw1.out.trans (hbw2.mono Bw1.out.size))
  clear hbw2 Bw1
  have kz0 : w2.cell? ⟨w.heap.size + 1, 0, none⟩ = some (.int .i64 z0) := by
    rw [Bw2.out.cell (p := ⟨w.heap.size + 1, 0, none⟩) (by simp)]
    simp
  go_wp2_with fail
  refine ((c3 _).out).mono ?_
  rintro e w3 ⟨rfl, hbw3⟩
  have Bw3 := Lib.hid (Bw2.out.trans (hbw3.mono Bw2.out.size))
  clear hbw3 Bw2
  have kz1 : w3.cell? ⟨w.heap.size + 1, 1, none⟩ = some (.int .i64 z1) := by
    rw [Bw3.out.cell (p := ⟨w.heap.size + 1, 1, none⟩) (by simp)]
    simp
  go_wp2_with fail
  refine ((c4 _).out).mono ?_
  rintro e w4 ⟨rfl, hbw4⟩
  have Bw4 := Lib.hid (Bw3.out.trans (hbw4.mono Bw3.out.size))
  clear hbw4 Bw3
  go_wp2_with fail
  refine (Num.alive _).mono ?_
  rintro e w5 ⟨rfl, hbw5⟩
  have Bw5 := Lib.hid (Bw4.out.trans (hbw5.mono Bw4.out.size))
  clear hbw5 Bw4
  go_wp2
  go_ret
  exact ⟨rfl, (below_drewN (((Below.refl _ _).alloc (Nat.le_refl _) _).alloc (by simp) _) _).trans (Bw5.out.mono (by simp; omega))⟩

set_option maxRecDepth 100000 in
set_option maxHeartbeats 2000000 in
theorem ord_one (a b c z0 z1 x y gc u bm cm : Int) (w : World) (eb : max b z0 = bm) (ecm : max c z1 = cm)
    (c1 : ∀ w : World, Hid (Calls Try.prog 12 #[.int .i64 a, .int .i64 b, .int .i64 c] w fun e w' => e = .returned (.tuple #[.int .i64 x, .int .i64 0]) ∧ Below w.heap.size w w'))
    (c2 : ∀ w : World, Hid (Calls Try.prog 12 #[.int .i64 b, .int .i64 a, .int .i64 c] w fun e w' => e = .returned (.tuple #[.int .i64 x, .int .i64 0]) ∧ Below w.heap.size w w'))
    (c3 : ∀ w : World, Hid (Calls Try.prog 12 #[.int .i64 a, .int .i64 bm, .int .i64 c] w fun e w' => e = .returned (.tuple #[.int .i64 y, .int .i64 gc]) ∧ Below w.heap.size w w'))
    (c4 : ∀ w : World, Hid (Calls Try.prog 12 #[.int .i64 a, .int .i64 b, .int .i64 cm] w fun e w' => e = .returned (.tuple #[.int .i64 u, .int .i64 0]) ∧ Below w.heap.size w w'))
    (tg : (gc == 0) = false) (tu : decide (x < u) = false) :
    Calls Try.prog 9 #[.agg #[.int .i64 a, .int .i64 b, .int .i64 c], .agg #[.int .i64 z0, .int .i64 z1]] w fun e w' => e = .returned (.bool true) ∧ Below w.heap.size w w' := by
  go_enter Try.func9, Try.ntmps9
  go_wp2
  go_quiet (fail)
  go_wp2_with fail
  refine ((c1 _).out).mono ?_
  rintro e w1 ⟨rfl, hbw1⟩
  have Bw1 := Lib.hid hbw1
  clear hbw1
  go_wp2_with fail
  refine ((c2 _).out).mono ?_
  rintro e w2 ⟨rfl, hbw2⟩
  have Bw2 := Lib.hid (Bw1.out.trans (hbw2.mono Bw1.out.size))
  clear hbw2 Bw1
  have kz0 : w2.cell? ⟨w.heap.size + 1, 0, none⟩ = some (.int .i64 z0) := by
    rw [Bw2.out.cell (p := ⟨w.heap.size + 1, 0, none⟩) (by simp)]
    simp
  go_wp2_with fail
  refine ((c3 _).out).mono ?_
  rintro e w3 ⟨rfl, hbw3⟩
  have Bw3 := Lib.hid (Bw2.out.trans (hbw3.mono Bw2.out.size))
  clear hbw3 Bw2
  have kz1 : w3.cell? ⟨w.heap.size + 1, 1, none⟩ = some (.int .i64 z1) := by
    rw [Bw3.out.cell (p := ⟨w.heap.size + 1, 1, none⟩) (by simp)]
    simp
  go_wp2_with fail
  refine ((c4 _).out).mono ?_
  rintro e w4 ⟨rfl, hbw4⟩
  have Bw4 := Lib.hid (Bw3.out.trans (hbw4.mono Bw3.out.size))
  clear hbw4 Bw3
  go_wp2_with fail
  refine (Num.alive _).mono ?_
  rintro e w5 ⟨rfl, hbw5⟩
  have Bw5 := Lib.hid (Bw4.out.trans (hbw5.mono Bw4.out.size))
  clear hbw5 Bw4
  go_wp2
  go_ret
  exact ⟨rfl, (below_drewN (((Below.refl _ _).alloc (Nat.le_refl _) _).alloc (by simp) _) _).trans (Bw5.out.mono (by simp; omega))⟩

set_option maxRecDepth 100000 in
set_option maxHeartbeats 2000000 in
theorem ord_all (a b c z0 z1 x y u bm cm : Int) (w : World) (eb : max b z0 = bm) (ecm : max c z1 = cm)
    (c1 : ∀ w : World, Hid (Calls Try.prog 12 #[.int .i64 a, .int .i64 b, .int .i64 c] w fun e w' => e = .returned (.tuple #[.int .i64 x, .int .i64 0]) ∧ Below w.heap.size w w'))
    (c2 : ∀ w : World, Hid (Calls Try.prog 12 #[.int .i64 b, .int .i64 a, .int .i64 c] w fun e w' => e = .returned (.tuple #[.int .i64 x, .int .i64 0]) ∧ Below w.heap.size w w'))
    (c3 : ∀ w : World, Hid (Calls Try.prog 12 #[.int .i64 a, .int .i64 bm, .int .i64 c] w fun e w' => e = .returned (.tuple #[.int .i64 y, .int .i64 0]) ∧ Below w.heap.size w w'))
    (c4 : ∀ w : World, Hid (Calls Try.prog 12 #[.int .i64 a, .int .i64 b, .int .i64 cm] w fun e w' => e = .returned (.tuple #[.int .i64 u, .int .i64 0]) ∧ Below w.heap.size w w'))
    (ty : decide (y < x) = false) (tu : decide (x < u) = false) :
    Calls Try.prog 9 #[.agg #[.int .i64 a, .int .i64 b, .int .i64 c], .agg #[.int .i64 z0, .int .i64 z1]] w fun e w' => e = .returned (.bool true) ∧ Below w.heap.size w w' := by
  go_enter Try.func9, Try.ntmps9
  go_wp2
  go_quiet (fail)
  go_wp2_with fail
  refine ((c1 _).out).mono ?_
  rintro e w1 ⟨rfl, hbw1⟩
  have Bw1 := Lib.hid hbw1
  clear hbw1
  go_wp2_with fail
  refine ((c2 _).out).mono ?_
  rintro e w2 ⟨rfl, hbw2⟩
  have Bw2 := Lib.hid (Bw1.out.trans (hbw2.mono Bw1.out.size))
  clear hbw2 Bw1
  have kz0 : w2.cell? ⟨w.heap.size + 1, 0, none⟩ = some (.int .i64 z0) := by
    rw [Bw2.out.cell (p := ⟨w.heap.size + 1, 0, none⟩) (by simp)]
    simp
  go_wp2_with fail
  refine ((c3 _).out).mono ?_
  rintro e w3 ⟨rfl, hbw3⟩
  have Bw3 := Lib.hid (Bw2.out.trans (hbw3.mono Bw2.out.size))
  clear hbw3 Bw2
  have kz1 : w3.cell? ⟨w.heap.size + 1, 1, none⟩ = some (.int .i64 z1) := by
    rw [Bw3.out.cell (p := ⟨w.heap.size + 1, 1, none⟩) (by simp)]
    simp
  go_wp2_with fail
  refine ((c4 _).out).mono ?_
  rintro e w4 ⟨rfl, hbw4⟩
  have Bw4 := Lib.hid (Bw3.out.trans (hbw4.mono Bw3.out.size))
  clear hbw4 Bw3
  go_wp2_with fail
  refine (Num.alive _).mono ?_
  rintro e w5 ⟨rfl, hbw5⟩
  have Bw5 := Lib.hid (Bw4.out.trans (hbw5.mono Bw4.out.size))
  clear hbw5 Bw4
  go_wp2
  go_ret
  exact ⟨rfl, (below_drewN (((Below.refl _ _).alloc (Nat.le_refl _) _).alloc (by simp) _) _).trans (Bw5.out.mono (by simp; omega))⟩


open Num in
theorem dn_comm (a b c : Int) : nums downB a b c = nums downB b a c := by
  by_cases h1 : a < 0 ∨ b < 0 ∨ c < 0
  · rw [nums_arg h1, nums_arg (by omega)]
  · by_cases h2 : c = 0
    · subst h2
      rw [nums_zero (by omega) (by omega), nums_zero (by omega) (by omega)]
    · have h3 : ¬(b < 0 ∨ a < 0 ∨ c < 0) := by omega
      unfold nums
      rw [if_neg h1, if_neg h2, if_neg h3, if_neg h2, quo_down, quo_down, Nat.mul_comm]

open Num in
theorem dn_ok {a b c : Int} (h : (nums downB a b c).2 = 0) : ∃ p q r : Nat, a = p ∧ b = q ∧ c = r ∧ 0 < r ∧ p * q / r ≤ 4000000000000000000 := by
  unfold nums at h
  split at h
  · cases h
  · rename_i h1
    split at h
    · cases h
    · rename_i h2
      split at h
      · cases h
      · rename_i h3
        rw [quo_down] at h3
        exact ⟨a.toNat, b.toNat, c.toNat, by omega, by omega, by omega, by omega, by omega⟩

open Num in
theorem dn_eq {p q r : Nat} (hr : 0 < r) (h : p * q / r ≤ 4000000000000000000) : nums downB p q r = (((p * q / r : Nat) : Int), 0) := by
  rw [nums_ok hr (by rw [quo_down]; exact h), quo_down]

open Num in
theorem more {a b c b' : Int} (h : (nums downB a b c).2 = 0) (h' : (nums downB a b' c).2 = 0) (hb : b ≤ b') : (nums downB a b c).1 ≤ (nums downB a b' c).1 := by
  obtain ⟨p, q, r, rfl, rfl, rfl, hr, hq⟩ := dn_ok h
  obtain ⟨p2, q2, r2, e1, rfl, e2, _, hq2⟩ := dn_ok h'
  obtain rfl : p = p2 := by omega
  obtain rfl : r = r2 := by omega
  rw [dn_eq hr hq, dn_eq hr hq2]
  exact Int.ofNat_le.2 (Nat.div_le_div_right (Nat.mul_le_mul_left _ (by omega)))

open Num in
theorem less {a b c c' : Int} (h : (nums downB a b c).2 = 0) (hc : c ≤ c') : (nums downB a b c').2 = 0 ∧ (nums downB a b c').1 ≤ (nums downB a b c).1 := by
  obtain ⟨p, q, r, rfl, rfl, rfl, hr, hq⟩ := dn_ok h
  obtain ⟨r', rfl⟩ := Int.eq_ofNat_of_zero_le (a := c') (by omega)
  have hd : p * q / r' ≤ p * q / r := Nat.div_le_div_left (by omega) hr
  rw [dn_eq hr hq, dn_eq (by omega) (by omega)]
  exact ⟨rfl, Int.ofNat_le.2 hd⟩

open Num in
theorem walk (a : Int) (ha : -9223372036854775808 ≤ a ∧ a ≤ 9223372036854775807) (b : Int) (hb : -9223372036854775808 ≤ b ∧ b ≤ 9223372036854775807) (c : Int) (hc : -9223372036854775808 ≤ c ∧ c ≤ 9223372036854775807) (z0 : Int) (hz0 : -9223372036854775808 ≤ z0 ∧ z0 ≤ 9223372036854775807) (z1 : Int) (hz1 : -9223372036854775808 ≤ z1 ∧ z1 ≤ 9223372036854775807) (w : World) :
    Calls Try.prog 9 #[.agg #[.int .i64 a, .int .i64 b, .int .i64 c], .agg #[.int .i64 z0, .int .i64 z1]] w fun e w' => e = .returned (.bool true) ∧ Below w.heap.size w w' := by
  have hbm : -9223372036854775808 ≤ max b z0 ∧ max b z0 ≤ 9223372036854775807 := by omega
  have hcm : -9223372036854775808 ≤ max c z1 ∧ max c z1 ≤ 9223372036854775807 := by omega
  have c1 := fun w => Lib.hid (down a b c w ha hb hc)
  have c2 := fun w => Lib.hid (down b a c w hb ha hc)
  have c3 := fun w => Lib.hid (down a (max b z0) c w ha hbm hc)
  have c4 := fun w => Lib.hid (down a b (max c z1) w ha hb hcm)
  rw [dnV, dnE, ← dn_comm] at c2
  have m1 := fun h h' => more (a := a) (b := b) (c := c) (b' := max b z0) h h' (by omega)
  have m2 := fun h => less (a := a) (b := b) (c := c) (c' := max c z1) h (by omega)
  rw [dnV, dnE] at c1 c3 c4
  by_cases he : (nums downB a b c).2 = 0
  · obtain ⟨e1, l1⟩ := m2 he
    rw [he] at c1 c2
    rw [e1] at c4
    by_cases hg : (nums downB a (max b z0) c).2 = 0
    · have l2 := m1 he hg
      rw [hg] at c3
      exact ord_all a b c z0 z1 _ _ _ _ _ w rfl rfl c1 c2 c3 c4 (by simp; omega) (by simp; omega)
    · exact ord_one a b c z0 z1 _ _ _ _ _ _ w rfl rfl c1 c2 c3 c4 (by simpa using hg) (by simp; omega)
  · exact ord_err a b c z0 z1 _ _ _ _ _ _ _ _ w rfl rfl c1 c2 c3 c4 (by simpa using he) (by simpa using he)

theorem ints_of : ∀ l : List Value, (∀ v ∈ l, ∃ x : Int, v = .int .i64 x ∧ -9223372036854775808 ≤ x ∧ x ≤ 9223372036854775807) → ∃ xs : List Int, l = xs.map (Value.int .i64) ∧ ∀ x ∈ xs, -9223372036854775808 ≤ x ∧ x ≤ 9223372036854775807
  | [], _ => ⟨[], rfl, fun _ h => by cases h⟩
  | v :: l, h => by
    obtain ⟨x, e, hx⟩ := h v (by simp)
    obtain ⟨xs, e2, h2⟩ := ints_of l (fun u hu => h u (by simp [hu]))
    refine ⟨x :: xs, by rw [e, e2]; rfl, fun y hy => ?_⟩
    rcases List.mem_cons.1 hy with rfl | hy
    · exact hx
    · exact h2 y hy

/-- An array of ints by value: its form. -/
theorem open_arr {H : Type} {enc : TypeId × Value → H} {W : World} {base n : Nat} {sp : Nat → Bool} {t : TypeId} {v : Value} {d : DataW H} {p : List MemPlace} (ht : Try.prog.underlying t = some (.array n 3)) (hn : Try.prog.cellsOf t = n) (h1 : Try.prog.cellsOf 3 = 1)
    (hv : Value.okWide Try.prog W .any base t v) (h : DataW.Trod enc Try.prog W 0 sp true t v d p) :
    ∃ xs : List Int, xs.length = n ∧ v = .agg (xs.map (Value.int .i64)).toArray ∧ ∀ x ∈ xs, -9223372036854775808 ≤ x ∧ x ≤ 9223372036854775807 := by
  obtain ⟨cs, rfl, hsz, _⟩ : ∃ cs, v = .agg cs ∧ cs.size = Try.prog.cellsOf t ∧ Row.okWide Try.prog W .any base t cs := by
    simpa [Value.okWide, ht] using hv
  obtain ⟨l⟩ := cs
  obtain ⟨fuel, hf⟩ := h
  obtain ⟨ys, m, _, _, hl, hyl, hg⟩ := DataW.trod_array ht hf
  simp only [Value.cells] at hl hg
  have hln : l.length = n := by rw [← hn]; simpa using hsz
  have each : ∀ v ∈ l, ∃ x : Int, v = .int .i64 x ∧ -9223372036854775808 ≤ x ∧ x ≤ 9223372036854775807 := by
    intro v hv
    obtain ⟨i, hi, rfl⟩ := List.getElem_of_mem hv
    have hgi := hg i (by omega)
    rw [List.getElem?_eq_getElem (by omega : i < ys.length), h1, Nat.mul_one] at hgi
    have e1 : (l.drop i).take 1 = [l[i]] := by rw [List.drop_eq_getElem_cons hi]; rfl
    rw [e1] at hgi
    obtain ⟨x, e0, _, wx⟩ := DataW.trod_int Try.underlying3 hgi
    simp at e0
    exact ⟨x, e0, Num.i64_of wx⟩
  obtain ⟨xs, e, hb⟩ := ints_of l each
  subst e
  exact ⟨xs, by simpa using hln, rfl, hb⟩

theorem three {xs : List Int} (h : xs.length = 3) : ∃ a b c, xs = [a, b, c] := by
  match xs, h with
  | [a, b, c], _ => exact ⟨a, b, c, rfl⟩
theorem twoOf {xs : List Int} (h : xs.length = 2) : ∃ a b, xs = [a, b] := by
  match xs, h with
  | [a, b], _ => exact ⟨a, b, rfl⟩

theorem own : ownKnob Try.prog.godebug = none := by kernel_rfl
theorem laidOut : laidOutB Try.prog = true := by kernel_rfl

set_option maxRecDepth 100000 in
theorem lifted (os : Os) (started : os.Started) (H : Type) (enc : TypeId × Value → H) :
    ReturnsInHanded {} Try.checked os 9 .any (Rows.numOrderSpec.pre6 enc Try.prog Try.f9 Rows.numOrderRow.domain false) (Rows.numOrderSpec.post enc Try.prog Try.f9 false true false false) := by
  refine returnsInHanded_of_change (C := Try.checked) own started (by kernel_rfl) Try.func9
    (ChangeSpec.witness6 (enc := enc) (C := Try.checked) false ⟨#[], #[.agg #[.int .i64 0, .int .i64 0, .int .i64 0], .agg #[.int .i64 0, .int .i64 0]], []⟩ 8 (by kernel_rfl) (by kernel_rfl) (by kernel_rfl) (by kernel_rfl)) ?_
  intro W base args ds gs before hval0 hW hcnd _
  have hval : ∀ (j : Nat) t v, Try.f9.params[j]? = some t → args[j]? = some v → Value.okWide Try.prog W .any base t v := hval0
  have hW' := hW
  obtain ⟨p, q, hA0, hV, rfl, hfz, hnd⟩ := hW
  have hA : DataW.TrodAll enc Try.prog W 0 (fun _ => true) true Try.f9.params.toList args.toList ds p := hA0
  rw [Try.params9] at hA hval
  obtain ⟨v0, vs0, d0, ds0, p0, q0, hargs, rfl, rfl, h0, r0⟩ := trodAll_cons hA
  obtain ⟨v1, vs1, d1, ds1, p1, q1, rfl, rfl, rfl, h1, r1⟩ := trodAll_cons r0
  obtain ⟨rfl, rfl, rfl⟩ := trodAll_nil r1
  obtain rfl : args = #[v0, v1] := by cases args; simp_all
  obtain ⟨rfl, rfl⟩ := trodVars_none hV
  have k0 := h0
  have k1 := h1
  have lt0 : ∀ x ∈ p0, x.block < W.heap.size := by obtain ⟨m, hm⟩ := k0; exact DataW.trod_lt m _ _ _ hm
  have lt1 : ∀ x ∈ p1, x.block < W.heap.size := by obtain ⟨m, hm⟩ := k1; exact DataW.trod_lt m _ _ _ hm
  obtain ⟨xs, hx, rfl, bx⟩ := open_arr Try.underlying37 (by kernel_rfl) (by kernel_rfl) (hval 0 37 v0 rfl rfl) h0
  obtain ⟨zs, hz, rfl, bz⟩ := open_arr Try.underlying38 (by kernel_rfl) (by kernel_rfl) (hval 1 38 v1 rfl rfl) h1
  obtain ⟨a, b, c, rfl⟩ := three hx
  obtain ⟨z0, z1, rfl⟩ := twoOf hz
  clear hA0 hval0
  refine (walk a (bx a (by simp)) b (bx b (by simp)) c (bx c (by simp)) z0 (bz z0 (by simp)) z1 (bz z1 (by simp)) W).mono fun e W' ⟨he, bel⟩ => ?_
  subst he
  exact ⟨_, rfl, _, _, _, [], _, [], hW', trodAll_mk1 (shut_bool Try.underlying4 _), (trodAll_cons_mk (Below.trod laidOut (by kernel_rfl) (of_decide_eq_true (by kernel_rfl)) k0 bel lt0) (trodAll_cons_mk (Below.trod laidOut (by kernel_rfl) (of_decide_eq_true (by kernel_rfl)) k1 bel lt1) trodAll_mk0)), rfl, bel.frame _, fun h => by cases h⟩

theorem over : Rows.numOrderRow.holds Try.pinned (OpenSpec.ofChange Rows.numOrderSpec) :=
  OpenClaim.holds_of_wide 9 Try.f9 rfl rfl rfl rfl rfl rfl rfl ⟨rfl, rfl, rfl, rfl, rfl⟩ rfl rfl rfl rfl rfl (by kernel_rfl) Try.func9 (by kernel_rfl)
    (of_decide_eq_true (by kernel_rfl)) (by unfold Func.isWrapper; first | (rw [if_pos (by decide +kernel)]; kernel_rfl) | (rw [if_neg (by decide +kernel)]; exact ⟨rfl, rfl⟩))
    (fun os started H enc _ => lifted os started H enc)

theorem proved : Rows.NumOrderSaid := over

end Go.Proofs.Ytdamojbjamolaaa.numOrder
