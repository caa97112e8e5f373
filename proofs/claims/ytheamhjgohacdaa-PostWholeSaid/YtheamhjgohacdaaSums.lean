/-
  Amounts of one entry: sum and amount of package post, the document's Sum and of. Conditions: the lines read as a list.
-/
import Derived.Test.YtheamhjgohacdaaFm
namespace Go.Proofs.Ytheamhjgohacdaa
open Go.RowKit Bk
namespace Pst
set_option linter.unusedVariables false

theorem wr0 : wrap64 0 = 0 := wr_in (by decide) (by decide)
theorem ret_int {k : IntKind} {a b : Int} (h : a = b) : Ending.returned (.int k a) = .returned (.int k b) := by rw [h]

set_option maxRecDepth 100000 in
set_option maxHeartbeats 2000000 in
theorem sum_ (d f : Int) (L : Option Addr) (m c : Nat) (ls : List Pr) (w : World) (hS : Lns w (· < w.heap.size) L m ls) (hm : m ≤ maxLen) :
    Calls Try.prog 26 #[eg d f L m c] w (Num w (wrap64 (tot ls))) := by
  unfold maxLen at hm
  have HL := Lib.hid hS.1
  have HS := Lib.hid hS
  clear hS
  obtain ⟨R, hR⟩ : ∃ R, wrap64 (tot ls) = R := ⟨_, rfl⟩
  rw [hR]
  have HR := Lib.hid hR
  clear hR
  go_enter Try.func26, Try.ntmps26
  go_wp2
  go_loopw [3, 5, 9] (fun sa s5 i w' => ∃ (k : Nat) (a : Int) (w1 : World), k ≤ m ∧ i = .int .i64 (k : Int) ∧ sa = .int .i64 a ∧ w1 = w' ∧ Hid (wrap64 (tot (ls.take k)) = a) ∧ Hid (Below w.heap.size w w1)) (fun _ _ i _ => m - (intOf i).toNat)
  case atStart => exact ⟨0, 0, _, Nat.zero_le _, rfl, rfl, rfl, Lib.hid wr0, Lib.hid (alloc_ _ _)⟩
  case round =>
    obtain ⟨k, a, w1, hk, rfl, rfl, rfl, HA, HW⟩ := hrel
    by_cases hlt : k < m
    · obtain ⟨ad, x, y, rfl, hb, hx, hc0, hc1⟩ := (HS.out.keep (ok' := (· < w.heap.size)) (fun p hp => HW.out.cell hp) fun _ h => h).get hlt
      obtain ⟨b, hb2⟩ : ∃ b, wrap64 (a + y) = b := ⟨_, rfl⟩
      have HN := Lib.hid (show wrap64 (tot (ls.take (k + 1))) = b by rw [take_more hx, tot_snoc, ← hb2, ← HA.out, wr_add])
      have hb3 : IntKind.i64.wrap (a + y) = b := by rw [IntWalk.i64_left]; exact hb2
      have hlt2 : (k : Int) < (m : Int) := by omega
      have hxl : ad.block < w1.heap.size := by have := HW.out.size; omega
      clear hx hb
      go_wp2
      go_roundw
      case rel => exact ⟨k + 1, b, _, by omega, by go_num, rfl, rfl, HN, Lib.hid (HW.out.alloc HW.out.size _)⟩
      case measure => clear hb2 hb3; simp [intOf]; omega
    · have HF := Lib.hid (show a = R by rw [← HA.out, List.take_of_length_le (by rw [HL.out]; omega)]; exact HR.out)
      go_wp2
      go_ret
      exact ⟨ret_int HF.out, HW.out⟩

set_option maxRecDepth 100000 in
set_option maxHeartbeats 2000000 in
theorem amount (d f : Int) (L : Option Addr) (m c : Nat) (ls : List Pr) (acc : Int) (w : World) (hS : Lns w (· < w.heap.size) L m ls) (hm : m ≤ maxLen) :
    Calls Try.prog 29 #[eg d f L m c, .int .i64 acc] w (Num w (wrap64 (ofA acc ls))) := by
  unfold maxLen at hm
  have HL := Lib.hid hS.1
  have HS := Lib.hid hS
  clear hS
  obtain ⟨R, hR⟩ : ∃ R, wrap64 (ofA acc ls) = R := ⟨_, rfl⟩
  rw [hR]
  have HR := Lib.hid hR
  clear hR
  go_enter Try.func29, Try.ntmps29
  go_wp2
  go_loopw [5, 7, 11] (fun sa s5 i w' => ∃ (k : Nat) (a : Int) (w1 : World), k ≤ m ∧ i = .int .i64 (k : Int) ∧ sa = .int .i64 a ∧ w1 = w' ∧ Hid (wrap64 (ofA acc (ls.take k)) = a) ∧ Hid (Below w.heap.size w w1)) (fun _ _ i _ => m - (intOf i).toNat)
  case atStart => exact ⟨0, 0, _, Nat.zero_le _, rfl, rfl, rfl, Lib.hid wr0, Lib.hid (alloc_ _ _)⟩
  case round =>
    obtain ⟨k, a, w1, hk, rfl, rfl, rfl, HA, HW⟩ := hrel
    by_cases hlt : k < m
    · obtain ⟨ad, x, y, rfl, hb, hx, hc0, hc1⟩ := (HS.out.keep (ok' := (· < w.heap.size)) (fun p hp => HW.out.cell hp) fun _ h => h).get hlt
      have hlt2 : (k : Int) < (m : Int) := by omega
      have hxl : ad.block < w1.heap.size := by have := HW.out.size; omega
      by_cases hacc : x = acc
      · obtain ⟨b, hb2⟩ : ∃ b, wrap64 (a + y) = b := ⟨_, rfl⟩
        have HN := Lib.hid (show wrap64 (ofA acc (ls.take (k + 1))) = b by rw [take_more hx, ofA_snoc, if_pos hacc, ← hb2, ← HA.out, wr_add])
        have hb3 : IntKind.i64.wrap (a + y) = b := by rw [IntWalk.i64_left]; exact hb2
        have t1 : (x == acc) = true := by simpa using hacc
        clear hx hb hacc
        go_wp2
        go_roundw
        case rel => exact ⟨k + 1, b, _, by omega, by go_num, rfl, rfl, HN, Lib.hid (HW.out.alloc HW.out.size _)⟩
        case measure => clear hb2 hb3; simp [intOf]; omega
      · have HN := Lib.hid (show wrap64 (ofA acc (ls.take (k + 1))) = a by rw [take_more hx, ofA_snoc, if_neg hacc, Int.add_zero, HA.out])
        have t1 : (x == acc) = false := by simpa using hacc
        clear hx hb hacc
        go_wp2
        go_roundw
        case rel => exact ⟨k + 1, a, _, by omega, by go_num, rfl, rfl, HN, Lib.hid (HW.out.alloc HW.out.size _)⟩
        case measure => simp [intOf]; omega
    · have HF := Lib.hid (show a = R by rw [← HA.out, List.take_of_length_le (by rw [HL.out]; omega)]; exact HR.out)
      go_wp2
      go_ret
      exact ⟨ret_int HF.out, HW.out⟩

set_option maxRecDepth 100000 in
set_option maxHeartbeats 2000000 in
theorem rsum (d f : Int) (L : Option Addr) (m c : Nat) (ls : List Pr) (w : World) (hS : Lns w (· < w.heap.size) L m ls) (hm : m ≤ maxLen) :
    Calls Try.prog 28 #[eg d f L m c] w (Num w (wrap64 (tot ls))) := by
  unfold maxLen at hm
  have HL := Lib.hid hS.1
  have HS := Lib.hid (hS.keep (ok' := (· < w.heap.size)) (fun p hp => (alloc_ w (.cells #[.int .i64 d, .int .i64 f, .slice L m c] 24)).cell hp) fun _ h => h)
  clear hS
  obtain ⟨R, hR⟩ : ∃ R, wrap64 (tot ls) = R := ⟨_, rfl⟩
  rw [hR]
  have HR := Lib.hid hR
  clear hR
  go_enter Try.func28, Try.ntmps28
  go_wp2
  go_loopw [3, 4] (fun sa i w' => ∃ (k : Nat) (a : Int), k ≤ m ∧ i = .int .i64 (k : Int) ∧ sa = .int .i64 a ∧ w' = w.alloc (.cells #[.int .i64 d, .int .i64 f, .slice L m c] 24) ∧ Hid (wrap64 (tot (ls.take k)) = a)) (fun _ i _ => m - (intOf i).toNat)
  case atStart => exact ⟨0, 0, Nat.zero_le _, rfl, rfl, rfl, Lib.hid wr0⟩
  case round =>
    obtain ⟨k, a, hk, rfl, rfl, rfl, HA⟩ := hrel
    by_cases hlt : k < m
    · obtain ⟨ad, x, y, rfl, hb, hx, hc0, hc1⟩ := HS.out.get hlt
      obtain ⟨b, hb2⟩ : ∃ b, wrap64 (a + y) = b := ⟨_, rfl⟩
      have HN := Lib.hid (show wrap64 (tot (ls.take (k + 1))) = b by rw [take_more hx, tot_snoc, ← hb2, ← HA.out, wr_add])
      have hb3 : IntKind.i64.wrap (a + y) = b := by rw [IntWalk.i64_left]; exact hb2
      have hlt2 : (k : Int) < (m : Int) := by omega
      clear hx
      go_wp2
      go_roundw
      case rel => exact ⟨k + 1, b, by omega, by go_num, rfl, trivial, HN⟩
      case measure => clear hb2 hb3; simp [intOf]; omega
    · have HF := Lib.hid (show a = R by rw [← HA.out, List.take_of_length_le (by rw [HL.out]; omega)]; exact HR.out)
      go_wp2
      go_ret
      exact ⟨ret_int HF.out, alloc_ _ _⟩

set_option maxRecDepth 100000 in
set_option maxHeartbeats 2000000 in
theorem rof (d f : Int) (L : Option Addr) (m c : Nat) (ls : List Pr) (acc : Int) (w : World) (hS : Lns w (· < w.heap.size) L m ls) (hm : m ≤ maxLen) :
    Calls Try.prog 30 #[eg d f L m c, .int .i64 acc] w (Num w (wrap64 (ofA acc ls))) := by
  unfold maxLen at hm
  have HL := Lib.hid hS.1
  have HS := Lib.hid (hS.keep (ok' := (· < w.heap.size)) (fun p hp => (alloc_ w (.cells #[.int .i64 d, .int .i64 f, .slice L m c] 24)).cell hp) fun _ h => h)
  clear hS
  obtain ⟨R, hR⟩ : ∃ R, wrap64 (ofA acc ls) = R := ⟨_, rfl⟩
  rw [hR]
  have HR := Lib.hid hR
  clear hR
  go_enter Try.func30, Try.ntmps30
  go_wp2
  go_loopw [5, 6] (fun sa i w' => ∃ (k : Nat) (a : Int), k ≤ m ∧ i = .int .i64 (k : Int) ∧ sa = .int .i64 a ∧ w' = w.alloc (.cells #[.int .i64 d, .int .i64 f, .slice L m c] 24) ∧ Hid (wrap64 (ofA acc (ls.take k)) = a)) (fun _ i _ => m - (intOf i).toNat)
  case atStart => exact ⟨0, 0, Nat.zero_le _, rfl, rfl, rfl, Lib.hid wr0⟩
  case round =>
    obtain ⟨k, a, hk, rfl, rfl, rfl, HA⟩ := hrel
    by_cases hlt : k < m
    · obtain ⟨ad, x, y, rfl, hb, hx, hc0, hc1⟩ := HS.out.get hlt
      have hlt2 : (k : Int) < (m : Int) := by omega
      by_cases hacc : x = acc
      · obtain ⟨b, hb2⟩ : ∃ b, wrap64 (a + y) = b := ⟨_, rfl⟩
        have HN := Lib.hid (show wrap64 (ofA acc (ls.take (k + 1))) = b by rw [take_more hx, ofA_snoc, if_pos hacc, ← hb2, ← HA.out, wr_add])
        have hb3 : IntKind.i64.wrap (a + y) = b := by rw [IntWalk.i64_left]; exact hb2
        have t1 : (x == acc) = true := by simpa using hacc
        clear hx hacc
        go_wp2
        go_roundw
        case rel => exact ⟨k + 1, b, by omega, by go_num, rfl, trivial, HN⟩
        case measure => clear hb2 hb3; simp [intOf]; omega
      · have HN := Lib.hid (show wrap64 (ofA acc (ls.take (k + 1))) = a by rw [take_more hx, ofA_snoc, if_neg hacc, Int.add_zero, HA.out])
        have t1 : (x == acc) = false := by simpa using hacc
        clear hx hacc
        go_wp2
        go_roundw
        case rel => exact ⟨k + 1, a, by omega, by go_num, rfl, trivial, HN⟩
        case measure => simp [intOf]; omega
    · have HF := Lib.hid (show a = R by rw [← HA.out, List.take_of_length_le (by rw [HL.out]; omega)]; exact HR.out)
      go_wp2
      go_ret
      exact ⟨ret_int HF.out, alloc_ _ _⟩

end Pst
end Go.Proofs.Ytheamhjgohacdaa
