/-
  The document's own split: what it gives for any amount and any parts. Conditions: the amount is a number of 64 bits; the parts read as a list of ints.
-/
import Derived.Test.YtdamojbjamolaaaApp
namespace Go.Proofs.Ytdamojbjamolaaa
open Go.RowKit NumMath NumBits
namespace Num

section
variable (A : Option Addr) (n c B : Nat) (xs : List Int) (m : Int) (w : World)

set_option maxRecDepth 100000 in
set_option maxHeartbeats 2000000 in
theorem refSplit_arg (h : Ints w B A n xs) (hn : n ≤ maxLen) (hb : m < 0 ∨ 2000 < n ∨ anyNeg xs = true) :
    Calls Try.prog 20 #[.int .i64 m, .slice A n c] w (SplitPost w [] 1) := by
  unfold maxLen at hn
  by_cases h1 : m < 0
  · have t1 : decide (m < 0) = true := by simpa using h1
    clear hb h
    go_enter Try.func20, Try.ntmps20
    go_wp2
    go_ret2
    exact .empty (Below.refl _ _)
  · have t1 : decide (m < 0) = false := by simpa using h1
    by_cases h2 : 2000 < n
    · have t2 : decide (2000 < n) = true := by simpa using h2
      clear hb h
      go_enter Try.func20, Try.ntmps20
      go_wp2
      go_ret2
      exact .empty (Below.refl _ _)
    · have t2 : decide (2000 < n) = false := by simpa using h2
      have t3 : decide ((2000 : Int) < (n : Int)) = false := by simp; omega
      have h3 : anyNeg xs = true := by
        rcases hb with h | h | h
        · exact absurd h h1
        · exact absurd h h2
        · exact h
      have HN := Lib.hid h3
      have HI := Lib.hid h
      clear hb h3 h
      go_enter Try.func20, Try.ntmps20
      go_wp2
      go_loop [6] (fun i => ∃ k : Nat, k ≤ n ∧ i = .int .i64 (k : Int) ∧ Hid (nonneg (xs.take k))) (fun i => n - (intOf i).toNat)
      case atStart => exact ⟨0, Nat.zero_le _, rfl, Lib.hid (by simp [nonneg])⟩
      case round =>
        obtain ⟨k, hk, rfl, HT⟩ := hrel
        by_cases hlt : k < n
        · obtain ⟨ad, x, rfl, hb, hx, hc⟩ := HI.out.get hlt
          have HX := Lib.hid hx
          clear hx
          by_cases hx0 : x < 0
          · have t : decide (x < 0) = true := by simpa using hx0
            go_wp2
            go_ret2
            exact .empty (Below.refl _ _)
          · have t : decide (x < 0) = false := by simpa using hx0
            go_wp2
            go_round
            case rel =>
              refine ⟨k + 1, by omega, by go_num, Lib.hid ?_⟩
              rw [take_more HX.out]
              intro y hy
              rcases List.mem_append.1 hy with h | h
              · exact HT.out y h
              · simp at h; omega
            case measure => simp [intOf]; omega
        · exfalso
          have e : xs.take k = xs := List.take_of_length_le (by have := HI.out.1; omega)
          have h1 := HT.out
          rw [e] at h1
          have h2 := anyNeg_false.2 h1
          rw [HN.out] at h2
          cases h2

set_option maxRecDepth 100000 in
set_option maxHeartbeats 2000000 in
theorem refSplit_over (h : Ints w B A n xs) (hn : n ≤ 2000) (hm : 0 ≤ m) (hp : nonneg xs) (ho : 4000000000000000000 < sumL xs ∨ 4000000000000000000 < m) :
    Calls Try.prog 20 #[.int .i64 m, .slice A n c] w (SplitPost w [] 5) := by
  have S := Lib.hid (refSum A n c B xs w h (by unfold maxLen; omega) hp)
  have t1 : decide (m < 0) = false := by simpa using hm
  have t2 : decide (2000 < n) = false := by simpa using hn
  have t3 : decide ((2000 : Int) < (n : Int)) = false := by simp; omega
  have HI := Lib.hid h
  have HP := Lib.hid hp
  clear h hp
  by_cases h1 : 4000000000000000000 < sumL xs
  · rw [sumVal, if_neg (by omega)] at S
    clear ho h1
    go_enter Try.func20, Try.ntmps20
    go_wp2
    go_loop [6] (fun i => ∃ k : Nat, k ≤ n ∧ i = .int .i64 (k : Int)) (fun i => n - (intOf i).toNat)
    case atStart => exact ⟨0, Nat.zero_le _, rfl⟩
    case round =>
      obtain ⟨k, hk, rfl⟩ := hrel
      by_cases hlt : k < n
      · obtain ⟨ad, x, rfl, hb, hx, hc⟩ := HI.out.get hlt
        have hx0 : 0 ≤ x := HP.out x (mem_of_get hx)
        have tx : decide (x < 0) = false := by simpa using hx0
        clear hx
        go_wp2
        go_round
        case rel => exact ⟨k + 1, by omega, by go_num⟩
        case measure => simp [intOf]; omega
      · go_wp2_with (go_at_call 22; refine S.out.mono ?_; rintro e w1 ⟨rfl, rfl⟩)
        go_ret2
        exact .empty (Below.refl _ _)

  · rw [sumVal, if_pos (by omega)] at S
    have h2 : 4000000000000000000 < m := by omega
    have t4 : decide (4000000000000000000 < m) = true := by simpa using h2
    generalize sumL xs = s at *
    clear ho h1 h2
    go_enter Try.func20, Try.ntmps20
    go_wp2
    go_loop [6] (fun i => ∃ k : Nat, k ≤ n ∧ i = .int .i64 (k : Int)) (fun i => n - (intOf i).toNat)
    case atStart => exact ⟨0, Nat.zero_le _, rfl⟩
    case round =>
      obtain ⟨k, hk, rfl⟩ := hrel
      by_cases hlt : k < n
      · obtain ⟨ad, x, rfl, hb, hx, hc⟩ := HI.out.get hlt
        have hx0 : 0 ≤ x := HP.out x (mem_of_get hx)
        have tx : decide (x < 0) = false := by simpa using hx0
        clear hx
        go_wp2
        go_round
        case rel => exact ⟨k + 1, by omega, by go_num⟩
        case measure => simp [intOf]; omega
      · go_wp2_with (go_at_call 22; refine S.out.mono ?_; rintro e w1 ⟨rfl, rfl⟩)
        go_ret2
        exact .empty (Below.refl _ _)


set_option maxRecDepth 100000 in
set_option maxHeartbeats 2000000 in
theorem refSplit_zero (h : Ints w B A n xs) (hn : n ≤ 2000) (hm : 0 ≤ m) (hm2 : m ≤ 4000000000000000000) (hp : nonneg xs) (ho : sumL xs = 0) :
    Calls Try.prog 20 #[.int .i64 m, .slice A n c] w (SplitPost w [] 6) := by
  have S := Lib.hid (refSum A n c B xs w h (by unfold maxLen; omega) hp)
  have t1 : decide (m < 0) = false := by simpa using hm
  have t2 : decide (2000 < n) = false := by simpa using hn
  have t3 : decide ((2000 : Int) < (n : Int)) = false := by simp; omega
  have t4 : decide (4000000000000000000 < m) = false := by simpa using hm2
  have HI := Lib.hid h
  have HP := Lib.hid hp
  clear h hp
  rw [sumVal, if_pos (by omega), ho] at S
  clear ho
  go_enter Try.func20, Try.ntmps20
  go_wp2
  go_loop [6] (fun i => ∃ k : Nat, k ≤ n ∧ i = .int .i64 (k : Int)) (fun i => n - (intOf i).toNat)
  case atStart => exact ⟨0, Nat.zero_le _, rfl⟩
  case round =>
    obtain ⟨k, hk, rfl⟩ := hrel
    by_cases hlt : k < n
    · obtain ⟨ad, x, rfl, hb, hx, hc⟩ := HI.out.get hlt
      have hx0 : 0 ≤ x := HP.out x (mem_of_get hx)
      have tx : decide (x < 0) = false := by simpa using hx0
      clear hx
      go_wp2
      go_round
      case rel => exact ⟨k + 1, by omega, by go_num⟩
      case measure => simp [intOf]; omega
    · go_wp2_with (go_at_call 22; refine S.out.mono ?_; rintro e w1 ⟨rfl, rfl⟩)
      go_ret2
      exact .empty (Below.refl _ _)

end

/-- What holds at the head of each round of the dealing. -/
structure RefI (w w' : World) (A' : Option Addr) (c' k : Nat) (xs : List Int) (m u d : Int) : Prop where
  own : Own w' w.heap.size A' k c' ((shares m xs).take k)
  below : Below w.heap.size w w'
  hu : u = sumL (xs.take k)
  hd : d = cum m xs k

set_option maxRecDepth 100000 in
set_option maxHeartbeats 2000000 in
theorem refSplit_ok (A : Option Addr) (n c : Nat) (xs : List Int) (m : Int) (w : World) (h : Ints w w.heap.size A n xs) (M : Made m xs) :
    Calls Try.prog 20 #[.int .i64 m, .slice A n c] w (SplitPost w (shares m xs) 0) := by
  have hn : n ≤ 2000 := by rw [← h.1]; exact M.rows
  have hm := M.m0
  have hm2 := M.m1
  have S := Lib.hid (refSum A n c _ xs w h (by unfold maxLen; omega) M.pos)
  rw [sumVal, if_pos M.s1] at S
  have t1 : decide (m < 0) = false := by simpa using hm
  have t2 : decide (2000 < n) = false := by simpa using hn
  have t3 : decide ((2000 : Int) < (n : Int)) = false := by simp; omega
  have t4 : decide (4000000000000000000 < m) = false := by simpa using hm2
  obtain ⟨all, hall⟩ : ∃ all, all = sumL xs := ⟨_, rfl⟩
  have ha0 := M.s0
  have ha1 := M.s1
  rw [← hall] at S ha0 ha1
  have t5 : (all == 0) = false := by rw [beq_eq_false_iff_ne]; omega
  have HA := Lib.hid hall
  have HI := Lib.hid h
  have HP := Lib.hid M.pos
  have HM := Lib.hid M
  clear h M hall
  go_enter Try.func20, Try.ntmps20
  go_wp2
  go_loop [6] (fun i => ∃ k : Nat, k ≤ n ∧ i = .int .i64 (k : Int)) (fun i => n - (intOf i).toNat)
  case atStart => exact ⟨0, Nat.zero_le _, rfl⟩
  case round =>
    obtain ⟨k, hk, rfl⟩ := hrel
    by_cases hlt : k < n
    · obtain ⟨ad, x, rfl, hb, hx, hc⟩ := HI.out.get hlt
      have hx0 : 0 ≤ x := HP.out x (mem_of_get hx)
      have tx : decide (x < 0) = false := by simpa using hx0
      clear hx
      go_wp2
      go_round
      case rel => exact ⟨k + 1, by omega, by go_num⟩
      case measure => simp [intOf]; omega
    · go_wp2_with (go_at_call 22; refine S.out.mono ?_; rintro e w1 ⟨rfl, rfl⟩)
      clear S
      go_loopw [9, 10, 11, 12] (fun o r a i w' => ∃ (k : Nat) (u d : Int) (A' : Option Addr) (c' : Nat), k ≤ n ∧ o = .slice A' k c' ∧ r = .int .i64 u ∧ a = .int .i64 d ∧ i = .int .i64 (k : Int) ∧ 0 ≤ u ∧ u ≤ all ∧ 0 ≤ d ∧ d ≤ 4000000000000000000 ∧ Hid (RefI w w' A' c' k xs m u d)) (fun _ _ _ i _ => n - (intOf i).toNat)
      case atStart => exact ⟨0, 0, 0, none, 0, Nat.zero_le _, rfl, rfl, rfl, rfl, by omega, by omega, by omega, by omega, Lib.hid ⟨Own.nil, Below.refl _ _, by simp [sumL], HM.out.cum_zero.symm⟩⟩
      case round =>
        clear hk hlt
        obtain ⟨k, u, d, A', c', hk, rfl, rfl, rfl, rfl, hu0, hu1, hd0, hd1, HR⟩ := hrel
        by_cases hlt : k < n
        · obtain ⟨ad, x, rfl, hb, hx, hc⟩ := (HI.out.below HR.out.below (Nat.le_refl _)).get hlt
          have hx0 : 0 ≤ x := HP.out x (mem_of_get hx)
          have hux : u + x = sumL (xs.take (k + 1)) := by rw [take_more hx, sumL_snoc, ← HR.out.hu]
          have hua : u + x ≤ all := by have := sumL_take_le HP.out (k + 1); rw [← HA.out] at this; omega
          obtain ⟨due, hdue⟩ : ∃ due, due = dnV m (u + x) all := ⟨_, rfl⟩
          have hcum : due = cum m xs (k + 1) := by rw [hdue, hux, HA.out]; rfl
          have cv := HM.out.cum_val (k + 1)
          rw [← hcum] at cv
          have v2 : 0 ≤ due := cv.2.1
          have v3 : due ≤ 4000000000000000000 := by have := cv.2.2; omega
          have DC := Lib.hid (refDown m (u + x) all wr (by omega) (by omega) (by omega))
          rw [← hdue] at DC
          have hsh : due - d = share m xs k := by rw [share_cum, hcum, HR.out.hd]
          have HX := Lib.hid hux
          have HC := Lib.hid hcum
          have HSH := Lib.hid hsh
          clear hux hcum cv hdue hx hsh
          go_wp2_with (first
            | (go_at_call 13; refine DC.out.mono ?_; rintro e w2 ⟨rfl, rfl⟩)
            | (at_builtin
               refine wpList_app _ rfl (.tmp 65) (.tmp 69) rfl w.heap.size A' k c' ((shares m xs).take k) rfl (HR.out.own.alloc _) (wr.heap.size + 1) (some ⟨wr.heap.size, 0, none⟩) 1 1 [due - d] rfl (Row.ints (xs := [due - d]) (alloc_at _ _ _ rfl) (by omega)) (fun h => by cases h) (by omega) (by have := HR.out.below.size; simp; omega) ?_
               intro A2 c2 w2 hown2 hg2
               have HO2 := Lib.hid hown2
               have HG2 := Lib.hid hg2
               clear hown2 hg2))
          go_roundw
          case rel =>
            refine ⟨k + 1, u + x, due, A2, c2, by omega, rfl, rfl, rfl, by go_num, by omega, by omega, by omega, by omega, Lib.hid ⟨?_, ?_, HX.out, HC.out⟩⟩
            · have e : (shares m xs).take (k + 1) = (shares m xs).take k ++ [due - d] := take_more (by
                rw [HSH.out]; unfold shares; rw [List.getElem?_map, List.getElem?_range (by rw [HI.out.1]; exact hlt)]; rfl)
              rw [e]; exact HO2.out
            · refine (HR.out.below.alloc HR.out.below.size _).grown HG2.out (by have := HR.out.below.size; simp; omega) (fun j hj => (HR.out.own.lt j hj).1)
          case measure => simp [intOf]; omega
        · obtain rfl : n = k := by omega
          go_wp2
          go_ret2
          have hl : (shares m xs).take n = shares m xs := List.take_of_length_le (by rw [shares_len, HI.out.1]; exact Nat.le_refl _)
          have ho := HR.out.own
          rw [hl] at ho
          exact ⟨_, _, _, rfl, ho.ints.1, ho.ints.2, HR.out.below⟩

theorem refSplit (A : Option Addr) (n c : Nat) (xs : List Int) (m : Int) (w : World) (h : Ints w w.heap.size A n xs) (hn : n ≤ maxLen) :
    Calls Try.prog 20 #[.int .i64 m, .slice A n c] w (SplitPost w (splitL m xs) (splitE m xs)) := by
  have hl := h.1
  by_cases h1 : m < 0 ∨ 2000 < xs.length ∨ anyNeg xs = true
  · have e : splitE m xs = 1 := by rw [splitE, if_pos h1]
    rw [splitL, e, if_neg (by decide)]
    exact refSplit_arg A n c _ xs m w h hn (by rw [← hl]; exact h1)
  · have hp : nonneg xs := anyNeg_false.1 (by cases hh : anyNeg xs; rfl; exact absurd (Or.inr (Or.inr hh)) h1)
    have hn2 : n ≤ 2000 := by omega
    have hm : 0 ≤ m := by omega
    by_cases h2 : 4000000000000000000 < sumL xs ∨ 4000000000000000000 < m
    · have e : splitE m xs = 5 := by rw [splitE, if_neg h1, if_pos h2]
      rw [splitL, e, if_neg (by decide)]
      exact refSplit_over A n c _ xs m w h hn2 hm hp h2
    · by_cases h3 : sumL xs = 0
      · have e : splitE m xs = 6 := by rw [splitE, if_neg h1, if_neg h2, if_pos h3]
        rw [splitL, e, if_neg (by decide)]
        exact refSplit_zero A n c _ xs m w h hn2 hm (by omega) hp h3
      · have e : splitE m xs = 0 := by rw [splitE, if_neg h1, if_neg h2, if_neg h3]
        have M := made_of e
        rw [splitL, e, if_pos rfl]
        exact refSplit_ok A n c xs m w h M

end Num
end Go.Proofs.Ytdamojbjamolaaa
