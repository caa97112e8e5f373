/-
  The statement DayMonths holds: for every input the call returns true, and each argument reads afterwards as it read before; its card: the listed variable tied to the program's text. Conditions: none beside those that the row itself bears.
-/
import Derived.Test.YtpcflkhiimclbaaDoorMonthsA
import Derived.Test.YtpcflkhiimclbaaDoorMonthsB
import Derived.Test.YtpcflkhiimclbaaDoorTie
import Derived.Test.YtpcflkhiimclbaaDoorCards
import Derived.SevenTiedAt
namespace Go.Proofs.YtpcflkhiimclbaaDoor.dayMonths
open Go.ChangeShapes Go.WideShapes Go.ChangeAt Go.RowKit
set_option linter.unusedVariables false

open Cal Day in
theorem sh_mono {j k y m d y' m' d' K : Int} (h : Ymd j y m d) (h' : Ymd k y' m' d') (l : j < k) (r : inR (at_ y m + K) = true) (r' : inR (at_ y' m' + K) = true) : shN y m d K ≤ shN y' m' d' K := by
  have s := h.shift r
  have s' := h'.shift r'
  have G := fun h0 => h'.lt_of h h0
  have m1 := h.m1
  have m2 := h.m2
  have m1' := h'.m1
  have m2' := h'.m2
  by_cases e : y = y' ∧ m = m'
  · obtain ⟨rfl, rfl⟩ := e
    have e1 := h.eq
    have e2 := h'.eq
    unfold shN shD
    omega
  · have la : at_ y m < at_ y' m' := by
      unfold at_
      omega
    have := s.lt_of s' (by unfold ya ma; omega)
    omega
open Cal Day in
theorem sh_back {j y m d K : Int} (h : Ymd j y m d) (r : inR (at_ y m + K) = true) :
    shV (ya (at_ y m + K)) (ma (at_ y m + K)) (shD y m d K) (-K) ≤ j ∧ j - 3 ≤ shV (ya (at_ y m + K)) (ma (at_ y m + K)) (shD y m d K) (-K) ∧ shE (ya (at_ y m + K)) (ma (at_ y m + K)) (shD y m d K) (-K) = 0 := by
  have e : at_ (ya (at_ y m + K)) (ma (at_ y m + K)) + -K = at_ y m := by rw [at_ya_ma]; omega
  have ab := at_bd h
  have r0 : inR (at_ (ya (at_ y m + K)) (ma (at_ y m + K)) + -K) = true := by rw [e]; exact inR_iff.2 ab
  rw [(sh_in r0).1, (sh_in r0).2]
  have ey := ya_at (y := y) h.m1 h.m2
  have em := ma_at (y := y) h.m1 h.m2
  have eD : shD (ya (at_ y m + K)) (ma (at_ y m + K)) (shD y m d K) (-K) = min (shD y m d K) (ml y m) := by
    unfold shD
    rw [show at_ (ya (at_ y m + K)) (ma (at_ y m + K)) + -K = at_ y m from e, ey, em]
  have eN : shN (ya (at_ y m + K)) (ma (at_ y m + K)) (shD y m d K) (-K) = da y + cm y m + min (shD y m d K) (ml y m) := by
    unfold shN
    rw [eD, e, ey, em]
  rw [eN]
  have h1 := h.eq
  have h2 := h.d2
  have h3 := h.d1
  have b1 := ml_bd (ya (at_ y m + K)) (ma (at_ y m + K))
  have b2 := ml_bd y m
  have e4 : shD y m d K = min d (ml (ya (at_ y m + K)) (ma (at_ y m + K))) := rfl
  omega
open Cal Day in
theorem in_12 {j y m d : Int} (h : Ymd j y m d) : inR (at_ y m + 12) = decide (y < 2400) := by
  have y1 := h.y1
  have m1 := h.m1
  have m2 := h.m2
  by_cases hl : y < 2400
  · rw [decide_eq_true hl]
    exact inR_iff.2 (by unfold at_; omega)
  · rw [decide_eq_false hl]
    exact inR_not.2 (by unfold at_; omega)
open Cal Day in
theorem on_12 {j y m d : Int} (h : Ymd j y m d) (hl : y < 2400) : Ymd (shN y m d 12) (y + 1) m (min d (ml (y + 1) m)) := by
  have r : inR (at_ y m + 12) = true := by rw [in_12 h]; exact decide_eq_true hl
  have s := h.shift r
  have m1 := h.m1
  have m2 := h.m2
  have e1 : ya (at_ y m + 12) = y + 1 := by unfold ya at_; omega
  have e2 : ma (at_ y m + 12) = m := by unfold ma at_; omega
  have e3 : shD y m d 12 = min d (ml (y + 1) m) := by unfold shD; rw [e1, e2]
  rw [e1, e2, e3] at s
  exact s
open Cal Day in
theorem d_12 {j y m d : Int} (h : Ymd j y m d) : (m = 2 ∧ d = 29 ∧ min d (ml (y + 1) m) = 28) ∨ (¬ (m = 2 ∧ d = 29) ∧ min d (ml (y + 1) m) = d) := by
  have d2 := h.d2
  by_cases hm : m = 2
  · subst hm
    have b := ml_bd (y + 1) 2
    by_cases hd : d = 29
    · subst hd
      have hy : lp y = true := by
        cases hl : lp y
        · simp [ml, hl] at d2
        · rfl
      have h1 := (lp_iff y).1 hy
      have h2 : lp (y + 1) = false := (lp_not _).2 (by omega)
      have e : ml (y + 1) 2 = 28 := by simp [ml, h2]
      exact Or.inl ⟨rfl, rfl, by rw [e]; omega⟩
    · have e := ml_two y
      have := lb_bd y
      exact Or.inr ⟨fun h => hd h.2, by omega⟩
  · have e : ml (y + 1) m = ml y m := by unfold ml; rw [if_neg hm, if_neg hm]
    exact Or.inr ⟨fun h => hm h.1, by rw [e]; omega⟩
open Cal Day in
theorem side_false (n o s j k K : Int) (hK : s % 9601 = K) (hs : 0 ≤ s ∧ s ≤ 65535) (K1 : -9600 ≤ K) (K2 : K ≤ 9600) (h1 : 1 ≤ j) (h2 : j ≤ 292194) (h3 : 1 ≤ k) (h4 : k ≤ 292194) (w : World) (hT : Tab w)
    (cI : ∀ w : World, Hid (Calls Tryd.prog 24 #[.int .u32 n] w fun e w' => e = .returned (.int .i64 j) ∧ w = w'))
    (cJ : ∀ w : World, Hid (Calls Tryd.prog 24 #[.int .u32 o] w fun e w' => e = .returned (.int .i64 k) ∧ w = w'))
    :
    Calls Tryd.prog 11 #[.int .u32 n, .int .u32 o, .int .u16 s, .bool false] w fun e w' => e = .returned (.bool true) ∧ Below w.heap.size w w' := by
  obtain ⟨y, m, d, hy⟩ := Ymd.of j h1 h2
  obtain ⟨y', m', d', hy'⟩ := Ymd.of k h3 h4
  have hml := ml_bd y m
  have hd2 := hy.d2
  have c1 := fun w hT => Lib.hid (shift j y m d K w hT hy)
  have c2 := fun w hT => Lib.hid (shift k y' m' d' K w hT hy')
  have c4 := fun w hT => Lib.hid (of_yes j y m d w hT hy)
  have c5 := fun w hT => Lib.hid (shift j y m d 12 w hT hy)
  by_cases hl : y < 2400
  · have ri : inR (at_ y m + 12) = true := by rw [in_12 hy]; exact decide_eq_true hl
    rw [(sh_in ri).1, (sh_in ri).2] at c5
    have c6 := fun w hT => Lib.hid (of_yes _ _ _ _ w hT (on_12 hy hl))
    rcases d_12 hy with ⟨em, ed, e28⟩ | ⟨en, ed⟩
    · rw [e28] at c6
      cases r1 : inR (at_ y m + K)
      · rw [(sh_out r1).1, (sh_out r1).2] at c1
        exact monthsA.core_nx n o s j k K _ _ _ _ y m d w hT hs.1 hs.2 hK K1 K2 h1 h2 hy.y1 hy.y2 hy.m1 hy.m2 hy.d1 (by omega) cI cJ c1 c2 c4 c5 (by simp; omega) c6 (by simp; omega) (by simp; omega)
      · have sb := sh_back hy r1
        have c3 := fun w hT => Lib.hid (shift _ _ _ _ (-K) w hT (hy.shift r1))
        rw [sb.2.2] at c3
        rw [(sh_in r1).1, (sh_in r1).2] at c1
        cases r2 : inR (at_ y' m' + K)
        · rw [(sh_out r2).1, (sh_out r2).2] at c2
          exact monthsA.core_fx n o s j k K _ _ _ _ y m d w hT hs.1 hs.2 hK K1 K2 h1 h2 hy.y1 hy.y2 hy.m1 hy.m2 hy.d1 (by omega) cI cJ c1 c2 c3 (by simp; omega) (by simp; omega) c4 c5 (by simp; omega) c6 (by simp; omega) (by simp; omega)
        · have mn := fun l => sh_mono hy hy' l r1 r2
          rw [(sh_in r2).1, (sh_in r2).2] at c2
          by_cases l : j < k
          · exact monthsA.core_bx n o s j k K _ _ _ _ y m d w hT hs.1 hs.2 hK K1 K2 h1 h2 hy.y1 hy.y2 hy.m1 hy.m2 hy.d1 (by omega) cI cJ c1 c2 c3 (by simp; omega) (by simp; omega) (by simp; omega) (by have := mn l; simp; omega) c4 c5 (by simp; omega) c6 (by simp; omega) (by simp; omega)
          · exact monthsA.core_kx n o s j k K _ _ _ _ y m d w hT hs.1 hs.2 hK K1 K2 h1 h2 hy.y1 hy.y2 hy.m1 hy.m2 hy.d1 (by omega) cI cJ c1 c2 c3 (by simp; omega) (by simp; omega) (by simp; omega) c4 c5 (by simp; omega) c6 (by simp; omega) (by simp; omega)
    · rw [ed] at c6
      by_cases em : m = 2
      · have hd29 : ¬ d = 29 := fun h => en ⟨em, h⟩
        cases r1 : inR (at_ y m + K)
        · rw [(sh_out r1).1, (sh_out r1).2] at c1
          exact monthsA.core_ny n o s j k K _ _ _ _ y m d w hT hs.1 hs.2 hK K1 K2 h1 h2 hy.y1 hy.y2 hy.m1 hy.m2 hy.d1 (by omega) cI cJ c1 c2 c4 c5 (by simp; omega) c6 (by simp; omega) (by simp; omega)
        · have sb := sh_back hy r1
          have c3 := fun w hT => Lib.hid (shift _ _ _ _ (-K) w hT (hy.shift r1))
          rw [sb.2.2] at c3
          rw [(sh_in r1).1, (sh_in r1).2] at c1
          cases r2 : inR (at_ y' m' + K)
          · rw [(sh_out r2).1, (sh_out r2).2] at c2
            exact monthsA.core_fy n o s j k K _ _ _ _ y m d w hT hs.1 hs.2 hK K1 K2 h1 h2 hy.y1 hy.y2 hy.m1 hy.m2 hy.d1 (by omega) cI cJ c1 c2 c3 (by simp; omega) (by simp; omega) c4 c5 (by simp; omega) c6 (by simp; omega) (by simp; omega)
          · have mn := fun l => sh_mono hy hy' l r1 r2
            rw [(sh_in r2).1, (sh_in r2).2] at c2
            by_cases l : j < k
            · exact monthsA.core_by n o s j k K _ _ _ _ y m d w hT hs.1 hs.2 hK K1 K2 h1 h2 hy.y1 hy.y2 hy.m1 hy.m2 hy.d1 (by omega) cI cJ c1 c2 c3 (by simp; omega) (by simp; omega) (by simp; omega) (by have := mn l; simp; omega) c4 c5 (by simp; omega) c6 (by simp; omega) (by simp; omega)
            · exact monthsA.core_ky n o s j k K _ _ _ _ y m d w hT hs.1 hs.2 hK K1 K2 h1 h2 hy.y1 hy.y2 hy.m1 hy.m2 hy.d1 (by omega) cI cJ c1 c2 c3 (by simp; omega) (by simp; omega) (by simp; omega) c4 c5 (by simp; omega) c6 (by simp; omega) (by simp; omega)
      · skip
        cases r1 : inR (at_ y m + K)
        · rw [(sh_out r1).1, (sh_out r1).2] at c1
          exact monthsA.core_nz n o s j k K _ _ _ _ y m d w hT hs.1 hs.2 hK K1 K2 h1 h2 hy.y1 hy.y2 hy.m1 hy.m2 hy.d1 (by omega) cI cJ c1 c2 c4 c5 (by simp; omega) c6 (by simp; omega)
        · have sb := sh_back hy r1
          have c3 := fun w hT => Lib.hid (shift _ _ _ _ (-K) w hT (hy.shift r1))
          rw [sb.2.2] at c3
          rw [(sh_in r1).1, (sh_in r1).2] at c1
          cases r2 : inR (at_ y' m' + K)
          · rw [(sh_out r2).1, (sh_out r2).2] at c2
            exact monthsA.core_fz n o s j k K _ _ _ _ y m d w hT hs.1 hs.2 hK K1 K2 h1 h2 hy.y1 hy.y2 hy.m1 hy.m2 hy.d1 (by omega) cI cJ c1 c2 c3 (by simp; omega) (by simp; omega) c4 c5 (by simp; omega) c6 (by simp; omega)
          · have mn := fun l => sh_mono hy hy' l r1 r2
            rw [(sh_in r2).1, (sh_in r2).2] at c2
            by_cases l : j < k
            · exact monthsA.core_bz n o s j k K _ _ _ _ y m d w hT hs.1 hs.2 hK K1 K2 h1 h2 hy.y1 hy.y2 hy.m1 hy.m2 hy.d1 (by omega) cI cJ c1 c2 c3 (by simp; omega) (by simp; omega) (by simp; omega) (by have := mn l; simp; omega) c4 c5 (by simp; omega) c6 (by simp; omega)
            · exact monthsA.core_kz n o s j k K _ _ _ _ y m d w hT hs.1 hs.2 hK K1 K2 h1 h2 hy.y1 hy.y2 hy.m1 hy.m2 hy.d1 (by omega) cI cJ c1 c2 c3 (by simp; omega) (by simp; omega) (by simp; omega) c4 c5 (by simp; omega) c6 (by simp; omega)
  · have ri : inR (at_ y m + 12) = false := by rw [in_12 hy]; exact decide_eq_false hl
    rw [(sh_out ri).1, (sh_out ri).2] at c5
    cases r1 : inR (at_ y m + K)
    · rw [(sh_out r1).1, (sh_out r1).2] at c1
      exact monthsA.core_no n o s j k K _ _ _ _ y m d w hT hs.1 hs.2 hK K1 K2 h1 h2 hy.y1 hy.y2 hy.m1 hy.m2 hy.d1 (by omega) cI cJ c1 c2 c4 c5 (by simp; omega)
    · have sb := sh_back hy r1
      have c3 := fun w hT => Lib.hid (shift _ _ _ _ (-K) w hT (hy.shift r1))
      rw [sb.2.2] at c3
      rw [(sh_in r1).1, (sh_in r1).2] at c1
      cases r2 : inR (at_ y' m' + K)
      · rw [(sh_out r2).1, (sh_out r2).2] at c2
        exact monthsA.core_fo n o s j k K _ _ _ _ y m d w hT hs.1 hs.2 hK K1 K2 h1 h2 hy.y1 hy.y2 hy.m1 hy.m2 hy.d1 (by omega) cI cJ c1 c2 c3 (by simp; omega) (by simp; omega) c4 c5 (by simp; omega)
      · have mn := fun l => sh_mono hy hy' l r1 r2
        rw [(sh_in r2).1, (sh_in r2).2] at c2
        by_cases l : j < k
        · exact monthsA.core_bo n o s j k K _ _ _ _ y m d w hT hs.1 hs.2 hK K1 K2 h1 h2 hy.y1 hy.y2 hy.m1 hy.m2 hy.d1 (by omega) cI cJ c1 c2 c3 (by simp; omega) (by simp; omega) (by simp; omega) (by have := mn l; simp; omega) c4 c5 (by simp; omega)
        · exact monthsA.core_ko n o s j k K _ _ _ _ y m d w hT hs.1 hs.2 hK K1 K2 h1 h2 hy.y1 hy.y2 hy.m1 hy.m2 hy.d1 (by omega) cI cJ c1 c2 c3 (by simp; omega) (by simp; omega) (by simp; omega) c4 c5 (by simp; omega)
open Cal Day in
theorem side_true (n o s j k K : Int) (P : Int) (hP : s % 9601 = P) (P1 : 0 ≤ P) (P2 : P ≤ 9600) (hK : -P = K) (hs : 0 ≤ s ∧ s ≤ 65535) (K1 : -9600 ≤ K) (K2 : K ≤ 9600) (h1 : 1 ≤ j) (h2 : j ≤ 292194) (h3 : 1 ≤ k) (h4 : k ≤ 292194) (w : World) (hT : Tab w)
    (cI : ∀ w : World, Hid (Calls Tryd.prog 24 #[.int .u32 n] w fun e w' => e = .returned (.int .i64 j) ∧ w = w'))
    (cJ : ∀ w : World, Hid (Calls Tryd.prog 24 #[.int .u32 o] w fun e w' => e = .returned (.int .i64 k) ∧ w = w'))
    :
    Calls Tryd.prog 11 #[.int .u32 n, .int .u32 o, .int .u16 s, .bool true] w fun e w' => e = .returned (.bool true) ∧ Below w.heap.size w w' := by
  obtain ⟨y, m, d, hy⟩ := Ymd.of j h1 h2
  obtain ⟨y', m', d', hy'⟩ := Ymd.of k h3 h4
  have hml := ml_bd y m
  have hd2 := hy.d2
  have c1 := fun w hT => Lib.hid (shift j y m d K w hT hy)
  have c2 := fun w hT => Lib.hid (shift k y' m' d' K w hT hy')
  have c4 := fun w hT => Lib.hid (of_yes j y m d w hT hy)
  have c5 := fun w hT => Lib.hid (shift j y m d 12 w hT hy)
  by_cases hl : y < 2400
  · have ri : inR (at_ y m + 12) = true := by rw [in_12 hy]; exact decide_eq_true hl
    rw [(sh_in ri).1, (sh_in ri).2] at c5
    have c6 := fun w hT => Lib.hid (of_yes _ _ _ _ w hT (on_12 hy hl))
    rcases d_12 hy with ⟨em, ed, e28⟩ | ⟨en, ed⟩
    · rw [e28] at c6
      cases r1 : inR (at_ y m + K)
      · rw [(sh_out r1).1, (sh_out r1).2] at c1
        exact monthsB.core_nx n o s j k K _ _ _ _ y m d w hT hs.1 hs.2 P hP P1 P2 hK K1 K2 h1 h2 hy.y1 hy.y2 hy.m1 hy.m2 hy.d1 (by omega) cI cJ c1 c2 c4 c5 (by simp; omega) c6 (by simp; omega) (by simp; omega)
      · have sb := sh_back hy r1
        have c3 := fun w hT => Lib.hid (shift _ _ _ _ (-K) w hT (hy.shift r1))
        rw [sb.2.2] at c3
        rw [(sh_in r1).1, (sh_in r1).2] at c1
        cases r2 : inR (at_ y' m' + K)
        · rw [(sh_out r2).1, (sh_out r2).2] at c2
          exact monthsB.core_fx n o s j k K _ _ _ _ y m d w hT hs.1 hs.2 P hP P1 P2 hK K1 K2 h1 h2 hy.y1 hy.y2 hy.m1 hy.m2 hy.d1 (by omega) cI cJ c1 c2 c3 (by simp; omega) (by simp; omega) c4 c5 (by simp; omega) c6 (by simp; omega) (by simp; omega)
        · have mn := fun l => sh_mono hy hy' l r1 r2
          rw [(sh_in r2).1, (sh_in r2).2] at c2
          by_cases l : j < k
          · exact monthsB.core_bx n o s j k K _ _ _ _ y m d w hT hs.1 hs.2 P hP P1 P2 hK K1 K2 h1 h2 hy.y1 hy.y2 hy.m1 hy.m2 hy.d1 (by omega) cI cJ c1 c2 c3 (by simp; omega) (by simp; omega) (by simp; omega) (by have := mn l; simp; omega) c4 c5 (by simp; omega) c6 (by simp; omega) (by simp; omega)
          · exact monthsB.core_kx n o s j k K _ _ _ _ y m d w hT hs.1 hs.2 P hP P1 P2 hK K1 K2 h1 h2 hy.y1 hy.y2 hy.m1 hy.m2 hy.d1 (by omega) cI cJ c1 c2 c3 (by simp; omega) (by simp; omega) (by simp; omega) c4 c5 (by simp; omega) c6 (by simp; omega) (by simp; omega)
    · rw [ed] at c6
      by_cases em : m = 2
      · have hd29 : ¬ d = 29 := fun h => en ⟨em, h⟩
        cases r1 : inR (at_ y m + K)
        · rw [(sh_out r1).1, (sh_out r1).2] at c1
          exact monthsB.core_ny n o s j k K _ _ _ _ y m d w hT hs.1 hs.2 P hP P1 P2 hK K1 K2 h1 h2 hy.y1 hy.y2 hy.m1 hy.m2 hy.d1 (by omega) cI cJ c1 c2 c4 c5 (by simp; omega) c6 (by simp; omega) (by simp; omega)
        · have sb := sh_back hy r1
          have c3 := fun w hT => Lib.hid (shift _ _ _ _ (-K) w hT (hy.shift r1))
          rw [sb.2.2] at c3
          rw [(sh_in r1).1, (sh_in r1).2] at c1
          cases r2 : inR (at_ y' m' + K)
          · rw [(sh_out r2).1, (sh_out r2).2] at c2
            exact monthsB.core_fy n o s j k K _ _ _ _ y m d w hT hs.1 hs.2 P hP P1 P2 hK K1 K2 h1 h2 hy.y1 hy.y2 hy.m1 hy.m2 hy.d1 (by omega) cI cJ c1 c2 c3 (by simp; omega) (by simp; omega) c4 c5 (by simp; omega) c6 (by simp; omega) (by simp; omega)
          · have mn := fun l => sh_mono hy hy' l r1 r2
            rw [(sh_in r2).1, (sh_in r2).2] at c2
            by_cases l : j < k
            · exact monthsB.core_by n o s j k K _ _ _ _ y m d w hT hs.1 hs.2 P hP P1 P2 hK K1 K2 h1 h2 hy.y1 hy.y2 hy.m1 hy.m2 hy.d1 (by omega) cI cJ c1 c2 c3 (by simp; omega) (by simp; omega) (by simp; omega) (by have := mn l; simp; omega) c4 c5 (by simp; omega) c6 (by simp; omega) (by simp; omega)
            · exact monthsB.core_ky n o s j k K _ _ _ _ y m d w hT hs.1 hs.2 P hP P1 P2 hK K1 K2 h1 h2 hy.y1 hy.y2 hy.m1 hy.m2 hy.d1 (by omega) cI cJ c1 c2 c3 (by simp; omega) (by simp; omega) (by simp; omega) c4 c5 (by simp; omega) c6 (by simp; omega) (by simp; omega)
      · skip
        cases r1 : inR (at_ y m + K)
        · rw [(sh_out r1).1, (sh_out r1).2] at c1
          exact monthsB.core_nz n o s j k K _ _ _ _ y m d w hT hs.1 hs.2 P hP P1 P2 hK K1 K2 h1 h2 hy.y1 hy.y2 hy.m1 hy.m2 hy.d1 (by omega) cI cJ c1 c2 c4 c5 (by simp; omega) c6 (by simp; omega)
        · have sb := sh_back hy r1
          have c3 := fun w hT => Lib.hid (shift _ _ _ _ (-K) w hT (hy.shift r1))
          rw [sb.2.2] at c3
          rw [(sh_in r1).1, (sh_in r1).2] at c1
          cases r2 : inR (at_ y' m' + K)
          · rw [(sh_out r2).1, (sh_out r2).2] at c2
            exact monthsB.core_fz n o s j k K _ _ _ _ y m d w hT hs.1 hs.2 P hP P1 P2 hK K1 K2 h1 h2 hy.y1 hy.y2 hy.m1 hy.m2 hy.d1 (by omega) cI cJ c1 c2 c3 (by simp; omega) (by simp; omega) c4 c5 (by simp; omega) c6 (by simp; omega)
          · have mn := fun l => sh_mono hy hy' l r1 r2
            rw [(sh_in r2).1, (sh_in r2).2] at c2
            by_cases l : j < k
            · exact monthsB.core_bz n o s j k K _ _ _ _ y m d w hT hs.1 hs.2 P hP P1 P2 hK K1 K2 h1 h2 hy.y1 hy.y2 hy.m1 hy.m2 hy.d1 (by omega) cI cJ c1 c2 c3 (by simp; omega) (by simp; omega) (by simp; omega) (by have := mn l; simp; omega) c4 c5 (by simp; omega) c6 (by simp; omega)
            · exact monthsB.core_kz n o s j k K _ _ _ _ y m d w hT hs.1 hs.2 P hP P1 P2 hK K1 K2 h1 h2 hy.y1 hy.y2 hy.m1 hy.m2 hy.d1 (by omega) cI cJ c1 c2 c3 (by simp; omega) (by simp; omega) (by simp; omega) c4 c5 (by simp; omega) c6 (by simp; omega)
  · have ri : inR (at_ y m + 12) = false := by rw [in_12 hy]; exact decide_eq_false hl
    rw [(sh_out ri).1, (sh_out ri).2] at c5
    cases r1 : inR (at_ y m + K)
    · rw [(sh_out r1).1, (sh_out r1).2] at c1
      exact monthsB.core_no n o s j k K _ _ _ _ y m d w hT hs.1 hs.2 P hP P1 P2 hK K1 K2 h1 h2 hy.y1 hy.y2 hy.m1 hy.m2 hy.d1 (by omega) cI cJ c1 c2 c4 c5 (by simp; omega)
    · have sb := sh_back hy r1
      have c3 := fun w hT => Lib.hid (shift _ _ _ _ (-K) w hT (hy.shift r1))
      rw [sb.2.2] at c3
      rw [(sh_in r1).1, (sh_in r1).2] at c1
      cases r2 : inR (at_ y' m' + K)
      · rw [(sh_out r2).1, (sh_out r2).2] at c2
        exact monthsB.core_fo n o s j k K _ _ _ _ y m d w hT hs.1 hs.2 P hP P1 P2 hK K1 K2 h1 h2 hy.y1 hy.y2 hy.m1 hy.m2 hy.d1 (by omega) cI cJ c1 c2 c3 (by simp; omega) (by simp; omega) c4 c5 (by simp; omega)
      · have mn := fun l => sh_mono hy hy' l r1 r2
        rw [(sh_in r2).1, (sh_in r2).2] at c2
        by_cases l : j < k
        · exact monthsB.core_bo n o s j k K _ _ _ _ y m d w hT hs.1 hs.2 P hP P1 P2 hK K1 K2 h1 h2 hy.y1 hy.y2 hy.m1 hy.m2 hy.d1 (by omega) cI cJ c1 c2 c3 (by simp; omega) (by simp; omega) (by simp; omega) (by have := mn l; simp; omega) c4 c5 (by simp; omega)
        · exact monthsB.core_ko n o s j k K _ _ _ _ y m d w hT hs.1 hs.2 P hP P1 P2 hK K1 K2 h1 h2 hy.y1 hy.y2 hy.m1 hy.m2 hy.d1 (by omega) cI cJ c1 c2 c3 (by simp; omega) (by simp; omega) (by simp; omega) c4 c5 (by simp; omega)
open Cal Day in
theorem walk (n : Int) (hn : 0 ≤ n ∧ n ≤ 4294967295) (o : Int) (ho : 0 ≤ o ∧ o ≤ 4294967295) (s : Int) (hs : 0 ≤ s ∧ s ≤ 65535) (bk : Bool) (w : World) (hT : Tab w) :
    Calls Tryd.prog 11 #[.int .u32 n, .int .u32 o, .int .u16 s, .bool bk] w fun e w' => e = .returned (.bool true) ∧ Below w.heap.size w w' := by
  have cI := fun w => Lib.hid (rin n w hn.1 hn.2)
  have cJ := fun w => Lib.hid (rin o w ho.1 ho.2)
  cases bk
  · exact side_false n o s _ _ _ rfl hs (by omega) (by omega) (by omega) (by omega) (by omega) (by omega) w hT cI cJ
  · exact side_true n o s _ _ _ _ rfl (by omega) (by omega) rfl hs (by omega) (by omega) (by omega) (by omega) (by omega) (by omega) w hT cI cJ

set_option maxRecDepth 100000 in
theorem lifted (os : Os) (started : os.Started) (H : Type) (enc : TypeId × Value → H) :
    ReturnsInHanded {} Tryd.checked os 11 .any (fun w args => (Rows.dayMonthsSpec.pre enc Tryd.prog Tryd.f11 [] false w args ∧ laidMetH Tryd.prog [("bordereau/day.monthDays", Rows.laid_bordereau_day_monthDays)] w) ∧ sizedMet enc Tryd.prog Tryd.f11 (OpenSpec.ofChange Rows.dayMonthsSpec) false w args)
      (Rows.dayMonthsSpec.post enc Tryd.prog Tryd.f11 false true false false) := by
  refine returnsInHanded_of_change_and (C := Tryd.checked) (X := fun w _ => laidMetH Tryd.prog [("bordereau/day.monthDays", Rows.laid_bordereau_day_monthDays)] w) (fun _ _ _ hh h => h.of_heap hh) Day.own started (by kernel_rfl) Tryd.func11
    (ChangeSpec.witness_shaped (enc := enc) (C := Tryd.checked) (os := os) (X := fun w _ => laidMetH Tryd.prog [("bordereau/day.monthDays", Rows.laid_bordereau_day_monthDays)] w) false (World.doorLaid Tryd.prog 14 os) #[.int .u32 0, .int .u32 0, .int .u16 0, .bool false] 8 rfl (World.shaped_of_RefB (by kernel_rfl) (by kernel_rfl)) (by kernel_rfl) (by kernel_rfl) (by kernel_rfl) (Day.door_met os _)) ?_
  intro W base args ds gs before hval0 hW _ _ hL _
  have hval : ∀ (j : Nat) t v, Tryd.f11.params[j]? = some t → args[j]? = some v → Value.okWide Tryd.prog W .any base t v := hval0
  have hW' := hW
  obtain ⟨p, q, hA0, hV, rfl, hfz, hnd⟩ := hW
  have hA : DataW.TrodAll enc Tryd.prog W 0 (fun _ => true) true Tryd.f11.params.toList args.toList ds p := hA0
  rw [Tryd.params11] at hA hval
  obtain ⟨v0, vs0, d0, ds0, p0, q0, hargs, rfl, rfl, h0, r0⟩ := trodAll_cons hA
  obtain ⟨v1, vs1, d1, ds1, p1, q1, rfl, rfl, rfl, h1, r1⟩ := trodAll_cons r0
  obtain ⟨v2, vs2, d2, ds2, p2, q2, rfl, rfl, rfl, h2, r2⟩ := trodAll_cons r1
  obtain ⟨v3, vs3, d3, ds3, p3, q3, rfl, rfl, rfl, h3, r3⟩ := trodAll_cons r2
  obtain ⟨rfl, rfl, rfl⟩ := trodAll_nil r3
  obtain rfl : args = #[v0, v1, v2, v3] := by cases args; simp_all
  obtain ⟨rfl, rfl⟩ := trodVars_none hV
  obtain ⟨a0, rfl, rfl, rfl, w0⟩ := open_int Tryd.underlying35 (hval 0 35 v0 rfl rfl) h0
  obtain ⟨a1, rfl, rfl, rfl, w1⟩ := open_int Tryd.underlying35 (hval 1 35 v1 rfl rfl) h1
  obtain ⟨a2, rfl, rfl, rfl, w2⟩ := open_int Tryd.underlying40 (hval 2 40 v2 rfl rfl) h2
  obtain ⟨a3, rfl, rfl, rfl⟩ := open_bool Tryd.underlying4 (hval 3 4 v3 rfl rfl) h3
  clear hA0 hval0
  refine (walk a0 (Day.u32_of w0) a1 (Day.u32_of w1) a2 (Day.u16_of w2) a3 W (Day.of_laid hL)).mono fun e W' ⟨he, bel⟩ => ?_
  subst he
  exact ⟨_, rfl, _, _, _, [], _, [], hW', trodAll_mk1 (shut_bool Tryd.underlying4 _), (trodAll_cons_mk (shut_int Tryd.underlying35 w0) (trodAll_cons_mk (shut_int Tryd.underlying35 w1) (trodAll_cons_mk (shut_int Tryd.underlying40 w2) (trodAll_cons_mk (shut_bool Tryd.underlying4 _) trodAll_mk0)))), rfl, bel.frame _, fun h => by cases h⟩

theorem proved : Rows.DayMonthsSaid :=
  OpenClaim.holds_of_wide 11 Tryd.f11 rfl rfl rfl rfl rfl rfl rfl ⟨rfl, rfl, rfl, rfl, rfl⟩ rfl rfl rfl rfl rfl (by kernel_rfl) Tryd.func11 (by kernel_rfl)
    (of_decide_eq_true (by kernel_rfl)) (by unfold Func.isWrapper; first | (rw [if_pos (by decide +kernel)]; kernel_rfl) | (rw [if_neg (by decide +kernel)]; exact ⟨rfl, rfl⟩))
    (fun os started H enc _ => lifted os started H enc)

theorem carded : Rows.DayMonthsCardSaid :=
  Claim7.holds_tied_plain_at .later [] [.data] true (true, "0d0c1c32c8900cf58ef4dbff73ea3e777abc26be34945349d325ec12e76e930c") false
    proved (fun _ h => by cases h) (by kernel_rfl) (fun _ h => by cases h) dayMonths_row_tie rfl ⟨rfl, rfl⟩ (by kernel_rfl) rfl
    (fun f fn hf hfn => by
      obtain rfl : f = 11 := Option.some.inj ((show Tryd.prog.funcNamed "bordereau/bordereaulaw02.DayMonths" = some 11 by kernel_rfl).symm.trans hf) |>.symm
      obtain rfl : fn = Tryd.f11 := (Option.some.inj (Tryd.func11.symm.trans hfn)).symm
      exact ⟨by kernel_rfl, fun j t ht => by
        rw [Tryd.params11] at ht
        have hm : t ∈ [35, 35, 40, 4] := by simpa using Array.mem_of_getElem? ht
        have hall : ([35, 35, 40, 4].all fun u => !Tryd.prog.wantsStandIn u) = true := by kernel_rfl
        exact (show Tryd.prog.wantsStandIn t = false by simpa using List.all_eq_true.1 hall t hm)⟩)
    (by kernel_rfl)

end Go.Proofs.YtpcflkhiimclbaaDoor.dayMonths
