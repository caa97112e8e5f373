/-
  sort.Search with Put's closure. Conditions: the version's lists read as lists, and are short.
-/
import Derived.Test.YthjlhjbblnoldaaAt
namespace Go.Proofs.Ythjlhjbblnoldaa
open Go.RowKit Ba Tf
namespace Trf
set_option linter.unusedVariables false

set_option maxRecDepth 100000 in
set_option maxHeartbeats 2000000 in
theorem reached (b2 b3 : Nat) (ad : Addr) (n c k : Nat) (r : Rw) (f : Int) (W : World) (h2 : W.cell? ⟨b2, 0, none⟩ = some (.slice (some ad) n c)) (h3 : W.cell? ⟨b3, 0, none⟩ = some (.int .i64 f)) (hN : Nin W (ad.add (k * 9)) r) (hk : k < n) (hn : n ≤ 1000) :
    Calls Try.prog 30 #[.int .i64 (k : Int), .pointer (some ⟨b2, 0, none⟩), .pointer (some ⟨b3, 0, none⟩)] W (Yes W (decide (f ≤ r.v.fr))) := by
  have c0 := hN.c0
  have hk2 : (k : Int) < (n : Int) := by omega
  obtain ⟨q, hq⟩ : ∃ q, decide (f ≤ r.v.fr) = q := ⟨_, rfl⟩
  rw [hq]
  clear hN
  go_enter Try.func30, Try.ntmps30
  go_wp2
  go_quiet (fail)
  go_wp2
  go_ret
  exact ⟨rfl, below_drewN (Below.refl _ _) _⟩

/-- The place that Search finds. -/
structure Place (rs : List Rw) (f : Int) (n p : Nat) : Prop where
  le : p ≤ n
  lo : ∀ (i : Nat) (x : Rw), i < p → rs[i]? = some x → x.v.fr < f
  hi : ∀ (i : Nat) (x : Rw), p ≤ i → rs[i]? = some x → f ≤ x.v.fr

set_option maxRecDepth 100000 in
set_option maxHeartbeats 4000000 in
theorem search (b2 b3 n : Nat) (rs : List Rw) (f : Int) (w : World) (hl : rs.length = n) (hn : n ≤ 1000) (hmono : ∀ (i j : Nat) (x y : Rw), i < j → rs[i]? = some x → rs[j]? = some y → x.v.fr < y.v.fr)
    (hcl : ∀ w', Below w.heap.size w w' → ∀ (k : Nat) (r : Rw), rs[k]? = some r → Calls Try.prog 30 #[.int .i64 (k : Int), .pointer (some ⟨b2, 0, none⟩), .pointer (some ⟨b3, 0, none⟩)] w' (Yes w' (decide (f ≤ r.v.fr)))) :
    Calls Try.prog 29 #[.int .i64 (n : Int), .func (.func 30) #[] #[.pointer (some ⟨b2, 0, none⟩), .pointer (some ⟨b3, 0, none⟩)]] w fun e w' => ∃ p : Nat, e = .returned (.int .i64 (p : Int)) ∧ Place rs f n p ∧ Below w.heap.size w w' := by
  have HM := Lib.hid hmono
  have HC := Lib.hid hcl
  have HL := Lib.hid hl
  clear hmono hcl hl
  go_enter Try.func29, Try.ntmps29
  go_wp2
  go_loopw [5, 6, 7] (fun s5 s6 s7 w' => ∃ (lo hi : Nat) (w1 : World), s5 = .int .i64 (lo : Int) ∧ s6 = .int .i64 (hi : Int) ∧ lo ≤ hi ∧ hi ≤ n ∧ w1 = w' ∧ Hid (Below w.heap.size w w1) ∧ Hid ((∀ (i : Nat) (x : Rw), i < lo → rs[i]? = some x → x.v.fr < f) ∧ (∀ (i : Nat) (x : Rw), hi ≤ i → rs[i]? = some x → f ≤ x.v.fr))) (fun s5 s6 _ _ => (intOf s6 - intOf s5).toNat)
  case atStart => exact ⟨0, n, _, rfl, rfl, Nat.zero_le _, Nat.le_refl _, rfl, Lib.hid (Below.refl _ _), Lib.hid ⟨fun i x h => absurd h (Nat.not_lt_zero _), fun i x h hx => by have := (List.getElem?_eq_some_iff.1 hx).1; have := HL.out; omega⟩⟩
  case round =>
    obtain ⟨lo, hi, w1, rfl, rfl, hlh, hin, rfl, HB, HI⟩ := hrel
    by_cases hlt : lo < hi
    · have hlt2 : (lo : Int) < (hi : Int) := by omega
      obtain ⟨m, hm⟩ : ∃ m, (lo + hi) / 2 = m := ⟨_, rfl⟩
      have hm1 : lo ≤ m := by omega
      have hm2 : m < hi := by omega
      have hmr : m < rs.length := by have := HL.out; omega
      have hx : rs[m]? = some rs[m] := List.getElem?_eq_getElem hmr
      have C := Lib.hid (HC.out w1 HB.out m rs[m] hx)
      have em : ((lo : Int) + (hi : Int)) / 2 = (m : Int) := by omega
      by_cases h1 : f ≤ rs[m].v.fr
      · have HN := Lib.hid (show (∀ (i : Nat) (x : Rw), i < lo → rs[i]? = some x → x.v.fr < f) ∧ (∀ (i : Nat) (x : Rw), m ≤ i → rs[i]? = some x → f ≤ x.v.fr) from ⟨HI.out.1, fun i x hi2 hx2 => by
          rcases Nat.eq_or_lt_of_le hi2 with e | e
          · subst e; rw [hx] at hx2; injection hx2 with hx2; subst hx2; exact h1
          · have := HM.out m i _ _ e hx hx2; omega⟩)
        rw [decide_eq_true h1] at C
        clear h1 hx hmr hm
        go_wp2_with fail
        try rw [em]
        refine C.out.mono ?_
        rintro e w2 ⟨rfl, hb2⟩
        have HB2 := Lib.hid (HB.out.trans (hb2.mono HB.out.size))
        clear hb2 C
        go_wp2
        go_roundw
        case rel => exact ⟨lo, m, _, rfl, rfl, by omega, by omega, rfl, HB2, HN⟩
        case measure => simp [intOf]; omega
      · have HN := Lib.hid (show (∀ (i : Nat) (x : Rw), i < m + 1 → rs[i]? = some x → x.v.fr < f) ∧ (∀ (i : Nat) (x : Rw), hi ≤ i → rs[i]? = some x → f ≤ x.v.fr) from ⟨fun i x hi2 hx2 => by
          rcases Nat.eq_or_lt_of_le (Nat.le_of_lt_succ hi2) with e | e
          · subst e; rw [hx] at hx2; injection hx2 with hx2; subst hx2; omega
          · have := HM.out i m _ _ e hx2 hx; omega, HI.out.2⟩)
        rw [decide_eq_false h1] at C
        clear h1 hx hmr hm
        go_wp2_with fail
        try rw [em]
        refine C.out.mono ?_
        rintro e w2 ⟨rfl, hb2⟩
        have HB2 := Lib.hid (HB.out.trans (hb2.mono HB.out.size))
        clear hb2 C
        go_wp2
        go_roundw
        case rel => exact ⟨m + 1, hi, _, by go_num, rfl, by omega, by omega, rfl, HB2, HN⟩
        case measure => simp [intOf]; omega
    · obtain rfl : lo = hi := by omega
      go_wp2
      go_ret
      exact ⟨lo, rfl, ⟨hin, HI.out.1, HI.out.2⟩, HB.out⟩

end Trf
end Go.Proofs.Ythjlhjbblnoldaa
