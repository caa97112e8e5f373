/-
  The days of a plan, and what a plan is: plain mathematics, without the model. Conditions: those of each theorem.
-/
import Derived.Test.YtncndofhecdgnaaDoorBt
import Derived.Test.YtncndofhecdgnaaDoorCal
namespace Go.Proofs.YtncndofhecdgnaaDoor
open Go.RowKit Cal
namespace Bil
set_option linter.unusedVariables false

/-- What a shift tells. -/
def ShIs (n k v c : Int) : Prop := ((n < 1 ∨ 292194 < n) ∧ v = 0 ∧ c = 3) ∨ ∃ y m d, Ymd n y m d ∧ v = shV y m d k ∧ c = shE y m d k
theorem ShIs.one {n k v c v' c' : Int} (h : ShIs n k v c) (g : ShIs n k v' c') : v = v' ∧ c = c' := by
  rcases h with ⟨a, rfl, rfl⟩ | ⟨y, m, d, a, rfl, rfl⟩
  · rcases g with ⟨_, rfl, rfl⟩ | ⟨y, m, d, b, _, _⟩
    · exact ⟨rfl, rfl⟩
    · have := b.day; omega
  · rcases g with ⟨b, _, _⟩ | ⟨y', m', d', b, rfl, rfl⟩
    · have := a.day; omega
    · obtain ⟨rfl, rfl, rfl⟩ := a.inj b
      exact ⟨rfl, rfl⟩
theorem ShIs.ex (n k : Int) : ∃ v c, ShIs n k v c := by
  by_cases h : n < 1 ∨ 292194 < n
  · exact ⟨0, 3, .inl ⟨h, rfl, rfl⟩⟩
  · obtain ⟨y, m, d, a⟩ := Ymd.of n (by omega) (by omega)
    exact ⟨_, _, .inr ⟨y, m, d, a, rfl, rfl⟩⟩
theorem ShIs.yes {n k v : Int} (h : ShIs n k v 0) : ∃ y m d, Ymd n y m d ∧ inR (at_ y m + k) = true ∧ v = shN y m d k := by
  rcases h with ⟨_, _, e⟩ | ⟨y, m, d, a, rfl, e⟩
  · cases e
  · cases hk : inR (at_ y m + k)
    · rw [(sh_out hk).2] at e; cases e
    · exact ⟨y, m, d, a, hk, (sh_in hk).1⟩
theorem ShIs.code {n k v c : Int} (h : ShIs n k v c) : c = 0 ∨ c = 3 ∧ v = 0 := by
  rcases h with ⟨_, h, e⟩ | ⟨y, m, d, a, rfl, rfl⟩
  · exact .inr ⟨e, h⟩
  · cases hk : inR (at_ y m + k)
    · exact .inr ⟨(sh_out hk).2, (sh_out hk).1⟩
    · exact .inl (sh_in hk).2
theorem ShIs.day {n k v : Int} (h : ShIs n k v 0) : 1 ≤ v ∧ v ≤ 292194 := by
  obtain ⟨y, m, d, a, hk, rfl⟩ := h.yes
  exact (a.shift hk).day
theorem ShIs.zero {n v : Int} (h : ShIs n 0 v 0) : v = n := by
  obtain ⟨y, m, d, a, hk, rfl⟩ := h.yes
  have h1 := a.m1
  have h2 := a.m2
  have e := a.eq
  have e2 := a.d2
  unfold shN shD
  rw [Int.add_zero, ya_at h1 h2, ma_at h1 h2]
  omega
theorem ShIs.up {n k j v u : Int} (h : ShIs n k v 0) (g : ShIs n j u 0) (hk : k ≤ j) : v ≤ u := by
  obtain ⟨y, m, d, a, h1, rfl⟩ := h.yes
  obtain ⟨y', m', d', b, h2, rfl⟩ := g.yes
  obtain ⟨rfl, rfl, rfl⟩ := a.inj b
  by_cases e : k = j
  · subst e; exact Int.le_refl _
  · have := (a.shift h1).lt_of (a.shift h2) (by unfold ya ma; omega)
    omega

/-- What a plan is asked for: an amount, a span that is right and has days, so many parts. -/
def asks (x : Int) (s : Int × Int) (m : Int) : Bool := decide ((0 ≤ x ∧ x ≤ 4000000000000000000) ∧ (m = 1 ∨ m = 2 ∨ m = 4 ∨ m = 12) ∧ 1 ≤ s.1 ∧ s.1 < s.2 ∧ s.2 ≤ 292195)
/-- What Plan tells. -/
inductive PlIs (x : Int) (s : Int × Int) (m : Int) (l : List Bi) (c : Int) : Prop where
  | arg (h : asks x s m = false) (hl : l = []) (hc : c = 1)
  | day (h : asks x s m = true) (i : Nat) (hi : (i : Int) < m) (v : Int) (hv : ShIs s.1 ((i : Int) * 12 / m) v 3) (hl : l = []) (hc : c = 3)
  | ok (h : asks x s m = true) (due : Nat → Int) (hd : ∀ i : Nat, (i : Int) < m → ShIs s.1 ((i : Int) * 12 / m) (due i) 0) (hl : l = pl due x m.toNat) (hc : c = 0)
theorem pl_congr {due due' : Nat → Int} {x : Int} {m : Nat} (h : ∀ i, i < m → due i = due' i) : pl due x m = pl due' x m := by
  unfold pl
  refine List.map_congr_left fun i hi => ?_
  rw [h i (List.mem_range.1 hi)]
theorem PlIs.one {x : Int} {s : Int × Int} {m : Int} {l l' : List Bi} {c c' : Int} (H : PlIs x s m l c) (K : PlIs x s m l' c') : l = l' ∧ c = c' := by
  cases H with
  | arg h hl hc =>
    cases K with
    | arg _ kl kc => exact ⟨hl.trans kl.symm, hc.trans kc.symm⟩
    | day k => rw [h] at k; cases k
    | ok k => rw [h] at k; cases k
  | day h i hi v hv hl hc =>
    cases K with
    | arg k => rw [h] at k; cases k
    | day _ _ _ _ _ kl kc => exact ⟨hl.trans kl.symm, hc.trans kc.symm⟩
    | ok _ due hd _ _ => have := (hv.one (hd i hi)).2; omega
  | ok h due hd hl hc =>
    cases K with
    | arg k => rw [h] at k; cases k
    | day _ i hi v hv _ _ => have := (hv.one (hd i hi)).2; omega
    | ok _ due' hd' kl kc =>
      refine ⟨?_, hc.trans kc.symm⟩
      rw [hl, kl]
      exact pl_congr fun i hi => ((hd i (by omega)).one (hd' i (by omega))).1
theorem asks_iff {x : Int} {s : Int × Int} {m : Int} : asks x s m = true ↔ (0 ≤ x ∧ x ≤ 4000000000000000000) ∧ (m = 1 ∨ m = 2 ∨ m = 4 ∨ m = 12) ∧ 1 ≤ s.1 ∧ s.1 < s.2 ∧ s.2 ≤ 292195 := by simp [asks]
/-- A plan is one: its days, its parts; it may be. -/
theorem PlIs.is {x : Int} {s : Int × Int} {m : Int} {l : List Bi} (H : PlIs x s m l 0) : ∃ (n : Nat) (due : Nat → Int), m = (n : Int) ∧ (n = 1 ∨ n = 2 ∨ n = 4 ∨ n = 12) ∧ (0 ≤ x ∧ x ≤ 4000000000000000000) ∧ 1 ≤ s.1 ∧ l = pl due x n ∧ (∀ i, i < n → ShIs s.1 ((i : Int) * 12 / (n : Int)) (due i) 0) ∧ due 0 = s.1 ∧ (∀ i, i < n → s.1 ≤ due i) ∧ rt l = true ∧ am l = x ∧ pd l = 0 := by
  cases H with
  | arg h hl hc => cases hc
  | day h i hi v hv hl hc => cases hc
  | ok h due hd hl hc =>
    obtain ⟨h1, h2, h3, h4, h5⟩ := asks_iff.1 h
    obtain ⟨n, rfl⟩ : ∃ n : Nat, m = (n : Int) := ⟨m.toNat, by omega⟩
    have hn : n = 1 ∨ n = 2 ∨ n = 4 ∨ n = 12 := by omega
    rw [Int.toNat_natCast] at hl
    have hd' : ∀ i : Nat, i < n → ShIs s.1 ((i : Int) * 12 / (n : Int)) (due i) 0 := fun i hi => hd i (by omega)
    have h0 : due 0 = s.1 := by
      have := hd' 0 (by omega)
      rw [show ((0 : Nat) : Int) * 12 / (n : Int) = 0 by simp] at this
      exact this.zero
    have hup : ∀ i j : Nat, i ≤ j → j < n → due i ≤ due j := fun i j hij hj => (hd' i (by omega)).up (hd' j hj) (Int.ediv_le_ediv (by omega) (by omega))
    have hs : ∀ i, i < n → s.1 ≤ due i := fun i hi => by have := hup 0 i (by omega) hi; omega
    refine ⟨n, due, rfl, hn, h1, h3, hl, hd', h0, hs, ?_, ?_, ?_⟩
    · rw [hl]; exact pl_rt (by omega) (by omega) h1 (fun i hi => (hd' i hi).day) fun i hi => hup i (i + 1) (by omega) hi
    · rw [hl]; exact pl_am (y := 0) (by omega) fun i hi => by have := hs i hi; omega
    · rw [hl]; exact (pl_later (y := 0) fun i hi => by have := hs i hi; omega).2.2.2

end Bil
end Go.Proofs.YtncndofhecdgnaaDoor
