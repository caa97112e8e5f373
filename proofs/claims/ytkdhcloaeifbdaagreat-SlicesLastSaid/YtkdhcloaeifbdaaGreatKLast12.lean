/-
  The change that comes last of a day counts: plain mathematics. Conditions: those of each theorem.
-/
import Derived.Test.YtkdhcloaeifbdaaGreatKFacts12
namespace Go.Proofs.YtkdhcloaeifbdaaGreat
open Go.RowKit Ba Cv Sp Te Ag Tf Sl Tm
namespace Slc
set_option linter.unusedVariables false

/-- A change that leaves the example's risk and covers. -/
structure Keeps (c : Ch) : Prop where
  r : rch c = true
  i : inn (1, 101) c.dy = true
  k : c.kd = 3 ∨ c.kd = 4 ∨ (c.kd = 1 ∧ c.r = ri1)
theorem Keeps.stay {c : Ch} (H : Keeps c) {s : Hd} (hs : s.r = ri1 ∧ s.cs = [co1]) : (don s c).r = ri1 ∧ (don s c).cs = [co1] := by
  obtain ⟨h1, h2⟩ := hs
  rcases H.k with h | h | ⟨h, h3⟩ <;> unfold don <;> simp [h, h1, h2]
  exact h3
theorem keeps_new {d k : Int} (hd : 1 ≤ d ∧ d ≤ 100) (hk : k = 3 ∨ k = 4) : Keeps ⟨1, d, k, zri, [], 0⟩ := by
  have h1 : day d = true := by unfold day wi; simp; omega
  refine ⟨?_, (inn_iff _ _).2 ⟨by show (1 : Int) ≤ 1; omega, by show (101 : Int) ≤ 292195; omega, hd.1, by show d < 101; omega⟩, ?_⟩
  · unfold rch
    rw [show day (Ch.mk 1 d k zri [] 0).bk = true from (by decide +kernel : day 1 = true), show day (Ch.mk 1 d k zri [] 0).dy = true from h1]
    rcases hk with rfl | rfl
    · show (true && (true && (rfit zri false && (cfit [] false && wfit 0 true)))) = true; decide +kernel
    · show (true && (true && (rfit zri false && (cfit [] false && wfit 0 false)))) = true; decide +kernel
  · rcases hk with rfl | rfl
    · exact .inl rfl
    · exact .inr (.inl rfl)
theorem keeps_risk {d : Int} (hd : 1 ≤ d ∧ d ≤ 100) : Keeps ⟨1, d, 1, ri1, [], 0⟩ := by
  have h1 : day d = true := by unfold day wi; simp; omega
  refine ⟨?_, (inn_iff _ _).2 ⟨by show (1 : Int) ≤ 1; omega, by show (101 : Int) ≤ 292195; omega, hd.1, by show d < 101; omega⟩, .inr (.inr ⟨rfl, rfl⟩)⟩
  unfold rch
  rw [show day (Ch.mk 1 d 1 ri1 [] 0).bk = true from (by decide +kernel : day 1 = true), show day (Ch.mk 1 d 1 ri1 [] 0).dy = true from h1]
  show (true && (true && (rfit ri1 true && (cfit [] false && wfit 0 false)))) = true; decide +kernel
/-- A change that says on or off has no covers; booked on the first day it may be all the same. -/
theorem plain_kind {c : Ch} (h : rch c = true) (h1 : c.kd ≠ 1) (h2 : c.kd ≠ 2) : (c.kd = 3 ∨ c.kd = 4) ∧ c.cs.length = 0 := by
  unfold rch at h
  rw [Bool.and_eq_true, Bool.and_eq_true] at h
  have h3 := h.2.2
  unfold pts at h3
  rw [if_neg h1, if_neg h2] at h3
  by_cases k3 : c.kd = 3
  · rw [if_pos k3] at h3
    simp [fits, cfit] at h3
    exact ⟨.inl k3, by simpa using h3.2.1⟩
  · rw [if_neg k3] at h3
    by_cases k4 : c.kd = 4
    · rw [if_pos k4] at h3
      simp [fits, cfit] at h3
      exact ⟨.inr k4, by simpa using h3.2.1⟩
    · rw [if_neg k4] at h3
      simp [fits] at h3
def bk1 (c : Ch) : Ch := ⟨1, c.dy, c.kd, c.r, c.cs, c.wy⟩
theorem keeps_bk {c : Ch} (h : rch c = true) (hi : inn (1, 101) c.dy = true) (h1 : c.kd ≠ 1) (h2 : c.kd ≠ 2) : Keeps (bk1 c) := by
  have hk := (plain_kind h h1 h2).1
  unfold rch at h
  rw [Bool.and_eq_true] at h
  refine ⟨?_, hi, hk.elim .inl fun k => .inr (.inl k)⟩
  unfold rch
  rw [Bool.and_eq_true]
  refine ⟨by show day 1 = true; decide +kernel, ?_⟩
  have h3 := h.2
  show (day c.dy && fits (bk1 c) (pts c.kd)) = true
  rw [show fits (bk1 c) (pts c.kd) = fits c (pts c.kd) by cases pts c.kd with | none => rfl | some p => rfl]
  exact h3
/-- A history of the example's terms. -/
structure Lst (h : Hi) : Prop where
  s : h.s = (1, 101)
  r : h.r = ri1
  c : h.cs = [co1]
  l : h.hs.length ≤ 2000
  k : ∀ c ∈ h.hs, Keeps c
section
variable {h : Hi} {code : Int} {ss : List Sc}
theorem Lst.hrt (L : Lst h) : hrt h = true := hrt_iff.2 ⟨by rw [L.s, L.r, L.c]; decide +kernel, L.l, fun c hc => ⟨(L.k c hc).r, by rw [L.s]; exact (L.k c hc).i⟩⟩
theorem bad_none {q : Ri → List Co → Int × Int} : ∀ {K : List (Sp × Hd)}, (∀ x ∈ K, (q x.2.r x.2.cs).2 = 0) → bad q K = 0
  | [], _ => rfl
  | x :: K, H => by rw [bad_ok (H x List.mem_cons_self)]; exact bad_none fun y hy => H y (List.mem_cons_of_mem _ hy)
theorem Lst.zero (L : Lst h) (H : OfIs h [sV] code ss) : code = 0 := by
  cases H with
  | wrong h0 h1 h2 => rw [L.hrt] at h0; cases h0
  | none h0 h1 h2 h3 => rw [L.s] at h1; exact absurd (by decide +kernel) h1
  | some h0 h1 o K h2 h3 h4 h5 =>
    rw [h4]
    refine bad_none fun x hx => ?_
    have hm := h3.ch.mem x.1 (List.mem_map.2 ⟨x, hx, rfl⟩)
    have he := h3.is x hx x.1.1 (Int.le_refl _) hm.2.1
    have hk := hld_keeps h2 (ini h) (fun s => s.r = ri1 ∧ s.cs = [co1]) ⟨L.r, L.c⟩ (fun s c hc hs => (L.k c hc).stay hs) x.1.1
    rw [he] at hk
    rw [hk.1, hk.2, L.s]
    decide +kernel
theorem Lst.is (L : Lst h) (H : OfIs h [sV] code ss) : OfIs h [sV] 0 ss := by have := L.zero H; subst this; exact H
/-- The slice of the last change's day. -/
theorem Lst.last (L : Lst h) (H : OfIs h [sV] code ss) {p : Hi} {c : Ch} (e : h.hs = p.hs ++ [c]) {d : Int} (hd : c.dy = d) : ∃ (y : Sc) (s : Hd), ss.find? (fun x => inn x.s d) = some y ∧ y.h = don s c := by
  subst hd
  obtain ⟨hr, hc, o, K, hO, hC, hb, rfl⟩ := (L.is H).ok
  have hsp := hrt_span hr
  have hi := (inn_iff _ _).1 (L.k c (by rw [e]; simp)).i
  have hi1 : 1 ≤ c.dy := hi.2.2.1
  have hi2 : c.dy < 101 := hi.2.2.2
  obtain ⟨y, hy1, hy2, hy3, hy4⟩ := find_in (q := qf (Trf.tol h.s.1 [sV])) hC hsp.1 hsp.2.2.1 (d := c.dy) (by rw [L.s]; exact hi1) (by rw [L.s]; exact hi2)
  rw [e] at hO hy4
  obtain ⟨s, hs⟩ := hld_last (h := p) (c := c) hO (ini h)
  refine ⟨y, s, hy1, ?_⟩
  rw [hs] at hy4
  rw [hy4]; rfl
/-- A change that says what holds changes nothing. -/
theorem Lst.same (L : Lst h) (H : OfIs h [sV] code ss) {x : Hi} {code2 : Int} {s2 : List Sc} (L2 : Lst x) (K : OfIs x [sV] code2 s2) {c : Ch} (e : x.hs = h.hs ++ [c]) (h1 : c.kd = 1) (h2 : c.r = ri1) : ss = s2 := by
  refine (OfIs.one (c2 := 0) (L.is H) ?_).2
  obtain ⟨kr, kc, o', K', kO, kC, kb, rfl⟩ := (L2.is K).ok
  obtain ⟨hr, hc, o, K1, hO, hC, hb, -⟩ := (L.is H).ok
  rw [L2.s] at kC kb ⊢
  have hini : ini x = ini h := by unfold ini; rw [L.r, L.c, L2.r, L2.c]
  refine .some hr hc o K' hO ?_ (by rw [L.s]; exact kb.symm) (by rw [L.s, if_pos kb])
  rw [L.s]
  refine kC.congr fun d _ _ => ?_
  rw [hini, e]
  rw [e] at kO
  exact hld_idle hO kO (ini h) (fun s => s.r = ri1) L.r (fun s y hy hs => by
    rcases (L.k y hy).k with k | k | ⟨k, k2⟩ <;> unfold don <;> simp [k, hs]
    exact k2) (fun s hs => by unfold don; rw [if_pos h1, h2, ← hs]) d
end

end Slc
end Go.Proofs.YtkdhcloaeifbdaaGreat
