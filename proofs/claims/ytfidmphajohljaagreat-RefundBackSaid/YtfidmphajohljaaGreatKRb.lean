/-
  Cancelled and revived on one day a policy that was on all the time owes what it owed: plain mathematics. Conditions: those of each theorem.
-/
import Derived.Test.YtfidmphajohljaaGreatMRda
namespace Go.Proofs.YtfidmphajohljaaGreat
open Go.RowKit Ba Cv Sp Te Ag Tf Sl Tm Slc
namespace Rfd
set_option linter.unusedVariables false
theorem ord_two {hs : List Ch} {c d : Ch} {o : List Int} (H : Ag.Ord ((hs ++ [c]) ++ [d]) o) (he : d.dy = c.dy) : ∃ o1 o2, Ag.Ord hs (o1 ++ o2) ∧ ordl ((hs ++ [c]) ++ [d]) o = ordl hs o1 ++ c :: d :: ordl hs o2 ∧ ordl hs (o1 ++ o2) = ordl hs o1 ++ ordl hs o2 ∧ o = o1 ++ (hs.length : Int) :: ((hs.length + 1 : Nat) : Int) :: o2 := by
 obtain ⟨p1, p2, rfl, K, k2, k1⟩ := ord_snoc H; obtain ⟨o1, o2, ho, J, j2, j1⟩ := ord_snoc K; have hl : ((hs ++ [c]).length : Int) = ((hs.length + 1 : Nat) : Int) := by simp
 have hin : ∀ z ∈ o1 ++ o2, 0 ≤ z ∧ z < hs.length := fun z hz => ord_at J hz
 -- the place of c stands in p1, and what stands behind it in p2
 have key : p1 = o1 ++ [(hs.length : Int)] ∧ p2 = o2 := by
  have hn1 : (hs.length : Int) ∉ p2 := fun hm => by
   have := k2 _ hm; rw [key_new, he] at this; omega
  have hn2 : ∀ z ∈ o2, z ∉ p1 := fun z hz hm => by
   have h1 := k1 z hm; have h2 := hin z (List.mem_append_right _ hz); rw [key_left h2.1 h2.2, he] at h1; have := j2 z hz; omega
  have hn3 : ∀ z ∈ o1, z ∉ p2 := fun z hz hm => by
   have h1 := k2 z hm; have h2 := hin z (List.mem_append_left _ hz); rw [key_left h2.1 h2.2, he] at h1; have := j1 z hz; omega
  rcases List.append_eq_append_iff.1 ho with ⟨t, e1, e2⟩ | ⟨t, e1, e2⟩
  ·-- o1 = p1 ++ t, p2 = t ++ n :: o2
   exact absurd (by rw [e2]; exact List.mem_append_right _ List.mem_cons_self) hn1
  ·-- p1 = o1 ++ t, n :: o2 = t ++ p2
   cases t with
   | nil =>
    rw [List.nil_append] at e2; exact absurd (by rw [← e2]; exact List.mem_cons_self) hn1
   | cons x t =>
    injection e2 with e2 e3
    subst e2; cases t with
    | nil => exact ⟨e1, by rw [e3]; rfl⟩
    | cons y t => exact absurd (by rw [e1]; simp) (hn2 y (by rw [e3]; simp))
 obtain ⟨rfl, rfl⟩ := key; obtain ⟨e1, e2⟩ := ordl_snoc (c := d) K; refine ⟨o1, p2, J, ?_, (ordl_snoc (c := c) J).2, by rw [hl]; simp⟩; rw [e1]
 have e3 : ordl (hs ++ [c]) (o1 ++ [(hs.length : Int)]) = ordl hs o1 ++ [c] := by
  unfold ordl; rw [List.map_append]
  congr 1
  ·exact List.map_congr_left fun z hz => by have := hin z (List.mem_append_left _ hz); rw [List.getElem?_append_left (by omega)]
  ·rw [List.map_cons, List.map_nil, Int.toNat_natCast, List.getElem?_append_right (Nat.le_refl _), Nat.sub_self]; rfl
 rw [e3, ordl_left fun z hz => hin z (List.mem_append_right _ hz)]; simp
theorem hld_back {h : Hi} {c d : Ch} {o o' : List Int} (H : Ag.Ord h.hs o) (H' : Ag.Ord ((h.hs ++ [c]) ++ [d]) o') (hs0 : stdy h.hs) (hc : c.kd = 3) (hd : d.kd = 4) (he : d.dy = c.dy) {i : Hd} (hi : i.on = true) (x : Int) : hld i (ordl ((h.hs ++ [c]) ++ [d]) o') x = hld i (ordl h.hs o) x := by
 obtain ⟨o1, o2, K, e1, e2, _⟩ := ord_two H' he; obtain rfl : o = o1 ++ o2 := H.one K; have hm : ∀ y ∈ ordl h.hs o1, tk y = false := fun y hy => hs0 y ((ordl_mem K).1 (by rw [e2]; exact List.mem_append_left _ hy))
 rw [e1, e2]; unfold hld ups; rw [List.filter_append, List.filter_append]; by_cases hx : c.dy ≤ x
 ·rw [List.filter_cons_of_pos (by simpa using hx), List.filter_cons_of_pos (by rw [decide_eq_true_iff, he]; exact hx), List.foldl_append, List.foldl_append, List.foldl_cons, List.foldl_cons]
  have hon : ((List.filter (fun y : Ch => decide (y.dy ≤ x)) (ordl h.hs o1)).foldl don i).on = true := by
   rw [fold_on fun y hy => hm y (List.mem_filter.1 hy).1]; exact hi
  generalize (List.filter (fun y : Ch => decide (y.dy ≤ x)) (ordl h.hs o1)).foldl don i = s at hon ⊢; rw [don_off hc, don_on hd]
  congr 1
  cases s; simp only at hon; rw [hon]
 ·rw [List.filter_cons_of_neg (by simpa using hx), List.filter_cons_of_neg (by rw [decide_eq_true_iff, he]; exact hx)]
theorem back_is {h : Hi} {vs : List Ve} {c d : Ch} {k m : Int} {s1 s2 : List Sc} (e : Ag.code h.s h.bk h.hs c = 0) (f : Ag.code h.s h.bk (h.hs ++ [c]) d = 0) (hs0 : stdy h.hs) (hc : c.kd = 3) (hd : d.kd = 4) (he : d.dy = c.dy) (H : OfIs h vs k s1) (K : OfIs (wi (wi h c) d) vs m s2) : k = m ∧ s1 = s2 := by
 have e1 := code_zero.1 e; have f1 := code_zero.1 f; rw [Bool.and_eq_true] at e1 f1
 have hh : hrt (wi (wi h c) d) = hrt h := by
  rw [Bool.eq_iff_iff, hrt_iff, hrt_iff]; constructor
  ·rintro ⟨a, b, g⟩; refine ⟨a, ?_, fun x hx => g x (List.mem_append_left _ (List.mem_append_left _ hx))⟩; have b : ((h.hs ++ [c]) ++ [d]).length ≤ 2000 := b; simp at b; omega
  ·rintro ⟨a, b, g⟩; refine ⟨a, ?_, fun x hx => ?_⟩
   ·show ((h.hs ++ [c]) ++ [d]).length ≤ 2000
    have := f1.2.2; simp at this ⊢; omega
   ·have hx : x ∈ (h.hs ++ [c]) ++ [d] := hx; rcases List.mem_append.1 hx with hx | hx
    ·rcases List.mem_append.1 hx with hx | hx
     ·exact g x hx
     ·rw [List.mem_singleton.1 hx]; exact e1.1
    ·rw [List.mem_singleton.1 hx]; exact f1.1
 cases H with
 | wrong h0 h1 h2 =>
  cases K with
  | wrong k0 k1 k2 => exact ⟨h1.trans k1.symm, h2.trans k2.symm⟩
  | none k0 _ _ _ => rw [hh, h0] at k0; cases k0
  | some k0 _ _ _ _ _ _ _ => rw [hh, h0] at k0; cases k0
 | none h0 h1 h2 h3 =>
  cases K with
  | wrong k0 k1 k2 => rw [hh, h0] at k0; cases k0
  | none k0 k1 k2 k3 => exact ⟨h2.trans k2.symm, h3.trans k3.symm⟩
  | some k0 k1 _ _ _ _ _ _ => exact absurd k1 h1
 | some h0 h1 o L h2 h3 h4 h5 =>
  cases K with
  | wrong k0 k1 k2 => rw [hh, h0] at k0; cases k0
  | none k0 k1 k2 k3 => exact absurd h1 k1
  | some k0 k1 p M k2 k3 k4 k5 =>
   have e2 : L = M := (h3.congr (k := hld (ini (wi (wi h c) d)) (ordl (wi (wi h c) d).hs p)) fun x _ _ => (hld_back h2 k2 hs0 hc hd he (i := ini h) rfl x).symm).unique k3; subst e2; exact ⟨h4.trans k4.symm, h5.trans k5.symm⟩
theorem lt_two {hs : List Ch} {c d : Ch} {o : List Int} (H : Ag.Ord ((hs ++ [c]) ++ [d]) o) (hs0 : stdy hs) (hd : tk d = true) (he : d.dy = c.dy) : ∃ z, lt ((hs ++ [c]) ++ [d]) o = some z ∧ chg ((hs ++ [c]) ++ [d]) z = d := by
 obtain ⟨o1, o2, K, _, _, rfl⟩ := ord_two H he; have hl : ((hs ++ [c]).length : Int) = ((hs.length + 1 : Nat) : Int) := by simp
 have hn : chg ((hs ++ [c]) ++ [d]) ((hs.length + 1 : Nat) : Int) = d := by rw [← hl]; exact chg_new _ _
 refine ⟨_, ?_, hn⟩; unfold lt
 have h2 : (o2.filter fun z => tk (chg ((hs ++ [c]) ++ [d]) z)) = [] := by
  rw [List.filter_eq_nil_iff]; intro z hz; have := ord_at K (List.mem_append_right _ hz); rw [chg_left this.1 (by simp; omega), chg_left this.1 this.2, hs0 _ (chg_mem this.1 this.2)]; decide
 rw [show o1 ++ (hs.length : Int) :: ((hs.length + 1 : Nat) : Int) :: o2 = (o1 ++ [(hs.length : Int)]) ++ (((hs.length + 1 : Nat) : Int) :: o2) by simp, List.filter_append, List.filter_cons_of_pos (by rw [hn]; exact hd), h2, List.getLast?_append]; rfl
theorem back {h : Hi} {vs : List Ve} {c d : Ch} {a g b j v m : Int} (e : Ag.code h.s h.bk h.hs c = 0) (f : Ag.code h.s h.bk (h.hs ++ [c]) d = 0) (hs0 : stdy h.hs) (hc : c.kd = 3) (hd : d.kd = 4) (he : d.dy = c.dy) (D : DuIs h vs a g) (E : DuIs (wi (wi h c) d) vs b j) (K : KpIs (wi (wi h c) d) vs v m) : a = b ∧ g = j ∧ v = 0 ∧ (m = 0 ∨ g ≠ 0) := by
 have hy : ∀ {v m : Int}, KpIs (wi (wi h c) d) vs v m → (∃ ss, OfIs (wi (wi h c) d) vs m ss ∧ v = 0) := by
  intro v m K; cases K with
  | bad ss cd h0 h1 h2 h3 => exact ⟨ss, by rw [h3]; exact h0, h2⟩
  | none ss h0 o ho h1 h2 h3 => exact ⟨ss, by rw [h3]; exact h0, h2⟩
  | some ss h0 o ho z hz h1 s2 cd h2 h3 h4 =>
   obtain ⟨z', e1, e2⟩ := lt_two ho hs0 (decide_eq_true (.inr hd)) he; obtain rfl : z' = z := Option.some.inj (e1.symm.trans hz); have h1 := of_decide_eq_true h1; rw [show (wi (wi h c) d).hs = (h.hs ++ [c]) ++ [d] from rfl] at h1; rw [e2] at h1; omega
 have hx : ∀ {v m : Int}, KpIs h vs v m → (∃ ss, OfIs h vs m ss ∧ v = 0) := by
  intro v m K; cases K with
  | bad ss cd h0 h1 h2 h3 => exact ⟨ss, by rw [h3]; exact h0, h2⟩
  | none ss h0 o ho h1 h2 h3 => exact ⟨ss, by rw [h3]; exact h0, h2⟩
  | some ss h0 o ho z hz h1 s2 cd h2 h3 h4 => rw [lt_none ho hs0] at hz; cases hz
 obtain ⟨sk, k0, kv⟩ := hy K; obtain ⟨a1, c1, g0, g1, g2⟩ := D.is; obtain ⟨s1, p0, pv⟩ := hx g0; obtain ⟨a2, c2, e0, e1, e2⟩ := E.is; obtain ⟨s2, q0, qv⟩ := hy e0; obtain ⟨rfl, rfl⟩ := back_is e f hs0 hc hd he p0 q0; obtain ⟨rfl, _⟩ := back_is e f hs0 hc hd he p0 k0; subst pv qv; by_cases hz : c1 = 0
 ·obtain ⟨t1, r1, r2⟩ := g2 hz; obtain ⟨t2, u1, u2⟩ := e2 hz; obtain ⟨_, rfl⟩ := back_is e f hs0 hc hd he r1 u1; obtain ⟨w1, w2⟩ := dq_one r2 u2; exact ⟨w1, w2, kv, .inl hz⟩
 ·obtain ⟨w1, w2⟩ := g1 hz; obtain ⟨y1, y2⟩ := e1 hz; exact ⟨w1.trans y1.symm, w2.trans y2.symm, kv, .inr (by rw [w2]; exact hz)⟩
end Rfd
end Go.Proofs.YtfidmphajohljaaGreat
