/-
  What Of tells, in the laws' words: plain mathematics. Conditions: those of each theorem.
-/
import Derived.Test.YtkdhcloaeifbdaaGreatMAw
namespace Go.Proofs.YtkdhcloaeifbdaaGreat
open Go.RowKit Ba Cv Sp Te Ag Tf Sl Tm
namespace Slc
set_option linter.unusedVariables false

theorem qf_nn (v : Ve) (x : Ri) (cs : List Co) : 0 ≤ (qf v x cs).1 := (Qm.yr_bd (fun c => (Qm.qd_bd v x c).1) cs).1
section
variable {h : Hi} {vs : List Ve} {code : Int} {ss : List Sc}
theorem OfIs.nil (H : OfIs h vs code ss) (hc : code ≠ 0) : ss = [] := by
  cases H with
  | wrong h0 h1 h2 => exact h2
  | none h0 h1 h2 h3 => exact h3
  | some h0 h1 o L h2 h3 h4 h5 => rw [h5, if_neg (by rw [← h4]; exact hc)]
theorem OfIs.ok (H : OfIs h vs 0 ss) : hrt h = true ∧ Trf.cod h.s.1 vs = 0 ∧ ∃ o L, Ag.Ord h.hs o ∧ Cutd (hld (ini h) (ordl h.hs o)) h.s.1 h.s.2 L ∧ bad (qf (Trf.tol h.s.1 vs)) L = 0 ∧ ss = L.map (prc (qf (Trf.tol h.s.1 vs))) := by
  cases H with
  | wrong h0 h1 h2 => omega
  | none h0 h1 h2 h3 => exact absurd h2.symm h1
  | some h0 h1 o L h2 h3 h4 h5 => exact ⟨h0, h1, o, L, h2, h3, h4.symm, by rw [h5, if_pos h4.symm]⟩
end
theorem hrt_span {h : Hi} (hr : hrt h = true) : 1 ≤ h.s.1 ∧ h.s.1 < h.s.2 ∧ h.s.2 ≤ 292195 ∧ h.s.2 - h.s.1 ≤ 1100 := (te_iff.1 (hrt_iff.1 hr).1).1
section
variable {g : Int → Hd} {s : Sp} {L : List (Sp × Hd)} {q : Ri → List Co → Int × Int}
/-- The slice of a day of the span. -/
theorem find_in (H : Cutd g s.1 s.2 L) (h1 : 1 ≤ s.1) (h2 : s.2 ≤ 292195) {d : Int} (hd1 : s.1 ≤ d) (hd2 : d < s.2) : ∃ y, (L.map (prc q)).find? (fun x => inn x.s d) = some y ∧ y.s.1 ≤ d ∧ d < y.s.2 ∧ y = prc q (y.s, g d) := by
  obtain ⟨x, hx, hx1, hx2, hx3⟩ := H.mem hd1 hd2
  have hm := H.ch.mem x.1 (List.mem_map.2 ⟨x, hx, rfl⟩)
  have hs : ((L.map (prc q)).find? (fun x => inn x.s d)).isSome = true := by
    rw [List.find?_isSome]
    exact ⟨prc q x, List.mem_map.2 ⟨x, hx, rfl⟩, (inn_iff _ _).2 ⟨by show 1 ≤ x.1.1; omega, by show x.1.2 ≤ 292195; omega, hx1, hx2⟩⟩
  obtain ⟨y, hy⟩ := Option.isSome_iff_exists.1 hs
  have hyi : inn y.s d = true := List.find?_some (p := fun x : Sc => inn x.s d) hy
  obtain ⟨z, hz, rfl⟩ := List.mem_map.1 (List.mem_of_find?_eq_some hy)
  have hyi := (inn_iff _ _).1 hyi
  refine ⟨_, hy, hyi.2.2.1, hyi.2.2.2, ?_⟩
  have e : z = (z.1, g d) := Prod.ext rfl (H.is z hz d hyi.2.2.1 hyi.2.2.2).symm
  show prc q z = prc q (z.1, g d)
  rw [← e]
theorem find_out (H : Cutd g s.1 s.2 L) {d : Int} (hd : ¬ (s.1 ≤ d ∧ d < s.2)) : (L.map (prc q)).find? (fun x => inn x.s d) = none := by
  rw [List.find?_eq_none]
  intro y hy hi
  obtain ⟨z, hz, rfl⟩ := List.mem_map.1 hy
  have hm := H.ch.mem z.1 (List.mem_map.2 ⟨z, hz, rfl⟩)
  have hi := (inn_iff _ _).1 hi
  have h1 : z.1.1 ≤ d := hi.2.2.1
  have h2 : d < z.1.2 := hi.2.2.2
  exact hd ⟨by omega, by omega⟩
theorem prc_s (x : Sp × Hd) : (prc q x).s = x.1 := rfl
theorem prc_h (x : Sp × Hd) : (prc q x).h = x.2 := rfl
theorem prc_y (x : Sp × Hd) (hq : ∀ x cs, 0 ≤ (q x cs).1) : 0 ≤ (prc q x).y ∧ (x.2.on = false → (prc q x).y = 0) := by
  unfold prc
  cases h : x.2.on
  · exact ⟨by show (0 : Int) ≤ 0; omega, fun _ => rfl⟩
  · exact ⟨hq _ _, fun e => by cases e⟩
end
theorem fnd_map {rs : List Rw} {ss : List Sc} (h : rs.map Rw.v = ss) (d : Int) : fnd rs d = ss.find? fun x => inn x.s d := by unfold fnd; rw [h]
theorem chain_at {t : Int} {xs : List Sp} {i : Nat} {x : Sp} {a : Int} (h : Chain a t (xs.drop i)) (hx : xs[i]? = some x) : x.1 = a ∧ a < x.2 ∧ Chain x.2 t (xs.drop (i + 1)) := by
  rw [drop_get hx] at h
  exact ⟨h.1, by have := h.1; have := h.2.1; omega, h.2.2⟩

/-- One more change, booked behind all others: where it stands by the days. -/
theorem key_left {hs : List Ch} {c : Ch} {x : Int} (h0 : 0 ≤ x) (h1 : x < hs.length) : key (hs ++ [c]) x = key hs x := by
  unfold key
  rw [List.getElem?_append_left (by omega)]
theorem key_new (hs : List Ch) (c : Ch) : key (hs ++ [c]) (hs.length : Int) = c.dy := by
  unfold key
  rw [Int.toNat_natCast, List.getElem?_append_right (Nat.le_refl _), Nat.sub_self]; rfl
theorem ord_snoc {hs : List Ch} {c : Ch} {o : List Int} (H : Ag.Ord (hs ++ [c]) o) : ∃ o1 o2, o = o1 ++ (hs.length : Int) :: o2 ∧ Ag.Ord hs (o1 ++ o2) ∧ (∀ z ∈ o2, c.dy < key hs z) ∧ (∀ z ∈ o1, key hs z ≤ c.dy) := by
  have hmem : (hs.length : Int) ∈ o := H.1.mem_iff.2 (plc_mem.2 ⟨by omega, by rw [List.length_append, List.length_singleton]; omega⟩)
  obtain ⟨o1, o2, rfl⟩ := List.append_of_mem hmem
  have hp : List.Perm (o1 ++ o2) (plc hs.length) := by
    have h1 : List.Perm (o1 ++ (hs.length : Int) :: o2) ((hs.length : Int) :: (o1 ++ o2)) := List.perm_middle
    have h2 : List.Perm (plc (hs ++ [c]).length) ((hs.length : Int) :: plc hs.length) := by
      rw [List.length_append, List.length_singleton, plc_next]
      exact List.perm_append_singleton _ _
    exact ((h1.symm.trans H.1).trans h2).cons_inv
  have hin : ∀ z ∈ o1 ++ o2, 0 ≤ z ∧ z < hs.length := fun z hz => plc_mem.1 (hp.mem_iff.1 hz)
  have hs2 := H.2
  have hsub : List.Pairwise (St.lt (key (hs ++ [c]))) (o1 ++ o2) := hs2.sublist (List.Sublist.append_left (List.sublist_cons_self _ _) _)
  refine ⟨o1, o2, rfl, ⟨hp, ?_⟩, fun z hz => ?_, fun z hz => ?_⟩
  · refine hsub.imp_of_mem fun {a b} ha hb hab => ?_
    unfold St.lt at hab ⊢
    have ka := hin a ha
    have kb := hin b hb
    rwa [key_left ka.1 ka.2, key_left kb.1 kb.2] at hab
  · have h1 := (List.pairwise_cons.1 (List.pairwise_append.1 hs2).2.1).1 z hz
    have hz2 := hin z (List.mem_append_right _ hz)
    unfold St.lt at h1
    rw [key_new, key_left hz2.1 hz2.2] at h1
    omega
  · have h1 := (List.pairwise_append.1 hs2).2.2 z hz (hs.length : Int) List.mem_cons_self
    have hz2 := hin z (List.mem_append_left _ hz)
    unfold St.lt at h1
    rw [key_new, key_left hz2.1 hz2.2] at h1
    omega
theorem ordl_left {hs : List Ch} {c : Ch} {o : List Int} (h : ∀ z ∈ o, 0 ≤ z ∧ z < hs.length) : ordl (hs ++ [c]) o = ordl hs o := by
  unfold ordl
  refine List.map_congr_left fun z hz => ?_
  have := h z hz
  rw [List.getElem?_append_left (by omega)]
theorem ordl_snoc {hs : List Ch} {c : Ch} {o1 o2 : List Int} (H : Ag.Ord hs (o1 ++ o2)) : ordl (hs ++ [c]) (o1 ++ (hs.length : Int) :: o2) = ordl hs o1 ++ c :: ordl hs o2 ∧ ordl hs (o1 ++ o2) = ordl hs o1 ++ ordl hs o2 := by
  have hin : ∀ z ∈ o1 ++ o2, 0 ≤ z ∧ z < hs.length := fun z hz => ord_at H hz
  refine ⟨?_, by simp [ordl]⟩
  have h1 : ordl (hs ++ [c]) o1 = ordl hs o1 := ordl_left fun z hz => hin z (List.mem_append_left _ hz)
  have h2 : ordl (hs ++ [c]) o2 = ordl hs o2 := ordl_left fun z hz => hin z (List.mem_append_right _ hz)
  have h3 : ((hs ++ [c])[((hs.length : Nat) : Int).toNat]?).getD zch = c := by
    rw [Int.toNat_natCast, List.getElem?_append_right (Nat.le_refl _), Nat.sub_self]; rfl
  rw [← h1, ← h2]
  unfold ordl
  rw [List.map_append, List.map_cons, h3]
theorem ordl_key {hs : List Ch} {o : List Int} {d : Int} {p : Int → Prop} (h : ∀ z ∈ o, p (key hs z)) : ∀ c ∈ ordl hs o, p c.dy := by
  intro c hc
  obtain ⟨z, hz, rfl⟩ := List.mem_map.1 hc
  rw [← key_getD]; exact h z hz
/-- Ahead of its day it plays no part. -/
theorem hld_ahead {h : Hi} {c : Ch} {o o' : List Int} (H : Ag.Ord h.hs o) (H' : Ag.Ord (h.hs ++ [c]) o') {d : Int} (hd : d < c.dy) (i : Hd) : hld i (ordl (h.hs ++ [c]) o') d = hld i (ordl h.hs o) d := by
  obtain ⟨o1, o2, rfl, K, k2, k1⟩ := ord_snoc H'
  obtain rfl : o = o1 ++ o2 := H.one K
  obtain ⟨e1, e2⟩ := ordl_snoc (c := c) K
  rw [e1, e2]
  unfold hld ups
  rw [List.filter_append, List.filter_cons_of_neg (by simp; omega), List.filter_append]
/-- From its day on, up to the next one, it has the last word. -/
theorem hld_last {h : Hi} {c : Ch} {o' : List Int} (H' : Ag.Ord (h.hs ++ [c]) o') (i : Hd) : ∃ s : Hd, hld i (ordl (h.hs ++ [c]) o') c.dy = don s c := by
  obtain ⟨o1, o2, rfl, K, k2, k1⟩ := ord_snoc H'
  obtain ⟨e1, e2⟩ := ordl_snoc (c := c) K
  rw [e1]
  unfold hld ups
  have h2 : List.filter (fun x : Ch => decide (x.dy ≤ c.dy)) (ordl h.hs o2) = [] := by
    rw [List.filter_eq_nil_iff]
    intro x hx
    have := ordl_key (d := 0) (p := fun k => c.dy < k) k2 x hx
    simp; omega
  rw [List.filter_append, List.filter_cons_of_pos (by simp), h2, List.foldl_append]
  exact ⟨_, rfl⟩
/-- A change that says what holds changes nothing. -/
theorem hld_idle {h : Hi} {c : Ch} {o o' : List Int} (H : Ag.Ord h.hs o) (H' : Ag.Ord (h.hs ++ [c]) o') (i : Hd) (P : Hd → Prop) (hi : P i) (hstep : ∀ s x, x ∈ h.hs → P s → P (don s x)) (hc : ∀ s, P s → don s c = s) (d : Int) : hld i (ordl (h.hs ++ [c]) o') d = hld i (ordl h.hs o) d := by
  obtain ⟨o1, o2, rfl, K, k2, k1⟩ := ord_snoc H'
  obtain rfl : o = o1 ++ o2 := H.one K
  obtain ⟨e1, e2⟩ := ordl_snoc (c := c) K
  have hm : ∀ x ∈ ordl h.hs o1, x ∈ h.hs := fun x hx => (ordl_mem K).1 (by rw [e2]; exact List.mem_append_left _ hx)
  have key : ∀ (l : List Ch) (s : Hd), (∀ x ∈ l, x ∈ h.hs) → P s → P (l.foldl don s) := by
    intro l
    induction l with
    | nil => intro s _ hs; exact hs
    | cons x l ih => intro s hl hs; exact ih _ (fun y hy => hl y (List.mem_cons_of_mem _ hy)) (hstep s x (hl x List.mem_cons_self) hs)
  rw [e1, e2]
  unfold hld ups
  rw [List.filter_append, List.filter_append]
  by_cases hd : c.dy ≤ d
  · rw [List.filter_cons_of_pos (by simpa using hd), List.foldl_append, List.foldl_append, List.foldl_cons, hc _ (key _ _ (fun x hx => hm x (List.mem_filter.1 hx).1) hi)]
  · rw [List.filter_cons_of_neg (by simpa using hd)]
/-- What holds obeys whatever each change keeps. -/
theorem hld_keeps {h : Hi} {o : List Int} (H : Ag.Ord h.hs o) (i : Hd) (P : Hd → Prop) (hi : P i) (hstep : ∀ s x, x ∈ h.hs → P s → P (don s x)) (d : Int) : P (hld i (ordl h.hs o) d) := by
  have key : ∀ (l : List Ch) (s : Hd), (∀ x ∈ l, x ∈ h.hs) → P s → P (l.foldl don s) := by
    intro l
    induction l with
    | nil => intro s _ hs; exact hs
    | cons x l ih => intro s hl hs; exact ih _ (fun y hy => hl y (List.mem_cons_of_mem _ hy)) (hstep s x (hl x List.mem_cons_self) hs)
  exact key _ _ (fun x hx => (ordl_mem H).1 (List.mem_filter.1 hx).1) hi

end Slc
end Go.Proofs.YtkdhcloaeifbdaaGreat
