/-
  Plain mathematics of what a year costs: parts taken one behind the other, one cover, a row of covers. Conditions: those of each theorem. No model.
-/
import Derived.Test.YtinhhphnbbdoeaaTf
import Derived.Test.YtinhhphnbbdoeaaCv
namespace Go.Proofs.Ytinhhphnbbdoeaa
open Ba Tf Cv
namespace Qm

/-- A risk: kind, value, age, zone. -/
structure Ri where
  k : Int
  v : Int
  a : Int
  z : Int

theorem prt_mono2 {a s t : Int} (ha : 0 ≤ a) (hs : 0 ≤ s) (h : s ≤ t) : prt a s ≤ prt a t := by
  obtain ⟨a, rfl⟩ := Int.eq_ofNat_of_zero_le ha
  obtain ⟨s, rfl⟩ := Int.eq_ofNat_of_zero_le hs
  obtain ⟨t, rfl⟩ := Int.eq_ofNat_of_zero_le (a := t) (by omega)
  rw [prt_nat, prt_nat]
  have := rnd_mono (m := a * s) (n := a * t) (Nat.mul_le_mul_left _ (by omega))
  omega

/-- Parts taken one behind the other; none, if one is too great. -/
def tk (m : Int) : List Int → Option Int
  | [] => some m
  | b :: l => if 4000000000000000000 < prt m b then none else tk (prt m b) l
theorem tk_over {m b : Int} {l : List Int} (h : 4000000000000000000 < prt m b) : tk m (b :: l) = none := by simp only [tk]; rw [if_pos h]
theorem tk_next {m b : Int} {l : List Int} (h : ¬ 4000000000000000000 < prt m b) : tk m (b :: l) = tk (prt m b) l := by simp only [tk]; rw [if_neg h]
theorem tk_zero (l : List Int) : tk 0 l = some 0 := by
  induction l with
  | nil => rfl
  | cons b l ih => rw [tk_next (by rw [prt_zero]; omega), prt_zero, ih]
theorem tk_bd {m : Int} {l : List Int} {x : Int} (hm : 0 ≤ m) (hm2 : m ≤ 4000000000000000000) (h : tk m l = some x) : 0 ≤ x ∧ x ≤ 4000000000000000000 := by
  induction l generalizing m with
  | nil => injection h with h; omega
  | cons b l ih =>
    by_cases hb : 4000000000000000000 < prt m b
    · rw [tk_over hb] at h; cases h
    · rw [tk_next hb] at h
      exact ih (prt_nn _ _) (by omega) h
/-- Two rows of parts, the second one's no less. -/
def lel : List Int → List Int → Prop
  | [], [] => True
  | a :: l, b :: m => 0 ≤ a ∧ a ≤ b ∧ lel l m
  | _, _ => False
theorem tk_mono {m n : Int} {l k : List Int} {x y : Int} (hm : 0 ≤ m) (hmn : m ≤ n) (hl : lel l k) (hx : tk m l = some x) (hy : tk n k = some y) : x ≤ y := by
  induction l generalizing m n k with
  | nil =>
    match k, hl with
    | [], _ => injection hx with hx; injection hy with hy; omega
  | cons b l ih =>
    match k, hl with
    | c :: k, ⟨h0, h1, h2⟩ =>
      by_cases hb : 4000000000000000000 < prt m b
      · rw [tk_over hb] at hx; cases hx
      · by_cases hc : 4000000000000000000 < prt n c
        · rw [tk_over hc] at hy; cases hy
        · rw [tk_next hb] at hx
          rw [tk_next hc] at hy
          have q1 := prt_mono (s := b) hm hmn h0
          have q2 := prt_mono2 (a := n) (by omega) h0 h1
          exact ih (prt_nn _ _) (by omega) h2 hx hy

/-- The base of a kind; the parts that are taken. -/
def bs (v : Ve) (k : Int) : Int := if k = 0 then v.b0 else if k = 1 then v.b1 else if k = 2 then v.b2 else v.b3
def parts (v : Ve) (r : Ri) (c : Co) : List Int := [bs v r.k, bnd r.a v.ag, v.zn.getD r.z.toNat 0, v.pe.getD c.p.toNat 0, c.s]
/-- May all three be? -/
def can (v : Ve) (r : Ri) (c : Co) : Bool := ver v && (rk r.k r.v r.a r.z && ok c)
/-- What a year of a cover costs, and the code. -/
def qd (v : Ve) (r : Ri) (c : Co) : Int × Int :=
  if can v r c = true then (if (v.zn.length : Int) ≤ r.z then (0, 7) else match tk r.v (parts v r c) with
    | none => (0, 5)
    | some m => (max m v.mn, 0)) else (0, 1)
theorem qd_arg {v : Ve} {r : Ri} {c : Co} (h : can v r c = false) : qd v r c = (0, 1) := by unfold qd; rw [h]; rfl
theorem qd_none {v : Ve} {r : Ri} {c : Co} (h : can v r c = true) (hz : (v.zn.length : Int) ≤ r.z) : qd v r c = (0, 7) := by unfold qd; rw [if_pos h, if_pos hz]
theorem qd_over {v : Ve} {r : Ri} {c : Co} (h : can v r c = true) (hz : ¬ (v.zn.length : Int) ≤ r.z) (ht : tk r.v (parts v r c) = none) : qd v r c = (0, 5) := by unfold qd; rw [if_pos h, if_neg hz, ht]
theorem qd_ok {v : Ve} {r : Ri} {c : Co} {m : Int} (h : can v r c = true) (hz : ¬ (v.zn.length : Int) ≤ r.z) (ht : tk r.v (parts v r c) = some m) : qd v r c = (max m v.mn, 0) := by unfold qd; rw [if_pos h, if_neg hz, ht]
theorem qd_cases (v : Ve) (r : Ri) (c : Co) : qd v r c = (0, 1) ∨ qd v r c = (0, 7) ∨ qd v r c = (0, 5) ∨ ∃ m, can v r c = true ∧ ¬ (v.zn.length : Int) ≤ r.z ∧ tk r.v (parts v r c) = some m ∧ qd v r c = (max m v.mn, 0) := by
  cases h : can v r c
  · exact .inl (qd_arg h)
  · by_cases hz : (v.zn.length : Int) ≤ r.z
    · exact .inr (.inl (qd_none h hz))
    · cases ht : tk r.v (parts v r c) with
      | none => exact .inr (.inr (.inl (qd_over h hz ht)))
      | some m => exact .inr (.inr (.inr ⟨m, rfl, hz, rfl, qd_ok h hz ht⟩))
theorem can_iff {v : Ve} {r : Ri} {c : Co} : can v r c = true ↔ ver v = true ∧ rk r.k r.v r.a r.z = true ∧ Ok c := by
  unfold can; rw [Bool.and_eq_true, Bool.and_eq_true, ok_iff]

theorem fac_iff {xs : List Int} : fac xs = true ↔ ∀ x ∈ xs, 0 ≤ x ∧ x ≤ 100000 := by
  induction xs with
  | nil => simp [fac]
  | cons x xs ih =>
    unfold fac
    rw [Bool.and_eq_true, wi_iff, ih]
    constructor
    · rintro ⟨h1, h2⟩ y hy
      rcases List.mem_cons.1 hy with rfl | hy
      · exact h1
      · exact h2 y hy
    · intro h
      exact ⟨h x (by simp), fun y hy => h y (by simp [hy])⟩
/-- What a version that may be is. -/
structure Vok (v : Ve) : Prop where
  mn : 0 ≤ v.mn ∧ v.mn ≤ 1000000000000000
  zl : 1 ≤ v.zn.length ∧ v.zn.length ≤ 100
  pl : v.pe.length = 8
  b : (0 ≤ v.b0 ∧ v.b0 ≤ 100000) ∧ (0 ≤ v.b1 ∧ v.b1 ≤ 100000) ∧ (0 ≤ v.b2 ∧ v.b2 ≤ 100000) ∧ (0 ≤ v.b3 ∧ v.b3 ≤ 100000)
  z : ∀ x ∈ v.zn, 0 ≤ x ∧ x ≤ 100000
  p : ∀ x ∈ v.pe, 0 ≤ x ∧ x ≤ 100000
  a : ∀ x ∈ v.ag, 0 ≤ x.2 ∧ x.2 ≤ 100000
theorem vok {v : Ve} (h : ver v = true) : Vok v := by
  unfold ver at h
  simp only [Bool.and_eq_true, decide_eq_true_eq] at h
  obtain ⟨_, h1, h2, h3, h4, h5, h6, h7⟩ := h
  have h1 := wi_iff.1 h1
  have h2 := wi_iff.1 h2
  have h4 := fac_iff.1 h4
  refine ⟨h1, by omega, h3, ⟨h4 _ (by simp), h4 _ (by simp), h4 _ (by simp), h4 _ (by simp)⟩, fac_iff.1 h5, fac_iff.1 h6, fun x hx => ?_⟩
  unfold bds at h7
  rw [Bool.and_eq_true] at h7
  exact (okL_mem h7.2 x hx).2.2
theorem bnd_bd {age : Int} {l : List Pr} (h : ∀ x ∈ l, 0 ≤ x.2 ∧ x.2 ≤ 100000) : 0 ≤ bnd age l ∧ bnd age l ≤ 100000 := by
  induction l with
  | nil => simp only [bnd]; omega
  | cons y ys ih =>
    by_cases hy : y.1 < age
    · rw [bnd_up hy]; exact ih fun x hx => h x (by simp [hx])
    · rw [bnd_at hy]; exact h y (by simp)
theorem getD_bd {l : List Int} {k : Nat} (h : ∀ x ∈ l, 0 ≤ x ∧ x ≤ 100000) : 0 ≤ l.getD k 0 ∧ l.getD k 0 ≤ 100000 := by
  rw [List.getD_eq_getElem?_getD]
  cases e : l[k]? with
  | none => simp
  | some x => exact h x (List.mem_of_getElem? e)
theorem bs_bd {v : Ve} (h : Vok v) (k : Int) : 0 ≤ bs v k ∧ bs v k ≤ 100000 := by
  unfold bs
  obtain ⟨h0, h1, h2, h3⟩ := h.b
  split
  · exact h0
  · split
    · exact h1
    · split
      · exact h2
      · exact h3
/-- All parts are numbers of the calendar of factors. -/
theorem parts_bd {v : Ve} {r : Ri} {c : Co} (h : can v r c = true) : ∀ x ∈ parts v r c, 0 ≤ x ∧ x ≤ 100000 := by
  obtain ⟨h1, _, h3⟩ := can_iff.1 h
  have hv := vok h1
  obtain ⟨_, _, g1, g2, _⟩ := h3
  intro x hx
  simp only [parts, List.mem_cons, List.not_mem_nil, or_false] at hx
  rcases hx with rfl | rfl | rfl | rfl | rfl
  · exact bs_bd hv _
  · exact bnd_bd hv.a
  · exact getD_bd hv.z
  · exact getD_bd hv.p
  · omega
theorem qd_bd (v : Ve) (r : Ri) (c : Co) : 0 ≤ (qd v r c).1 ∧ (qd v r c).1 ≤ 4000000000000000000 ∧ 0 ≤ (qd v r c).2 ∧ (qd v r c).2 ≤ 7 ∧ ((qd v r c).2 ≠ 0 → (qd v r c).1 = 0) := by
  rcases qd_cases v r c with h | h | h | ⟨m, hc, _, ht, h⟩
  · rw [h]; simp
  · rw [h]; simp
  · rw [h]; simp
  · obtain ⟨h1, h2, _⟩ := can_iff.1 hc
    have hr := rk_iff.1 h2
    have b := tk_bd (by omega) (by omega) ht
    have hv := (vok h1).mn
    rw [h]
    refine ⟨by simp only; omega, by simp only; omega, by simp, by simp, by simp⟩
/-- No cover costs less than the least. -/
theorem qd_min {v : Ve} {r : Ri} {c : Co} (h : (qd v r c).2 = 0) : v.mn ≤ (qd v r c).1 ∧ can v r c = true := by
  rcases qd_cases v r c with e | e | e | ⟨m, hc, _, _, e⟩
  · rw [e] at h; simp at h
  · rw [e] at h; simp at h
  · rw [e] at h; simp at h
  · rw [e]; exact ⟨by simp only; omega, hc⟩

/-- A row of covers: the sum so far, and those that are left. -/
def yr (f : Co → Int × Int) (acc : Int) : List Co → Int × Int
  | [] => if 4000000000000000000 < acc then (0, 5) else (acc, 0)
  | c :: l => if (f c).2 = 0 then yr f (acc + (f c).1) l else (0, (f c).2)
def tot (f : Co → Int × Int) : List Co → Int
  | [] => 0
  | c :: l => (f c).1 + tot f l
theorem yr_step {f : Co → Int × Int} {acc : Int} {c : Co} {l : List Co} (h : (f c).2 = 0) : yr f acc (c :: l) = yr f (acc + (f c).1) l := by simp only [yr]; rw [if_pos h]
theorem yr_err {f : Co → Int × Int} {acc : Int} {c : Co} {l : List Co} (h : (f c).2 ≠ 0) : yr f acc (c :: l) = (0, (f c).2) := by simp only [yr]; rw [if_neg h]
theorem yr_over {f : Co → Int × Int} {acc : Int} (h : 4000000000000000000 < acc) : yr f acc [] = (0, 5) := by simp only [yr]; rw [if_pos h]
theorem yr_done {f : Co → Int × Int} {acc : Int} (h : ¬ 4000000000000000000 < acc) : yr f acc [] = (acc, 0) := by simp only [yr]; rw [if_neg h]
theorem yr_all {f : Co → Int × Int} {acc : Int} {l : List Co} (h : ∀ c ∈ l, (f c).2 = 0) : yr f acc l = if 4000000000000000000 < acc + tot f l then (0, 5) else (acc + tot f l, 0) := by
  induction l generalizing acc with
  | nil => simp only [yr, tot, Int.add_zero]
  | cons c l ih =>
    have e : acc + (f c).1 + tot f l = acc + tot f (c :: l) := by simp only [tot]; omega
    rw [yr_step (h c (by simp)), ih fun x hx => h x (by simp [hx]), e]
theorem yr_code {f : Co → Int × Int} {acc : Int} {l : List Co} : (yr f acc l).2 = 0 ↔ (∀ c ∈ l, (f c).2 = 0) ∧ acc + tot f l ≤ 4000000000000000000 := by
  induction l generalizing acc with
  | nil =>
    simp only [yr, tot, Int.add_zero]
    by_cases h : 4000000000000000000 < acc
    · rw [if_pos h]; constructor
      · intro e; exact absurd e (by decide)
      · rintro ⟨_, e⟩; omega
    · rw [if_neg h]; exact ⟨fun _ => ⟨(fun c hc => by cases hc), by omega⟩, fun _ => rfl⟩
  | cons c l ih =>
    by_cases h : (f c).2 = 0
    · rw [yr_step h, ih]
      simp only [tot]
      constructor
      · rintro ⟨h1, h2⟩
        refine ⟨fun x hx => ?_, by omega⟩
        rcases List.mem_cons.1 hx with rfl | hx
        · exact h
        · exact h1 x hx
      · rintro ⟨h1, h2⟩
        exact ⟨fun x hx => h1 x (by simp [hx]), by omega⟩
    · rw [yr_err h]
      exact ⟨fun e => absurd e h, fun e => absurd (e.1 c (by simp)) h⟩
theorem yr_val {f : Co → Int × Int} {acc : Int} {l : List Co} (h : (yr f acc l).2 = 0) : (yr f acc l).1 = acc + tot f l := by
  obtain ⟨h1, h2⟩ := yr_code.1 h
  rw [yr_all h1, if_neg (by omega)]
theorem yr_no {f : Co → Int × Int} {acc : Int} {l : List Co} (h : (yr f acc l).2 ≠ 0) : (yr f acc l).1 = 0 := by
  induction l generalizing acc with
  | nil =>
    simp only [yr] at h ⊢
    split at h <;> rename_i hh
    · rw [if_pos hh]
    · exact absurd rfl h
  | cons c l ih =>
    by_cases hc : (f c).2 = 0
    · rw [yr_step hc] at h ⊢; exact ih h
    · rw [yr_err hc]
theorem tot_append (f : Co → Int × Int) (l m : List Co) : tot f (l ++ m) = tot f l + tot f m := by
  induction l with
  | nil => simp [tot]
  | cons c l ih => simp only [List.cons_append, tot, ih]; omega
theorem tot_rev (f : Co → Int × Int) (l : List Co) : tot f l.reverse = tot f l := by
  induction l with
  | nil => rfl
  | cons c l ih => rw [List.reverse_cons, tot_append, ih]; simp only [tot]; omega
theorem tot_least {f : Co → Int × Int} {l : List Co} {m : Int} (h : ∀ c ∈ l, m ≤ (f c).1) : m * l.length ≤ tot f l := by
  induction l with
  | nil => simp [tot]
  | cons c l ih =>
    have h1 := h c (by simp)
    have h2 := ih fun x hx => h x (by simp [hx])
    simp only [tot, List.length_cons]
    rw [show (((l.length + 1 : Nat)) : Int) = (l.length : Int) + 1 by omega, Int.mul_add, Int.mul_one]
    omega
theorem tot_nn {f : Co → Int × Int} {l : List Co} (h : ∀ c, 0 ≤ (f c).1) : 0 ≤ tot f l := by
  induction l with
  | nil => exact Int.le_refl _
  | cons c l ih => have := h c; simp only [tot]; omega
/-- Turned round it is the same. -/
theorem yr_rev {f : Co → Int × Int} {l : List Co} : ((yr f 0 l).2 = 0 ↔ (yr f 0 l.reverse).2 = 0) ∧ (yr f 0 l).1 = (yr f 0 l.reverse).1 := by
  have h : (yr f 0 l).2 = 0 ↔ (yr f 0 l.reverse).2 = 0 := by
    rw [yr_code, yr_code, tot_rev]
    simp only [List.mem_reverse]
  refine ⟨h, ?_⟩
  by_cases e : (yr f 0 l).2 = 0
  · rw [yr_val e, yr_val (h.1 e), tot_rev]
  · rw [yr_no e, yr_no (fun e2 => e (h.2 e2))]
/-- Of two rows it is the sum. -/
theorem yr_two {f : Co → Int × Int} (hf : ∀ c, 0 ≤ (f c).1) {l m : List Co} (h : (yr f 0 (l ++ m)).2 = 0) : (yr f 0 l).2 = 0 ∧ (yr f 0 m).2 = 0 ∧ (yr f 0 (l ++ m)).1 = (yr f 0 l).1 + (yr f 0 m).1 := by
  obtain ⟨h1, h2⟩ := yr_code.1 h
  rw [tot_append] at h2
  have n1 := tot_nn (l := l) hf
  have n2 := tot_nn (l := m) hf
  have a : (yr f 0 l).2 = 0 := yr_code.2 ⟨fun c hc => h1 c (by simp [hc]), by omega⟩
  have b : (yr f 0 m).2 = 0 := yr_code.2 ⟨fun c hc => h1 c (by simp [hc]), by omega⟩
  refine ⟨a, b, ?_⟩
  rw [yr_val h, yr_val a, yr_val b, tot_append]
  omega
theorem yr_bd {f : Co → Int × Int} (hf : ∀ c, 0 ≤ (f c).1) (l : List Co) : 0 ≤ (yr f 0 l).1 ∧ (yr f 0 l).1 ≤ 4000000000000000000 := by
  by_cases e : (yr f 0 l).2 = 0
  · have := tot_nn (l := l) hf
    have h2 := (yr_code.1 e).2
    rw [yr_val e]; omega
  · rw [yr_no e]; omega

end Qm
end Go.Proofs.Ytinhhphnbbdoeaa
