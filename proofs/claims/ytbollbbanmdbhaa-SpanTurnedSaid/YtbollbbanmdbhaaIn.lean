/-
  How the document lays one more span into spans that are apart. No model's run in this text. Conditions: those of each theorem.
-/
import Derived.Test.YtbollbbanmdbhaaJn
namespace Go.Proofs.Ytbollbbanmdbhaa.Sp
set_option linter.unusedVariables false

/-- Those ahead, those behind, and the span as it has grown. -/
structure Laid where
  a : List Sp
  b : List Sp
  t : Sp

def lay (st : Laid) (x : Sp) : Laid :=
  if x.2 < st.t.1 then ⟨st.a ++ [x], st.b, st.t⟩
  else if st.t.2 < x.1 then ⟨st.a, st.b ++ [x], st.t⟩
  else ⟨st.a, st.b, (min x.1 st.t.1, max x.2 st.t.2)⟩
def lays (s : Sp) (xs : List Sp) : Laid := xs.foldl lay ⟨[], [], s⟩
def Laid.out (st : Laid) : List Sp := st.a ++ [st.t] ++ st.b
def intoL (xs : List Sp) (s : Sp) : List Sp := (lays s xs).out
theorem lays_snoc (s : Sp) (xs : List Sp) (x : Sp) : lays s (xs ++ [x]) = lay (lays s xs) x := by simp [lays]
theorem lays_nil (s : Sp) : lays s [] = ⟨[], [], s⟩ := rfl

/-- What holds of them. -/
structure Lies (ys : List Sp) (st : Laid) : Prop where
  apart : Apart st.out
  same : ∀ d, hit st.out d ↔ hit ys d

theorem out_apart {a b : List Sp} {t : Sp} : Apart (a ++ [t] ++ b) ↔ Apart a ∧ has t = true ∧ Apart b ∧ (∀ x ∈ a, x.2 < t.1) ∧ (∀ y ∈ b, t.2 < y.1) := by
  rw [Apart.append, Apart.append]
  constructor
  · rintro ⟨⟨h1, h2, h3⟩, h4, h5⟩
    exact ⟨h1, h2.1, h4, fun x hx => h3 x hx t (by simp), fun y hy => h5 t (by simp) y hy⟩
  · rintro ⟨h1, h2, h3, h4, h5⟩
    refine ⟨⟨h1, ⟨h2, by simp, trivial⟩, fun x hx y hy => ?_⟩, h3, fun x hx y hy => ?_⟩
    · simp at hy; subst hy; exact h4 x hx
    · have h2' := (has_iff t).1 h2
      rcases List.mem_append.1 hx with hx | hx
      · have := h4 x hx; have := h5 y hy; omega
      · simp at hx; subst hx; exact h5 y hy

theorem hit_out (a b : List Sp) (t : Sp) (d : Int) : hit (a ++ [t] ++ b) d ↔ hit a d ∨ inn t d = true ∨ hit b d := by
  rw [hit_append, hit_append, hit_cons]
  constructor
  · rintro ((h | h | h) | h)
    · exact .inl h
    · exact .inr (.inl h)
    · exact absurd h (hit_nil d)
    · exact .inr (.inr h)
  · rintro (h | h | h)
    · exact .inl (.inl h)
    · exact .inl (.inr (.inl h))
    · exact .inr h

theorem lay_lies {ys : List Sp} {st : Laid} {z : Sp} (h : Lies ys st) (hz : has z = true) (hb : ∀ y ∈ st.a ++ st.b, y.2 < z.1) : Lies (ys ++ [z]) (lay st z) := by
  obtain ⟨a, b, t⟩ := st
  have hA := h.apart
  simp only [Laid.out] at hA
  have hS := h.same
  simp only [Laid.out] at hS
  rw [out_apart] at hA
  obtain ⟨h1, h2, h3, h4, h5⟩ := hA
  have h2' := (has_iff t).1 h2
  have hz' := (has_iff z).1 hz
  have hit_one : ∀ d, hit [z] d ↔ inn z d = true := fun d => by rw [hit_cons]; exact ⟨fun h => h.resolve_right (hit_nil d), .inl⟩
  unfold lay
  simp only
  by_cases c1 : z.2 < t.1
  · rw [if_pos c1]
    refine ⟨?_, fun d => ?_⟩
    · simp only [Laid.out]
      rw [out_apart]
      refine ⟨Apart.append.2 ⟨h1, ⟨hz, by simp, trivial⟩, fun x hx y hy => ?_⟩, h2, h3, fun x hx => ?_, h5⟩
      · simp at hy; subst hy; exact hb x (by simp [hx])
      · rcases List.mem_append.1 hx with hx | hx
        · exact h4 x hx
        · simp at hx; subst hx; exact c1
    · simp only [Laid.out]
      rw [hit_out, hit_append, hit_append ys, ← hS d, hit_out, hit_one]
      constructor
      · rintro ((h | h) | h | h)
        · exact .inl (.inl h)
        · exact .inr h
        · exact .inl (.inr (.inl h))
        · exact .inl (.inr (.inr h))
      · rintro ((h | h | h) | h)
        · exact .inl (.inl h)
        · exact .inr (.inl h)
        · exact .inr (.inr h)
        · exact .inl (.inr h)
  · rw [if_neg c1]
    by_cases c2 : t.2 < z.1
    · rw [if_pos c2]
      refine ⟨?_, fun d => ?_⟩
      · simp only [Laid.out]
        rw [out_apart]
        refine ⟨h1, h2, Apart.append.2 ⟨h3, ⟨hz, by simp, trivial⟩, fun x hx y hy => ?_⟩, h4, fun y hy => ?_⟩
        · simp at hy; subst hy; exact hb x (by simp [hx])
        · rcases List.mem_append.1 hy with hy | hy
          · exact h5 y hy
          · simp at hy; subst hy; exact c2
      · simp only [Laid.out]
        rw [hit_out, hit_append, hit_append ys, ← hS d, hit_out, hit_one]
        constructor
        · rintro (h | h | h | h)
          · exact .inl (.inl h)
          · exact .inl (.inr (.inl h))
          · exact .inl (.inr (.inr h))
          · exact .inr h
        · rintro ((h | h | h) | h)
          · exact .inl h
          · exact .inr (.inl h)
          · exact .inr (.inr (.inl h))
          · exact .inr (.inr (.inr h))
    · rw [if_neg c2]
      refine ⟨?_, fun d => ?_⟩
      · simp only [Laid.out]
        rw [out_apart]
        refine ⟨h1, (has_iff _).2 (by simp only; omega), h3, fun x hx => ?_, fun y hy => ?_⟩
        · have := h4 x hx; have := hb x (by simp [hx]); simp only; omega
        · have := h5 y hy
          have := hb y (by simp [hy])
          have hy' := (has_iff y).1 (h3.has y hy)
          omega
      · simp only [Laid.out]
        rw [hit_out, hit_append ys, ← hS d, hit_out, hit_one]
        have e : inn (min z.1 t.1, max z.2 t.2) d = true ↔ inn t d = true ∨ inn z d = true := by
          have e1 := inn_iff (min z.1 t.1, max z.2 t.2) d
          simp only at e1
          rw [e1, inn_iff t, inn_iff z]
          constructor
          · intro hh
            by_cases hd : t.1 ≤ d ∧ d < t.2
            · exact .inl (by omega)
            · exact .inr (by omega)
          · rintro (hh | hh) <;> omega
        rw [e]
        constructor
        · rintro (h | (h | h) | h)
          · exact .inl (.inl h)
          · exact .inl (.inr (.inl h))
          · exact .inr h
          · exact .inl (.inr (.inr h))
        · rintro ((h | h | h) | h)
          · exact .inl h
          · exact .inr (.inl (.inl h))
          · exact .inr (.inr h)
          · exact .inr (.inl (.inr h))

theorem lays_from {s : Sp} (hs : has s = true) : ∀ (zs ys : List Sp) (st : Laid), Lies ([s] ++ ys) st → (∀ y ∈ st.a ++ st.b, y ∈ ys) → Apart (ys ++ zs) → Lies ([s] ++ (ys ++ zs)) (zs.foldl lay st) := by
  intro zs
  induction zs with
  | nil => intro ys st h _ _; simpa using h
  | cons z zs ih =>
    intro ys st h hm hA
    have e : ys ++ z :: zs = (ys ++ [z]) ++ zs := by simp
    rw [e] at hA ⊢
    have hA1 := (Apart.append.1 hA).1
    have hA2 := Apart.append.1 hA1
    have hh := lay_lies h hA2.2.1.1 (fun y hy => hA2.2.2 y (hm y hy) z (by simp))
    rw [List.append_assoc] at hh
    refine ih (ys ++ [z]) (lay st z) hh (fun y hy => ?_) hA
    unfold lay at hy
    split at hy
    · simp at hy
      rcases hy with hy | rfl | hy
      · simp [hm y (by simp [hy])]
      · simp
      · simp [hm y (by simp [hy])]
    · split at hy
      · simp at hy
        rcases hy with hy | hy | rfl
        · simp [hm y (by simp [hy])]
        · simp [hm y (by simp [hy])]
        · simp
      · simp [hm y hy]

theorem into_joined {xs ys : List Sp} {s : Sp} (h : Joined ys xs) (hs : has s = true) : Joined (ys ++ [s]) (intoL xs s) := by
  have h0 : Lies ([s] ++ []) ⟨[], [], s⟩ := ⟨⟨hs, by simp, trivial⟩, fun d => by simp [Laid.out]⟩
  have := lays_from hs xs [] ⟨[], [], s⟩ h0 (by simp) (by simpa using h.apart)
  simp only [List.nil_append] at this
  refine ⟨this.apart, fun d => (this.same d).trans ?_⟩
  rw [hit_append, hit_append, h.same d]
  exact Or.comm

theorem lay_len (st : Laid) (x : Sp) : (lay st x).a.length + (lay st x).b.length ≤ st.a.length + st.b.length + 1 := by
  unfold lay; split
  · simp; omega
  · split
    · simp; omega
    · simp
theorem lays_len (s : Sp) (xs : List Sp) : (lays s xs).a.length + (lays s xs).b.length ≤ xs.length := by
  have : ∀ (zs : List Sp) (st : Laid), (zs.foldl lay st).a.length + (zs.foldl lay st).b.length ≤ st.a.length + st.b.length + zs.length := by
    intro zs
    induction zs with
    | nil => intro st; simp
    | cons z zs ih => intro st; have h1 := ih (lay st z); have h2 := lay_len st z; simp only [List.foldl_cons, List.length_cons]; omega
  have := this xs ⟨[], [], s⟩
  simpa [lays] using this
theorem into_len (xs : List Sp) (s : Sp) : (intoL xs s).length ≤ xs.length + 1 := by
  have := lays_len s xs
  simp [intoL, Laid.out]; omega

end Go.Proofs.Ytbollbbanmdbhaa.Sp
