/-
  How spans that come by their first days are joined, one by one; how the document lays one more span into spans that are apart. No model's run in this text. Conditions: those of each theorem.
-/
import Derived.Test.YtheamhjgohacdaaSp
namespace Go.Proofs.Ytheamhjgohacdaa.Sp
set_option linter.unusedVariables false

/-- One more span, behind those that are joined. -/
def js (acc : List Sp) (s : Sp) : List Sp :=
  match acc.getLast? with
  | none => [s]
  | some l => if s.1 ≤ l.2 then acc.dropLast ++ [(l.1, max l.2 s.2)] else acc ++ [s]
theorem js_nil (s : Sp) : js [] s = [s] := rfl
theorem js_join {a : List Sp} {p q : Int} {s : Sp} (h : s.1 ≤ q) : js (a ++ [(p, q)]) s = a ++ [(p, max q s.2)] := by
  unfold js; simp [h]
theorem js_more {a : List Sp} {p q : Int} {s : Sp} (h : ¬ s.1 ≤ q) : js (a ++ [(p, q)]) s = a ++ [(p, q)] ++ [s] := by
  unfold js; simp [h]
theorem snoc_of {a : List Sp} (h : a ≠ []) : ∃ b p q, a = b ++ [(p, q)] := ⟨a.dropLast, (a.getLast h).1, (a.getLast h).2, (List.dropLast_concat_getLast h).symm⟩
theorem js_len (a : List Sp) (s : Sp) : (js a s).length ≤ a.length + 1 := by
  by_cases h : a = []
  · subst h; simp [js_nil]
  · obtain ⟨b, p, q, rfl⟩ := snoc_of h
    by_cases hh : s.1 ≤ q
    · rw [js_join hh]; simp
    · rw [js_more hh]; simp
def jf (xs : List Sp) : List Sp := xs.foldl js []
theorem jf_snoc (xs : List Sp) (s : Sp) : jf (xs ++ [s]) = js (jf xs) s := by simp [jf]
theorem fold_len (xs acc : List Sp) : (xs.foldl js acc).length ≤ acc.length + xs.length := by
  induction xs generalizing acc with
  | nil => simp
  | cons x xs ih =>
    have h1 := ih (js acc x)
    have h2 := js_len acc x
    simp only [List.foldl_cons, List.length_cons]; omega
theorem jf_len (xs : List Sp) : (jf xs).length ≤ xs.length := by have := fold_len xs []; simpa [jf] using this

/-- What holds of those that are joined so far. -/
structure Runs (ys acc : List Sp) : Prop where
  join : Joined ys acc
  first : ∀ z ∈ acc, ∃ y ∈ ys, y.1 = z.1

theorem runs_step {ys acc : List Sp} {s : Sp} (h : Runs ys acc) (hs : has s = true) (hr : ∀ y ∈ ys, y.1 ≤ s.1) : Runs (ys ++ [s]) (js acc s) := by
  have hs' := (has_iff s).1 hs
  by_cases h0 : acc = []
  · subst h0
    rw [js_nil]
    refine ⟨⟨⟨hs, by simp, trivial⟩, fun d => ?_⟩, ?_⟩
    · rw [hit_append, ← h.join.same d]
      simp [hit_nil]
    · intro z hz; simp at hz; subst hz; exact ⟨z, by simp, rfl⟩
  · obtain ⟨b, p, q, rfl⟩ := snoc_of h0
    have ha := Apart.append.1 h.join.apart
    have hpq := (has_iff (p, q)).1 ha.2.1.1
    simp only at hpq
    have hp : p ≤ s.1 := by
      obtain ⟨y, hy, e⟩ := h.first (p, q) (by simp)
      have := hr y hy
      simp only at e; omega
    by_cases hh : s.1 ≤ q
    · rw [js_join hh]
      refine ⟨⟨Apart.append.2 ⟨ha.1, ⟨(has_iff _).2 (by simp only; omega), by simp, trivial⟩, fun x hx y hy => ?_⟩, fun d => ?_⟩, ?_⟩
      · simp at hy; subst hy; exact ha.2.2 x hx (p, q) (by simp)
      · rw [hit_append ys, ← h.join.same d, hit_append, hit_append, or_assoc]
        refine or_congr Iff.rfl ?_
        rw [hit_cons, hit_cons, hit_cons]
        have e1 := inn_iff (p, max q s.2) d
        have e2 := inn_iff (p, q) d
        have e3 := inn_iff s d
        simp only at e1 e2
        rw [e1, e2, e3]
        constructor
        · rintro (hx | hx)
          · by_cases hd : d < q
            · exact .inl (.inl (by omega))
            · exact .inr (.inl (by omega))
          · exact absurd hx (hit_nil d)
        · rintro ((hx | hx) | (hx | hx))
          · exact .inl (by omega)
          · exact absurd hx (hit_nil d)
          · exact .inl (by omega)
          · exact absurd hx (hit_nil d)
      · intro z hz
        rcases List.mem_append.1 hz with hz | hz
        · obtain ⟨y, hy, e⟩ := h.first z (by simp [hz])
          exact ⟨y, by simp [hy], e⟩
        · simp at hz; subst hz
          obtain ⟨y, hy, e⟩ := h.first (p, q) (by simp)
          exact ⟨y, by simp [hy], e⟩
    · rw [js_more hh]
      refine ⟨⟨Apart.append.2 ⟨h.join.apart, ⟨hs, by simp, trivial⟩, fun x hx y hy => ?_⟩, fun d => ?_⟩, ?_⟩
      · simp at hy; subst hy
        rcases List.mem_append.1 hx with hx | hx
        · have := ha.2.2 x hx (p, q) (by simp)
          simp only at this; omega
        · simp at hx; subst hx; simp only; omega
      · rw [hit_append, hit_append ys, h.join.same d]
      · intro z hz
        rcases List.mem_append.1 hz with hz | hz
        · obtain ⟨y, hy, e⟩ := h.first z hz
          exact ⟨y, by simp [hy], e⟩
        · simp at hz; subst hz; exact ⟨z, by simp, rfl⟩

theorem runs_all (zs : List Sp) : ∀ {ys acc : List Sp}, Runs ys acc → (∀ z ∈ zs, has z = true) → (ys ++ zs).Pairwise (fun x y => x.1 ≤ y.1) → Runs (ys ++ zs) (zs.foldl js acc) := by
  induction zs with
  | nil => intro ys acc h _ _; simpa using h
  | cons z zs ih =>
    intro ys acc h hh hp
    have e : ys ++ z :: zs = (ys ++ [z]) ++ zs := by simp
    rw [e] at hp ⊢
    refine ih (runs_step h (hh z (by simp)) fun y hy => ?_) (fun u hu => hh u (by simp [hu])) hp
    have := (List.pairwise_append.1 (List.pairwise_append.1 hp).1).2.2 y hy z (by simp)
    exact this

theorem jf_joined {ys : List Sp} (hp : ys.Pairwise fun x y => x.1 ≤ y.1) : Joined ys (jf (kp ys)) := by
  have h0 : Runs [] [] := ⟨⟨trivial, fun d => Iff.rfl⟩, fun z hz => by cases hz⟩
  have := runs_all (kp ys) h0 (fun z hz => (List.mem_filter.1 hz).2) (by rw [List.nil_append]; exact hp.sublist List.filter_sublist)
  have hj := this.join
  simp only [List.nil_append] at hj
  exact ⟨hj.apart, fun d => (hj.same d).trans (hit_kp ys d)⟩

theorem hit_perm {xs ys : List Sp} (h : ys.Perm xs) (d : Int) : hit ys d ↔ hit xs d := by
  unfold hit
  constructor
  · rintro ⟨x, hx, hi⟩; exact ⟨x, h.mem_iff.1 hx, hi⟩
  · rintro ⟨x, hx, hi⟩; exact ⟨x, h.mem_iff.2 hx, hi⟩

end Go.Proofs.Ytheamhjgohacdaa.Sp
