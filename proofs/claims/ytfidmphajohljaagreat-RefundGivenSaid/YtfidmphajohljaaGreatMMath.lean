/-
  The parts St, Ma, Ag, Pt, Sm of this proof. Conditions: those of each theorem.
-/
import Derived.Test.YtfidmphajohljaaGreatRows
set_option linter.unusedVariables false
namespace Go.Proofs.YtfidmphajohljaaGreat
namespace St
def lt (key : Int → Int) (x y : Int) : Prop := key x < key y ∨ (key x = key y ∧ x < y)
section
variable {key : Int → Int} {x y z : Int}
theorem lt_trans (h1 : lt key x y) (h2 : lt key y z) : lt key x z := by unfold lt at *; omega
theorem lt_irr (h1 : lt key x y) (h2 : lt key y x) : False := by unfold lt at *; omega
theorem lt_key (h : x < y) : lt key y x ↔ key y < key x := by unfold lt; omega
theorem lt_nkey (h : x < y) : lt key x y ↔ ¬ key y < key x := by unfold lt; omega
end
abbrev Srt (key : Int → Int) (xs : List Int) : Prop := xs.Pairwise (lt key)
def Good (key : Int → Int) (xs D : List Int) : Prop := List.Perm xs D ∧ Srt key xs
section
variable {key : Int → Int} {xs ys D : List Int}
theorem Good.one (h1 : Good key xs D) (h2 : Good key ys D) : xs = ys :=
 List.Perm.eq_of_pairwise (fun a b _ _ h h' => (lt_irr h h').elim) h1.2 h2.2 (h1.1.trans h2.1.symm)
theorem Good.mem (h : Good key xs D) {x : Int} (hx : x ∈ xs) : x ∈ D := h.1.mem_iff.1 hx
theorem Good.len (h : Good key xs D) : xs.length = D.length := h.1.length_eq
theorem Good.nil : Good key [] [] := ⟨List.Perm.nil, List.Pairwise.nil⟩
end
def cf (a b : Int) : Int := if a < b then -1 else if b < a then 1 else 0
theorem cf_neg (a b : Int) : decide (cf a b < 0) = decide (a < b) := by
 unfold cf; split
 ·simp [*]
 ·split <;> simp [*]
section
variable {p q : List Int} {x : Int} {i : Nat} {y : Int} {m : List Int} {j : Nat}
theorem get_at (hi : p.length = i) : (p ++ x :: q)[i]? = some x := by
 subst hi; simp
theorem set_at (hi : p.length = i) : (p ++ x :: q).set i y = p ++ y :: q := by
 subst hi; simp
theorem swap_at (hi : p.length = i) (hj : p.length + 1 + m.length = j) :
  (p ++ x :: (m ++ y :: q))[i]? = some x ∧ (p ++ x :: (m ++ y :: q))[j]? = some y ∧ ((p ++ x :: (m ++ y :: q)).set i y).set j x = p ++ y :: (m ++ x :: q) ∧ ((p ++ x :: (m ++ y :: q)).set j x).set i y = p ++ y :: (m ++ x :: q) := by
 have e : ∀ a b : Int, p ++ a :: (m ++ b :: q) = (p ++ a :: m) ++ b :: q := fun a b => by simp
 have hl : ∀ a : Int, (p ++ a :: m).length = j := fun a => by simp; omega
 refine ⟨get_at hi, ?_, ?_, ?_⟩
 ·rw [e]; exact get_at (hl x)
 ·rw [set_at hi, e, set_at (hl y), ← e]
 ·rw [e, set_at (hl x), ← e, set_at hi]
end
def half (p A M B q : List Int) (k : Nat) : List Int := p ++ (B.take k ++ A.drop k) ++ M ++ (A.take k ++ B.drop k) ++ q
theorem half_zero (p A M B q : List Int) : half p A M B q 0 = p ++ A ++ M ++ B ++ q := by simp [half]
theorem half_all {p A M B q : List Int} {n : Nat} (h1 : A.length = n) (h2 : B.length = n) : half p A M B q n = p ++ B ++ M ++ A ++ q := by
 unfold half; rw [List.take_of_length_le (by omega), List.drop_of_length_le (by omega), List.take_of_length_le (by omega), List.drop_of_length_le (by omega)]; simp
theorem half_next {p A M B q : List Int} {n k a b : Nat} (h1 : A.length = n) (h2 : B.length = n) (hk : k < n) (ha : p.length = a) (hb : p.length + n + M.length = b) :
  ∃ x y, (half p A M B q k)[a + k]? = some x ∧ (half p A M B q k)[b + k]? = some y ∧ ((half p A M B q k).set (a + k) y).set (b + k) x = half p A M B q (k + 1) := by
 have e1 : half p A M B q k = (p ++ B.take k) ++ A[k] :: ((A.drop (k + 1) ++ M ++ A.take k) ++ B[k] :: (B.drop (k + 1) ++ q)) := by
  unfold half; rw [List.drop_eq_getElem_cons (show k < A.length by omega), List.drop_eq_getElem_cons (show k < B.length by omega)]; simp only [List.append_assoc, List.cons_append]
 have e2 : half p A M B q (k + 1) = (p ++ B.take k) ++ B[k] :: ((A.drop (k + 1) ++ M ++ A.take k) ++ A[k] :: (B.drop (k + 1) ++ q)) := by
  unfold half; rw [← List.take_concat_get (show k < A.length by omega), ← List.take_concat_get (show k < B.length by omega)]; simp only [List.concat_eq_append, List.append_assoc, List.cons_append, List.nil_append]
 have hi : (p ++ B.take k).length = a + k := by simp; omega
 have hj : (p ++ B.take k).length + 1 + (A.drop (k + 1) ++ M ++ A.take k).length = b + k := by simp; omega
 obtain ⟨g1, g2, g3, _⟩ := swap_at (x := A[k]) (y := B[k]) (q := B.drop (k + 1) ++ q) hi hj; refine ⟨A[k], B[k], by rw [e1]; exact g1, by rw [e1]; exact g2, by rw [e1, e2]; exact g3⟩
section
variable {key : Int → Int} {T1 T2 D : List Int} {x u : Int} {xs ys : List Int}
theorem ins_end (hT : Srt key (T1 ++ T2)) (hp : List.Perm (T1 ++ T2) D) (hx : ∀ y ∈ T2, lt key x y) (hy : ∀ y ∈ T1, lt key y x) : Good key (T1 ++ x :: T2) (D ++ [x]) := by
 refine ⟨(List.perm_middle.trans (hp.cons x)).trans (List.perm_append_singleton x D).symm, ?_⟩; unfold Srt at hT ⊢; rw [List.pairwise_append] at hT ⊢; obtain ⟨a, b, c⟩ := hT; refine ⟨a, List.Pairwise.cons hx b, fun u hu v hv => ?_⟩; rcases List.mem_cons.1 hv with rfl | hv
 ·exact hy u hu
 ·exact c u hu v hv
theorem ins_all (hT : Srt key (T1 ++ u :: T2)) (h : lt key u x) : ∀ y ∈ T1 ++ [u], lt key y x := by
 unfold Srt at hT; rw [List.pairwise_append] at hT; intro y hy; rcases List.mem_append.1 hy with hy | hy
 ·exact lt_trans (hT.2.2 y hy u (List.mem_cons_self ..)) h
 ·simp at hy; subst hy; exact h
theorem srt_get (h : Srt key xs) {i j : Nat} {x y : Int} (hi : xs[i]? = some x) (hj : xs[j]? = some y) (hij : i < j) : lt key x y := by
 obtain ⟨h1, e1⟩ := List.getElem?_eq_some_iff.1 hi; obtain ⟨h2, e2⟩ := List.getElem?_eq_some_iff.1 hj; have := List.pairwise_iff_getElem.1 h i j h1 h2 hij; rwa [e1, e2] at this
theorem srt_sub (h : Srt key ys) (hs : xs.Sublist ys) : Srt key xs := h.sublist hs
end
def Cut (P : Int → Prop) (xs : List Int) (k : Nat) : Prop := (∀ j x, j < k → xs[j]? = some x → P x) ∧ (∀ j x, k ≤ j → xs[j]? = some x → ¬ P x)
section
variable {P : Int → Prop} {xs : List Int} {k : Nat} {key : Int → Int} {x : Int} {T D D' L1 L2 R1 R2 S1 S2 : List Int}
theorem Cut.take (h : Cut P xs k) : ∀ x ∈ xs.take k, P x := by
 intro x hx; obtain ⟨j, hj⟩ := List.mem_iff_getElem?.1 hx; by_cases hjk : j < k
 ·rw [List.getElem?_take_of_lt hjk] at hj; exact h.1 j x hjk hj
 ·rw [List.getElem?_take] at hj; rw [if_neg hjk] at hj; cases hj
theorem Cut.drop (h : Cut P xs k) : ∀ x ∈ xs.drop k, ¬ P x := by
 intro x hx; obtain ⟨j, hj⟩ := List.mem_iff_getElem?.1 hx; rw [List.getElem?_drop] at hj; exact h.2 (k + j) x (by omega) hj
theorem put_in (hT : Srt key T) (h : Cut (fun y => lt key y x) T k) (hn : ∀ y ∈ T, lt key y x ∨ lt key x y) : Good key (T.take k ++ x :: T.drop k) (x :: T) := by
 have e : T.take k ++ T.drop k = T := List.take_append_drop k T; refine ⟨?_, ?_⟩
 ·have := List.perm_middle (a := x) (l₁ := T.take k) (l₂ := T.drop k); rwa [e] at this
 ·have hT' := hT; rw [← e] at hT'; unfold Srt at hT' ⊢; rw [List.pairwise_append] at hT' ⊢; obtain ⟨a, b, c⟩ := hT'; have hd : ∀ y ∈ T.drop k, lt key x y := fun y hy => (hn y (List.mem_of_mem_drop hy)).resolve_left (h.drop y hy)
  refine ⟨a, List.Pairwise.cons hd b, fun u hu v hv => ?_⟩; rcases List.mem_cons.1 hv with rfl | hv
  ·exact h.take u hu
  ·exact c u hu v hv
theorem Good.perm (h : Good key xs D) (hp : List.Perm D D') : Good key xs D' := ⟨h.1.trans hp, h.2⟩
theorem halves (hL : Srt key (L1 ++ L2)) (hR : Srt key (R1 ++ R2)) (h1 : ∀ x ∈ L1, ∀ y ∈ R2, lt key x y) (h2 : ∀ y ∈ R1, ∀ x ∈ L2, lt key y x)
  (g1 : Good key S1 (L1 ++ R1)) (g2 : Good key S2 (L2 ++ R2)) : Good key (S1 ++ S2) ((L1 ++ L2) ++ (R1 ++ R2)) := by
 unfold Srt at hL hR; rw [List.pairwise_append] at hL hR; refine ⟨(g1.1.append g2.1).trans ?_, ?_⟩
 ·have : List.Perm (R1 ++ L2) (L2 ++ R1) := List.perm_append_comm; have := (this.append_right R2).append_left L1; simpa [List.append_assoc] using this
 ·unfold Srt; rw [List.pairwise_append]; refine ⟨g1.2, g2.2, fun x hx y hy => ?_⟩; rcases List.mem_append.1 (g1.mem hx) with hx | hx <;> rcases List.mem_append.1 (g2.mem hy) with hy | hy
  ·exact hL.2.2 x hx y hy
  ·exact h1 x hx y hy
  ·exact h2 x hx y hy
  ·exact hR.2.2 x hx y hy
end
inductive Blk (key : Int → Int) (s : Nat) : List Int → List Int → Prop
 | last {xs D : List Int} : D.length ≤ s → Good key xs D → Blk key s xs D
 | cons {x1 D1 x2 D2 : List Int} : D1.length = s → Good key x1 D1 → Blk key s x2 D2 → Blk key s (x1 ++ x2) (D1 ++ D2)
inductive Full (key : Int → Int) (s : Nat) : List Int → List Int → Prop
 | nil : Full key s [] []
 | snoc {x1 D1 x2 D2 : List Int} : Full key s x1 D1 → D2.length = s → Good key x2 D2 → Full key s (x1 ++ x2) (D1 ++ D2)
section
variable {key : Int → Int} {s : Nat} {xs ys D E : List Int}
theorem Full.blk (h : Full key s xs D) : ∀ {ys E : List Int}, Blk key s ys E → Blk key s (xs ++ ys) (D ++ E) := by
 induction h with
 | nil => intro ys E h; exact h
 | snoc h1 h2 h3 ih => intro ys E h; rw [List.append_assoc, List.append_assoc]; exact ih (.cons h2 h3 h)
theorem Blk.perm (h : Blk key s xs D) : List.Perm xs D := by
 induction h with
 | last _ h => exact h.1
 | cons _ h _ ih => exact h.1.append ih
theorem Full.perm (h : Full key s xs D) : List.Perm xs D := by
 induction h with
 | nil => exact List.Perm.nil
 | snoc _ _ h ih => exact ih.append h.1
theorem Blk.len (h : Blk key s xs D) : xs.length = D.length := h.perm.length_eq
theorem Full.len (h : Full key s xs D) : xs.length = D.length := h.perm.length_eq
theorem Blk.done (h : Blk key s xs D) (hs : D.length ≤ s) : Good key xs D := by
 cases h with
 | last _ h => exact h
 | cons h1 h2 h3 =>
  rename_i x1 D1 x2 D2
  have hD : D2 = [] := List.eq_nil_of_length_eq_zero (by rw [List.length_append] at hs; omega); have hx : x2 = [] := List.eq_nil_of_length_eq_zero (by rw [h3.len, hD]; rfl); subst hD hx; simpa using h2
theorem Blk.first (h : Blk key s xs D) (hs : s < D.length) : ∃ x1 D1 x2 D2, xs = x1 ++ x2 ∧ D = D1 ++ D2 ∧ D1.length = s ∧ Good key x1 D1 ∧ Blk key s x2 D2 := by
 cases h with
 | last h _ => omega
 | cons h1 h2 h3 => exact ⟨_, _, _, _, rfl, rfl, h1, h2, h3⟩
theorem Blk.head (h : Blk key s xs D) (hs : s ≤ D.length) : ∃ x1 D1 x2 D2, xs = x1 ++ x2 ∧ D = D1 ++ D2 ∧ D1.length = s ∧ Good key x1 D1 ∧ Blk key s x2 D2 := by
 cases h with
 | last h g => exact ⟨xs, D, [], [], by simp, by simp, by omega, g, .last (Nat.zero_le _) Good.nil⟩
 | cons h1 h2 h3 => exact ⟨_, _, _, _, rfl, rfl, h1, h2, h3⟩
end
structure Bis (P : Nat → Prop) (lo hi i j : Nat) : Prop where
 a : lo ≤ i
 b : i ≤ j
 c : j ≤ hi
 yes : ∀ h, lo ≤ h → h < i → P h
 no : ∀ h, j ≤ h → h < hi → ¬ P h
def Down (P : Nat → Prop) (lo hi : Nat) : Prop := ∀ h h', lo ≤ h' → h' < h → h < hi → P h → P h'
section
variable {P : Nat → Prop} {lo hi i j h : Nat}
theorem Bis.start (hl : lo ≤ hi) : Bis P lo hi lo hi := ⟨Nat.le_refl _, hl, Nat.le_refl _, fun h h1 h2 => by omega, fun h h1 h2 => by omega⟩
theorem Bis.up (H : Bis P lo hi i j) (D : Down P lo hi) (h1 : i ≤ h) (h2 : h < j) (hp : P h) : Bis P lo hi (h + 1) j := by
 have := H.a; have := H.c; refine ⟨by omega, by omega, H.c, fun h' h3 h4 => ?_, H.no⟩; rcases Nat.lt_or_ge h' h with hlt | hge
 ·exact D h h' h3 hlt (by omega) hp
 ·obtain rfl : h' = h := by omega
  exact hp
theorem Bis.down (H : Bis P lo hi i j) (D : Down P lo hi) (h1 : i ≤ h) (h2 : h < j) (hp : ¬ P h) : Bis P lo hi i h := by
 have := H.a; have := H.c; refine ⟨H.a, h1, by omega, H.yes, fun h' h3 h4 hp' => ?_⟩; rcases Nat.lt_or_ge h h' with hlt | hge
 ·exact hp (D h' h (by omega) hlt h4 hp')
 ·obtain rfl : h' = h := by omega
  exact hp hp'
end
theorem cross {key : Int → Int} {L R : List Int} {s t : Nat} (hL : Srt key L) (hR : Srt key R) (hLR : ∀ x ∈ L, ∀ y ∈ R, x < y) (hs : s ≤ L.length) (ht : t ≤ R.length)
  (hp : ∀ x y, 0 < s → L[s - 1]? = some x → R[t]? = some y → ¬ key y < key x) (hq : ∀ x y, 0 < t → L[s]? = some x → R[t - 1]? = some y → key y < key x) :
  (∀ x ∈ L.take s, ∀ y ∈ R.drop t, lt key x y) ∧ (∀ y ∈ R.take t, ∀ x ∈ L.drop s, lt key y x) := by
 have le : ∀ {xs : List Int} {i j : Nat} {x y : Int}, Srt key xs → xs[i]? = some x → xs[j]? = some y → i ≤ j → x = y ∨ lt key x y := by
  intro xs i j x y h hi hj hij; rcases Nat.eq_or_lt_of_le hij with rfl | hlt
  ·rw [hi] at hj; injection hj with hj; exact .inl hj
  ·exact .inr (srt_get h hi hj hlt)
 refine ⟨fun x hx y hy => ?_, fun y hy x hx => ?_⟩
 ·obtain ⟨i, hi⟩ := List.mem_iff_getElem?.1 hx; obtain ⟨j, hj⟩ := List.mem_iff_getElem?.1 hy; rw [List.getElem?_drop] at hj
  have his : i < s := by
   rcases Nat.lt_or_ge i s with h | h
   ·exact h
   ·rw [List.getElem?_take, if_neg (by omega)] at hi; cases hi
  rw [List.getElem?_take_of_lt his] at hi; have hjl := (List.getElem?_eq_some_iff.1 hj).1; obtain ⟨u, hu⟩ : ∃ u, L[s - 1]? = some u := ⟨_, List.getElem?_eq_getElem (by omega)⟩; obtain ⟨v, hv⟩ : ∃ v, R[t]? = some v := ⟨_, List.getElem?_eq_getElem (by omega)⟩; have huv : lt key u v := (lt_nkey (hLR u (List.mem_of_getElem? hu) v (List.mem_of_getElem? hv))).2 (hp u v (by omega) hu hv); rcases le hL hi hu (by omega) with rfl | h1 <;> rcases le hR hv hj (by omega) with rfl | h2
  ·exact huv
  ·exact lt_trans huv h2
  ·exact lt_trans h1 huv
  ·exact lt_trans h1 (lt_trans huv h2)
 ·obtain ⟨j, hj⟩ := List.mem_iff_getElem?.1 hy; obtain ⟨i, hi⟩ := List.mem_iff_getElem?.1 hx; rw [List.getElem?_drop] at hi
  have hjt : j < t := by
   rcases Nat.lt_or_ge j t with h | h
   ·exact h
   ·rw [List.getElem?_take, if_neg (by omega)] at hj; cases hj
  rw [List.getElem?_take_of_lt hjt] at hj; have hil := (List.getElem?_eq_some_iff.1 hi).1; obtain ⟨u, hu⟩ : ∃ u, L[s]? = some u := ⟨_, List.getElem?_eq_getElem (by omega)⟩; obtain ⟨v, hv⟩ : ∃ v, R[t - 1]? = some v := ⟨_, List.getElem?_eq_getElem (by omega)⟩; have huv : lt key v u := (lt_key (hLR u (List.mem_of_getElem? hu) v (List.mem_of_getElem? hv))).2 (hq u v (by omega) hu hv); rcases le hR hj hv (by omega) with rfl | h1 <;> rcases le hL hu hi (by omega) with rfl | h2
  ·exact huv
  ·exact lt_trans huv h2
  ·exact lt_trans h1 huv
  ·exact lt_trans h1 (lt_trans huv h2)
theorem get_mid {P L Q : List Int} {a h t : Nat} (ha : P.length = a) (ht : a + t = h) (hl : t < L.length) : (P ++ L ++ Q)[h]? = L[t]? := by
 subst ha ht; rw [List.append_assoc, List.getElem?_append_right (by omega), List.getElem?_append_left (by omega)]
 congr 1; omega
theorem shift_next {P R Q : List Int} {x : Int} {a k : Nat} (ha : P.length = a) (hk : k < R.length) :
  ∃ y, (P ++ (R.take k ++ x :: R.drop k) ++ Q)[a + k]? = some x ∧ (P ++ (R.take k ++ x :: R.drop k) ++ Q)[a + k + 1]? = some y ∧
   ((P ++ (R.take k ++ x :: R.drop k) ++ Q).set (a + k) y).set (a + k + 1) x = P ++ (R.take (k + 1) ++ x :: R.drop (k + 1)) ++ Q ∧
   (P ++ (R.take (k + 1) ++ x :: R.drop (k + 1)) ++ Q)[a + k]? = some y ∧ (P ++ (R.take (k + 1) ++ x :: R.drop (k + 1)) ++ Q)[a + k + 1]? = some x ∧
   ((P ++ (R.take (k + 1) ++ x :: R.drop (k + 1)) ++ Q).set (a + k + 1) y).set (a + k) x = P ++ (R.take k ++ x :: R.drop k) ++ Q := by
 have e1 : P ++ (R.take k ++ x :: R.drop k) ++ Q = (P ++ R.take k) ++ x :: ([] ++ R[k] :: (R.drop (k + 1) ++ Q)) := by
  rw [List.drop_eq_getElem_cons hk]; simp only [List.append_assoc, List.cons_append, List.nil_append]
 have e2 : P ++ (R.take (k + 1) ++ x :: R.drop (k + 1)) ++ Q = (P ++ R.take k) ++ R[k] :: ([] ++ x :: (R.drop (k + 1) ++ Q)) := by
  rw [← List.take_concat_get hk]; simp only [List.concat_eq_append, List.append_assoc, List.cons_append, List.nil_append]
 have hi : (P ++ R.take k).length = a + k := by simp; omega
 obtain ⟨g1, g2, g3, _⟩ := swap_at (x := x) (y := R[k]) (m := []) (q := R.drop (k + 1) ++ Q) (j := a + k + 1) hi (by simp; omega); obtain ⟨k1, k2, _, k4⟩ := swap_at (x := R[k]) (y := x) (m := []) (q := R.drop (k + 1) ++ Q) (j := a + k + 1) hi (by simp; omega); refine ⟨R[k], by rw [e1]; exact g1, by rw [e1]; exact g2, by rw [e1, e2]; exact g3, by rw [e2]; exact k1, by rw [e2]; exact k2, by rw [e1, e2]; exact k4⟩
end St
end Go.Proofs.YtfidmphajohljaaGreat
namespace Go.Proofs.YtfidmphajohljaaGreat.Sp
abbrev Sp := Int × Int
def rt (x : Sp) : Bool := decide (1 ≤ x.1) && decide (x.1 ≤ x.2) && decide (x.2 ≤ 292195)
def mn (x : Sp) : Int := if rt x = true then x.2 - x.1 else 0
def inn (x : Sp) (d : Int) : Bool := rt x && decide (x.1 ≤ d) && decide (d < x.2)
def has (x : Sp) : Bool := decide (0 < mn x)
def bt (a b : Sp) : Sp := (max a.1 b.1, min a.2 b.2)
def ct (a b : Sp) : Sp := if rt a = true ∧ rt b = true ∧ has (bt a b) = true then bt a b else (0, 0)
def kp (xs : List Sp) : List Sp := xs.filter has
def ls (a b : Sp) : List Sp := if ct a b = (0, 0) then kp [a] else kp [(a.1, (ct a b).1), ((ct a b).2, a.2)]
theorem rt_iff (x : Sp) : rt x = true ↔ 1 ≤ x.1 ∧ x.1 ≤ x.2 ∧ x.2 ≤ 292195 := by simp [rt, and_assoc]
theorem rt_not (x : Sp) : rt x = false ↔ ¬ (1 ≤ x.1 ∧ x.1 ≤ x.2 ∧ x.2 ≤ 292195) := by rw [← rt_iff]; cases rt x <;> simp
theorem has_iff (x : Sp) : has x = true ↔ 1 ≤ x.1 ∧ x.1 < x.2 ∧ x.2 ≤ 292195 := by
 have e : has x = true ↔ 0 < mn x := by simp [has]
 rw [e]; by_cases h : rt x = true
 ·rw [mn, if_pos h]; rw [rt_iff] at h; refine ⟨fun _ => ?_, fun _ => ?_⟩ <;> omega
 ·rw [mn, if_neg h]; rw [rt_iff] at h; refine ⟨fun _ => ?_, fun _ => ?_⟩ <;> omega
theorem has_rt {x : Sp} (h : has x = true) : rt x = true := by rw [has_iff] at h; rw [rt_iff]; omega
theorem inn_iff (x : Sp) (d : Int) : inn x d = true ↔ 1 ≤ x.1 ∧ x.2 ≤ 292195 ∧ x.1 ≤ d ∧ d < x.2 := by
 simp only [inn, Bool.and_eq_true, rt_iff, decide_eq_true_eq]; omega
theorem inn_has {x : Sp} {d : Int} (h : inn x d = true) : has x = true := by rw [inn_iff] at h; rw [has_iff]; omega
theorem mn_has {x : Sp} (h : has x = true) : mn x = x.2 - x.1 := by rw [mn, if_pos (has_rt h)]
theorem kp_one (x : Sp) : kp [x] = if has x = true then [x] else [] := by
 unfold kp; by_cases h : has x = true <;> simp [List.filter, h]
theorem kp_append (xs ys : List Sp) : kp (xs ++ ys) = kp xs ++ kp ys := List.filter_append ..
def Apart : List Sp → Prop
 | [] => True
 | x :: xs => has x = true ∧ (∀ y ∈ xs, x.2 < y.1) ∧ Apart xs
theorem Apart.append {xs ys : List Sp} : Apart (xs ++ ys) ↔ Apart xs ∧ Apart ys ∧ ∀ x ∈ xs, ∀ y ∈ ys, x.2 < y.1 := by
 induction xs with
 | nil => simp [Apart]
 | cons x xs ih =>
  simp only [List.cons_append, Apart, ih, List.mem_append, List.mem_cons]; constructor
  ·rintro ⟨h1, h2, h3, h4, h5⟩; refine ⟨⟨h1, fun y hy => h2 y (.inl hy), h3⟩, h4, ?_⟩; rintro z (rfl | hz) y hy
   ·exact h2 y (.inr hy)
   ·exact h5 z hz y hy
  ·rintro ⟨⟨h1, h2, h3⟩, h4, h5⟩; refine ⟨h1, ?_, h3, h4, fun z hz y hy => h5 z (.inr hz) y hy⟩; rintro y (hy | hy)
   ·exact h2 y hy
   ·exact h5 x (.inl rfl) y hy
end Go.Proofs.YtfidmphajohljaaGreat.Sp
namespace Ba
abbrev Pr := Int × Int
def wi (n lo hi : Int) : Bool := decide (lo ≤ n ∧ n ≤ hi)
theorem wi_iff {n lo hi : Int} : wi n lo hi = true ↔ lo ≤ n ∧ n ≤ hi := by unfold wi; exact decide_eq_true_iff
theorem wi_no {n lo hi : Int} (h : ¬ (lo ≤ n ∧ n ≤ hi)) : wi n lo hi = false := by unfold wi; exact decide_eq_false h
def rk (k v a z : Int) : Bool := wi k 0 3 && (wi v 1 1000000000000000 && (wi a 0 200 && wi z 0 99))
theorem rk_iff {k v a z : Int} : rk k v a z = true ↔ (0 ≤ k ∧ k ≤ 3) ∧ (1 ≤ v ∧ v ≤ 1000000000000000) ∧ (0 ≤ a ∧ a ≤ 200) ∧ (0 ≤ z ∧ z ≤ 99) := by
 unfold rk; rw [Bool.and_eq_true, Bool.and_eq_true, Bool.and_eq_true, wi_iff, wi_iff, wi_iff, wi_iff]
theorem rk_yes {k v a z : Int} (h : (0 ≤ k ∧ k ≤ 3) ∧ (1 ≤ v ∧ v ≤ 1000000000000000) ∧ (0 ≤ a ∧ a ≤ 200) ∧ (0 ≤ z ∧ z ≤ 99)) : rk k v a z = true := rk_iff.2 h
theorem rk_no {k v a z : Int} (h : ¬ ((0 ≤ k ∧ k ≤ 3) ∧ (1 ≤ v ∧ v ≤ 1000000000000000) ∧ (0 ≤ a ∧ a ≤ 200) ∧ (0 ≤ z ∧ z ≤ 99))) : rk k v a z = false := by
 cases e : rk k v a z
 ·rfl
 ·exact absurd (rk_iff.1 e) h
def bnd (age : Int) : List Pr → Int
 | [] => 10000
 | x :: xs => if x.1 < age then bnd age xs else x.2
theorem bnd_up {age : Int} {x : Pr} {xs : List Pr} (h : x.1 < age) : bnd age (x :: xs) = bnd age xs := by simp only [bnd]; rw [if_pos h]
theorem bnd_at {age : Int} {x : Pr} {xs : List Pr} (h : ¬ x.1 < age) : bnd age (x :: xs) = x.2 := by simp only [bnd]; rw [if_neg h]
def okL (least : Int) : List Pr → Bool
 | [] => true
 | x :: xs => wi x.1 least 200 && (wi x.2 0 100000 && okL (x.1 + 1) xs)
def bds (l : List Pr) : Bool := decide (l.length ≤ 100) && okL 0 l
theorem bds_far {l : List Pr} (h : 100 < l.length) : bds l = false := by unfold bds; rw [decide_eq_false (by omega)]; rfl
theorem bds_near {l : List Pr} (h : l.length ≤ 100) : bds l = okL 0 l := by unfold bds; rw [decide_eq_true h]; rfl
section
variable {least : Int} {x : Pr} {xs : List Pr}
theorem okL_no1 (h : wi x.1 least 200 = false) : okL least (x :: xs) = false := by simp only [okL]; rw [h]; rfl
theorem okL_no2 (h : wi x.1 least 200 = true) (h2 : wi x.2 0 100000 = false) : okL least (x :: xs) = false := by simp only [okL]; rw [h, h2]; rfl
theorem okL_yes (h : wi x.1 least 200 = true) (h2 : wi x.2 0 100000 = true) : okL least (x :: xs) = okL (x.1 + 1) xs := by simp only [okL]; rw [h, h2]; rfl
end
theorem drop_get {α : Type} {l : List α} {k : Nat} {x : α} (h : l[k]? = some x) : l.drop k = x :: l.drop (k + 1) := by
 obtain ⟨hk, rfl⟩ := List.getElem?_eq_some_iff.1 h; exact List.drop_eq_getElem_cons hk
theorem take_get {α : Type} {l : List α} {k : Nat} {x : α} (h : l[k]? = some x) : l.take (k + 1) = l.take k ++ [x] := by
 obtain ⟨hk, rfl⟩ := List.getElem?_eq_some_iff.1 h; exact List.take_succ_eq_append_getElem hk
theorem okL_mem {least : Int} {l : List Pr} (h : okL least l = true) : ∀ x ∈ l, least ≤ x.1 ∧ x.1 ≤ 200 ∧ 0 ≤ x.2 ∧ x.2 ≤ 100000 := by
 induction l generalizing least with
 | nil => intro x hx; cases hx
 | cons y ys ih =>
  simp only [okL, Bool.and_eq_true, wi_iff] at h; intro x hx; rcases List.mem_cons.1 hx with rfl | hx
  ·exact ⟨h.1.1, h.1.2, h.2.1.1, h.2.1.2⟩
  ·have := ih h.2.2 x hx; exact ⟨by have := h.1.1; omega, this.2⟩
def hs (age : Int) (l : List Pr) : Bool := l.any fun x => decide (age ≤ x.1)
end Ba
namespace Tf
open Ba
structure Ve where
 fr : Int
 b0 : Int
 b1 : Int
 b2 : Int
 b3 : Int
 ag : List Pr
 zn : List Int
 pe : List Int
 mn : Int
def zeroV : Ve := ⟨0, 0, 0, 0, 0, [], [], [], 0⟩
def fac : List Int → Bool
 | [] => true
 | x :: xs => wi x 0 100000 && fac xs
theorem fac_no {x : Int} {xs : List Int} (h : wi x 0 100000 = false) : fac (x :: xs) = false := by simp only [fac]; rw [h]; rfl
theorem fac_yes {x : Int} {xs : List Int} (h : wi x 0 100000 = true) : fac (x :: xs) = fac xs := by simp only [fac]; rw [h]; rfl
def ver (v : Ve) : Bool := wi v.fr 1 292194 && (wi v.mn 0 1000000000000000 && (wi (v.zn.length : Int) 1 100 && (decide (v.pe.length = 8) && (fac [v.b0, v.b1, v.b2, v.b3] && (fac v.zn && (fac v.pe && bds v.ag))))))
def rise (last : Int) : List Ve → Bool
 | [] => true
 | v :: vs => !decide (v.fr ≤ last) && (ver v && rise v.fr vs)
def rgt (vs : List Ve) : Bool := decide (vs.length ≤ 100) && rise 0 vs
def lst (day : Int) : List Ve → Option Ve
 | [] => none
 | v :: vs => match lst day vs with
  | some x => some x
  | none => if v.fr ≤ day then some v else none
section
variable {day : Int} {v x : Ve} {vs : List Ve} {k : Nat}
theorem lst_some (h : lst day vs = some x) : lst day (v :: vs) = some x := by simp only [lst, h]
theorem lst_none (h : lst day vs = none) : lst day (v :: vs) = if v.fr ≤ day then some v else none := by simp only [lst, h]
theorem lst_drop : ∀ k, lst day (vs.drop k) = some x → lst day vs = some x := by
 induction vs with
 | nil => intro k h; simpa using h
 | cons y ys ih =>
  intro k h; cases k with
  | zero => exact h
  | succ k => exact lst_some (ih k (by simpa using h))
theorem lst_at (hx : vs[k]? = some x) (hn : lst day (vs.drop (k + 1)) = none) (hd : x.fr ≤ day) : lst day vs = some x := by
 refine lst_drop k ?_; rw [drop_get hx, lst_none hn, if_pos hd]
theorem lst_not (hx : vs[k]? = some x) (hn : lst day (vs.drop (k + 1)) = none) (hd : ¬ x.fr ≤ day) : lst day (vs.drop k) = none := by
 rw [drop_get hx, lst_none hn, if_neg hd]
end
def has (f : Int) (vs : List Ve) : Bool := vs.any fun x => decide (x.fr = f)
def cd (vs : List Ve) (v : Ve) : Int := if rgt vs = true ∧ ver v = true then (if has v.fr vs = true then 8 else if vs.length = 100 then 2 else 0) else 1
end Tf
namespace Go.Proofs.YtfidmphajohljaaGreat
namespace Cv
structure Co where
 p : Int
 l : Int
 g : Int
 d : Int
 s : Int
def Ok (c : Co) : Prop := 0 ≤ c.p ∧ c.p ≤ 7 ∧ 1 ≤ c.s ∧ c.s ≤ 10000 ∧ 0 ≤ c.d ∧ c.d < c.l ∧ c.l ≤ c.g ∧ c.g ≤ 1000000000000000
instance (c : Co) : Decidable (Ok c) := by unfold Ok; infer_instance
def ok (c : Co) : Bool := decide (Ok c)
theorem ok_yes {c : Co} (h : Ok c) : ok c = true := by simpa [ok] using h
theorem ok_no {c : Co} (h : ¬ Ok c) : ok c = false := by simpa [ok] using h
theorem ok_iff {c : Co} : ok c = true ↔ Ok c := by simp [ok]
def rnd (n : Nat) : Nat := if 5000 < n % 10000 ∨ (n % 10000 = 5000 ∧ n / 10000 % 2 = 1) then n / 10000 + 1 else n / 10000
def prt (a s : Int) : Int := (rnd (a.toNat * s.toNat) : Nat)
theorem prt_nat (a s : Nat) : prt a s = ((rnd (a * s) : Nat) : Int) := by simp [prt]
theorem prt_nn (a s : Int) : 0 ≤ prt a s := by unfold prt; omega
theorem prt_zero (s : Int) : prt 0 s = 0 := by simp [prt, rnd]
end Cv
end Go.Proofs.YtfidmphajohljaaGreat
namespace Go.Proofs.YtfidmphajohljaaGreat
open Ba Cv Sp
namespace Te
structure Ri where
 k : Int
 v : Int
 a : Int
 z : Int
def up : List Co → Bool
 | a :: b :: l => decide (a.p < b.p) && up (b :: l)
 | _ => true
def cvr (cs : List Co) : Bool := wi (cs.length : Int) 1 8 && (cs.all ok && up cs)
def fnd (p : Int) : List Co → Option Co
 | [] => none
 | c :: l => if c.p = p then some c else fnd p l
def te (s : Sp) (r : Ri) (cs : List Co) : Bool := rt s && (wi (mn s) 1 1100 && (rk r.k r.v r.a r.z && cvr cs))
theorem up_iff : ∀ {l : List Co}, up l = true ↔ l.Pairwise (fun a b => a.p < b.p)
 | [] => by simp [up]
 | [a] => by simp [up]
 | a :: b :: l => by
  have ih := up_iff (l := b :: l); rw [up, Bool.and_eq_true, decide_eq_true_eq, ih]; constructor
  ·rintro ⟨h1, h2⟩; refine List.pairwise_cons.2 ⟨fun x hx => ?_, h2⟩; rcases List.mem_cons.1 hx with rfl | hx
   ·exact h1
   ·have := (List.pairwise_cons.1 h2).1 x hx; omega
  ·intro h; obtain ⟨h1, h2⟩ := List.pairwise_cons.1 h; exact ⟨h1 b (by simp), h2⟩
theorem up_two {a b : Co} {l : List Co} : up (a :: b :: l) = (decide (a.p < b.p) && up (b :: l)) := rfl
theorem cvr_iff {cs : List Co} : cvr cs = true ↔ (1 ≤ cs.length ∧ cs.length ≤ 8) ∧ (∀ c ∈ cs, Ok c) ∧ cs.Pairwise (fun a b => a.p < b.p) := by
 unfold cvr; rw [Bool.and_eq_true, Bool.and_eq_true, wi_iff, List.all_eq_true, up_iff]; constructor
 ·rintro ⟨h1, h2, h3⟩; exact ⟨by omega, fun c hc => ok_iff.1 (h2 c hc), h3⟩
 ·rintro ⟨h1, h2, h3⟩; exact ⟨by omega, fun c hc => ok_iff.2 (h2 c hc), h3⟩
theorem cvr_no {cs : List Co} (h : ¬ ((1 ≤ cs.length ∧ cs.length ≤ 8) ∧ (∀ c ∈ cs, Ok c) ∧ cs.Pairwise (fun a b => a.p < b.p))) : cvr cs = false := by
 cases e : cvr cs
 ·rfl
 ·exact absurd (cvr_iff.1 e) h
theorem cvr_len {cs : List Co} (h : ¬ (1 ≤ cs.length ∧ cs.length ≤ 8)) : cvr cs = false := cvr_no fun k => h k.1
theorem te_iff {s : Sp} {r : Ri} {cs : List Co} : te s r cs = true ↔ (1 ≤ s.1 ∧ s.1 < s.2 ∧ s.2 ≤ 292195 ∧ s.2 - s.1 ≤ 1100) ∧ rk r.k r.v r.a r.z = true ∧ cvr cs = true := by
 unfold te; rw [Bool.and_eq_true, Bool.and_eq_true, Bool.and_eq_true, wi_iff]; constructor
 ·rintro ⟨h1, h2, h3, h4⟩; have k := (rt_iff s).1 h1; rw [mn, if_pos h1] at h2; exact ⟨by omega, h3, h4⟩
 ·rintro ⟨h1, h3, h4⟩; have k : rt s = true := (rt_iff s).2 (by omega); refine ⟨k, ?_, h3, h4⟩; rw [mn, if_pos k]; omega
end Te
end Go.Proofs.YtfidmphajohljaaGreat
namespace Go.Proofs.YtfidmphajohljaaGreat
open Ba Tf Cv
namespace Qm
abbrev Ri := Te.Ri
def tk (m : Int) : List Int → Option Int
 | [] => some m
 | b :: l => if 4000000000000000000 < prt m b then none else tk (prt m b) l
theorem tk_over {m b : Int} {l : List Int} (h : 4000000000000000000 < prt m b) : tk m (b :: l) = none := by simp only [tk]; rw [if_pos h]
theorem tk_next {m b : Int} {l : List Int} (h : ¬ 4000000000000000000 < prt m b) : tk m (b :: l) = tk (prt m b) l := by simp only [tk]; rw [if_neg h]
theorem tk_zero (l : List Int) : tk 0 l = some 0 := by
 induction l with
 | nil => rfl
 | cons b l ih => rw [tk_next (by rw [prt_zero]; omega), prt_zero, ih]
theorem tk_bd {m : Int} {l : List Int} {x : Int} (hm : 0 ≤ m) (hm2 : m ≤ 4000000000000000000) (h : tk m l = some x) : 0 ≤ x ∧ x ≤ 4000000000000000000 := by
 induction l generalizing m with
 | nil => injection h with h; omega
 | cons b l ih =>
  by_cases hb : 4000000000000000000 < prt m b
  ·rw [tk_over hb] at h; cases h
  ·rw [tk_next hb] at h; exact ih (prt_nn _ _) (by omega) h
def bs (v : Ve) (k : Int) : Int := if k = 0 then v.b0 else if k = 1 then v.b1 else if k = 2 then v.b2 else v.b3
def parts (v : Ve) (r : Ri) (c : Co) : List Int := [bs v r.k, bnd r.a v.ag, v.zn.getD r.z.toNat 0, v.pe.getD c.p.toNat 0, c.s]
def can (v : Ve) (r : Ri) (c : Co) : Bool := ver v && (rk r.k r.v r.a r.z && ok c)
def qd (v : Ve) (r : Ri) (c : Co) : Int × Int :=
 if can v r c = true then (if (v.zn.length : Int) ≤ r.z then (0, 7) else match tk r.v (parts v r c) with
  | none => (0, 5)
  | some m => (max m v.mn, 0)) else (0, 1)
section
variable {v : Ve} {r : Ri} {c : Co} {m : Int}
theorem qd_arg (h : can v r c = false) : qd v r c = (0, 1) := by unfold qd; rw [h]; rfl
theorem qd_none (h : can v r c = true) (hz : (v.zn.length : Int) ≤ r.z) : qd v r c = (0, 7) := by unfold qd; rw [if_pos h, if_pos hz]
theorem qd_over (h : can v r c = true) (hz : ¬ (v.zn.length : Int) ≤ r.z) (ht : tk r.v (parts v r c) = none) : qd v r c = (0, 5) := by unfold qd; rw [if_pos h, if_neg hz, ht]
theorem qd_ok (h : can v r c = true) (hz : ¬ (v.zn.length : Int) ≤ r.z) (ht : tk r.v (parts v r c) = some m) : qd v r c = (max m v.mn, 0) := by unfold qd; rw [if_pos h, if_neg hz, ht]
theorem qd_cases (v : Ve) (r : Ri) (c : Co) : qd v r c = (0, 1) ∨ qd v r c = (0, 7) ∨ qd v r c = (0, 5) ∨ ∃ m, can v r c = true ∧ ¬ (v.zn.length : Int) ≤ r.z ∧ tk r.v (parts v r c) = some m ∧ qd v r c = (max m v.mn, 0) := by
 cases h : can v r c
 ·exact .inl (qd_arg h)
 ·by_cases hz : (v.zn.length : Int) ≤ r.z
  ·exact .inr (.inl (qd_none h hz))
  ·cases ht : tk r.v (parts v r c) with
   | none => exact .inr (.inr (.inl (qd_over h hz ht)))
   | some m => exact .inr (.inr (.inr ⟨m, rfl, hz, rfl, qd_ok h hz ht⟩))
theorem can_iff : can v r c = true ↔ ver v = true ∧ rk r.k r.v r.a r.z = true ∧ Ok c := by
 unfold can; rw [Bool.and_eq_true, Bool.and_eq_true, ok_iff]
end
theorem fac_iff {xs : List Int} : fac xs = true ↔ ∀ x ∈ xs, 0 ≤ x ∧ x ≤ 100000 := by
 induction xs with
 | nil => simp [fac]
 | cons x xs ih =>
  unfold fac; rw [Bool.and_eq_true, wi_iff, ih]; constructor
  ·rintro ⟨h1, h2⟩ y hy; rcases List.mem_cons.1 hy with rfl | hy
   ·exact h1
   ·exact h2 y hy
  ·intro h; exact ⟨h x (by simp), fun y hy => h y (by simp [hy])⟩
structure Vok (v : Ve) : Prop where
 mn : 0 ≤ v.mn ∧ v.mn ≤ 1000000000000000
 zl : 1 ≤ v.zn.length ∧ v.zn.length ≤ 100
 pl : v.pe.length = 8
 b : (0 ≤ v.b0 ∧ v.b0 ≤ 100000) ∧ (0 ≤ v.b1 ∧ v.b1 ≤ 100000) ∧ (0 ≤ v.b2 ∧ v.b2 ≤ 100000) ∧ (0 ≤ v.b3 ∧ v.b3 ≤ 100000)
 z : ∀ x ∈ v.zn, 0 ≤ x ∧ x ≤ 100000
 p : ∀ x ∈ v.pe, 0 ≤ x ∧ x ≤ 100000
 a : ∀ x ∈ v.ag, 0 ≤ x.2 ∧ x.2 ≤ 100000
theorem vok {v : Ve} (h : ver v = true) : Vok v := by
 unfold ver at h; simp only [Bool.and_eq_true, decide_eq_true_eq] at h; obtain ⟨_, h1, h2, h3, h4, h5, h6, h7⟩ := h; have h1 := wi_iff.1 h1; have h2 := wi_iff.1 h2; have h4 := fac_iff.1 h4; refine ⟨h1, by omega, h3, ⟨h4 _ (by simp), h4 _ (by simp), h4 _ (by simp), h4 _ (by simp)⟩, fac_iff.1 h5, fac_iff.1 h6, fun x hx => ?_⟩; unfold bds at h7; rw [Bool.and_eq_true] at h7; exact (okL_mem h7.2 x hx).2.2
theorem bnd_bd {age : Int} {l : List Pr} (h : ∀ x ∈ l, 0 ≤ x.2 ∧ x.2 ≤ 100000) : 0 ≤ bnd age l ∧ bnd age l ≤ 100000 := by
 induction l with
 | nil => simp only [bnd]; omega
 | cons y ys ih =>
  by_cases hy : y.1 < age
  ·rw [bnd_up hy]; exact ih fun x hx => h x (by simp [hx])
  ·rw [bnd_at hy]; exact h y (by simp)
theorem getD_bd {l : List Int} {k : Nat} (h : ∀ x ∈ l, 0 ≤ x ∧ x ≤ 100000) : 0 ≤ l.getD k 0 ∧ l.getD k 0 ≤ 100000 := by
 rw [List.getD_eq_getElem?_getD]; cases e : l[k]? with
 | none => simp
 | some x => exact h x (List.mem_of_getElem? e)
theorem bs_bd {v : Ve} (h : Vok v) (k : Int) : 0 ≤ bs v k ∧ bs v k ≤ 100000 := by
 unfold bs; obtain ⟨h0, h1, h2, h3⟩ := h.b; split
 ·exact h0
 ·split
  ·exact h1
  ·split
   ·exact h2
   ·exact h3
theorem parts_bd {v : Ve} {r : Ri} {c : Co} (h : can v r c = true) : ∀ x ∈ parts v r c, 0 ≤ x ∧ x ≤ 100000 := by
 obtain ⟨h1, _, h3⟩ := can_iff.1 h; have hv := vok h1; obtain ⟨_, _, g1, g2, _⟩ := h3; intro x hx; simp only [parts, List.mem_cons, List.not_mem_nil, or_false] at hx; rcases hx with rfl | rfl | rfl | rfl | rfl
 ·exact bs_bd hv _
 ·exact bnd_bd hv.a
 ·exact getD_bd hv.z
 ·exact getD_bd hv.p
 ·omega
theorem qd_bd (v : Ve) (r : Ri) (c : Co) : 0 ≤ (qd v r c).1 ∧ (qd v r c).1 ≤ 4000000000000000000 ∧ 0 ≤ (qd v r c).2 ∧ (qd v r c).2 ≤ 7 ∧ ((qd v r c).2 ≠ 0 → (qd v r c).1 = 0) := by
 rcases qd_cases v r c with h | h | h | ⟨m, hc, _, ht, h⟩
 ·rw [h]; simp
 ·rw [h]; simp
 ·rw [h]; simp
 ·obtain ⟨h1, h2, _⟩ := can_iff.1 hc; have hr := rk_iff.1 h2; have b := tk_bd (by omega) (by omega) ht; have hv := (vok h1).mn; rw [h]; refine ⟨by simp only; omega, by simp only; omega, by simp, by simp, by simp⟩
def yr (f : Co → Int × Int) (acc : Int) : List Co → Int × Int
 | [] => if 4000000000000000000 < acc then (0, 5) else (acc, 0)
 | c :: l => if (f c).2 = 0 then yr f (acc + (f c).1) l else (0, (f c).2)
section
variable {f : Co → Int × Int} {acc : Int} {c : Co} {l : List Co}
theorem yr_step (h : (f c).2 = 0) : yr f acc (c :: l) = yr f (acc + (f c).1) l := by simp only [yr]; rw [if_pos h]
theorem yr_err (h : (f c).2 ≠ 0) : yr f acc (c :: l) = (0, (f c).2) := by simp only [yr]; rw [if_neg h]
theorem yr_over (h : 4000000000000000000 < acc) : yr f acc [] = (0, 5) := by simp only [yr]; rw [if_pos h]
theorem yr_done (h : ¬ 4000000000000000000 < acc) : yr f acc [] = (acc, 0) := by simp only [yr]; rw [if_neg h]
end
end Qm
end Go.Proofs.YtfidmphajohljaaGreat
namespace Go.Proofs.YtfidmphajohljaaGreat
open Ba Cv Sp Te
namespace Ag
structure Ch where
 bk : Int
 dy : Int
 kd : Int
 r : Ri
 cs : List Co
 wy : Int
structure Hi where
 id : Int
 bk : Int
 s : Sp
 r : Ri
 cs : List Co
 hs : List Ch
def zri : Ri := ⟨0, 0, 0, 0⟩
def zch : Ch := ⟨0, 0, 0, zri, [], 0⟩
def zhi : Hi := ⟨0, 0, (0, 0), zri, [], []⟩
def day (n : Int) : Bool := wi n 1 292194
def bare (r : Ri) : Bool := (r.k == 0 && r.v == 0) && (r.a == 0 && r.z == 0)
def rfit (r : Ri) (b : Bool) : Bool := if b = true then rk r.k r.v r.a r.z else bare r
def cfit (cs : List Co) (b : Bool) : Bool := if b = true then cvr cs else cs.length == 0
def wfit (w : Int) (b : Bool) : Bool := if b = true then (w == 0 || w == 1) else w == 0
def pts (k : Int) : Option (Bool × Bool × Bool) := if k = 1 then some (true, false, false) else if k = 2 then some (false, true, false) else if k = 3 then some (false, false, true) else if k = 4 then some (false, false, false) else none
def fits (c : Ch) : Option (Bool × Bool × Bool) → Bool
 | none => false
 | some (a, b, d) => rfit c.r a && (cfit c.cs b && wfit c.wy d)
def rch (c : Ch) : Bool := day c.bk && (day c.dy && fits c (pts c.kd))
def last (b : Int) (hs : List Ch) : Int := match hs.getLast? with
 | none => b
 | some c => c.bk
def code (s : Sp) (b : Int) (hs : List Ch) (c : Ch) : Int := if (rch c && inn s c.dy) = true then (if c.bk < last b hs then 4 else if 2000 ≤ hs.length then 2 else 0) else 1
def bnd (id bk : Int) (s : Sp) (r : Ri) (cs : List Co) : Bool := wi id 1 1000000000 && (day bk && te s r cs)
def steps (s : Sp) : Int → List Ch → Bool
 | _, [] => true
 | b, c :: l => (rch c && inn s c.dy) && (decide (b ≤ c.bk) && steps s c.bk l)
def hst (h : Hi) : Bool := bnd h.id h.bk h.s h.r h.cs && steps h.s h.bk h.hs
theorem last_snoc (b : Int) (hs : List Ch) (c : Ch) : last b (hs ++ [c]) = c.bk := by simp [last]
section
variable {b : Int} {hs : List Ch} {k : Nat} {c : Ch} {s : Sp}
theorem last_take (h : hs[k]? = some c) : last b (hs.take (k + 1)) = c.bk := by rw [take_get h, last_snoc]
theorem last_get (h : hs[k]? = some c) (hl : hs.length = k + 1) : last b hs = c.bk := by
 rw [← last_take (b := b) h, ← hl, List.take_length]
theorem code_arg (h : (rch c && inn s c.dy) = false) : code s b hs c = 1 := by unfold code; rw [if_neg (by rw [h]; decide)]
theorem code_order (h : (rch c && inn s c.dy) = true) (h1 : c.bk < last b hs) : code s b hs c = 4 := by unfold code; rw [if_pos h, if_pos h1]
theorem code_bound (h : (rch c && inn s c.dy) = true) (h1 : ¬ c.bk < last b hs) (h2 : 2000 ≤ hs.length) : code s b hs c = 2 := by unfold code; rw [if_pos h, if_neg h1, if_pos h2]
theorem code_ok (h : (rch c && inn s c.dy) = true) (h1 : ¬ c.bk < last b hs) (h2 : ¬ 2000 ≤ hs.length) : code s b hs c = 0 := by unfold code; rw [if_pos h, if_neg h1, if_neg h2]
theorem code_zero : code s b hs c = 0 ↔ (rch c && inn s c.dy) = true ∧ last b hs ≤ c.bk ∧ hs.length < 2000 := by
 unfold code; by_cases h : (rch c && inn s c.dy) = true
 ·rw [if_pos h]; by_cases h1 : c.bk < last b hs
  ·rw [if_pos h1]; constructor
   ·intro h; omega
   ·rintro ⟨_, h, _⟩; omega
  ·rw [if_neg h1]; by_cases h2 : 2000 ≤ hs.length
   ·rw [if_pos h2]; constructor
    ·intro h; omega
    ·rintro ⟨_, _, h⟩; omega
   ·rw [if_neg h2]; exact ⟨fun _ => ⟨h, by omega, by omega⟩, fun _ => rfl⟩
 ·rw [if_neg h]; constructor
  ·intro h; omega
  ·rintro ⟨h', _⟩; exact absurd h' h
end
theorem code_in (s : Sp) (b : Int) (hs : List Ch) (c : Ch) : 0 ≤ code s b hs c ∧ code s b hs c ≤ 4 := by
 unfold code; split
 ·split
  ·omega
  ·split <;> omega
 ·omega
def key (hs : List Ch) (x : Int) : Int := match hs[x.toNat]? with
 | some c => c.dy
 | none => 0
def plc (n : Nat) : List Int := (List.range n).map fun (i : Nat) => (i : Int)
theorem plc_len (n : Nat) : (plc n).length = n := by simp [plc]
theorem plc_mem {n : Nat} {x : Int} : x ∈ plc n ↔ 0 ≤ x ∧ x < n := by
 simp only [plc, List.mem_map, List.mem_range]; constructor
 ·rintro ⟨a, h, rfl⟩; omega
 ·intro h; exact ⟨x.toNat, by omega, by omega⟩
theorem plc_rise (n : Nat) : (plc n).Pairwise (· < ·) := by
 unfold plc; rw [List.pairwise_map]; exact List.pairwise_lt_range.imp fun h => by omega
theorem plc_next (n : Nat) : plc (n + 1) = plc n ++ [(n : Int)] := by simp [plc, List.range_succ]
def Ord (hs : List Ch) (o : List Int) : Prop := St.Good (key hs) o (plc hs.length)
end Ag
end Go.Proofs.YtfidmphajohljaaGreat
namespace Go.Proofs.YtfidmphajohljaaGreat.Sp
def Chain (f t : Int) : List Sp → Prop
 | [] => f = t
 | x :: xs => x.1 = f ∧ x.1 < x.2 ∧ Chain x.2 t xs
section
variable {f t : Int} {xs : List Sp} {m : Int}
theorem Chain.le (h : Chain f t xs) : f ≤ t := by
 induction xs generalizing f with
 | nil => exact Int.le_of_eq h
 | cons x xs ih => have := ih h.2.2; have := h.1; have := h.2.1; omega
theorem Chain.mem (h : Chain f t xs) : ∀ x ∈ xs, f ≤ x.1 ∧ x.1 < x.2 ∧ x.2 ≤ t := by
 induction xs generalizing f with
 | nil => intro x hx; cases hx
 | cons y ys ih =>
  intro x hx; have h1 := h.1; have h2 := h.2.1; have h3 := h.2.2.le; rcases List.mem_cons.1 hx with rfl | hx
  ·omega
  ·have := ih h.2.2 x hx; omega
theorem Chain.snoc (h : Chain f m xs) (hm : m < t) : Chain f t (xs ++ [(m, t)]) := by
 induction xs generalizing f with
 | nil => have h' : f = m := h; subst h'; exact ⟨rfl, hm, rfl⟩
 | cons x xs ih => exact ⟨h.1, h.2.1, ih h.2.2⟩
theorem Chain.length (h : Chain f t xs) : (xs.length : Int) ≤ t - f := by
 induction xs generalizing f with
 | nil => have h' : f = t := h; simp; omega
 | cons x xs ih => have := ih h.2.2; have := h.1; have := h.2.1; simp; omega
end
def fst (xs : List Sp) (d : Int) : Prop := ∃ x ∈ xs, x.1 = d
theorem fst_snoc (xs : List Sp) (x : Sp) (d : Int) : fst (xs ++ [x]) d ↔ fst xs d ∨ x.1 = d := by
 simp only [fst, List.mem_append, List.mem_singleton]; constructor
 ·rintro ⟨y, hy | rfl, e⟩
  ·exact .inl ⟨y, hy, e⟩
  ·exact .inr e
 ·rintro (⟨y, hy, e⟩ | e)
  ·exact ⟨y, .inl hy, e⟩
  ·exact ⟨x, .inr rfl, e⟩
structure Parted (s : Sp) (ds : List Int) (zs : List Sp) : Prop where
 none : has s = false → zs = []
 chain : has s = true → Chain s.1 s.2 zs
 cuts : has s = true → ∀ d, fst zs d ↔ d = s.1 ∨ (d ∈ ds ∧ s.1 < d ∧ d < s.2)
def ps (s : Sp) (st : List Sp × Int) (d : Int) : List Sp × Int := if inn s d = true then (st.1 ++ [(st.2, d)], d) else st
def pf (s : Sp) (ds : List Int) : List Sp × Int := ds.foldl (ps s) ([], s.1)
theorem pf_snoc (s : Sp) (ds : List Int) (d : Int) : pf s (ds ++ [d]) = ps s (pf s ds) d := by simp [pf]
structure Cuts (s : Sp) (ds : List Int) (st : List Sp × Int) : Prop where
 chain : Chain s.1 st.2 (kp st.1)
 lo : s.1 ≤ st.2
 hi : st.2 < s.2
 cuts : ∀ d, (fst (kp st.1) d ∨ d = st.2) ↔ d = s.1 ∨ (d ∈ ds ∧ s.1 < d ∧ d < s.2)
 last : st.2 = s.1 ∨ st.2 ∈ ds
theorem cuts_step {s : Sp} {ds : List Int} {st : List Sp × Int} {e : Int} (hs : has s = true) (h : Cuts s ds st) (hr : ∀ d ∈ ds, d ≤ e) : Cuts s (ds ++ [e]) (ps s st e) := by
 have hs' := (has_iff s).1 hs; obtain ⟨L, f⟩ := st; have h1 := h.chain; have h2 := h.lo; have h3 := h.hi; have h4 := h.cuts; have h5 := h.last; simp only at h1 h2 h3 h4 h5; unfold ps; by_cases he : inn s e = true
 ·rw [if_pos he]; rw [inn_iff] at he
  have hfe : f ≤ e := by
   rcases h5 with h5 | h5
   ·omega
   ·exact hr f h5
  have hd : ∀ d, (d ∈ ds ++ [e] ∧ s.1 < d ∧ d < s.2) ↔ (d ∈ ds ∧ s.1 < d ∧ d < s.2) ∨ (d = e ∧ s.1 < d) := by
   intro d; simp only [List.mem_append, List.mem_singleton]; constructor
   ·rintro ⟨hd | hd, h6, h7⟩
    ·exact .inl ⟨hd, h6, h7⟩
    ·exact .inr ⟨hd, h6⟩
   ·rintro (⟨hd, h6, h7⟩ | ⟨hd, h6⟩)
    ·exact ⟨.inl hd, h6, h7⟩
    ·exact ⟨.inr hd, h6, by omega⟩
  rcases Int.lt_or_eq_of_le hfe with hlt | heq
  ·have hk : kp (L ++ [(f, e)]) = kp L ++ [(f, e)] := by
    rw [kp_append, kp_one, if_pos ((has_iff _).2 (by simp only; omega))]
   refine ⟨?_, ?_, ?_, fun d => ?_, .inr (by simp)⟩
   ·simp only; rw [hk]; exact h1.snoc hlt
   ·simp only; omega
   ·simp only; omega
   ·simp only; rw [hk, fst_snoc, hd d]; have := h4 d; constructor
    ·rintro ((h6 | h6) | h6)
     ·rcases this.1 (.inl h6) with h7 | h7
      ·exact .inl h7
      ·exact .inr (.inl h7)
     ·rcases this.1 (.inr h6.symm) with h7 | h7
      ·exact .inl h7
      ·exact .inr (.inl h7)
     ·exact .inr (.inr ⟨h6, by omega⟩)
    ·rintro (h6 | h6 | h6)
     ·rcases this.2 (.inl h6) with h7 | h7
      ·exact .inl (.inl h7)
      ·exact .inl (.inr h7.symm)
     ·rcases this.2 (.inr h6) with h7 | h7
      ·exact .inl (.inl h7)
      ·exact .inl (.inr h7.symm)
     ·exact .inr h6.1
  ·subst heq
   have hk : kp (L ++ [(f, f)]) = kp L := by
    rw [kp_append, kp_one, if_neg (by rw [has_iff]; simp only; omega), List.append_nil]
   refine ⟨?_, h2, h3, fun d => ?_, .inr (by simp)⟩
   ·simp only; rw [hk]; exact h1
   ·simp only; rw [hk, hd d, h4 d]; constructor
    ·rintro (h6 | h6)
     ·exact .inl h6
     ·exact .inr (.inl h6)
    ·rintro (h6 | h6 | h6)
     ·exact .inl h6
     ·exact .inr h6
     ·rcases (h4 f).1 (.inr rfl) with h7 | h7
      ·omega
      ·rw [h6.1]; exact .inr h7
 ·rw [if_neg he]; refine ⟨h1, h2, h3, fun d => ?_, ?_⟩
  ·rw [h4 d]; refine or_congr Iff.rfl ?_; simp only [List.mem_append, List.mem_singleton]; constructor
   ·rintro ⟨h6, h7⟩; exact ⟨.inl h6, h7⟩
   ·rintro ⟨h6 | h6, h7⟩
    ·exact ⟨h6, h7⟩
    ·subst h6; exact absurd ((inn_iff s d).2 (by omega)) he
  ·rcases h5 with h5 | h5
   ·exact .inl h5
   ·exact .inr (by simp [h5])
theorem cuts_all {s : Sp} (hs : has s = true) : ∀ (es ds : List Int) (st : List Sp × Int), Cuts s ds st → (ds ++ es).Pairwise (· ≤ ·) → Cuts s (ds ++ es) (es.foldl (ps s) st) := by
 intro es
 induction es with
 | nil => intro ds st h _; simpa using h
 | cons e es ih =>
  intro ds st h hp; have eq : ds ++ e :: es = (ds ++ [e]) ++ es := by simp
  rw [eq] at hp ⊢; refine ih (ds ++ [e]) (ps s st e) (cuts_step hs h fun d hd => ?_) hp; exact (List.pairwise_append.1 (List.pairwise_append.1 hp).1).2.2 d hd e (by simp)
theorem pf_none {s : Sp} (hs : has s = false) (ds : List Int) : pf s ds = ([], s.1) := by
 have hi : ∀ d, inn s d = false := fun d => by cases hh : inn s d; rfl; rw [inn_has hh] at hs; cases hs
 have : ∀ (es : List Int) (st : List Sp × Int), es.foldl (ps s) st = st := by
  intro es
  induction es with
  | nil => intro st; rfl
  | cons e es ih => intro st; simp only [List.foldl_cons]; rw [ih]; simp [ps, hi]
 exact this ds _
theorem pf_parted {s : Sp} {ds es : List Int} (hp : ds.Pairwise (· ≤ ·)) (hm : ∀ d, d ∈ ds ↔ d ∈ es) : Parted s es (kp ((pf s ds).1 ++ [((pf s ds).2, s.2)])) := by
 cases hs : has s
 ·rw [pf_none hs]; refine ⟨fun _ => ?_, fun h => (by cases hs.symm.trans h), fun h => (by cases hs.symm.trans h)⟩; simp only [List.nil_append]; rw [kp_one, if_neg (by simp [hs])]
 ·have hs' := (has_iff s).1 hs; have h0 : Cuts s [] ([], s.1) := ⟨rfl, Int.le_refl _, hs'.2.1, fun d => by simp [kp, fst], .inl rfl⟩; have h := cuts_all hs ds [] _ h0 (by simpa using hp); simp only [List.nil_append] at h; have e : ds.foldl (ps s) ([], s.1) = pf s ds := rfl; rw [e] at h; generalize pf s ds = st at h ⊢; obtain ⟨L, f⟩ := st; have h1 := h.chain; have h2 := h.lo; have h3 := h.hi; have h4 := h.cuts; simp only at h1 h2 h3 h4 ⊢
  have hk : kp (L ++ [(f, s.2)]) = kp L ++ [(f, s.2)] := by
   rw [kp_append, kp_one, if_pos ((has_iff _).2 (by simp only; omega))]
  rw [hk]; refine ⟨fun h => (by cases hs.symm.trans h), fun _ => h1.snoc h3, fun _ d => ?_⟩; rw [fst_snoc, ← hm d, ← h4 d]; exact or_congr Iff.rfl ⟨Eq.symm, Eq.symm⟩
end Go.Proofs.YtfidmphajohljaaGreat.Sp
namespace Go.Proofs.YtfidmphajohljaaGreat
open Ba Cv Sp Te Ag
namespace Sl
instance : DecidableEq Ri := fun a b => decidable_of_iff (a.k = b.k ∧ a.v = b.v ∧ a.a = b.a ∧ a.z = b.z) (by cases a; cases b; simp)
instance : DecidableEq Co := fun a b => decidable_of_iff (a.p = b.p ∧ a.l = b.l ∧ a.g = b.g ∧ a.d = b.d ∧ a.s = b.s) (by cases a; cases b; simp)
structure Hd where
 on : Bool
 r : Ri
 cs : List Co
instance : DecidableEq Hd := fun a b => decidable_of_iff (a.on = b.on ∧ a.r = b.r ∧ a.cs = b.cs) (by cases a; cases b; simp)
structure Sc where
 s : Sp
 h : Hd
 y : Int
instance : DecidableEq Sc := fun a b => decidable_of_iff (a.s = b.s ∧ a.h = b.h ∧ a.y = b.y) (by cases a; cases b; simp)
def don (s : Hd) (c : Ch) : Hd := if c.kd = 1 then ⟨s.on, c.r, s.cs⟩ else if c.kd = 2 then ⟨s.on, s.r, c.cs⟩ else if c.kd = 3 then ⟨false, s.r, s.cs⟩ else if c.kd = 4 then ⟨true, s.r, s.cs⟩ else s
def ups (o : List Ch) (d : Int) : List Ch := o.filter fun c => decide (c.dy ≤ d)
def hld (i : Hd) (o : List Ch) (d : Int) : Hd := (ups o d).foldl don i
theorem ups_same {o : List Ch} {a b : Int} (hab : a ≤ b) (h : ∀ c ∈ o, ¬ (a < c.dy ∧ c.dy ≤ b)) : ups o b = ups o a := by
 unfold ups; refine List.filter_congr fun c hc => ?_
 have := h c hc; exact decide_eq_decide.2 (by omega)
theorem hld_same {i : Hd} {o : List Ch} {a b : Int} (hab : a ≤ b) (h : ∀ c ∈ o, ¬ (a < c.dy ∧ c.dy ≤ b)) : hld i o b = hld i o a := by unfold hld; rw [ups_same hab h]
theorem ups_take {o : List Ch} {d : Int} {p : Nat} (h1 : ∀ c ∈ o.take p, c.dy ≤ d) (h2 : ∀ c ∈ o.drop p, d < c.dy) : ups o d = o.take p := by
 unfold ups
 conv => lhs; rw [← List.take_append_drop p o]
 rw [List.filter_append, List.filter_eq_self.2 (fun c hc => decide_eq_true (h1 c hc)), List.filter_eq_nil_iff.2 (fun c hc => by have := h2 c hc; simp; omega), List.append_nil]
theorem rise_drop {o : List Ch} (h : o.Pairwise fun a b => a.dy ≤ b.dy) {p : Nat} {d : Int} (hp : ∀ c, o[p]? = some c → d < c.dy) : ∀ c ∈ o.drop p, d < c.dy := by
 intro c hc; rcases Nat.lt_or_ge p o.length with hl | hl
 ·have h' : (o.drop p).Pairwise fun a b => a.dy ≤ b.dy := h.sublist (List.drop_sublist p o)
  rw [List.drop_eq_getElem_cons hl] at hc h'; have h0 := hp _ (List.getElem?_eq_getElem hl); rcases List.mem_cons.1 hc with rfl | hc
  ·exact h0
  ·have := (List.pairwise_cons.1 h').1 c hc; omega
 ·rw [List.drop_of_length_le hl] at hc; cases hc
structure Cutd (g : Int → Hd) (f t : Int) (L : List (Sp × Hd)) : Prop where
 ch : Chain f t (L.map Prod.fst)
 is : ∀ x ∈ L, ∀ d, x.1.1 ≤ d → d < x.1.2 → g d = x.2
 nb : ∀ (i : Nat) (x y : Sp × Hd), L[i]? = some x → L[i + 1]? = some y → x.2 ≠ y.2
section
variable {g : Int → Hd} {f m t : Int} {L : List (Sp × Hd)}
theorem Cutd.nil : Cutd g f f [] := ⟨rfl, (fun x hx => by cases hx), (fun i x y h => by simp at h)⟩
theorem Cutd.one {h : Hd} (hm : f < m) (hg : ∀ d, f ≤ d → d < m → g d = h) : Cutd g f m [((f, m), h)] :=
 ⟨⟨rfl, hm, rfl⟩, (fun x hx => by rw [List.mem_singleton] at hx; subst hx; exact hg), (fun i x y h0 h1 => by simp at h1)⟩
theorem Cutd.more {h : Hd} {x : Sp × Hd} (H : Cutd g f m (L ++ [x])) (hm : m < t) (hg : ∀ d, m ≤ d → d < t → g d = h) (hx : x.2 ≠ h) : Cutd g f t ((L ++ [x]) ++ [((m, t), h)]) := by
 refine ⟨?_, ?_, ?_⟩
 ·rw [List.map_append]; exact H.ch.snoc hm
 ·intro y hy; rcases List.mem_append.1 hy with hy | hy
  ·exact H.is y hy
  ·rw [List.mem_singleton] at hy; subst hy; exact hg
 ·intro i y z h0 h1; have hl : i + 1 < (L ++ [x] ++ [((m, t), h)]).length := (List.getElem?_eq_some_iff.1 h1).1; simp only [List.length_append, List.length_singleton] at hl; rcases Nat.lt_or_ge (i + 1) (L ++ [x]).length with hi | hi
  ·rw [List.getElem?_append_left hi] at h1; rw [List.getElem?_append_left (by omega)] at h0; exact H.nb i y z h0 h1
  ·simp only [List.length_append, List.length_singleton] at hi; obtain rfl : i = L.length := by omega
   rw [List.getElem?_append_left (by simp), List.getElem?_append_right (Nat.le_refl _), Nat.sub_self] at h0; rw [List.getElem?_append_right (by simp)] at h1; simp at h0 h1; subst h0 h1; exact hx
theorem Chain.len {m t : Int} : ∀ {xs : List Sp} {f a : Int}, Chain f m (xs ++ [(a, m)]) → m < t → Chain f t (xs ++ [(a, t)])
 | [], f, a, h, hm => ⟨h.1, by have := h.2.1; simp at this ⊢; omega, rfl⟩
 | x :: xs, f, a, h, hm => ⟨h.1, h.2.1, Chain.len h.2.2 hm⟩
theorem Chain.end_ {m b : Int} : ∀ {xs : List Sp} {f a : Int}, Chain f m (xs ++ [(a, b)]) → b = m
 | [], f, a, h => h.2.2
 | x :: xs, f, a, h => Chain.end_ h.2.2
theorem Cutd.longer {h : Hd} {a b : Int} (H : Cutd g f m (L ++ [((a, b), h)])) (hm : m < t) (hg : ∀ d, m ≤ d → d < t → g d = h) : Cutd g f t (L ++ [((a, t), h)]) := by
 have hc := H.ch; rw [List.map_append] at hc; obtain rfl : b = m := Chain.end_ hc; refine ⟨?_, ?_, ?_⟩
 ·rw [List.map_append]; exact Chain.len hc hm
 ·intro y hy; rcases List.mem_append.1 hy with hy | hy
  ·exact H.is y (List.mem_append_left _ hy)
  ·rw [List.mem_singleton] at hy; subst hy; intro d h1 h2; rcases Int.lt_or_le d b with h3 | h3
   ·exact H.is _ (List.mem_append_right _ (List.mem_singleton.2 rfl)) d h1 h3
   ·exact hg d h3 h2
 ·intro i y z h0 h1; have hl : i + 1 < (L ++ [((a, t), h)]).length := (List.getElem?_eq_some_iff.1 h1).1; simp only [List.length_append, List.length_singleton] at hl; rw [List.getElem?_append_left (by omega)] at h0; rcases Nat.lt_or_ge (i + 1) L.length with hi | hi
  ·rw [List.getElem?_append_left hi] at h1; exact H.nb i y z (by rw [List.getElem?_append_left (by omega)]; exact h0) (by rw [List.getElem?_append_left hi]; exact h1)
  ·rw [List.getElem?_append_right hi] at h1; have e : i + 1 = L.length := by omega
   rw [e, Nat.sub_self] at h1; simp at h1; subst h1; exact H.nb i y ((a, b), h) (by rw [List.getElem?_append_left (by omega)]; exact h0) (by rw [e, List.getElem?_append_right (Nat.le_refl _), Nat.sub_self]; rfl)
theorem Cutd.tail {x : Sp × Hd} (H : Cutd g f t (x :: L)) : Cutd g x.1.2 t L :=
 ⟨H.ch.2.2, fun y hy => H.is y (List.mem_cons_of_mem _ hy), fun i y z h0 h1 => H.nb (i + 1) y z (by simpa using h0) (by simpa using h1)⟩
theorem Cutd.head {x : Sp × Hd} (H : Cutd g f t (x :: L)) : x.1.1 = f ∧ f < x.1.2 ∧ x.1.2 ≤ t ∧ g f = x.2 := by
 have h1 : x.1.1 = f := H.ch.1; have h2 : x.1.1 < x.1.2 := H.ch.2.1; have h3 : x.1.2 ≤ t := H.tail.ch.le; exact ⟨h1, by omega, h3, by rw [← h1]; exact H.is x (List.mem_cons_self) _ (Int.le_refl _) h2⟩
theorem Cutd.unique : ∀ {L M : List (Sp × Hd)} {f : Int}, Cutd g f t L → Cutd g f t M → L = M
 | [], [], _, _, _ => rfl
 | [], y :: M, f, H, K => by have := K.head; have h : f = t := H.ch; omega
 | x :: L, [], f, H, K => by have := H.head; have h : f = t := K.ch; omega
 | x :: L, y :: M, f, H, K => by
  have hx := H.head; have hy := K.head
  have key : ∀ {x y : Sp × Hd} {L M : List (Sp × Hd)}, Cutd g f t (x :: L) → Cutd g f t (y :: M) → ¬ x.1.2 < y.1.2 := by
   intro x y L M H K hlt; have hx := H.head; have hy := K.head; cases L with
   | nil => have h : x.1.2 = t := H.tail.ch; omega
   | cons z L =>
    have hz := H.tail.head; have h1 := H.nb 0 x z rfl rfl; have h2 : g x.1.2 = y.2 := K.is y List.mem_cons_self _ (by omega) hlt; exact h1 (by rw [← hx.2.2.2, hy.2.2.2, ← h2, hz.2.2.2])
  have e : x.1.2 = y.1.2 := by
   have := key H K; have := key K H; omega
  have e2 : x = y := Prod.ext (Prod.ext (by rw [hx.1, hy.1]) e) (by rw [← hx.2.2.2, hy.2.2.2]); subst e2; rw [Cutd.unique H.tail K.tail]
end
def lng (L : List (Sp × Hd)) (z : Sp) (h : Hd) : List (Sp × Hd) := match L.getLast? with
 | some x => if x.2 = h then L.dropLast ++ [((x.1.1, z.2), h)] else L ++ [(z, h)]
 | none => [(z, h)]
section
variable {L : List (Sp × Hd)} {x : Sp × Hd} {z : Sp} {h : Hd} {g : Int → Hd} {f t : Int}
theorem lng_same : lng (L ++ [x]) z x.2 = L ++ [((x.1.1, z.2), x.2)] := by simp [lng]
theorem lng_more (hx : x.2 ≠ h) : lng (L ++ [x]) z h = (L ++ [x]) ++ [(z, h)] := by simp [lng, hx]
theorem lng_cutd (H : Cutd g f z.1 L) (hz : z.1 < z.2) (hg : ∀ d, z.1 ≤ d → d < z.2 → g d = h) : Cutd g f z.2 (lng L z h) := by
 rcases List.eq_nil_or_concat L with rfl | ⟨M, x, rfl⟩
 ·have e : f = z.1 := H.ch; subst e; exact Cutd.one hz hg
 ·rw [List.concat_eq_append] at H ⊢; by_cases hx : x.2 = h
  ·subst hx; rw [lng_same]; obtain ⟨⟨a, b⟩, c⟩ := x; exact H.longer hz hg
  ·rw [lng_more hx]; exact H.more hz hg hx
theorem chain_apart : ∀ {zs : List Sp} {f : Int}, Chain f t zs → ∀ x ∈ zs, ∀ y ∈ zs, x.1 < y.1 → x.2 ≤ y.1
 | [], f, h, x, hx => by cases hx
 | z :: zs, f, h, x, hx => by
  intro y hy hlt; have h0 := h.1; have h1 := h.2.1; have hm := Chain.mem h.2.2; rcases List.mem_cons.1 hx with ex | kx
  ·subst ex; rcases List.mem_cons.1 hy with ey | ky
   ·subst ey; omega
   ·exact (hm y ky).1
  ·rcases List.mem_cons.1 hy with ey | ky
   ·subst ey; have := hm x kx; omega
   ·exact chain_apart (f := z.2) h.2.2 x kx y ky hlt
end
theorem part_quiet {s : Sp} {ds : List Int} {zs : List Sp} (P : Parted s ds zs) (hs : has s = true) {z : Sp} (hz : z ∈ zs) {x : Int} (hx : x ∈ ds) : ¬ (z.1 < x ∧ x < z.2) := by
 rintro ⟨h1, h2⟩; have hm := (P.chain hs).mem z hz; obtain ⟨y, hy, e⟩ := (P.cuts hs x).2 (.inr ⟨hx, by omega, by omega⟩); have := chain_apart (f := s.1) (P.chain hs) z hz y hy (by omega); omega
def bad (q : Ri → List Co → Int × Int) : List (Sp × Hd) → Int
 | [] => 0
 | x :: l => if x.2.on = true ∧ (q x.2.r x.2.cs).2 ≠ 0 then (q x.2.r x.2.cs).2 else bad q l
def prc (q : Ri → List Co → Int × Int) (x : Sp × Hd) : Sc := ⟨x.1, x.2, if x.2.on = true then (q x.2.r x.2.cs).1 else 0⟩
section
variable {q : Ri → List Co → Int × Int} {x : Sp × Hd} {l : List (Sp × Hd)}
theorem bad_off (h : x.2.on = false) : bad q (x :: l) = bad q l := by rw [bad, if_neg (by rw [h]; simp)]
theorem bad_ok (h : (q x.2.r x.2.cs).2 = 0) : bad q (x :: l) = bad q l := by rw [bad, if_neg (by rw [h]; simp)]
theorem bad_is (h : x.2.on = true) (h2 : (q x.2.r x.2.cs).2 ≠ 0) : bad q (x :: l) = (q x.2.r x.2.cs).2 := by rw [bad, if_pos ⟨h, h2⟩]
theorem prc_off (h : x.2.on = false) : prc q x = ⟨x.1, x.2, 0⟩ := by rw [prc, if_neg (by rw [h]; simp)]
theorem prc_on (h : x.2.on = true) : prc q x = ⟨x.1, x.2, (q x.2.r x.2.cs).1⟩ := by rw [prc, if_pos h]
end
def hrt (h : Hi) : Bool := te h.s h.r h.cs && (decide (h.hs.length ≤ 2000) && h.hs.all fun c => rch c && inn h.s c.dy)
theorem hrt_iff {h : Hi} : hrt h = true ↔ te h.s h.r h.cs = true ∧ h.hs.length ≤ 2000 ∧ ∀ c ∈ h.hs, rch c = true ∧ inn h.s c.dy = true := by
 unfold hrt; simp [List.all_eq_true]
def ordl (hs : List Ch) (o : List Int) : List Ch := o.map fun x => (hs[x.toNat]?).getD zch
def ini (h : Hi) : Hd := ⟨true, h.r, h.cs⟩
theorem ordl_len (hs : List Ch) (o : List Int) : (ordl hs o).length = o.length := by simp [ordl]
theorem key_getD (hs : List Ch) (x : Int) : key hs x = ((hs[x.toNat]?).getD zch).dy := by
 unfold key; cases hs[x.toNat]? <;> rfl
section
variable {hs : List Ch} {o : List Int} {k : Nat} {x : Int} {c : Ch}
theorem ordl_rise (h : Ag.Ord hs o) : (ordl hs o).Pairwise fun a b => a.dy ≤ b.dy := by
 unfold ordl; rw [List.pairwise_map]; refine h.2.imp fun {a b} hab => ?_
 unfold St.lt at hab; rw [key_getD, key_getD] at hab; omega
theorem ord_at (h : Ag.Ord hs o) {x : Int} (hx : x ∈ o) : 0 ≤ x ∧ x < hs.length := plc_mem.1 (h.mem hx)
theorem ordl_get (hx : o[k]? = some x) (hc : hs[x.toNat]? = some c) : (ordl hs o)[k]? = some c := by
 unfold ordl; rw [List.getElem?_map, hx]; simp [hc]
theorem ordl_mem (h : Ag.Ord hs o) {c : Ch} : c ∈ ordl hs o ↔ c ∈ hs := by
 unfold ordl; rw [List.mem_map]; constructor
 ·rintro ⟨x, hx, rfl⟩; have := ord_at h hx; have hl : x.toNat < hs.length := by omega
  rw [List.getElem?_eq_getElem hl]; exact List.getElem_mem hl
 ·intro hc; obtain ⟨k, hk, rfl⟩ := List.mem_iff_getElem.1 hc; refine ⟨(k : Int), h.1.mem_iff.2 (plc_mem.2 ⟨by omega, by omega⟩), ?_⟩; rw [Int.toNat_natCast, List.getElem?_eq_getElem hk]; rfl
end
end Sl
end Go.Proofs.YtfidmphajohljaaGreat
