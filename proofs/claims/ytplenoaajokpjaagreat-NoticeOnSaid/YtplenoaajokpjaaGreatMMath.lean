/-
  The parts St, Ma, Ag, Pt, Sm of this proof. Conditions: those of each theorem.
-/
import Derived.Test.YtplenoaajokpjaaGreatRows
namespace Go.Proofs.YtplenoaajokpjaaGreat
namespace St
set_option linter.unusedVariables false
def lt (key : Int → Int) (x y : Int) : Prop := key x < key y ∨ (key x = key y ∧ x < y)
section
variable {key : Int → Int} {x y z : Int}
theorem lt_trans (h1 : lt key x y) (h2 : lt key y z) : lt key x z := by unfold lt at *; omega
theorem lt_irr (h1 : lt key x y) (h2 : lt key y x) : False := by unfold lt at *; omega
theorem lt_key (h : x < y) : lt key y x ↔ key y < key x := by unfold lt; omega
theorem lt_nkey (h : x < y) : lt key x y ↔ ¬ key y < key x := by unfold lt; omega
end
abbrev Srt (key : Int → Int) (xs : List Int) : Prop := xs.Pairwise (lt key)
def Good (key : Int → Int) (xs D : List Int) : Prop := List.Perm xs D ∧ Srt key xs
theorem Good.one {key : Int → Int} {xs ys D : List Int} (h1 : Good key xs D) (h2 : Good key ys D) : xs = ys :=
 List.Perm.eq_of_pairwise (fun a b _ _ h h' => (lt_irr h h').elim) h1.2 h2.2 (h1.1.trans h2.1.symm)
theorem Good.mem {key : Int → Int} {xs D : List Int} (h : Good key xs D) {x : Int} (hx : x ∈ xs) : x ∈ D := h.1.mem_iff.1 hx
theorem Good.len {key : Int → Int} {xs D : List Int} (h : Good key xs D) : xs.length = D.length := h.1.length_eq
theorem Good.nil {key : Int → Int} : Good key [] [] := ⟨List.Perm.nil, List.Pairwise.nil⟩
def cf (a b : Int) : Int := if a < b then -1 else if b < a then 1 else 0
theorem cf_neg (a b : Int) : decide (cf a b < 0) = decide (a < b) := by
 unfold cf; split
 ·simp [*]
 ·split <;> simp [*]
theorem cf_in (a b : Int) : -1 ≤ cf a b ∧ cf a b ≤ 1 := by
 unfold cf; split
 ·omega
 ·split <;> omega
theorem get_at {p q : List Int} {x : Int} {i : Nat} (hi : p.length = i) : (p ++ x :: q)[i]? = some x := by
 subst hi; simp
theorem set_at {p q : List Int} {x y : Int} {i : Nat} (hi : p.length = i) : (p ++ x :: q).set i y = p ++ y :: q := by
 subst hi; simp
theorem swap_at {p m q : List Int} {x y : Int} {i j : Nat} (hi : p.length = i) (hj : p.length + 1 + m.length = j) :
  (p ++ x :: (m ++ y :: q))[i]? = some x ∧ (p ++ x :: (m ++ y :: q))[j]? = some y ∧ ((p ++ x :: (m ++ y :: q)).set i y).set j x = p ++ y :: (m ++ x :: q) ∧ ((p ++ x :: (m ++ y :: q)).set j x).set i y = p ++ y :: (m ++ x :: q) := by
 have e : ∀ a b : Int, p ++ a :: (m ++ b :: q) = (p ++ a :: m) ++ b :: q := fun a b => by simp
 have hl : ∀ a : Int, (p ++ a :: m).length = j := fun a => by simp; omega
 refine ⟨get_at hi, ?_, ?_, ?_⟩
 ·rw [e]; exact get_at (hl x)
 ·rw [set_at hi, e, set_at (hl y), ← e]
 ·rw [e, set_at (hl x), ← e, set_at hi]
def half (p A M B q : List Int) (k : Nat) : List Int := p ++ (B.take k ++ A.drop k) ++ M ++ (A.take k ++ B.drop k) ++ q
theorem half_zero (p A M B q : List Int) : half p A M B q 0 = p ++ A ++ M ++ B ++ q := by simp [half]
theorem half_all {p A M B q : List Int} {n : Nat} (h1 : A.length = n) (h2 : B.length = n) : half p A M B q n = p ++ B ++ M ++ A ++ q := by
 unfold half; rw [List.take_of_length_le (by omega), List.drop_of_length_le (by omega), List.take_of_length_le (by omega), List.drop_of_length_le (by omega)]; simp
theorem half_next {p A M B q : List Int} {n k a b : Nat} (h1 : A.length = n) (h2 : B.length = n) (hk : k < n) (ha : p.length = a) (hb : p.length + n + M.length = b) :
  ∃ x y, (half p A M B q k)[a + k]? = some x ∧ (half p A M B q k)[b + k]? = some y ∧ ((half p A M B q k).set (a + k) y).set (b + k) x = half p A M B q (k + 1) := by
 have e1 : half p A M B q k = (p ++ B.take k) ++ A[k] :: ((A.drop (k + 1) ++ M ++ A.take k) ++ B[k] :: (B.drop (k + 1) ++ q)) := by
  unfold half; rw [List.drop_eq_getElem_cons (show k < A.length by omega), List.drop_eq_getElem_cons (show k < B.length by omega)]; simp only [List.append_assoc, List.cons_append, List.nil_append]
 have e2 : half p A M B q (k + 1) = (p ++ B.take k) ++ B[k] :: ((A.drop (k + 1) ++ M ++ A.take k) ++ A[k] :: (B.drop (k + 1) ++ q)) := by
  unfold half; rw [← List.take_concat_get (show k < A.length by omega), ← List.take_concat_get (show k < B.length by omega)]; simp only [List.concat_eq_append, List.append_assoc, List.cons_append, List.nil_append]
 have hi : (p ++ B.take k).length = a + k := by simp; omega
 have hj : (p ++ B.take k).length + 1 + (A.drop (k + 1) ++ M ++ A.take k).length = b + k := by simp; omega
 obtain ⟨g1, g2, g3, _⟩ := swap_at (x := A[k]) (y := B[k]) (q := B.drop (k + 1) ++ q) hi hj; refine ⟨A[k], B[k], by rw [e1]; exact g1, by rw [e1]; exact g2, by rw [e1, e2]; exact g3⟩
theorem half_len (p A M B q : List Int) (n k : Nat) (h1 : A.length = n) (h2 : B.length = n) (hk : k ≤ n) : (half p A M B q k).length = p.length + n + M.length + n + q.length := by
 simp [half]; omega
theorem ins_end {key : Int → Int} {T1 T2 D : List Int} {x : Int} (hT : Srt key (T1 ++ T2)) (hp : List.Perm (T1 ++ T2) D) (hx : ∀ y ∈ T2, lt key x y) (hy : ∀ y ∈ T1, lt key y x) : Good key (T1 ++ x :: T2) (D ++ [x]) := by
 refine ⟨(List.perm_middle.trans (hp.cons x)).trans (List.perm_append_singleton x D).symm, ?_⟩; unfold Srt at hT ⊢; rw [List.pairwise_append] at hT ⊢; obtain ⟨a, b, c⟩ := hT; refine ⟨a, List.Pairwise.cons hx b, fun u hu v hv => ?_⟩; rcases List.mem_cons.1 hv with rfl | hv
 ·exact hy u hu
 ·exact c u hu v hv
theorem ins_all {key : Int → Int} {T1 T2 : List Int} {u x : Int} (hT : Srt key (T1 ++ u :: T2)) (h : lt key u x) : ∀ y ∈ T1 ++ [u], lt key y x := by
 unfold Srt at hT; rw [List.pairwise_append] at hT; intro y hy; rcases List.mem_append.1 hy with hy | hy
 ·exact lt_trans (hT.2.2 y hy u (List.mem_cons_self ..)) h
 ·simp at hy; subst hy; exact h
theorem srt_get {key : Int → Int} {xs : List Int} (h : Srt key xs) {i j : Nat} {x y : Int} (hi : xs[i]? = some x) (hj : xs[j]? = some y) (hij : i < j) : lt key x y := by
 obtain ⟨h1, e1⟩ := List.getElem?_eq_some_iff.1 hi; obtain ⟨h2, e2⟩ := List.getElem?_eq_some_iff.1 hj; have := List.pairwise_iff_getElem.1 h i j h1 h2 hij; rwa [e1, e2] at this
theorem srt_sub {key : Int → Int} {xs ys : List Int} (h : Srt key ys) (hs : xs.Sublist ys) : Srt key xs := h.sublist hs
def Cut (P : Int → Prop) (xs : List Int) (k : Nat) : Prop := (∀ j x, j < k → xs[j]? = some x → P x) ∧ (∀ j x, k ≤ j → xs[j]? = some x → ¬ P x)
theorem Cut.take {P : Int → Prop} {xs : List Int} {k : Nat} (h : Cut P xs k) : ∀ x ∈ xs.take k, P x := by
 intro x hx; obtain ⟨j, hj⟩ := List.mem_iff_getElem?.1 hx; by_cases hjk : j < k
 ·rw [List.getElem?_take_of_lt hjk] at hj; exact h.1 j x hjk hj
 ·rw [List.getElem?_take] at hj; rw [if_neg hjk] at hj; cases hj
theorem Cut.drop {P : Int → Prop} {xs : List Int} {k : Nat} (h : Cut P xs k) : ∀ x ∈ xs.drop k, ¬ P x := by
 intro x hx; obtain ⟨j, hj⟩ := List.mem_iff_getElem?.1 hx; rw [List.getElem?_drop] at hj; exact h.2 (k + j) x (by omega) hj
theorem put_in {key : Int → Int} {x : Int} {T : List Int} {k : Nat} (hT : Srt key T) (h : Cut (fun y => lt key y x) T k) (hn : ∀ y ∈ T, lt key y x ∨ lt key x y) : Good key (T.take k ++ x :: T.drop k) (x :: T) := by
 have e : T.take k ++ T.drop k = T := List.take_append_drop k T; refine ⟨?_, ?_⟩
 ·have := List.perm_middle (a := x) (l₁ := T.take k) (l₂ := T.drop k); rwa [e] at this
 ·have hT' := hT; rw [← e] at hT'; unfold Srt at hT' ⊢; rw [List.pairwise_append] at hT' ⊢; obtain ⟨a, b, c⟩ := hT'; have hd : ∀ y ∈ T.drop k, lt key x y := fun y hy => (hn y (List.mem_of_mem_drop hy)).resolve_left (h.drop y hy)
  refine ⟨a, List.Pairwise.cons hd b, fun u hu v hv => ?_⟩; rcases List.mem_cons.1 hv with rfl | hv
  ·exact h.take u hu
  ·exact c u hu v hv
theorem Good.perm {key : Int → Int} {xs D D' : List Int} (h : Good key xs D) (hp : List.Perm D D') : Good key xs D' := ⟨h.1.trans hp, h.2⟩
theorem halves {key : Int → Int} {L1 L2 R1 R2 S1 S2 : List Int} (hL : Srt key (L1 ++ L2)) (hR : Srt key (R1 ++ R2)) (h1 : ∀ x ∈ L1, ∀ y ∈ R2, lt key x y) (h2 : ∀ y ∈ R1, ∀ x ∈ L2, lt key y x)
  (g1 : Good key S1 (L1 ++ R1)) (g2 : Good key S2 (L2 ++ R2)) : Good key (S1 ++ S2) ((L1 ++ L2) ++ (R1 ++ R2)) := by
 unfold Srt at hL hR; rw [List.pairwise_append] at hL hR; refine ⟨(g1.1.append g2.1).trans ?_, ?_⟩
 ·have : List.Perm (R1 ++ L2) (L2 ++ R1) := List.perm_append_comm; have := (this.append_right R2).append_left L1; simpa [List.append_assoc] using this
 ·unfold Srt; rw [List.pairwise_append]; refine ⟨g1.2, g2.2, fun x hx y hy => ?_⟩; rcases List.mem_append.1 (g1.mem hx) with hx | hx <;> rcases List.mem_append.1 (g2.mem hy) with hy | hy
  ·exact hL.2.2 x hx y hy
  ·exact h1 x hx y hy
  ·exact h2 x hx y hy
  ·exact hR.2.2 x hx y hy
inductive Blk (key : Int → Int) (s : Nat) : List Int → List Int → Prop
 | last {xs D : List Int} : D.length ≤ s → Good key xs D → Blk key s xs D
 | cons {x1 D1 x2 D2 : List Int} : D1.length = s → Good key x1 D1 → Blk key s x2 D2 → Blk key s (x1 ++ x2) (D1 ++ D2)
inductive Full (key : Int → Int) (s : Nat) : List Int → List Int → Prop
 | nil : Full key s [] []
 | snoc {x1 D1 x2 D2 : List Int} : Full key s x1 D1 → D2.length = s → Good key x2 D2 → Full key s (x1 ++ x2) (D1 ++ D2)
section
variable {key : Int → Int} {s : Nat} {xs ys D E : List Int}
theorem Full.blk (h : Full key s xs D) : ∀ {ys E : List Int}, Blk key s ys E → Blk key s (xs ++ ys) (D ++ E) := by
 induction h with
 | nil => intro ys E h; exact h
 | snoc h1 h2 h3 ih => intro ys E h; rw [List.append_assoc, List.append_assoc]; exact ih (.cons h2 h3 h)
theorem Blk.perm (h : Blk key s xs D) : List.Perm xs D := by
 induction h with
 | last _ h => exact h.1
 | cons _ h _ ih => exact h.1.append ih
theorem Full.perm (h : Full key s xs D) : List.Perm xs D := by
 induction h with
 | nil => exact List.Perm.nil
 | snoc _ _ h ih => exact ih.append h.1
theorem Blk.len (h : Blk key s xs D) : xs.length = D.length := h.perm.length_eq
theorem Full.len (h : Full key s xs D) : xs.length = D.length := h.perm.length_eq
theorem Blk.done (h : Blk key s xs D) (hs : D.length ≤ s) : Good key xs D := by
 cases h with
 | last _ h => exact h
 | cons h1 h2 h3 =>
  rename_i x1 D1 x2 D2
  have hD : D2 = [] := List.eq_nil_of_length_eq_zero (by rw [List.length_append] at hs; omega); have hx : x2 = [] := List.eq_nil_of_length_eq_zero (by rw [h3.len, hD]; rfl); subst hD hx; simpa using h2
theorem Blk.first (h : Blk key s xs D) (hs : s < D.length) : ∃ x1 D1 x2 D2, xs = x1 ++ x2 ∧ D = D1 ++ D2 ∧ D1.length = s ∧ Good key x1 D1 ∧ Blk key s x2 D2 := by
 cases h with
 | last h _ => omega
 | cons h1 h2 h3 => exact ⟨_, _, _, _, rfl, rfl, h1, h2, h3⟩
theorem Blk.head (h : Blk key s xs D) (hs : s ≤ D.length) : ∃ x1 D1 x2 D2, xs = x1 ++ x2 ∧ D = D1 ++ D2 ∧ D1.length = s ∧ Good key x1 D1 ∧ Blk key s x2 D2 := by
 cases h with
 | last h g => exact ⟨xs, D, [], [], by simp, by simp, by omega, g, .last (Nat.zero_le _) Good.nil⟩
 | cons h1 h2 h3 => exact ⟨_, _, _, _, rfl, rfl, h1, h2, h3⟩
end
structure Bis (P : Nat → Prop) (lo hi i j : Nat) : Prop where
 a : lo ≤ i
 b : i ≤ j
 c : j ≤ hi
 yes : ∀ h, lo ≤ h → h < i → P h
 no : ∀ h, j ≤ h → h < hi → ¬ P h
def Down (P : Nat → Prop) (lo hi : Nat) : Prop := ∀ h h', lo ≤ h' → h' < h → h < hi → P h → P h'
section
variable {P : Nat → Prop} {lo hi i j h : Nat}
theorem Bis.start (hl : lo ≤ hi) : Bis P lo hi lo hi := ⟨Nat.le_refl _, hl, Nat.le_refl _, fun h h1 h2 => by omega, fun h h1 h2 => by omega⟩
theorem Bis.up (H : Bis P lo hi i j) (D : Down P lo hi) (h1 : i ≤ h) (h2 : h < j) (hp : P h) : Bis P lo hi (h + 1) j := by
 have := H.a; have := H.c; refine ⟨by omega, by omega, H.c, fun h' h3 h4 => ?_, H.no⟩; rcases Nat.lt_or_ge h' h with hlt | hge
 ·exact D h h' h3 hlt (by omega) hp
 ·obtain rfl : h' = h := by omega
  exact hp
theorem Bis.down (H : Bis P lo hi i j) (D : Down P lo hi) (h1 : i ≤ h) (h2 : h < j) (hp : ¬ P h) : Bis P lo hi i h := by
 have := H.a; have := H.c; refine ⟨H.a, h1, by omega, H.yes, fun h' h3 h4 hp' => ?_⟩; rcases Nat.lt_or_ge h h' with hlt | hge
 ·exact hp (D h' h (by omega) hlt h4 hp')
 ·obtain rfl : h' = h := by omega
  exact hp hp'
end
theorem cross {key : Int → Int} {L R : List Int} {s t : Nat} (hL : Srt key L) (hR : Srt key R) (hLR : ∀ x ∈ L, ∀ y ∈ R, x < y) (hs : s ≤ L.length) (ht : t ≤ R.length)
  (hp : ∀ x y, 0 < s → L[s - 1]? = some x → R[t]? = some y → ¬ key y < key x) (hq : ∀ x y, 0 < t → L[s]? = some x → R[t - 1]? = some y → key y < key x) :
  (∀ x ∈ L.take s, ∀ y ∈ R.drop t, lt key x y) ∧ (∀ y ∈ R.take t, ∀ x ∈ L.drop s, lt key y x) := by
 have le : ∀ {xs : List Int} {i j : Nat} {x y : Int}, Srt key xs → xs[i]? = some x → xs[j]? = some y → i ≤ j → x = y ∨ lt key x y := by
  intro xs i j x y h hi hj hij; rcases Nat.eq_or_lt_of_le hij with rfl | hlt
  ·rw [hi] at hj; injection hj with hj; exact .inl hj
  ·exact .inr (srt_get h hi hj hlt)
 refine ⟨fun x hx y hy => ?_, fun y hy x hx => ?_⟩
 ·obtain ⟨i, hi⟩ := List.mem_iff_getElem?.1 hx; obtain ⟨j, hj⟩ := List.mem_iff_getElem?.1 hy; rw [List.getElem?_drop] at hj
  have his : i < s := by
   rcases Nat.lt_or_ge i s with h | h
   ·exact h
   ·rw [List.getElem?_take, if_neg (by omega)] at hi; cases hi
  rw [List.getElem?_take_of_lt his] at hi; have hjl := (List.getElem?_eq_some_iff.1 hj).1; obtain ⟨u, hu⟩ : ∃ u, L[s - 1]? = some u := ⟨_, List.getElem?_eq_getElem (by omega)⟩; obtain ⟨v, hv⟩ : ∃ v, R[t]? = some v := ⟨_, List.getElem?_eq_getElem (by omega)⟩; have huv : lt key u v := (lt_nkey (hLR u (List.mem_of_getElem? hu) v (List.mem_of_getElem? hv))).2 (hp u v (by omega) hu hv); rcases le hL hi hu (by omega) with rfl | h1 <;> rcases le hR hv hj (by omega) with rfl | h2
  ·exact huv
  ·exact lt_trans huv h2
  ·exact lt_trans h1 huv
  ·exact lt_trans h1 (lt_trans huv h2)
 ·obtain ⟨j, hj⟩ := List.mem_iff_getElem?.1 hy; obtain ⟨i, hi⟩ := List.mem_iff_getElem?.1 hx; rw [List.getElem?_drop] at hi
  have hjt : j < t := by
   rcases Nat.lt_or_ge j t with h | h
   ·exact h
   ·rw [List.getElem?_take, if_neg (by omega)] at hj; cases hj
  rw [List.getElem?_take_of_lt hjt] at hj; have hil := (List.getElem?_eq_some_iff.1 hi).1; obtain ⟨u, hu⟩ : ∃ u, L[s]? = some u := ⟨_, List.getElem?_eq_getElem (by omega)⟩; obtain ⟨v, hv⟩ : ∃ v, R[t - 1]? = some v := ⟨_, List.getElem?_eq_getElem (by omega)⟩; have huv : lt key v u := (lt_key (hLR u (List.mem_of_getElem? hu) v (List.mem_of_getElem? hv))).2 (hq u v (by omega) hu hv); rcases le hR hj hv (by omega) with rfl | h1 <;> rcases le hL hu hi (by omega) with rfl | h2
  ·exact huv
  ·exact lt_trans huv h2
  ·exact lt_trans h1 huv
  ·exact lt_trans h1 (lt_trans huv h2)
theorem Good.left {key : Int → Int} {L : List Int} (h : Srt key L) : Good key L (L ++ []) := ⟨by simp, h⟩
theorem Good.right {key : Int → Int} {R : List Int} (h : Srt key R) : Good key R ([] ++ R) := ⟨by simp, h⟩
theorem get_mid {P L Q : List Int} {a h t : Nat} (ha : P.length = a) (ht : a + t = h) (hl : t < L.length) : (P ++ L ++ Q)[h]? = L[t]? := by
 subst ha ht; rw [List.append_assoc, List.getElem?_append_right (by omega), List.getElem?_append_left (by omega)]
 congr 1; omega
theorem shift_next {P R Q : List Int} {x : Int} {a k : Nat} (ha : P.length = a) (hk : k < R.length) :
  ∃ y, (P ++ (R.take k ++ x :: R.drop k) ++ Q)[a + k]? = some x ∧ (P ++ (R.take k ++ x :: R.drop k) ++ Q)[a + k + 1]? = some y ∧
   ((P ++ (R.take k ++ x :: R.drop k) ++ Q).set (a + k) y).set (a + k + 1) x = P ++ (R.take (k + 1) ++ x :: R.drop (k + 1)) ++ Q ∧
   (P ++ (R.take (k + 1) ++ x :: R.drop (k + 1)) ++ Q)[a + k]? = some y ∧ (P ++ (R.take (k + 1) ++ x :: R.drop (k + 1)) ++ Q)[a + k + 1]? = some x ∧
   ((P ++ (R.take (k + 1) ++ x :: R.drop (k + 1)) ++ Q).set (a + k + 1) y).set (a + k) x = P ++ (R.take k ++ x :: R.drop k) ++ Q := by
 have e1 : P ++ (R.take k ++ x :: R.drop k) ++ Q = (P ++ R.take k) ++ x :: ([] ++ R[k] :: (R.drop (k + 1) ++ Q)) := by
  rw [List.drop_eq_getElem_cons hk]; simp only [List.append_assoc, List.cons_append, List.nil_append]
 have e2 : P ++ (R.take (k + 1) ++ x :: R.drop (k + 1)) ++ Q = (P ++ R.take k) ++ R[k] :: ([] ++ x :: (R.drop (k + 1) ++ Q)) := by
  rw [← List.take_concat_get hk]; simp only [List.concat_eq_append, List.append_assoc, List.cons_append, List.nil_append]
 have hi : (P ++ R.take k).length = a + k := by simp; omega
 obtain ⟨g1, g2, g3, _⟩ := swap_at (x := x) (y := R[k]) (m := []) (q := R.drop (k + 1) ++ Q) (j := a + k + 1) hi (by simp; omega); obtain ⟨k1, k2, _, k4⟩ := swap_at (x := R[k]) (y := x) (m := []) (q := R.drop (k + 1) ++ Q) (j := a + k + 1) hi (by simp; omega); refine ⟨R[k], by rw [e1]; exact g1, by rw [e1]; exact g2, by rw [e1, e2]; exact g3, by rw [e2]; exact k1, by rw [e2]; exact k2, by rw [e1, e2]; exact k4⟩
end St
end Go.Proofs.YtplenoaajokpjaaGreat

namespace Go.Proofs.YtplenoaajokpjaaGreat.Sp
set_option linter.unusedVariables false
abbrev Sp := Int × Int
def rt (x : Sp) : Bool := decide (1 ≤ x.1) && decide (x.1 ≤ x.2) && decide (x.2 ≤ 292195)
def mn (x : Sp) : Int := if rt x = true then x.2 - x.1 else 0
def inn (x : Sp) (d : Int) : Bool := rt x && decide (x.1 ≤ d) && decide (d < x.2)
def has (x : Sp) : Bool := decide (0 < mn x)
def bt (a b : Sp) : Sp := (max a.1 b.1, min a.2 b.2)
def ct (a b : Sp) : Sp := if rt a = true ∧ rt b = true ∧ has (bt a b) = true then bt a b else (0, 0)
def kp (xs : List Sp) : List Sp := xs.filter has
def ls (a b : Sp) : List Sp := if ct a b = (0, 0) then kp [a] else kp [(a.1, (ct a b).1), ((ct a b).2, a.2)]
theorem rt_iff (x : Sp) : rt x = true ↔ 1 ≤ x.1 ∧ x.1 ≤ x.2 ∧ x.2 ≤ 292195 := by simp [rt, and_assoc]
theorem rt_not (x : Sp) : rt x = false ↔ ¬ (1 ≤ x.1 ∧ x.1 ≤ x.2 ∧ x.2 ≤ 292195) := by rw [← rt_iff]; cases rt x <;> simp
theorem has_iff (x : Sp) : has x = true ↔ 1 ≤ x.1 ∧ x.1 < x.2 ∧ x.2 ≤ 292195 := by
 have e : has x = true ↔ 0 < mn x := by simp [has]
 rw [e]; by_cases h : rt x = true
 ·rw [mn, if_pos h]; rw [rt_iff] at h; refine ⟨fun _ => ?_, fun _ => ?_⟩ <;> omega
 ·rw [mn, if_neg h]; rw [rt_iff] at h; refine ⟨fun _ => ?_, fun _ => ?_⟩ <;> omega
theorem has_not (x : Sp) : has x = false ↔ ¬ (1 ≤ x.1 ∧ x.1 < x.2 ∧ x.2 ≤ 292195) := by rw [← has_iff]; cases has x <;> simp
theorem has_rt {x : Sp} (h : has x = true) : rt x = true := by rw [has_iff] at h; rw [rt_iff]; omega
theorem inn_iff (x : Sp) (d : Int) : inn x d = true ↔ 1 ≤ x.1 ∧ x.2 ≤ 292195 ∧ x.1 ≤ d ∧ d < x.2 := by
 simp only [inn, Bool.and_eq_true, rt_iff, decide_eq_true_eq]; omega
theorem inn_has {x : Sp} {d : Int} (h : inn x d = true) : has x = true := by rw [inn_iff] at h; rw [has_iff]; omega
theorem mn_has {x : Sp} (h : has x = true) : mn x = x.2 - x.1 := by rw [mn, if_pos (has_rt h)]
theorem mn_no {x : Sp} (h : has x = false) : mn x = 0 := by
 rw [has_not] at h; unfold mn; split
 ·rename_i hr; rw [rt_iff] at hr; omega
 ·rfl
theorem mn_bd (x : Sp) : 0 ≤ mn x ∧ mn x ≤ 292194 := by
 unfold mn; split
 ·rename_i hr; rw [rt_iff] at hr; omega
 ·omega
def hit (xs : List Sp) (d : Int) : Prop := ∃ x ∈ xs, inn x d = true
theorem hit_kp (xs : List Sp) (d : Int) : hit (kp xs) d ↔ hit xs d := by
 constructor
 ·rintro ⟨x, hx, h⟩; exact ⟨x, (List.mem_filter.1 hx).1, h⟩
 ·rintro ⟨x, hx, h⟩; exact ⟨x, List.mem_filter.2 ⟨hx, inn_has h⟩, h⟩
theorem hit_nil (d : Int) : ¬ hit [] d := by rintro ⟨x, hx, _⟩; cases hx
theorem hit_cons (x : Sp) (xs : List Sp) (d : Int) : hit (x :: xs) d ↔ inn x d = true ∨ hit xs d := by
 simp [hit]
theorem hit_append (xs ys : List Sp) (d : Int) : hit (xs ++ ys) d ↔ hit xs d ∨ hit ys d := by
 simp only [hit, List.mem_append]; constructor
 ·rintro ⟨x, hx | hx, h⟩
  ·exact .inl ⟨x, hx, h⟩
  ·exact .inr ⟨x, hx, h⟩
 ·rintro (⟨x, hx, h⟩ | ⟨x, hx, h⟩)
  ·exact ⟨x, .inl hx, h⟩
  ·exact ⟨x, .inr hx, h⟩
theorem ct_inn (a b : Sp) (d : Int) : inn (ct a b) d = true ↔ inn a d = true ∧ inn b d = true := by
 unfold ct; split
 ·rename_i h
  obtain ⟨ha, hb, hc⟩ := h; rw [rt_iff] at ha hb; rw [has_iff] at hc; simp only [inn_iff, bt] at *; omega
 ·rename_i h
  rw [rt_iff, rt_iff, has_iff] at h; simp only [inn_iff, bt] at *; omega
theorem ct_zero (a b : Sp) : ct a b = (0, 0) ↔ has (ct a b) = false := by
 constructor
 ·intro h; rw [h]; decide
 ·intro h; unfold ct at *; split
  ·rename_i hh; rw [if_pos hh] at h; rw [hh.2.2] at h; cases h
  ·rfl
theorem ct_comm (a b : Sp) : ct a b = ct b a := by
 have e : bt a b = bt b a := by simp only [bt, Int.max_comm, Int.min_comm]
 unfold ct; rw [e]; by_cases h : rt a = true ∧ rt b = true ∧ has (bt b a) = true
 ·rw [if_pos h, if_pos ⟨h.2.1, h.1, h.2.2⟩]
 ·rw [if_neg h, if_neg (fun h' => h ⟨h'.2.1, h'.1, h'.2.2⟩)]
theorem ct_yes {a b : Sp} (h : ct a b ≠ (0, 0)) : rt a = true ∧ rt b = true ∧ has (bt a b) = true ∧ ct a b = bt a b := by
 unfold ct at *; split
 ·rename_i hh; exact ⟨hh.1, hh.2.1, hh.2.2, rfl⟩
 ·rename_i hh; rw [if_neg hh] at h; exact absurd rfl h
theorem kp_one (x : Sp) : kp [x] = if has x = true then [x] else [] := by
 unfold kp; by_cases h : has x = true <;> simp [List.filter, h]
theorem kp_append (xs ys : List Sp) : kp (xs ++ ys) = kp xs ++ kp ys := List.filter_append ..
theorem kp_two (x y : Sp) : kp [x, y] = kp [x] ++ kp [y] := by rw [← kp_append]; rfl
def cnt (xs : List Sp) (d : Int) : Nat := xs.countP (fun x => inn x d)
theorem cnt_kp (xs : List Sp) (d : Int) : cnt (kp xs) d = cnt xs d := by
 induction xs with
 | nil => rfl
 | cons x xs ih =>
  unfold cnt kp at *; simp only [List.filter_cons]; by_cases h : has x = true
  ·rw [if_pos h, List.countP_cons, List.countP_cons, ih]
  ·rw [if_neg h, List.countP_cons, ih]; have : inn x d = false := by cases hh : inn x d; rfl; exact absurd (inn_has hh) h
   simp [this]
theorem ls_cnt (a b : Sp) (d : Int) : cnt (ls a b) d = if inn a d = true ∧ inn b d = false then 1 else 0 := by
 have hc := ct_inn a b d; unfold ls; split
 ·rename_i h
  rw [cnt_kp]; rw [h] at hc; have h0 : inn (0, 0) d = false := by cases hh : inn (0, 0) d; rfl; rw [inn_iff] at hh; simp at hh
  rw [h0] at hc; unfold cnt; cases ha : inn a d <;> cases hb : inn b d <;> simp_all
 ·rename_i h
  obtain ⟨ha, hb, hs, e⟩ := ct_yes h; rw [cnt_kp, e]; rw [rt_iff] at ha hb; rw [has_iff] at hs; simp only [bt] at hs; unfold cnt; simp only [List.countP_cons, List.countP_nil, bt]; have i1 := inn_iff a d; have i2 := inn_iff b d; have i3 := inn_iff (a.1, max a.1 b.1) d; have i4 := inn_iff (min a.2 b.2, a.2) d; cases h1 : inn a d <;> cases h2 : inn b d <;> cases h3 : inn (a.1, max a.1 b.1) d <;> cases h4 : inn (min a.2 b.2, a.2) d <;> rw [h1] at i1 <;> rw [h2] at i2 <;> rw [h3] at i3 <;> rw [h4] at i4 <;> simp only [true_iff, false_iff, Bool.false_eq_true] at i1 i2 i3 i4 <;> simp <;> omega
def tot (xs : List Sp) : Int := (xs.map mn).foldl (· + ·) 0
theorem foldl_add (xs : List Int) (a : Int) : xs.foldl (· + ·) a = a + xs.foldl (· + ·) 0 := by
 induction xs generalizing a with
 | nil => simp
 | cons x xs ih => simp only [List.foldl_cons]; rw [ih (a + x), ih (0 + x)]; omega
theorem tot_nil : tot [] = 0 := rfl
theorem tot_cons (x : Sp) (xs : List Sp) : tot (x :: xs) = mn x + tot xs := by
 unfold tot; rw [List.map_cons, List.foldl_cons, foldl_add]; omega
theorem tot_append (xs ys : List Sp) : tot (xs ++ ys) = tot xs + tot ys := by
 induction xs with
 | nil => simp [tot_nil]
 | cons x xs ih => rw [List.cons_append, tot_cons, tot_cons, ih]; omega
theorem tot_kp (xs : List Sp) : tot (kp xs) = tot xs := by
 induction xs with
 | nil => rfl
 | cons x xs ih =>
  unfold kp at *; rw [List.filter_cons]; by_cases h : has x = true
  ·rw [if_pos h, tot_cons, tot_cons, ih]
  ·rw [if_neg h, tot_cons, ih, mn_no (by simpa using h)]; omega
theorem ls_tot (a b : Sp) : mn (ct a b) + tot (ls a b) = mn a := by
 unfold ls; split
 ·rename_i h
  rw [h, tot_kp, tot_cons, tot_nil]; have : mn (0, 0) = 0 := by decide
  omega
 ·rename_i h
  obtain ⟨ha, hb, hs, e⟩ := ct_yes h; rw [e, tot_kp, tot_cons, tot_cons, tot_nil]; have hs' := hs; rw [rt_iff] at ha hb; rw [has_iff] at hs; simp only [bt] at hs; have e1 : mn (bt a b) = min a.2 b.2 - max a.1 b.1 := mn_has hs'; have e2 : mn a = a.2 - a.1 := by rw [mn, if_pos (by rw [rt_iff]; omega)]
  have e3 : mn (a.1, (bt a b).1) = max a.1 b.1 - a.1 := by rw [mn, if_pos (by rw [rt_iff]; simp only [bt]; omega)]; rfl
  have e4 : mn ((bt a b).2, a.2) = a.2 - min a.2 b.2 := by rw [mn, if_pos (by rw [rt_iff]; simp only [bt]; omega)]; rfl
  omega
theorem ls_mem {a b x : Sp} (h : x ∈ ls a b) : has x = true ∧ has (ct x b) = false := by
 have hx : has x = true := by
  unfold ls at h; split at h <;> exact (List.mem_filter.1 h).2
 refine ⟨hx, ?_⟩; cases hh : has (ct x b)
 ·rfl
 ·exfalso; have hc := ls_cnt a b (ct x b).1; rw [has_iff] at hh; have h1 : inn (ct x b) (ct x b).1 = true := by rw [inn_iff]; omega
  obtain ⟨h2, h3⟩ := (ct_inn x b _).1 h1; have : 0 < cnt (ls a b) (ct x b).1 := List.countP_pos_iff.2 ⟨x, h, h2⟩; rw [h3] at hc; simp at hc; omega
theorem ls_len (a b : Sp) : (ls a b).length ≤ 2 := by
 unfold ls; split
 ·exact Nat.le_trans (List.length_filter_le ..) (by simp)
 ·exact Nat.le_trans (List.length_filter_le ..) (by simp)
def Apart : List Sp → Prop
 | [] => True
 | x :: xs => has x = true ∧ (∀ y ∈ xs, x.2 < y.1) ∧ Apart xs
theorem Apart.has {xs : List Sp} (h : Apart xs) : ∀ x ∈ xs, has x = true := by
 induction xs with
 | nil => intro x hx; cases hx
 | cons y ys ih =>
  intro x hx; rcases List.mem_cons.1 hx with rfl | hx
  ·exact h.1
  ·exact ih h.2.2 x hx
theorem Apart.append {xs ys : List Sp} : Apart (xs ++ ys) ↔ Apart xs ∧ Apart ys ∧ ∀ x ∈ xs, ∀ y ∈ ys, x.2 < y.1 := by
 induction xs with
 | nil => simp [Apart]
 | cons x xs ih =>
  simp only [List.cons_append, Apart, ih, List.mem_append, List.mem_cons]; constructor
  ·rintro ⟨h1, h2, h3, h4, h5⟩; refine ⟨⟨h1, fun y hy => h2 y (.inl hy), h3⟩, h4, ?_⟩; rintro z (rfl | hz) y hy
   ·exact h2 y (.inr hy)
   ·exact h5 z hz y hy
  ·rintro ⟨⟨h1, h2, h3⟩, h4, h5⟩; refine ⟨h1, ?_, h3, h4, fun z hz y hy => h5 z (.inr hz) y hy⟩; rintro y (hy | hy)
   ·exact h2 y hy
   ·exact h5 x (.inl rfl) y hy
theorem Apart.unique {xs ys : List Sp} (hx : Apart xs) (hy : Apart ys) (h : ∀ d, hit xs d ↔ hit ys d) : xs = ys := by
 induction xs generalizing ys with
 | nil =>
  cases ys with
  | nil => rfl
  | cons y ys =>
   exfalso; have hh := hy.1; rw [has_iff] at hh; exact hit_nil y.1 ((h y.1).2 ⟨y, by simp, by rw [inn_iff]; omega⟩)
 | cons x xs ih =>
  cases ys with
  | nil =>
   exfalso; have hh := hx.1; rw [has_iff] at hh; exact hit_nil x.1 ((h x.1).1 ⟨x, by simp, by rw [inn_iff]; omega⟩)
  | cons y ys =>
   have hxh := hx.1; have hyh := hy.1; rw [has_iff] at hxh hyh
   have later : ∀ {z : Sp} {zs : List Sp} (hz : Apart (z :: zs)) {d : Int}, hit zs d → z.2 < d := by
    rintro z zs hz d ⟨u, hu, hi⟩; have := hz.2.1 u hu; rw [inn_iff] at hi; omega
   have e1 : x.1 = y.1 := by
    have a := (h x.1).1 ⟨x, by simp, by rw [inn_iff]; omega⟩; have b := (h y.1).2 ⟨y, by simp, by rw [inn_iff]; omega⟩; rw [hit_cons] at a b; rcases a with a | a
    ·rcases b with b | b
     ·rw [inn_iff] at a b; omega
     ·have := later hx b; rw [inn_iff] at a; omega
    ·have := later hy a; rcases b with b | b
     ·rw [inn_iff] at b; omega
     ·have := later hx b; omega
   have e2 : x.2 = y.2 := by
    rcases Int.lt_trichotomy x.2 y.2 with hlt | he | hgt
    ·exfalso; have a := (h x.2).2 ⟨y, by simp, by rw [inn_iff]; omega⟩; rw [hit_cons] at a; rcases a with a | a
     ·rw [inn_iff] at a; omega
     ·have := later hx a; omega
    ·exact he
    ·exfalso; have a := (h y.2).1 ⟨x, by simp, by rw [inn_iff]; omega⟩; rw [hit_cons] at a; rcases a with a | a
     ·rw [inn_iff] at a; omega
     ·have := later hy a; omega
   have e : x = y := Prod.ext e1 e2; subst e; rw [ih hx.2.2 hy.2.2 fun d => ?_]; have hd := h d; rw [hit_cons, hit_cons] at hd; constructor
   ·intro a; have := later hx a; rcases hd.1 (.inr a) with b | b
    ·rw [inn_iff] at b; omega
    ·exact b
   ·intro a; have := later hy a; rcases hd.2 (.inr a) with b | b
    ·rw [inn_iff] at b; omega
    ·exact b
theorem Apart.cnt {xs : List Sp} (h : Apart xs) (d : Int) : cnt xs d ≤ 1 ∧ (cnt xs d = 1 ↔ hit xs d) := by
 have hp : 0 < Sp.cnt xs d ↔ hit xs d := by
  unfold Sp.cnt hit; rw [List.countP_pos_iff]
 have h1 : Sp.cnt xs d ≤ 1 := by
  clear hp
  induction xs with
  | nil => exact Nat.zero_le _
  | cons x xs ih =>
   unfold Sp.cnt at *; rw [List.countP_cons]; by_cases hx : inn x d = true
   ·have : xs.countP (fun x => inn x d) = 0 := by
     rw [List.countP_eq_zero]; intro y hy; have := h.2.1 y hy; rw [inn_iff] at hx; simp only [Bool.not_eq_true]; cases hh : inn y d
     ·rfl
     ·rw [inn_iff] at hh; omega
    simp [this, hx]
   ·simp [hx]; exact ih h.2.2
 exact ⟨h1, by rw [← hp]; omega⟩
structure Joined (xs zs : List Sp) : Prop where
 apart : Apart zs
 same : ∀ d, hit zs d ↔ hit xs d
theorem Joined.unique {xs ys zs ws : List Sp} (h1 : Joined xs zs) (h2 : Joined ys ws) (h : ∀ d, hit xs d ↔ hit ys d) : zs = ws :=
 h1.apart.unique h2.apart fun d => (h1.same d).trans ((h d).trans (h2.same d).symm)
end Go.Proofs.YtplenoaajokpjaaGreat.Sp
namespace Ba
abbrev Pr := Int × Int
def wi (n lo hi : Int) : Bool := decide (lo ≤ n ∧ n ≤ hi)
theorem wi_iff {n lo hi : Int} : wi n lo hi = true ↔ lo ≤ n ∧ n ≤ hi := by unfold wi; exact decide_eq_true_iff
theorem wi_no {n lo hi : Int} (h : ¬ (lo ≤ n ∧ n ≤ hi)) : wi n lo hi = false := by unfold wi; exact decide_eq_false h
def rk (k v a z : Int) : Bool := wi k 0 3 && (wi v 1 1000000000000000 && (wi a 0 200 && wi z 0 99))
theorem rk_iff {k v a z : Int} : rk k v a z = true ↔ (0 ≤ k ∧ k ≤ 3) ∧ (1 ≤ v ∧ v ≤ 1000000000000000) ∧ (0 ≤ a ∧ a ≤ 200) ∧ (0 ≤ z ∧ z ≤ 99) := by
 unfold rk; rw [Bool.and_eq_true, Bool.and_eq_true, Bool.and_eq_true, wi_iff, wi_iff, wi_iff, wi_iff]
theorem rk_yes {k v a z : Int} (h : (0 ≤ k ∧ k ≤ 3) ∧ (1 ≤ v ∧ v ≤ 1000000000000000) ∧ (0 ≤ a ∧ a ≤ 200) ∧ (0 ≤ z ∧ z ≤ 99)) : rk k v a z = true := rk_iff.2 h
theorem rk_no {k v a z : Int} (h : ¬ ((0 ≤ k ∧ k ≤ 3) ∧ (1 ≤ v ∧ v ≤ 1000000000000000) ∧ (0 ≤ a ∧ a ≤ 200) ∧ (0 ≤ z ∧ z ≤ 99))) : rk k v a z = false := by
 cases e : rk k v a z
 ·rfl
 ·exact absurd (rk_iff.1 e) h
def bnd (age : Int) : List Pr → Int
 | [] => 10000
 | x :: xs => if x.1 < age then bnd age xs else x.2
theorem bnd_up {age : Int} {x : Pr} {xs : List Pr} (h : x.1 < age) : bnd age (x :: xs) = bnd age xs := by simp only [bnd]; rw [if_pos h]
theorem bnd_at {age : Int} {x : Pr} {xs : List Pr} (h : ¬ x.1 < age) : bnd age (x :: xs) = x.2 := by simp only [bnd]; rw [if_neg h]
def okL (least : Int) : List Pr → Bool
 | [] => true
 | x :: xs => wi x.1 least 200 && (wi x.2 0 100000 && okL (x.1 + 1) xs)
def bds (l : List Pr) : Bool := decide (l.length ≤ 100) && okL 0 l
theorem bds_far {l : List Pr} (h : 100 < l.length) : bds l = false := by unfold bds; rw [decide_eq_false (by omega)]; rfl
theorem bds_near {l : List Pr} (h : l.length ≤ 100) : bds l = okL 0 l := by unfold bds; rw [decide_eq_true h]; rfl
theorem okL_no1 {least : Int} {x : Pr} {xs : List Pr} (h : wi x.1 least 200 = false) : okL least (x :: xs) = false := by simp only [okL]; rw [h]; rfl
theorem okL_no2 {least : Int} {x : Pr} {xs : List Pr} (h : wi x.1 least 200 = true) (h2 : wi x.2 0 100000 = false) : okL least (x :: xs) = false := by simp only [okL]; rw [h, h2]; rfl
theorem okL_yes {least : Int} {x : Pr} {xs : List Pr} (h : wi x.1 least 200 = true) (h2 : wi x.2 0 100000 = true) : okL least (x :: xs) = okL (x.1 + 1) xs := by simp only [okL]; rw [h, h2]; rfl
theorem drop_get {α : Type} {l : List α} {k : Nat} {x : α} (h : l[k]? = some x) : l.drop k = x :: l.drop (k + 1) := by
 obtain ⟨hk, rfl⟩ := List.getElem?_eq_some_iff.1 h; exact List.drop_eq_getElem_cons hk
theorem take_get {α : Type} {l : List α} {k : Nat} {x : α} (h : l[k]? = some x) : l.take (k + 1) = l.take k ++ [x] := by
 obtain ⟨hk, rfl⟩ := List.getElem?_eq_some_iff.1 h; exact List.take_succ_eq_append_getElem hk
theorem okL_mem {least : Int} {l : List Pr} (h : okL least l = true) : ∀ x ∈ l, least ≤ x.1 ∧ x.1 ≤ 200 ∧ 0 ≤ x.2 ∧ x.2 ≤ 100000 := by
 induction l generalizing least with
 | nil => intro x hx; cases hx
 | cons y ys ih =>
  simp only [okL, Bool.and_eq_true, wi_iff] at h; intro x hx; rcases List.mem_cons.1 hx with rfl | hx
  ·exact ⟨h.1.1, h.1.2, h.2.1.1, h.2.1.2⟩
  ·have := ih h.2.2 x hx; exact ⟨by have := h.1.1; omega, this.2⟩
theorem okL_append {least : Int} {l m : List Pr} (h : okL least (l ++ m) = true) : okL least l = true := by
 induction l generalizing least with
 | nil => rfl
 | cons y ys ih =>
  simp only [List.cons_append, okL, Bool.and_eq_true] at h ⊢; exact ⟨h.1, h.2.1, ih h.2.2⟩
theorem bds_append {l m : List Pr} (h : bds (l ++ m) = true) : bds l = true := by
 unfold bds at h ⊢; simp only [Bool.and_eq_true, decide_eq_true_eq, List.length_append] at h ⊢; exact ⟨by omega, okL_append h.2⟩
def hs (age : Int) (l : List Pr) : Bool := l.any fun x => decide (age ≤ x.1)
theorem bnd_append_has {age : Int} {l m : List Pr} (h : hs age l = true) : bnd age (l ++ m) = bnd age l := by
 induction l with
 | nil => cases h
 | cons y ys ih =>
  by_cases hy : y.1 < age
  ·rw [List.cons_append, bnd_up hy, bnd_up hy]; apply ih; simp only [hs, List.any_cons, Bool.or_eq_true, decide_eq_true_eq] at h ⊢; rcases h with h | h
   ·omega
   ·exact h
  ·rw [List.cons_append, bnd_at hy, bnd_at hy]
theorem bnd_append_not {age : Int} {l m : List Pr} (h : hs age l = false) : bnd age (l ++ m) = bnd age m ∧ bnd age l = 10000 := by
 induction l with
 | nil => exact ⟨rfl, rfl⟩
 | cons y ys ih =>
  simp only [hs, List.any_cons, Bool.or_eq_false_iff, decide_eq_false_iff_not] at h; rw [List.cons_append, bnd_up (by omega), bnd_up (by omega)]; exact ih h.2
theorem hs_snoc {age : Int} {l : List Pr} {x : Pr} : hs age (l ++ [x]) = (hs age l || decide (age ≤ x.1)) := by simp [hs]
theorem bnd_same {a b : Int} {l : List Pr} (hab : a ≤ b) (h : ∀ x ∈ l, ¬ (a ≤ x.1 ∧ x.1 < b)) : bnd a l = bnd b l := by
 induction l with
 | nil => rfl
 | cons y ys ih =>
  have hy := h y (by simp); by_cases h1 : y.1 < a
  ·rw [bnd_up h1, bnd_up (by omega)]; exact ih fun x hx => h x (by simp [hx])
  ·rw [bnd_at h1, bnd_at (by omega)]
theorem bnd_first {age : Int} {l : List Pr} {k : Nat} {x : Pr} (hx : l[k]? = some x) (hge : age ≤ x.1) (hb : ∀ j y, j < k → l[j]? = some y → y.1 < age) : bnd age l = x.2 := by
 induction l generalizing k with
 | nil => simp at hx
 | cons y ys ih =>
  cases k with
  | zero => simp at hx; subst hx; exact bnd_at (by omega)
  | succ k =>
   rw [bnd_up (hb 0 y (by omega) (by simp))]; exact ih (by simpa using hx) fun j z hj hz => hb (j + 1) z (by omega) (by simpa using hz)
theorem okL_drop {least : Int} {l : List Pr} (h : okL least l = true) {k : Nat} {x : Pr} (hx : l[k]? = some x) : okL (x.1 + 1) (l.drop (k + 1)) = true := by
 induction l generalizing least k with
 | nil => simp at hx
 | cons y ys ih =>
  simp only [okL, Bool.and_eq_true] at h; cases k with
  | zero => simp at hx; subst hx; simpa using h.2.2
  | succ k => simpa using ih h.2.2 (by simpa using hx)
theorem okL_rise {least : Int} {l : List Pr} (h : okL least l = true) {j k : Nat} {x y : Pr} (hjk : j < k) (hx : l[j]? = some x) (hy : l[k]? = some y) : x.1 < y.1 := by
 have := okL_mem (okL_drop h hx) y (by
  rw [List.mem_iff_getElem?]; exact ⟨k - (j + 1), by rw [List.getElem?_drop, show j + 1 + (k - (j + 1)) = k by omega]; exact hy⟩)
 omega
end Ba
namespace Tf
open Ba
structure Ve where
 fr : Int
 b0 : Int
 b1 : Int
 b2 : Int
 b3 : Int
 ag : List Pr
 zn : List Int
 pe : List Int
 mn : Int
def zeroV : Ve := ⟨0, 0, 0, 0, 0, [], [], [], 0⟩
def fac : List Int → Bool
 | [] => true
 | x :: xs => wi x 0 100000 && fac xs
theorem fac_no {x : Int} {xs : List Int} (h : wi x 0 100000 = false) : fac (x :: xs) = false := by simp only [fac]; rw [h]; rfl
theorem fac_yes {x : Int} {xs : List Int} (h : wi x 0 100000 = true) : fac (x :: xs) = fac xs := by simp only [fac]; rw [h]; rfl
def ver (v : Ve) : Bool := wi v.fr 1 292194 && (wi v.mn 0 1000000000000000 && (wi (v.zn.length : Int) 1 100 && (decide (v.pe.length = 8) && (fac [v.b0, v.b1, v.b2, v.b3] && (fac v.zn && (fac v.pe && bds v.ag))))))
theorem ver_fr {v : Ve} (h : ver v = true) : 1 ≤ v.fr ∧ v.fr ≤ 292194 := by
 unfold ver at h; rw [Bool.and_eq_true] at h; exact wi_iff.1 h.1
def rise (last : Int) : List Ve → Bool
 | [] => true
 | v :: vs => !decide (v.fr ≤ last) && (ver v && rise v.fr vs)
theorem rise_no1 {last : Int} {v : Ve} {vs : List Ve} (h : v.fr ≤ last) : rise last (v :: vs) = false := by simp only [rise]; rw [decide_eq_true h]; rfl
theorem rise_no2 {last : Int} {v : Ve} {vs : List Ve} (h : ver v = false) : rise last (v :: vs) = false := by simp only [rise]; rw [h]; simp
theorem rise_yes {last : Int} {v : Ve} {vs : List Ve} (h : ¬ v.fr ≤ last) (h2 : ver v = true) : rise last (v :: vs) = rise v.fr vs := by simp only [rise]; rw [h2, decide_eq_false h]; rfl
theorem rise_cons {last : Int} {v : Ve} {vs : List Ve} (h : rise last (v :: vs) = true) : last < v.fr ∧ ver v = true ∧ rise v.fr vs = true := by
 simp only [rise, Bool.and_eq_true, Bool.not_eq_true', decide_eq_false_iff_not] at h; exact ⟨by omega, h.2.1, h.2.2⟩
def rgt (vs : List Ve) : Bool := decide (vs.length ≤ 100) && rise 0 vs
theorem rgt_far {vs : List Ve} (h : 100 < vs.length) : rgt vs = false := by unfold rgt; rw [decide_eq_false (by omega)]; rfl
theorem rgt_near {vs : List Ve} (h : vs.length ≤ 100) : rgt vs = rise 0 vs := by unfold rgt; rw [decide_eq_true h]; rfl
theorem rgt_rise {vs : List Ve} (h : rgt vs = true) : vs.length ≤ 100 ∧ rise 0 vs = true := by
 unfold rgt at h; rw [Bool.and_eq_true, decide_eq_true_eq] at h; exact h
theorem rise_mem {last : Int} {vs : List Ve} (h : rise last vs = true) : ∀ x ∈ vs, last < x.fr ∧ ver x = true := by
 induction vs generalizing last with
 | nil => intro x hx; cases hx
 | cons y ys ih =>
  obtain ⟨h1, h2, h3⟩ := rise_cons h; intro x hx; rcases List.mem_cons.1 hx with rfl | hx
  ·exact ⟨h1, h2⟩
  ·have := ih h3 x hx; exact ⟨by omega, this.2⟩
theorem rise_lt {last : Int} {vs : List Ve} (h : rise last vs = true) {i j : Nat} {x y : Ve} (hij : i < j) (hx : vs[i]? = some x) (hy : vs[j]? = some y) : x.fr < y.fr := by
 induction vs generalizing last i j with
 | nil => simp at hx
 | cons z zs ih =>
  obtain ⟨_, _, h3⟩ := rise_cons h; cases j with
  | zero => omega
  | succ j =>
   cases i with
   | zero =>
    simp at hx hy; subst hx; exact (rise_mem h3 y (List.mem_of_getElem? hy)).1
   | succ i => exact ih h3 (i := i) (j := j) (by omega) (by simpa using hx) (by simpa using hy)
def lst (day : Int) : List Ve → Option Ve
 | [] => none
 | v :: vs => match lst day vs with
  | some x => some x
  | none => if v.fr ≤ day then some v else none
theorem lst_some {day : Int} {v x : Ve} {vs : List Ve} (h : lst day vs = some x) : lst day (v :: vs) = some x := by simp only [lst, h]
theorem lst_none {day : Int} {v : Ve} {vs : List Ve} (h : lst day vs = none) : lst day (v :: vs) = if v.fr ≤ day then some v else none := by simp only [lst, h]
theorem lst_drop {day : Int} {vs : List Ve} {x : Ve} : ∀ k, lst day (vs.drop k) = some x → lst day vs = some x := by
 induction vs with
 | nil => intro k h; simpa using h
 | cons y ys ih =>
  intro k h; cases k with
  | zero => exact h
  | succ k => exact lst_some (ih k (by simpa using h))
theorem lst_at {day : Int} {vs : List Ve} {k : Nat} {x : Ve} (hx : vs[k]? = some x) (hn : lst day (vs.drop (k + 1)) = none) (hd : x.fr ≤ day) : lst day vs = some x := by
 refine lst_drop k ?_; rw [drop_get hx, lst_none hn, if_pos hd]
theorem lst_not {day : Int} {vs : List Ve} {k : Nat} {x : Ve} (hx : vs[k]? = some x) (hn : lst day (vs.drop (k + 1)) = none) (hd : ¬ x.fr ≤ day) : lst day (vs.drop k) = none := by
 rw [drop_get hx, lst_none hn, if_neg hd]
theorem lst_mem {day : Int} {vs : List Ve} {x : Ve} (h : lst day vs = some x) : x ∈ vs ∧ x.fr ≤ day := by
 induction vs with
 | nil => cases h
 | cons y ys ih =>
  cases e : lst day ys with
  | some z =>
   rw [lst_some e] at h; injection h with h
   subst h; exact ⟨List.mem_cons_of_mem _ (ih e).1, (ih e).2⟩
  | none =>
   rw [lst_none e] at h; by_cases hy : y.fr ≤ day
   ·rw [if_pos hy] at h; injection h with h; subst h; exact ⟨by simp, hy⟩
   ·rw [if_neg hy] at h; cases h
def ins (v : Ve) : List Ve → List Ve
 | [] => [v]
 | x :: xs => if x.fr < v.fr then x :: ins v xs else v :: x :: xs
theorem ins_lt {v x : Ve} {xs : List Ve} (h : x.fr < v.fr) : ins v (x :: xs) = x :: ins v xs := by simp only [ins]; rw [if_pos h]
theorem ins_ge {v x : Ve} {xs : List Ve} (h : ¬ x.fr < v.fr) : ins v (x :: xs) = v :: x :: xs := by simp only [ins]; rw [if_neg h]
theorem ins_length (v : Ve) (vs : List Ve) : (ins v vs).length = vs.length + 1 := by
 induction vs with
 | nil => rfl
 | cons x xs ih =>
  by_cases h : x.fr < v.fr
  ·rw [ins_lt h]; simp [ih]
  ·rw [ins_ge h]; simp
theorem ins_place {v : Ve} {vs : List Ve} {p : Nat} (hp : p ≤ vs.length) (h1 : ∀ i x, i < p → vs[i]? = some x → x.fr < v.fr) (h2 : ∀ i x, p ≤ i → vs[i]? = some x → v.fr ≤ x.fr) : ins v vs = vs.take p ++ [v] ++ vs.drop p := by
 induction vs generalizing p with
 | nil =>
  have : p = 0 := by simpa using hp
  subst this; rfl
 | cons x xs ih =>
  cases p with
  | zero =>
   rw [ins_ge (by have := h2 0 x (Nat.le_refl _) (by simp); omega)]; rfl
  | succ p =>
   rw [ins_lt (h1 0 x (by omega) (by simp)), ih (p := p) (by simpa using hp) (fun i y hi hy => h1 (i + 1) y (by omega) (by simpa using hy)) (fun i y hi hy => h2 (i + 1) y (by omega) (by simpa using hy))]; simp
def has (f : Int) (vs : List Ve) : Bool := vs.any fun x => decide (x.fr = f)
theorem has_at {f : Int} {vs : List Ve} {p : Nat} (h1 : ∀ i x, i < p → vs[i]? = some x → x.fr < f) {x : Ve} (hx : vs[p]? = some x) (he : x.fr = f) : has f vs = true := by
 unfold has; rw [List.any_eq_true]; exact ⟨x, List.mem_of_getElem? hx, decide_eq_true he⟩
theorem has_not {f : Int} {vs : List Ve} (h : ∀ x ∈ vs, x.fr ≠ f) : has f vs = false := by
 cases e : has f vs
 ·rfl
 ·unfold has at e; rw [List.any_eq_true] at e; obtain ⟨x, hx, e⟩ := e; exact absurd (of_decide_eq_true e) (h x hx)
theorem has_false {f : Int} {vs : List Ve} (h : has f vs = false) : ∀ x ∈ vs, x.fr ≠ f := by
 intro x hx e
 have : has f vs = true := by
  unfold has; rw [List.any_eq_true]; exact ⟨x, hx, decide_eq_true e⟩
 rw [h] at this; cases this
theorem has_ins (f : Int) (v : Ve) (vs : List Ve) : has f (ins v vs) = (decide (v.fr = f) || has f vs) := by
 induction vs with
 | nil => rfl
 | cons x xs ih =>
  by_cases h : x.fr < v.fr
  ·rw [ins_lt h]; unfold has at ih ⊢; rw [List.any_cons, ih, List.any_cons]; cases decide (x.fr = f) <;> cases decide (v.fr = f) <;> simp
  ·rw [ins_ge h]; rfl
theorem rise_ins {last : Int} {v : Ve} {vs : List Ve} (h : rise last vs = true) (hv : ver v = true) (hl : last < v.fr) (hn : ∀ x ∈ vs, x.fr ≠ v.fr) : rise last (ins v vs) = true := by
 induction vs generalizing last with
 | nil => show rise last [v] = true; rw [rise_yes (by omega) hv]; rfl
 | cons x xs ih =>
  obtain ⟨h1, h2, h3⟩ := rise_cons h; by_cases hx : x.fr < v.fr
  ·rw [ins_lt hx, rise_yes (by omega) h2]; exact ih h3 hx fun y hy => hn y (List.mem_cons_of_mem _ hy)
  ·have := hn x (by simp); rw [ins_ge hx, rise_yes (by omega) hv, rise_yes (by omega) h2]; exact h3
theorem ins_comm {v w : Ve} (hne : v.fr ≠ w.fr) (vs : List Ve) : ins w (ins v vs) = ins v (ins w vs) := by
 induction vs with
 | nil =>
  show ins w [v] = ins v [w]
  by_cases h : v.fr < w.fr
  ·rw [ins_lt h, ins_ge (by omega)]; rfl
  ·rw [ins_ge h, ins_lt (by omega)]; rfl
 | cons x xs ih =>
  by_cases h1 : x.fr < v.fr <;> by_cases h2 : x.fr < w.fr
  ·rw [ins_lt h1, ins_lt h2, ins_lt h2, ins_lt h1, ih]
  ·rw [ins_lt h1, ins_ge h2, ins_ge h2, ins_lt (by omega), ins_lt h1]
  ·rw [ins_ge h1, ins_lt h2, ins_lt (by omega), ins_lt h2, ins_ge h1]
  ·rw [ins_ge h1, ins_ge h2]; by_cases h : v.fr < w.fr
   ·rw [ins_lt h, ins_ge h2, ins_ge (by omega)]
   ·rw [ins_ge h, ins_lt (by omega), ins_ge h1]
theorem lst_ins {day last : Int} {v : Ve} {vs : List Ve} (h : rise last vs = true) (hn : ∀ x ∈ vs, x.fr ≠ v.fr) :
  lst day (ins v vs) = if v.fr ≤ day ∧ ∀ x, lst day vs = some x → x.fr < v.fr then some v else lst day vs := by
 induction vs generalizing last with
 | nil =>
  show lst day [v] = _
  rw [lst_none rfl]; by_cases hd : v.fr ≤ day
  ·rw [if_pos hd, if_pos ⟨hd, fun x hx => by cases hx⟩]
  ·rw [if_neg hd, if_neg (fun e => hd e.1)]; rfl
 | cons x xs ih =>
  obtain ⟨h1, h2, h3⟩ := rise_cons h; have ih' := ih h3 fun y hy => hn y (List.mem_cons_of_mem _ hy)
  by_cases hx : x.fr < v.fr
  ·rw [ins_lt hx]; cases e : lst day xs with
   | some y =>
    rw [e] at ih'; rw [lst_some e]; by_cases c : v.fr ≤ day ∧ ∀ z, some y = some z → z.fr < v.fr
    ·rw [if_pos c] at ih' ⊢; exact lst_some ih'
    ·rw [if_neg c] at ih' ⊢; exact lst_some ih'
   | none =>
    rw [e] at ih'; rw [lst_none e]; by_cases hd : v.fr ≤ day
    ·rw [if_pos ⟨hd, fun z hz => by cases hz⟩] at ih'
     rw [lst_some ih', if_pos ⟨hd, fun z hz => by
      by_cases c : x.fr ≤ day
      ·rw [if_pos c] at hz; injection hz with hz; subst hz; exact hx
      ·rw [if_neg c] at hz; cases hz⟩]
    ·rw [if_neg (fun c => hd c.1)] at ih'; rw [lst_none ih', if_neg (c := v.fr ≤ day ∧ _) (fun c => hd c.1)]
  ·have hne := hn x (by simp); rw [ins_ge hx]; cases e : lst day (x :: xs) with
   | some y =>
    rw [lst_some e, if_neg]; rintro ⟨_, c⟩; have h4 := c y rfl
    have h5 : x.fr ≤ y.fr := by
     rcases List.mem_cons.1 (lst_mem e).1 with rfl | hy
     ·exact Int.le_refl _
     ·have := (rise_mem h3 y hy).1; omega
    omega
   | none =>
    rw [lst_none e]; by_cases hd : v.fr ≤ day
    ·rw [if_pos hd, if_pos ⟨hd, fun z hz => by cases hz⟩]
    ·rw [if_neg hd, if_neg (fun c => hd c.1)]
def cd (vs : List Ve) (v : Ve) : Int := if rgt vs = true ∧ ver v = true then (if has v.fr vs = true then 8 else if vs.length = 100 then 2 else 0) else 1
def pt (vs : List Ve) (v : Ve) : List Ve := if cd vs v = 0 then ins v vs else []
theorem cd_arg {vs : List Ve} {v : Ve} (h : ¬ (rgt vs = true ∧ ver v = true)) : cd vs v = 1 := by unfold cd; rw [if_neg h]
theorem cd_there {vs : List Ve} {v : Ve} (h : rgt vs = true) (h2 : ver v = true) (h3 : has v.fr vs = true) : cd vs v = 8 := by unfold cd; rw [if_pos ⟨h, h2⟩, if_pos h3]
theorem cd_bound {vs : List Ve} {v : Ve} (h : rgt vs = true) (h2 : ver v = true) (h3 : has v.fr vs = false) (h4 : vs.length = 100) : cd vs v = 2 := by unfold cd; rw [if_pos ⟨h, h2⟩, if_neg (by rw [h3]; simp), if_pos h4]
theorem cd_ok {vs : List Ve} {v : Ve} (h : rgt vs = true) (h2 : ver v = true) (h3 : has v.fr vs = false) (h4 : vs.length ≠ 100) : cd vs v = 0 := by unfold cd; rw [if_pos ⟨h, h2⟩, if_neg (by rw [h3]; simp), if_neg h4]
theorem cd_zero {vs : List Ve} {v : Ve} (h : cd vs v = 0) : rgt vs = true ∧ ver v = true ∧ has v.fr vs = false ∧ vs.length ≠ 100 := by
 unfold cd at h; by_cases h1 : rgt vs = true ∧ ver v = true
 ·rw [if_pos h1] at h; by_cases h2 : has v.fr vs = true
  ·rw [if_pos h2] at h; omega
  ·rw [if_neg h2] at h; by_cases h3 : vs.length = 100
   ·rw [if_pos h3] at h; omega
   ·exact ⟨h1.1, h1.2, by simpa using h2, h3⟩
 ·rw [if_neg h1] at h; omega
theorem pt_ok {vs : List Ve} {v : Ve} (h : cd vs v = 0) : pt vs v = ins v vs := by unfold pt; rw [if_pos h]
theorem pt_no {vs : List Ve} {v : Ve} (h : cd vs v ≠ 0) : pt vs v = [] := by unfold pt; rw [if_neg h]
theorem rgt_put {vs : List Ve} {v : Ve} (h : cd vs v = 0) : rgt (ins v vs) = true := by
 obtain ⟨h1, h2, h3, h4⟩ := cd_zero h; obtain ⟨h5, h6⟩ := rgt_rise h1; rw [rgt_near (by rw [ins_length]; omega)]; exact rise_ins h6 h2 (by have := ver_fr h2; omega) (has_false h3)
theorem put_two {vs : List Ve} {v w : Ve} (hl : vs.length ≤ 98) (h1 : cd vs v = 0) (h2 : cd vs w = 0) : cd (ins v vs) w = if v.fr = w.fr then 8 else 0 := by
 obtain ⟨_, g2, g3, _⟩ := cd_zero h2; have hh := has_ins w.fr v vs; rw [g3, Bool.or_false] at hh; by_cases h : v.fr = w.fr
 ·rw [if_pos h]; exact cd_there (rgt_put h1) g2 (by rw [hh]; exact decide_eq_true h)
 ·rw [if_neg h]; exact cd_ok (rgt_put h1) g2 (by rw [hh]; exact decide_eq_false h) (by rw [ins_length]; omega)
def mst (day : Int) : Int → List Ve → Int
 | acc, [] => acc
 | acc, v :: vs => mst day (if v.fr ≤ day then max acc v.fr else acc) vs
theorem mst_lst {day acc last : Int} {vs : List Ve} (h : rise last vs = true) (ha : acc ≤ last) : mst day acc vs = match lst day vs with | some x => x.fr | none => acc := by
 induction vs generalizing last acc with
 | nil => rfl
 | cons x xs ih =>
  obtain ⟨h1, h2, h3⟩ := rise_cons h; simp only [mst]; by_cases hd : x.fr ≤ day
  ·rw [if_pos hd, ih h3 (by omega)]; cases e : lst day xs with
   | some y => rw [lst_some e]
   | none => rw [lst_none e, if_pos hd]; simp only; omega
  ·rw [if_neg hd, ih h3 (by omega)]; cases e : lst day xs with
   | some y => rw [lst_some e]
   | none => rw [lst_none e, if_neg hd]
theorem mst_snoc {day acc : Int} {vs : List Ve} {v : Ve} : mst day acc (vs ++ [v]) = if v.fr ≤ day then max (mst day acc vs) v.fr else mst day acc vs := by
 induction vs generalizing acc with
 | nil => rfl
 | cons x xs ih => simp only [List.cons_append, mst]; exact ih
theorem lst_later {a b last : Int} {vs : List Ve} (h : rise last vs = true) (hab : a ≤ b) {x : Ve} (hx : lst a vs = some x) : ∃ y, lst b vs = some y ∧ x.fr ≤ y.fr := by
 induction vs generalizing last with
 | nil => cases hx
 | cons z zs ih =>
  obtain ⟨h1, h2, h3⟩ := rise_cons h; cases e : lst a zs with
  | some u =>
   rw [lst_some e] at hx; injection hx with hx
   subst hx; obtain ⟨y, hy, hle⟩ := ih h3 e; exact ⟨y, lst_some hy, hle⟩
  | none =>
   rw [lst_none e] at hx; by_cases hd : z.fr ≤ a
   ·rw [if_pos hd] at hx; injection hx with hx
    subst hx; cases e2 : lst b zs with
    | some y => exact ⟨y, lst_some e2, by have := (rise_mem h3 y (lst_mem e2).1).1; omega⟩
    | none => exact ⟨z, by rw [lst_none e2, if_pos (by omega)], Int.le_refl _⟩
   ·rw [if_neg hd] at hx; cases hx
end Tf
namespace Go.Proofs.YtplenoaajokpjaaGreat
namespace Cv
structure Co where
 p : Int
 l : Int
 g : Int
 d : Int
 s : Int
def Ok (c : Co) : Prop := 0 ≤ c.p ∧ c.p ≤ 7 ∧ 1 ≤ c.s ∧ c.s ≤ 10000 ∧ 0 ≤ c.d ∧ c.d < c.l ∧ c.l ≤ c.g ∧ c.g ≤ 1000000000000000
instance (c : Co) : Decidable (Ok c) := by unfold Ok; infer_instance
def ok (c : Co) : Bool := decide (Ok c)
theorem ok_yes {c : Co} (h : Ok c) : ok c = true := by simpa [ok] using h
theorem ok_no {c : Co} (h : ¬ Ok c) : ok c = false := by simpa [ok] using h
theorem ok_iff {c : Co} : ok c = true ↔ Ok c := by simp [ok]
def rnd (n : Nat) : Nat := if 5000 < n % 10000 ∨ (n % 10000 = 5000 ∧ n / 10000 % 2 = 1) then n / 10000 + 1 else n / 10000
def prt (a s : Int) : Int := (rnd (a.toNat * s.toNat) : Nat)
theorem rnd_le {n a : Nat} (h : n ≤ a * 10000) : rnd n ≤ a := by unfold rnd; split <;> omega
theorem rnd_mul (a : Nat) : rnd (a * 10000) = a := by unfold rnd; split <;> omega
theorem rnd_mono {m n : Nat} (h : m ≤ n) : rnd m ≤ rnd n := by unfold rnd; split <;> split <;> omega
theorem rnd_step {n y k : Nat} (h : y < k * 10000) : rnd (n + y) ≤ rnd n + k := by unfold rnd; split <;> split <;> omega
theorem prt_nat (a s : Nat) : prt a s = ((rnd (a * s) : Nat) : Int) := by simp [prt]
theorem prt_nn (a s : Int) : 0 ≤ prt a s := by unfold prt; omega
theorem prt_le {a s : Int} (ha : 0 ≤ a) (hs : 0 ≤ s) (h : s ≤ 10000) : prt a s ≤ a := by
 obtain ⟨a, rfl⟩ := Int.eq_ofNat_of_zero_le ha; obtain ⟨s, rfl⟩ := Int.eq_ofNat_of_zero_le hs; rw [prt_nat]; have := rnd_le (n := a * s) (a := a) (Nat.mul_le_mul_left _ (by omega)); omega
theorem prt_all {a : Int} (ha : 0 ≤ a) : prt a 10000 = a := by
 obtain ⟨a, rfl⟩ := Int.eq_ofNat_of_zero_le ha; rw [show (10000 : Int) = ((10000 : Nat) : Int) from rfl, prt_nat, rnd_mul]
theorem prt_mono {a b s : Int} (ha : 0 ≤ a) (h : a ≤ b) (hs : 0 ≤ s) : prt a s ≤ prt b s := by
 obtain ⟨a, rfl⟩ := Int.eq_ofNat_of_zero_le ha; obtain ⟨b, rfl⟩ := Int.eq_ofNat_of_zero_le (a := b) (by omega); obtain ⟨s, rfl⟩ := Int.eq_ofNat_of_zero_le hs; rw [prt_nat, prt_nat]; have := rnd_mono (m := a * s) (n := b * s) (Nat.mul_le_mul_right _ (by omega)); omega
theorem prt_step {a b s : Int} (ha : 0 ≤ a) (h : a ≤ b) (hs : 0 ≤ s) (h2 : s ≤ 10000) : prt b s - prt a s ≤ b - a := by
 by_cases h3 : s = 10000
 ·subst h3; rw [prt_all ha, prt_all (by omega)]; omega
 by_cases h4 : a = b
 ·subst h4; omega
 obtain ⟨a, rfl⟩ := Int.eq_ofNat_of_zero_le ha; obtain ⟨b, rfl⟩ := Int.eq_ofNat_of_zero_le (a := b) (by omega); obtain ⟨s, rfl⟩ := Int.eq_ofNat_of_zero_le hs; obtain ⟨k, rfl⟩ : ∃ k, b = a + k := ⟨b - a, by omega⟩; rw [prt_nat, prt_nat, Nat.add_mul]; have := rnd_step (n := a * s) (y := k * s) (k := k) (Nat.mul_lt_mul_of_pos_left (by omega) (by omega)); omega
theorem prt_zero (s : Int) : prt 0 s = 0 := by simp [prt, rnd]
end Cv
end Go.Proofs.YtplenoaajokpjaaGreat
namespace Go.Proofs.YtplenoaajokpjaaGreat
open Ba Cv Sp
namespace Te
set_option linter.unusedVariables false
structure Ri where
 k : Int
 v : Int
 a : Int
 z : Int
def up : List Co → Bool
 | a :: b :: l => decide (a.p < b.p) && up (b :: l)
 | _ => true
def cvr (cs : List Co) : Bool := wi (cs.length : Int) 1 8 && (cs.all ok && up cs)
def fnd (p : Int) : List Co → Option Co
 | [] => none
 | c :: l => if c.p = p then some c else fnd p l
def te (s : Sp) (r : Ri) (cs : List Co) : Bool := rt s && (wi (mn s) 1 1100 && (rk r.k r.v r.a r.z && cvr cs))
theorem up_iff : ∀ {l : List Co}, up l = true ↔ l.Pairwise (fun a b => a.p < b.p)
 | [] => by simp [up]
 | [a] => by simp [up]
 | a :: b :: l => by
  have ih := up_iff (l := b :: l); rw [up, Bool.and_eq_true, decide_eq_true_eq, ih]; constructor
  ·rintro ⟨h1, h2⟩; refine List.pairwise_cons.2 ⟨fun x hx => ?_, h2⟩; rcases List.mem_cons.1 hx with rfl | hx
   ·exact h1
   ·have := (List.pairwise_cons.1 h2).1 x hx; omega
  ·intro h; obtain ⟨h1, h2⟩ := List.pairwise_cons.1 h; exact ⟨h1 b (by simp), h2⟩
theorem up_two {a b : Co} {l : List Co} : up (a :: b :: l) = (decide (a.p < b.p) && up (b :: l)) := rfl
theorem up_one {a : Co} : up [a] = true := rfl
theorem cvr_iff {cs : List Co} : cvr cs = true ↔ (1 ≤ cs.length ∧ cs.length ≤ 8) ∧ (∀ c ∈ cs, Ok c) ∧ cs.Pairwise (fun a b => a.p < b.p) := by
 unfold cvr; rw [Bool.and_eq_true, Bool.and_eq_true, wi_iff, List.all_eq_true, up_iff]; constructor
 ·rintro ⟨h1, h2, h3⟩; exact ⟨by omega, fun c hc => ok_iff.1 (h2 c hc), h3⟩
 ·rintro ⟨h1, h2, h3⟩; exact ⟨by omega, fun c hc => ok_iff.2 (h2 c hc), h3⟩
theorem cvr_no {cs : List Co} (h : ¬ ((1 ≤ cs.length ∧ cs.length ≤ 8) ∧ (∀ c ∈ cs, Ok c) ∧ cs.Pairwise (fun a b => a.p < b.p))) : cvr cs = false := by
 cases e : cvr cs
 ·rfl
 ·exact absurd (cvr_iff.1 e) h
theorem cvr_len {cs : List Co} (h : ¬ (1 ≤ cs.length ∧ cs.length ≤ 8)) : cvr cs = false := cvr_no fun k => h k.1
theorem fnd_some {p : Int} {l : List Co} {c : Co} (h : fnd p l = some c) : c ∈ l ∧ c.p = p := by
 induction l with
 | nil => cases h
 | cons x l ih =>
  rw [fnd] at h; split at h
  ·injection h with h; subst h; exact ⟨by simp, by assumption⟩
  ·have := ih h; exact ⟨by simp [this.1], this.2⟩
theorem fnd_none {p : Int} {l : List Co} (h : fnd p l = none) : ∀ c ∈ l, c.p ≠ p := by
 induction l with
 | nil => intro c hc; cases hc
 | cons x l ih =>
  rw [fnd] at h; split at h
  ·cases h
  ·rename_i hx
   intro c hc; rcases List.mem_cons.1 hc with rfl | hc
   ·exact hx
   ·exact ih h c hc
theorem fnd_yes {p : Int} {l : List Co} {c : Co} (h : c.p = p) : fnd p (c :: l) = some c := by rw [fnd, if_pos h]
theorem fnd_next {p : Int} {l : List Co} {c : Co} (h : ¬ c.p = p) : fnd p (c :: l) = fnd p l := by rw [fnd, if_neg h]
theorem fnd_own {l : List Co} (h : l.Pairwise (fun a b => a.p < b.p)) {c : Co} (hc : c ∈ l) : fnd c.p l = some c := by
 induction l with
 | nil => cases hc
 | cons x l ih =>
  rw [List.pairwise_cons] at h; rcases List.mem_cons.1 hc with rfl | hc
  ·exact fnd_yes rfl
  ·rw [fnd_next (by have := h.1 c hc; omega)]; exact ih h.2 hc
def cnt (p : Int) (l : List Co) : Nat := (l.filter fun c => decide (c.p < p)).length
theorem cnt_le (p : Int) (l : List Co) : cnt p l ≤ l.length := List.length_filter_le _ _
theorem cnt_cons {p : Int} {c : Co} {l : List Co} : cnt p (c :: l) = (if c.p < p then 1 else 0) + cnt p l := by
 unfold cnt; rw [List.filter_cons]; by_cases h : c.p < p
 ·rw [if_pos (by simpa using h), if_pos h, List.length_cons]; omega
 ·rw [if_neg (by simpa using h), if_neg h]; omega
theorem cnt_zero {p : Int} {l : List Co} (h : ∀ c ∈ l, p ≤ c.p) : cnt p l = 0 := by
 induction l with
 | nil => rfl
 | cons c l ih =>
  rw [cnt_cons, ih fun x hx => h x (by simp [hx]), if_neg (by have := h c (by simp); omega)]
theorem cnt_all {p : Int} {l : List Co} (h : ∀ c ∈ l, c.p < p) : cnt p l = l.length := by
 induction l with
 | nil => rfl
 | cons c l ih =>
  rw [cnt_cons, ih fun x hx => h x (by simp [hx]), if_pos (h c (by simp)), List.length_cons]; omega
theorem cnt_next {p : Int} {l : List Co} (h : l.Pairwise (fun a b => a.p < b.p)) : cnt (p + 1) l = cnt p l + (if (fnd p l).isSome then 1 else 0) := by
 induction l with
 | nil => rfl
 | cons c l ih =>
  rw [List.pairwise_cons] at h; rw [cnt_cons, cnt_cons]; by_cases hc : c.p = p
  ·rw [fnd_yes hc, cnt_zero (p := p + 1) fun x hx => by have := h.1 x hx; omega, cnt_zero (p := p) fun x hx => by have := h.1 x hx; omega, if_pos (by omega), if_neg (by omega)]; rfl
  ·rw [fnd_next hc, ih h.2]; by_cases hl : c.p < p
   ·rw [if_pos (by omega), if_pos hl]; omega
   ·rw [if_neg (by omega), if_neg hl]; omega
theorem less_ok {cs : List Co} {k : Nat} (h : cvr cs = true) (hk : k < cs.length) : cvr (cs.take k ++ cs.drop (k + 1)) = decide (1 < cs.length) := by
 obtain ⟨h1, h2, h3⟩ := cvr_iff.1 h
 have hs : (cs.take k ++ cs.drop (k + 1)).Sublist cs := by
  conv => rhs; rw [← List.take_append_drop k cs]
  refine List.Sublist.append_left ?_ _; rw [← List.drop_drop]; exact List.drop_sublist _ _
 have hl : (cs.take k ++ cs.drop (k + 1)).length = cs.length - 1 := by simp; omega
 by_cases hn : 1 < cs.length
 ·rw [decide_eq_true hn, cvr_iff, hl]; exact ⟨by omega, fun c hc => h2 c (hs.subset hc), h3.sublist hs⟩
 ·rw [decide_eq_false hn]; exact cvr_len (by omega)
theorem more_no {cs : List Co} {k : Nat} {c : Co} (hk : cs[k]? = some c) : cvr (cs.take k ++ [c] ++ cs.drop k) = false := by
 refine cvr_no fun ⟨_, _, h⟩ => ?_
 obtain ⟨hl, e⟩ := List.getElem?_eq_some_iff.1 hk; rw [List.pairwise_append] at h; have := h.2.2 c (by simp) c (by rw [List.drop_eq_getElem_cons hl, e]; simp); omega
theorem turn_ok {cs : List Co} (h : cvr cs = true) : cvr cs.reverse = decide (cs.length = 1) := by
 obtain ⟨h1, h2, h3⟩ := cvr_iff.1 h
 match cs, h1, h2, h3 with
 | [a], h1, h2, h3 => exact h
 | a :: b :: l, h1, h2, h3 =>
  rw [decide_eq_false (by simp)]; refine cvr_no fun ⟨_, _, k⟩ => ?_
  rw [List.pairwise_reverse] at k; have e1 := (List.pairwise_cons.1 h3).1 b (by simp); have e2 := (List.pairwise_cons.1 k).1 b (by simp); omega
 | [], h1, _, _ => simp at h1
theorem te_iff {s : Sp} {r : Ri} {cs : List Co} : te s r cs = true ↔ (1 ≤ s.1 ∧ s.1 < s.2 ∧ s.2 ≤ 292195 ∧ s.2 - s.1 ≤ 1100) ∧ rk r.k r.v r.a r.z = true ∧ cvr cs = true := by
 unfold te; rw [Bool.and_eq_true, Bool.and_eq_true, Bool.and_eq_true, wi_iff]; constructor
 ·rintro ⟨h1, h2, h3, h4⟩; have k := (rt_iff s).1 h1; rw [mn, if_pos h1] at h2; exact ⟨by omega, h3, h4⟩
 ·rintro ⟨h1, h3, h4⟩; have k : rt s = true := (rt_iff s).2 (by omega); refine ⟨k, ?_, h3, h4⟩; rw [mn, if_pos k]; omega
def spn (s : Sp) : Bool := decide (1 ≤ s.1 ∧ s.1 < s.2 ∧ s.2 ≤ 292195 ∧ s.2 - s.1 ≤ 1100)
theorem te_is (s : Sp) (r : Ri) (cs : List Co) : te s r cs = (spn s && (rk r.k r.v r.a r.z && cvr cs)) := by
 rw [Bool.eq_iff_iff, te_iff, Bool.and_eq_true, Bool.and_eq_true, spn, decide_eq_true_eq]
theorem te_span {s t : Sp} {r : Ri} {cs : List Co} (h : te s r cs = true) : te t r cs = spn t := by
 obtain ⟨_, h2, h3⟩ := te_iff.1 h; rw [te_is, h2, h3]; simp
theorem te_risk {s : Sp} {r q : Ri} {cs : List Co} (h : te s r cs = true) : te s q cs = rk q.k q.v q.a q.z := by
 obtain ⟨h1, h2, h3⟩ := te_iff.1 h; rw [te_is, h3, show spn s = true from decide_eq_true h1]; simp
theorem te_covers {s : Sp} {r : Ri} {cs ds : List Co} (h : te s r cs = true) : te s r ds = cvr ds := by
 obtain ⟨h1, h2, h3⟩ := te_iff.1 h; rw [te_is, h2, show spn s = true from decide_eq_true h1]; simp
end Te
end Go.Proofs.YtplenoaajokpjaaGreat
namespace Go.Proofs.YtplenoaajokpjaaGreat
open Ba Tf Cv
namespace Qm
abbrev Ri := Te.Ri
theorem prt_mono2 {a s t : Int} (ha : 0 ≤ a) (hs : 0 ≤ s) (h : s ≤ t) : prt a s ≤ prt a t := by
 obtain ⟨a, rfl⟩ := Int.eq_ofNat_of_zero_le ha; obtain ⟨s, rfl⟩ := Int.eq_ofNat_of_zero_le hs; obtain ⟨t, rfl⟩ := Int.eq_ofNat_of_zero_le (a := t) (by omega); rw [prt_nat, prt_nat]; have := rnd_mono (m := a * s) (n := a * t) (Nat.mul_le_mul_left _ (by omega)); omega
def tk (m : Int) : List Int → Option Int
 | [] => some m
 | b :: l => if 4000000000000000000 < prt m b then none else tk (prt m b) l
theorem tk_over {m b : Int} {l : List Int} (h : 4000000000000000000 < prt m b) : tk m (b :: l) = none := by simp only [tk]; rw [if_pos h]
theorem tk_next {m b : Int} {l : List Int} (h : ¬ 4000000000000000000 < prt m b) : tk m (b :: l) = tk (prt m b) l := by simp only [tk]; rw [if_neg h]
theorem tk_zero (l : List Int) : tk 0 l = some 0 := by
 induction l with
 | nil => rfl
 | cons b l ih => rw [tk_next (by rw [prt_zero]; omega), prt_zero, ih]
theorem tk_bd {m : Int} {l : List Int} {x : Int} (hm : 0 ≤ m) (hm2 : m ≤ 4000000000000000000) (h : tk m l = some x) : 0 ≤ x ∧ x ≤ 4000000000000000000 := by
 induction l generalizing m with
 | nil => injection h with h; omega
 | cons b l ih =>
  by_cases hb : 4000000000000000000 < prt m b
  ·rw [tk_over hb] at h; cases h
  ·rw [tk_next hb] at h; exact ih (prt_nn _ _) (by omega) h
def lel : List Int → List Int → Prop
 | [], [] => True
 | a :: l, b :: m => 0 ≤ a ∧ a ≤ b ∧ lel l m
 | _, _ => False
theorem tk_mono {m n : Int} {l k : List Int} {x y : Int} (hm : 0 ≤ m) (hmn : m ≤ n) (hl : lel l k) (hx : tk m l = some x) (hy : tk n k = some y) : x ≤ y := by
 induction l generalizing m n k with
 | nil =>
  match k, hl with
  | [], _ => injection hx with hx; injection hy with hy; omega
 | cons b l ih =>
  match k, hl with
  | c :: k, ⟨h0, h1, h2⟩ =>
   by_cases hb : 4000000000000000000 < prt m b
   ·rw [tk_over hb] at hx; cases hx
   ·by_cases hc : 4000000000000000000 < prt n c
    ·rw [tk_over hc] at hy; cases hy
    ·rw [tk_next hb] at hx; rw [tk_next hc] at hy; have q1 := prt_mono (s := b) hm hmn h0; have q2 := prt_mono2 (a := n) (by omega) h0 h1; exact ih (prt_nn _ _) (by omega) h2 hx hy
def bs (v : Ve) (k : Int) : Int := if k = 0 then v.b0 else if k = 1 then v.b1 else if k = 2 then v.b2 else v.b3
def parts (v : Ve) (r : Ri) (c : Co) : List Int := [bs v r.k, bnd r.a v.ag, v.zn.getD r.z.toNat 0, v.pe.getD c.p.toNat 0, c.s]
def can (v : Ve) (r : Ri) (c : Co) : Bool := ver v && (rk r.k r.v r.a r.z && ok c)
def qd (v : Ve) (r : Ri) (c : Co) : Int × Int :=
 if can v r c = true then (if (v.zn.length : Int) ≤ r.z then (0, 7) else match tk r.v (parts v r c) with
  | none => (0, 5)
  | some m => (max m v.mn, 0)) else (0, 1)
theorem qd_arg {v : Ve} {r : Ri} {c : Co} (h : can v r c = false) : qd v r c = (0, 1) := by unfold qd; rw [h]; rfl
theorem qd_none {v : Ve} {r : Ri} {c : Co} (h : can v r c = true) (hz : (v.zn.length : Int) ≤ r.z) : qd v r c = (0, 7) := by unfold qd; rw [if_pos h, if_pos hz]
theorem qd_over {v : Ve} {r : Ri} {c : Co} (h : can v r c = true) (hz : ¬ (v.zn.length : Int) ≤ r.z) (ht : tk r.v (parts v r c) = none) : qd v r c = (0, 5) := by unfold qd; rw [if_pos h, if_neg hz, ht]
theorem qd_ok {v : Ve} {r : Ri} {c : Co} {m : Int} (h : can v r c = true) (hz : ¬ (v.zn.length : Int) ≤ r.z) (ht : tk r.v (parts v r c) = some m) : qd v r c = (max m v.mn, 0) := by unfold qd; rw [if_pos h, if_neg hz, ht]
theorem qd_cases (v : Ve) (r : Ri) (c : Co) : qd v r c = (0, 1) ∨ qd v r c = (0, 7) ∨ qd v r c = (0, 5) ∨ ∃ m, can v r c = true ∧ ¬ (v.zn.length : Int) ≤ r.z ∧ tk r.v (parts v r c) = some m ∧ qd v r c = (max m v.mn, 0) := by
 cases h : can v r c
 ·exact .inl (qd_arg h)
 ·by_cases hz : (v.zn.length : Int) ≤ r.z
  ·exact .inr (.inl (qd_none h hz))
  ·cases ht : tk r.v (parts v r c) with
   | none => exact .inr (.inr (.inl (qd_over h hz ht)))
   | some m => exact .inr (.inr (.inr ⟨m, rfl, hz, rfl, qd_ok h hz ht⟩))
theorem can_iff {v : Ve} {r : Ri} {c : Co} : can v r c = true ↔ ver v = true ∧ rk r.k r.v r.a r.z = true ∧ Ok c := by
 unfold can; rw [Bool.and_eq_true, Bool.and_eq_true, ok_iff]
theorem fac_iff {xs : List Int} : fac xs = true ↔ ∀ x ∈ xs, 0 ≤ x ∧ x ≤ 100000 := by
 induction xs with
 | nil => simp [fac]
 | cons x xs ih =>
  unfold fac; rw [Bool.and_eq_true, wi_iff, ih]; constructor
  ·rintro ⟨h1, h2⟩ y hy; rcases List.mem_cons.1 hy with rfl | hy
   ·exact h1
   ·exact h2 y hy
  ·intro h; exact ⟨h x (by simp), fun y hy => h y (by simp [hy])⟩
structure Vok (v : Ve) : Prop where
 mn : 0 ≤ v.mn ∧ v.mn ≤ 1000000000000000
 zl : 1 ≤ v.zn.length ∧ v.zn.length ≤ 100
 pl : v.pe.length = 8
 b : (0 ≤ v.b0 ∧ v.b0 ≤ 100000) ∧ (0 ≤ v.b1 ∧ v.b1 ≤ 100000) ∧ (0 ≤ v.b2 ∧ v.b2 ≤ 100000) ∧ (0 ≤ v.b3 ∧ v.b3 ≤ 100000)
 z : ∀ x ∈ v.zn, 0 ≤ x ∧ x ≤ 100000
 p : ∀ x ∈ v.pe, 0 ≤ x ∧ x ≤ 100000
 a : ∀ x ∈ v.ag, 0 ≤ x.2 ∧ x.2 ≤ 100000
theorem vok {v : Ve} (h : ver v = true) : Vok v := by
 unfold ver at h; simp only [Bool.and_eq_true, decide_eq_true_eq] at h; obtain ⟨_, h1, h2, h3, h4, h5, h6, h7⟩ := h; have h1 := wi_iff.1 h1; have h2 := wi_iff.1 h2; have h4 := fac_iff.1 h4; refine ⟨h1, by omega, h3, ⟨h4 _ (by simp), h4 _ (by simp), h4 _ (by simp), h4 _ (by simp)⟩, fac_iff.1 h5, fac_iff.1 h6, fun x hx => ?_⟩; unfold bds at h7; rw [Bool.and_eq_true] at h7; exact (okL_mem h7.2 x hx).2.2
theorem bnd_bd {age : Int} {l : List Pr} (h : ∀ x ∈ l, 0 ≤ x.2 ∧ x.2 ≤ 100000) : 0 ≤ bnd age l ∧ bnd age l ≤ 100000 := by
 induction l with
 | nil => simp only [bnd]; omega
 | cons y ys ih =>
  by_cases hy : y.1 < age
  ·rw [bnd_up hy]; exact ih fun x hx => h x (by simp [hx])
  ·rw [bnd_at hy]; exact h y (by simp)
theorem getD_bd {l : List Int} {k : Nat} (h : ∀ x ∈ l, 0 ≤ x ∧ x ≤ 100000) : 0 ≤ l.getD k 0 ∧ l.getD k 0 ≤ 100000 := by
 rw [List.getD_eq_getElem?_getD]; cases e : l[k]? with
 | none => simp
 | some x => exact h x (List.mem_of_getElem? e)
theorem bs_bd {v : Ve} (h : Vok v) (k : Int) : 0 ≤ bs v k ∧ bs v k ≤ 100000 := by
 unfold bs; obtain ⟨h0, h1, h2, h3⟩ := h.b; split
 ·exact h0
 ·split
  ·exact h1
  ·split
   ·exact h2
   ·exact h3
theorem parts_bd {v : Ve} {r : Ri} {c : Co} (h : can v r c = true) : ∀ x ∈ parts v r c, 0 ≤ x ∧ x ≤ 100000 := by
 obtain ⟨h1, _, h3⟩ := can_iff.1 h; have hv := vok h1; obtain ⟨_, _, g1, g2, _⟩ := h3; intro x hx; simp only [parts, List.mem_cons, List.not_mem_nil, or_false] at hx; rcases hx with rfl | rfl | rfl | rfl | rfl
 ·exact bs_bd hv _
 ·exact bnd_bd hv.a
 ·exact getD_bd hv.z
 ·exact getD_bd hv.p
 ·omega
theorem qd_bd (v : Ve) (r : Ri) (c : Co) : 0 ≤ (qd v r c).1 ∧ (qd v r c).1 ≤ 4000000000000000000 ∧ 0 ≤ (qd v r c).2 ∧ (qd v r c).2 ≤ 7 ∧ ((qd v r c).2 ≠ 0 → (qd v r c).1 = 0) := by
 rcases qd_cases v r c with h | h | h | ⟨m, hc, _, ht, h⟩
 ·rw [h]; simp
 ·rw [h]; simp
 ·rw [h]; simp
 ·obtain ⟨h1, h2, _⟩ := can_iff.1 hc; have hr := rk_iff.1 h2; have b := tk_bd (by omega) (by omega) ht; have hv := (vok h1).mn; rw [h]; refine ⟨by simp only; omega, by simp only; omega, by simp, by simp, by simp⟩
theorem qd_min {v : Ve} {r : Ri} {c : Co} (h : (qd v r c).2 = 0) : v.mn ≤ (qd v r c).1 ∧ can v r c = true := by
 rcases qd_cases v r c with e | e | e | ⟨m, hc, _, _, e⟩
 ·rw [e] at h; simp at h
 ·rw [e] at h; simp at h
 ·rw [e] at h; simp at h
 ·rw [e]; exact ⟨by simp only; omega, hc⟩
def yr (f : Co → Int × Int) (acc : Int) : List Co → Int × Int
 | [] => if 4000000000000000000 < acc then (0, 5) else (acc, 0)
 | c :: l => if (f c).2 = 0 then yr f (acc + (f c).1) l else (0, (f c).2)
def tot (f : Co → Int × Int) : List Co → Int
 | [] => 0
 | c :: l => (f c).1 + tot f l
theorem yr_step {f : Co → Int × Int} {acc : Int} {c : Co} {l : List Co} (h : (f c).2 = 0) : yr f acc (c :: l) = yr f (acc + (f c).1) l := by simp only [yr]; rw [if_pos h]
theorem yr_err {f : Co → Int × Int} {acc : Int} {c : Co} {l : List Co} (h : (f c).2 ≠ 0) : yr f acc (c :: l) = (0, (f c).2) := by simp only [yr]; rw [if_neg h]
theorem yr_over {f : Co → Int × Int} {acc : Int} (h : 4000000000000000000 < acc) : yr f acc [] = (0, 5) := by simp only [yr]; rw [if_pos h]
theorem yr_done {f : Co → Int × Int} {acc : Int} (h : ¬ 4000000000000000000 < acc) : yr f acc [] = (acc, 0) := by simp only [yr]; rw [if_neg h]
theorem yr_all {f : Co → Int × Int} {acc : Int} {l : List Co} (h : ∀ c ∈ l, (f c).2 = 0) : yr f acc l = if 4000000000000000000 < acc + tot f l then (0, 5) else (acc + tot f l, 0) := by
 induction l generalizing acc with
 | nil => simp only [yr, tot, Int.add_zero]
 | cons c l ih =>
  have e : acc + (f c).1 + tot f l = acc + tot f (c :: l) := by simp only [tot]; omega
  rw [yr_step (h c (by simp)), ih fun x hx => h x (by simp [hx]), e]
theorem yr_code {f : Co → Int × Int} {acc : Int} {l : List Co} : (yr f acc l).2 = 0 ↔ (∀ c ∈ l, (f c).2 = 0) ∧ acc + tot f l ≤ 4000000000000000000 := by
 induction l generalizing acc with
 | nil =>
  simp only [yr, tot, Int.add_zero]; by_cases h : 4000000000000000000 < acc
  ·rw [if_pos h]; constructor
   ·intro e; exact absurd e (by decide)
   ·rintro ⟨_, e⟩; omega
  ·rw [if_neg h]; exact ⟨fun _ => ⟨(fun c hc => by cases hc), by omega⟩, fun _ => rfl⟩
 | cons c l ih =>
  by_cases h : (f c).2 = 0
  ·rw [yr_step h, ih]; simp only [tot]; constructor
   ·rintro ⟨h1, h2⟩; refine ⟨fun x hx => ?_, by omega⟩; rcases List.mem_cons.1 hx with rfl | hx
    ·exact h
    ·exact h1 x hx
   ·rintro ⟨h1, h2⟩; exact ⟨fun x hx => h1 x (by simp [hx]), by omega⟩
  ·rw [yr_err h]; exact ⟨fun e => absurd e h, fun e => absurd (e.1 c (by simp)) h⟩
theorem yr_val {f : Co → Int × Int} {acc : Int} {l : List Co} (h : (yr f acc l).2 = 0) : (yr f acc l).1 = acc + tot f l := by
 obtain ⟨h1, h2⟩ := yr_code.1 h; rw [yr_all h1, if_neg (by omega)]
theorem yr_no {f : Co → Int × Int} {acc : Int} {l : List Co} (h : (yr f acc l).2 ≠ 0) : (yr f acc l).1 = 0 := by
 induction l generalizing acc with
 | nil =>
  simp only [yr] at h ⊢; split at h <;> rename_i hh
  ·rw [if_pos hh]
  ·exact absurd rfl h
 | cons c l ih =>
  by_cases hc : (f c).2 = 0
  ·rw [yr_step hc] at h ⊢; exact ih h
  ·rw [yr_err hc]
theorem tot_append (f : Co → Int × Int) (l m : List Co) : tot f (l ++ m) = tot f l + tot f m := by
 induction l with
 | nil => simp [tot]
 | cons c l ih => simp only [List.cons_append, tot, ih]; omega
theorem tot_rev (f : Co → Int × Int) (l : List Co) : tot f l.reverse = tot f l := by
 induction l with
 | nil => rfl
 | cons c l ih => rw [List.reverse_cons, tot_append, ih]; simp only [tot]; omega
theorem tot_least {f : Co → Int × Int} {l : List Co} {m : Int} (h : ∀ c ∈ l, m ≤ (f c).1) : m * l.length ≤ tot f l := by
 induction l with
 | nil => simp [tot]
 | cons c l ih =>
  have h1 := h c (by simp); have h2 := ih fun x hx => h x (by simp [hx])
  simp only [tot, List.length_cons]; rw [show (((l.length + 1 : Nat)) : Int) = (l.length : Int) + 1 by omega, Int.mul_add, Int.mul_one]; omega
theorem tot_nn {f : Co → Int × Int} {l : List Co} (h : ∀ c, 0 ≤ (f c).1) : 0 ≤ tot f l := by
 induction l with
 | nil => exact Int.le_refl _
 | cons c l ih => have := h c; simp only [tot]; omega
theorem yr_rev {f : Co → Int × Int} {l : List Co} : ((yr f 0 l).2 = 0 ↔ (yr f 0 l.reverse).2 = 0) ∧ (yr f 0 l).1 = (yr f 0 l.reverse).1 := by
 have h : (yr f 0 l).2 = 0 ↔ (yr f 0 l.reverse).2 = 0 := by
  rw [yr_code, yr_code, tot_rev]; simp only [List.mem_reverse]
 refine ⟨h, ?_⟩; by_cases e : (yr f 0 l).2 = 0
 ·rw [yr_val e, yr_val (h.1 e), tot_rev]
 ·rw [yr_no e, yr_no (fun e2 => e (h.2 e2))]
theorem yr_two {f : Co → Int × Int} (hf : ∀ c, 0 ≤ (f c).1) {l m : List Co} (h : (yr f 0 (l ++ m)).2 = 0) : (yr f 0 l).2 = 0 ∧ (yr f 0 m).2 = 0 ∧ (yr f 0 (l ++ m)).1 = (yr f 0 l).1 + (yr f 0 m).1 := by
 obtain ⟨h1, h2⟩ := yr_code.1 h; rw [tot_append] at h2; have n1 := tot_nn (l := l) hf; have n2 := tot_nn (l := m) hf; have a : (yr f 0 l).2 = 0 := yr_code.2 ⟨fun c hc => h1 c (by simp [hc]), by omega⟩; have b : (yr f 0 m).2 = 0 := yr_code.2 ⟨fun c hc => h1 c (by simp [hc]), by omega⟩; refine ⟨a, b, ?_⟩; rw [yr_val h, yr_val a, yr_val b, tot_append]; omega
theorem yr_bd {f : Co → Int × Int} (hf : ∀ c, 0 ≤ (f c).1) (l : List Co) : 0 ≤ (yr f 0 l).1 ∧ (yr f 0 l).1 ≤ 4000000000000000000 := by
 by_cases e : (yr f 0 l).2 = 0
 ·have := tot_nn (l := l) hf; have h2 := (yr_code.1 e).2; rw [yr_val e]; omega
 ·rw [yr_no e]; omega
end Qm
end Go.Proofs.YtplenoaajokpjaaGreat

namespace Go.Proofs.YtplenoaajokpjaaGreat
open Ba Cv Sp Te
namespace Ag
set_option linter.unusedVariables false
structure Ch where
 bk : Int
 dy : Int
 kd : Int
 r : Ri
 cs : List Co
 wy : Int
structure Hi where
 id : Int
 bk : Int
 s : Sp
 r : Ri
 cs : List Co
 hs : List Ch
def zri : Ri := ⟨0, 0, 0, 0⟩
def zch : Ch := ⟨0, 0, 0, zri, [], 0⟩
def zhi : Hi := ⟨0, 0, (0, 0), zri, [], []⟩
def day (n : Int) : Bool := wi n 1 292194
def bare (r : Ri) : Bool := (r.k == 0 && r.v == 0) && (r.a == 0 && r.z == 0)
def rfit (r : Ri) (b : Bool) : Bool := if b = true then rk r.k r.v r.a r.z else bare r
def cfit (cs : List Co) (b : Bool) : Bool := if b = true then cvr cs else cs.length == 0
def wfit (w : Int) (b : Bool) : Bool := if b = true then (w == 0 || w == 1) else w == 0
def pts (k : Int) : Option (Bool × Bool × Bool) := if k = 1 then some (true, false, false) else if k = 2 then some (false, true, false) else if k = 3 then some (false, false, true) else if k = 4 then some (false, false, false) else none
def fits (c : Ch) : Option (Bool × Bool × Bool) → Bool
 | none => false
 | some (a, b, d) => rfit c.r a && (cfit c.cs b && wfit c.wy d)
def rch (c : Ch) : Bool := day c.bk && (day c.dy && fits c (pts c.kd))
def last (b : Int) (hs : List Ch) : Int := match hs.getLast? with
 | none => b
 | some c => c.bk
def code (s : Sp) (b : Int) (hs : List Ch) (c : Ch) : Int := if (rch c && inn s c.dy) = true then (if c.bk < last b hs then 4 else if 2000 ≤ hs.length then 2 else 0) else 1
def bnd (id bk : Int) (s : Sp) (r : Ri) (cs : List Co) : Bool := wi id 1 1000000000 && (day bk && te s r cs)
def steps (s : Sp) : Int → List Ch → Bool
 | _, [] => true
 | b, c :: l => (rch c && inn s c.dy) && (decide (b ≤ c.bk) && steps s c.bk l)
def hst (h : Hi) : Bool := bnd h.id h.bk h.s h.r h.cs && steps h.s h.bk h.hs
theorem day_iff {n : Int} : day n = true ↔ 1 ≤ n ∧ n ≤ 292194 := wi_iff
theorem last_nil (b : Int) : last b [] = b := rfl
theorem last_snoc (b : Int) (hs : List Ch) (c : Ch) : last b (hs ++ [c]) = c.bk := by simp [last]
theorem last_take {b : Int} {hs : List Ch} {k : Nat} {c : Ch} (h : hs[k]? = some c) : last b (hs.take (k + 1)) = c.bk := by rw [take_get h, last_snoc]
theorem last_get {b : Int} {hs : List Ch} {k : Nat} {c : Ch} (h : hs[k]? = some c) (hl : hs.length = k + 1) : last b hs = c.bk := by
 rw [← last_take (b := b) h, ← hl, List.take_length]
theorem code_arg {s : Sp} {b : Int} {hs : List Ch} {c : Ch} (h : (rch c && inn s c.dy) = false) : code s b hs c = 1 := by unfold code; rw [if_neg (by rw [h]; decide)]
theorem code_order {s : Sp} {b : Int} {hs : List Ch} {c : Ch} (h : (rch c && inn s c.dy) = true) (h1 : c.bk < last b hs) : code s b hs c = 4 := by unfold code; rw [if_pos h, if_pos h1]
theorem code_bound {s : Sp} {b : Int} {hs : List Ch} {c : Ch} (h : (rch c && inn s c.dy) = true) (h1 : ¬ c.bk < last b hs) (h2 : 2000 ≤ hs.length) : code s b hs c = 2 := by unfold code; rw [if_pos h, if_neg h1, if_pos h2]
theorem code_ok {s : Sp} {b : Int} {hs : List Ch} {c : Ch} (h : (rch c && inn s c.dy) = true) (h1 : ¬ c.bk < last b hs) (h2 : ¬ 2000 ≤ hs.length) : code s b hs c = 0 := by unfold code; rw [if_pos h, if_neg h1, if_neg h2]
theorem code_zero {s : Sp} {b : Int} {hs : List Ch} {c : Ch} : code s b hs c = 0 ↔ (rch c && inn s c.dy) = true ∧ last b hs ≤ c.bk ∧ hs.length < 2000 := by
 unfold code; by_cases h : (rch c && inn s c.dy) = true
 ·rw [if_pos h]; by_cases h1 : c.bk < last b hs
  ·rw [if_pos h1]; constructor
   ·intro h; omega
   ·rintro ⟨_, h, _⟩; omega
  ·rw [if_neg h1]; by_cases h2 : 2000 ≤ hs.length
   ·rw [if_pos h2]; constructor
    ·intro h; omega
    ·rintro ⟨_, _, h⟩; omega
   ·rw [if_neg h2]; exact ⟨fun _ => ⟨h, by omega, by omega⟩, fun _ => rfl⟩
 ·rw [if_neg h]; constructor
  ·intro h; omega
  ·rintro ⟨h', _⟩; exact absurd h' h
theorem code_in (s : Sp) (b : Int) (hs : List Ch) (c : Ch) : 0 ≤ code s b hs c ∧ code s b hs c ≤ 4 := by
 unfold code; split
 ·split
  ·omega
  ·split <;> omega
 ·omega
theorem steps_get {s : Sp} {b : Int} {hs : List Ch} {k : Nat} {c : Ch} (h : hs[k]? = some c) : steps s b (hs.drop k) = ((rch c && inn s c.dy) && (decide (b ≤ c.bk) && steps s c.bk (hs.drop (k + 1)))) := by rw [drop_get h, steps]
theorem steps_end {s : Sp} {b : Int} {hs : List Ch} {k : Nat} (h : hs.length ≤ k) : steps s b (hs.drop k) = true := by rw [List.drop_of_length_le h, steps]
theorem steps_code {s : Sp} {b : Int} {hs : List Ch} {k : Nat} {c : Ch} (h : hs[k]? = some c) (hk : k < 2000) : steps s (last b (hs.take k)) (hs.drop k) = (decide (code s b (hs.take k) c = 0) && steps s (last b (hs.take (k + 1))) (hs.drop (k + 1))) := by
 have hl := (List.getElem?_eq_some_iff.1 h).1; rw [steps_get h, last_take h]; cases h1 : (rch c && inn s c.dy)
 ·rw [code_arg h1]; simp
 ·by_cases h2 : c.bk < last b (hs.take k)
  ·rw [code_order h1 h2, decide_eq_false (by omega : ¬ last b (hs.take k) ≤ c.bk)]; simp
  ·rw [code_ok h1 h2 (by rw [List.length_take]; omega), decide_eq_true (by omega : last b (hs.take k) ≤ c.bk)]; simp
def key (hs : List Ch) (x : Int) : Int := match hs[x.toNat]? with
 | some c => c.dy
 | none => 0
def plc (n : Nat) : List Int := (List.range n).map fun (i : Nat) => (i : Int)
theorem plc_len (n : Nat) : (plc n).length = n := by simp [plc]
theorem plc_get {n k : Nat} (h : k < n) : (plc n)[k]? = some (k : Int) := by simp [plc, h]
theorem plc_mem {n : Nat} {x : Int} : x ∈ plc n ↔ 0 ≤ x ∧ x < n := by
 simp only [plc, List.mem_map, List.mem_range]; constructor
 ·rintro ⟨a, h, rfl⟩; omega
 ·intro h; exact ⟨x.toNat, by omega, by omega⟩
theorem plc_rise (n : Nat) : (plc n).Pairwise (· < ·) := by
 unfold plc; rw [List.pairwise_map]; exact List.pairwise_lt_range.imp fun h => by omega
theorem plc_next (n : Nat) : plc (n + 1) = plc n ++ [(n : Int)] := by simp [plc, List.range_succ]
def Ord (hs : List Ch) (o : List Int) : Prop := St.Good (key hs) o (plc hs.length)
end Ag
end Go.Proofs.YtplenoaajokpjaaGreat

namespace Go.Proofs.YtplenoaajokpjaaGreat.Sp
set_option linter.unusedVariables false
def Chain (f t : Int) : List Sp → Prop
 | [] => f = t
 | x :: xs => x.1 = f ∧ x.1 < x.2 ∧ Chain x.2 t xs
theorem Chain.le {f t : Int} {xs : List Sp} (h : Chain f t xs) : f ≤ t := by
 induction xs generalizing f with
 | nil => exact Int.le_of_eq h
 | cons x xs ih => have := ih h.2.2; have := h.1; have := h.2.1; omega
theorem Chain.mem {f t : Int} {xs : List Sp} (h : Chain f t xs) : ∀ x ∈ xs, f ≤ x.1 ∧ x.1 < x.2 ∧ x.2 ≤ t := by
 induction xs generalizing f with
 | nil => intro x hx; cases hx
 | cons y ys ih =>
  intro x hx; have h1 := h.1; have h2 := h.2.1; have h3 := h.2.2.le; rcases List.mem_cons.1 hx with rfl | hx
  ·omega
  ·have := ih h.2.2 x hx; omega
theorem Chain.snoc {f m t : Int} {xs : List Sp} (h : Chain f m xs) (hm : m < t) : Chain f t (xs ++ [(m, t)]) := by
 induction xs generalizing f with
 | nil => have h' : f = m := h; subst h'; exact ⟨rfl, hm, rfl⟩
 | cons x xs ih => exact ⟨h.1, h.2.1, ih h.2.2⟩
theorem Chain.length {f t : Int} {xs : List Sp} (h : Chain f t xs) : (xs.length : Int) ≤ t - f := by
 induction xs generalizing f with
 | nil => have h' : f = t := h; simp; omega
 | cons x xs ih => have := ih h.2.2; have := h.1; have := h.2.1; simp; omega
def fst (xs : List Sp) (d : Int) : Prop := ∃ x ∈ xs, x.1 = d
theorem fst_nil (d : Int) : ¬ fst [] d := by rintro ⟨x, hx, _⟩; cases hx
theorem fst_cons (x : Sp) (xs : List Sp) (d : Int) : fst (x :: xs) d ↔ x.1 = d ∨ fst xs d := by simp [fst]
theorem fst_snoc (xs : List Sp) (x : Sp) (d : Int) : fst (xs ++ [x]) d ↔ fst xs d ∨ x.1 = d := by
 simp only [fst, List.mem_append, List.mem_singleton]; constructor
 ·rintro ⟨y, hy | rfl, e⟩
  ·exact .inl ⟨y, hy, e⟩
  ·exact .inr e
 ·rintro (⟨y, hy, e⟩ | e)
  ·exact ⟨y, .inl hy, e⟩
  ·exact ⟨x, .inr rfl, e⟩
theorem Chain.unique {f t : Int} {xs ys : List Sp} (hx : Chain f t xs) (hy : Chain f t ys) (h : ∀ d, fst xs d ↔ fst ys d) : xs = ys := by
 induction xs generalizing f ys with
 | nil =>
  cases ys with
  | nil => rfl
  | cons y ys => exact absurd ((h y.1).2 ((fst_cons _ _ _).2 (.inl rfl))) (fst_nil _)
 | cons x xs ih =>
  cases ys with
  | nil => exact absurd ((h x.1).1 ((fst_cons _ _ _).2 (.inl rfl))) (fst_nil _)
  | cons y ys =>
   have x1 := hx.1; have x2 := hx.2.1; have x3 := hx.2.2; have y1 := hy.1; have y2 := hy.2.1; have y3 := hy.2.2
   have next : ∀ {m : Int} {zs : List Sp}, Chain m t zs → m < t → fst zs m := by
    intro m zs hz hm; cases zs with
    | nil => have hz' : m = t := hz; omega
    | cons z zs => exact (fst_cons _ _ _).2 (.inl hz.1)
   have e2 : x.2 = y.2 := by
    have xl := x3.le; have yl := y3.le; rcases Int.lt_trichotomy x.2 y.2 with hlt | he | hgt
    ·exfalso; have h1 := (h x.2).1 ((fst_cons _ _ _).2 (.inr (next x3 (by omega)))); rcases (fst_cons _ _ _).1 h1 with h1 | ⟨z, hz, e⟩
     ·omega
     ·have := y3.mem z hz; omega
    ·exact he
    ·exfalso; have h1 := (h y.2).2 ((fst_cons _ _ _).2 (.inr (next y3 (by omega)))); rcases (fst_cons _ _ _).1 h1 with h1 | ⟨z, hz, e⟩
     ·omega
     ·have := x3.mem z hz; omega
   have e : x = y := Prod.ext (by omega) e2; subst e; rw [ih x3 y3 fun d => ?_]; have hd := h d; rw [fst_cons, fst_cons] at hd; constructor
   ·rintro ⟨z, hz, e⟩; have := x3.mem z hz; rcases hd.1 (.inr ⟨z, hz, e⟩) with hh | hh
    ·omega
    ·exact hh
   ·rintro ⟨z, hz, e⟩; have := y3.mem z hz; rcases hd.2 (.inr ⟨z, hz, e⟩) with hh | hh
    ·omega
    ·exact hh
structure Parted (s : Sp) (ds : List Int) (zs : List Sp) : Prop where
 none : has s = false → zs = []
 chain : has s = true → Chain s.1 s.2 zs
 cuts : has s = true → ∀ d, fst zs d ↔ d = s.1 ∨ (d ∈ ds ∧ s.1 < d ∧ d < s.2)
theorem Parted.unique {s : Sp} {ds es : List Int} {zs ws : List Sp} (h1 : Parted s ds zs) (h2 : Parted s es ws) (h : ∀ d, d ∈ ds ↔ d ∈ es) : zs = ws := by
 cases hs : has s
 ·rw [h1.none hs, h2.none hs]
 ·refine (h1.chain hs).unique (h2.chain hs) fun d => ?_
  rw [h1.cuts hs d, h2.cuts hs d, h d]
theorem chain_tot {f t : Int} {xs : List Sp} (h : Chain f t xs) (h1 : 1 ≤ f) (h2 : t ≤ 292195) : tot xs = t - f ∧ (∀ x ∈ xs, has x = true) ∧ ∀ d, hit xs d ↔ f ≤ d ∧ d < t := by
 induction xs generalizing f with
 | nil =>
  have h' : f = t := h; refine ⟨by rw [tot_nil]; omega, fun x hx => (by cases hx), fun d => ⟨fun hh => absurd hh (hit_nil d), fun hh => by omega⟩⟩
 | cons x xs ih =>
  have a := h.1; have b := h.2.1; have c := h.2.2.le; obtain ⟨i1, i2, i3⟩ := ih h.2.2 (by omega); have hx : has x = true := (has_iff x).2 (by omega); refine ⟨by rw [tot_cons, mn_has hx, i1]; omega, fun y hy => ?_, fun d => ?_⟩
  ·rcases List.mem_cons.1 hy with rfl | hy
   ·exact hx
   ·exact i2 y hy
  ·rw [hit_cons, i3 d, inn_iff]; constructor
   ·rintro (hh | hh) <;> omega
   ·intro hh; by_cases hd : d < x.2
    ·exact .inl (by omega)
    ·exact .inr (by omega)
theorem Parted.facts {s : Sp} {ds : List Int} {zs : List Sp} (h : Parted s ds zs) : tot zs = mn s ∧ (∀ d, hit zs d ↔ hit [s] d) ∧ zs.length ≤ 292194 := by
 cases hs : has s
 ·rw [h.none hs, mn_no hs]; refine ⟨rfl, fun d => ⟨fun hh => absurd hh (hit_nil d), ?_⟩, by simp⟩; rw [hit_cons]; rintro (hh | hh)
  ·rw [inn_has hh] at hs; cases hs
  ·exact hh
 ·have hs' := (has_iff s).1 hs; obtain ⟨i1, i2, i3⟩ := chain_tot (h.chain hs) (by omega) (by omega); refine ⟨by rw [i1, mn_has hs], fun d => ?_, ?_⟩
  ·rw [i3 d, hit_cons, inn_iff]; constructor
   ·intro hh; exact .inl (by omega)
   ·rintro (hh | hh)
    ·omega
    ·exact absurd hh (hit_nil d)
  ·have := (h.chain hs).length; omega
def ps (s : Sp) (st : List Sp × Int) (d : Int) : List Sp × Int := if inn s d = true then (st.1 ++ [(st.2, d)], d) else st
def pf (s : Sp) (ds : List Int) : List Sp × Int := ds.foldl (ps s) ([], s.1)
theorem pf_snoc (s : Sp) (ds : List Int) (d : Int) : pf s (ds ++ [d]) = ps s (pf s ds) d := by simp [pf]
theorem ps_len (s : Sp) (st : List Sp × Int) (d : Int) : (ps s st d).1.length ≤ st.1.length + 1 := by unfold ps; split <;> simp
theorem pf_len (s : Sp) (ds : List Int) : (pf s ds).1.length ≤ ds.length := by
 have : ∀ (es : List Int) (st : List Sp × Int), (es.foldl (ps s) st).1.length ≤ st.1.length + es.length := by
  intro es
  induction es with
  | nil => intro st; simp
  | cons e es ih => intro st; have h1 := ih (ps s st e); have h2 := ps_len s st e; simp only [List.foldl_cons, List.length_cons]; omega
 simpa [pf] using this ds ([], s.1)
structure Cuts (s : Sp) (ds : List Int) (st : List Sp × Int) : Prop where
 chain : Chain s.1 st.2 (kp st.1)
 lo : s.1 ≤ st.2
 hi : st.2 < s.2
 cuts : ∀ d, (fst (kp st.1) d ∨ d = st.2) ↔ d = s.1 ∨ (d ∈ ds ∧ s.1 < d ∧ d < s.2)
 last : st.2 = s.1 ∨ st.2 ∈ ds
theorem cuts_step {s : Sp} {ds : List Int} {st : List Sp × Int} {e : Int} (hs : has s = true) (h : Cuts s ds st) (hr : ∀ d ∈ ds, d ≤ e) : Cuts s (ds ++ [e]) (ps s st e) := by
 have hs' := (has_iff s).1 hs; obtain ⟨L, f⟩ := st; have h1 := h.chain; have h2 := h.lo; have h3 := h.hi; have h4 := h.cuts; have h5 := h.last; simp only at h1 h2 h3 h4 h5; unfold ps; by_cases he : inn s e = true
 ·rw [if_pos he]; rw [inn_iff] at he
  have hfe : f ≤ e := by
   rcases h5 with h5 | h5
   ·omega
   ·exact hr f h5
  have hd : ∀ d, (d ∈ ds ++ [e] ∧ s.1 < d ∧ d < s.2) ↔ (d ∈ ds ∧ s.1 < d ∧ d < s.2) ∨ (d = e ∧ s.1 < d) := by
   intro d; simp only [List.mem_append, List.mem_singleton]; constructor
   ·rintro ⟨hd | hd, h6, h7⟩
    ·exact .inl ⟨hd, h6, h7⟩
    ·exact .inr ⟨hd, h6⟩
   ·rintro (⟨hd, h6, h7⟩ | ⟨hd, h6⟩)
    ·exact ⟨.inl hd, h6, h7⟩
    ·exact ⟨.inr hd, h6, by omega⟩
  rcases Int.lt_or_eq_of_le hfe with hlt | heq
  ·have hk : kp (L ++ [(f, e)]) = kp L ++ [(f, e)] := by
    rw [kp_append, kp_one, if_pos ((has_iff _).2 (by simp only; omega))]
   refine ⟨?_, ?_, ?_, fun d => ?_, .inr (by simp)⟩
   ·simp only; rw [hk]; exact h1.snoc hlt
   ·simp only; omega
   ·simp only; omega
   ·simp only; rw [hk, fst_snoc, hd d]; have := h4 d; constructor
    ·rintro ((h6 | h6) | h6)
     ·rcases this.1 (.inl h6) with h7 | h7
      ·exact .inl h7
      ·exact .inr (.inl h7)
     ·rcases this.1 (.inr h6.symm) with h7 | h7
      ·exact .inl h7
      ·exact .inr (.inl h7)
     ·exact .inr (.inr ⟨h6, by omega⟩)
    ·rintro (h6 | h6 | h6)
     ·rcases this.2 (.inl h6) with h7 | h7
      ·exact .inl (.inl h7)
      ·exact .inl (.inr h7.symm)
     ·rcases this.2 (.inr h6) with h7 | h7
      ·exact .inl (.inl h7)
      ·exact .inl (.inr h7.symm)
     ·exact .inr h6.1
  ·subst heq
   have hk : kp (L ++ [(f, f)]) = kp L := by
    rw [kp_append, kp_one, if_neg (by rw [has_iff]; simp only; omega), List.append_nil]
   refine ⟨?_, h2, h3, fun d => ?_, .inr (by simp)⟩
   ·simp only; rw [hk]; exact h1
   ·simp only; rw [hk, hd d, h4 d]; constructor
    ·rintro (h6 | h6)
     ·exact .inl h6
     ·exact .inr (.inl h6)
    ·rintro (h6 | h6 | h6)
     ·exact .inl h6
     ·exact .inr h6
     ·rcases (h4 f).1 (.inr rfl) with h7 | h7
      ·omega
      ·rw [h6.1]; exact .inr h7
 ·rw [if_neg he]; refine ⟨h1, h2, h3, fun d => ?_, ?_⟩
  ·rw [h4 d]; refine or_congr Iff.rfl ?_; simp only [List.mem_append, List.mem_singleton]; constructor
   ·rintro ⟨h6, h7⟩; exact ⟨.inl h6, h7⟩
   ·rintro ⟨h6 | h6, h7⟩
    ·exact ⟨h6, h7⟩
    ·subst h6; exact absurd ((inn_iff s d).2 (by omega)) he
  ·rcases h5 with h5 | h5
   ·exact .inl h5
   ·exact .inr (by simp [h5])
theorem cuts_all {s : Sp} (hs : has s = true) : ∀ (es ds : List Int) (st : List Sp × Int), Cuts s ds st → (ds ++ es).Pairwise (· ≤ ·) → Cuts s (ds ++ es) (es.foldl (ps s) st) := by
 intro es
 induction es with
 | nil => intro ds st h _; simpa using h
 | cons e es ih =>
  intro ds st h hp; have eq : ds ++ e :: es = (ds ++ [e]) ++ es := by simp
  rw [eq] at hp ⊢; refine ih (ds ++ [e]) (ps s st e) (cuts_step hs h fun d hd => ?_) hp; exact (List.pairwise_append.1 (List.pairwise_append.1 hp).1).2.2 d hd e (by simp)
theorem pf_none {s : Sp} (hs : has s = false) (ds : List Int) : pf s ds = ([], s.1) := by
 have hi : ∀ d, inn s d = false := fun d => by cases hh : inn s d; rfl; rw [inn_has hh] at hs; cases hs
 have : ∀ (es : List Int) (st : List Sp × Int), es.foldl (ps s) st = st := by
  intro es
  induction es with
  | nil => intro st; rfl
  | cons e es ih => intro st; simp only [List.foldl_cons]; rw [ih]; simp [ps, hi]
 exact this ds _
theorem pf_parted {s : Sp} {ds es : List Int} (hp : ds.Pairwise (· ≤ ·)) (hm : ∀ d, d ∈ ds ↔ d ∈ es) : Parted s es (kp ((pf s ds).1 ++ [((pf s ds).2, s.2)])) := by
 cases hs : has s
 ·rw [pf_none hs]; refine ⟨fun _ => ?_, fun h => (by cases hs.symm.trans h), fun h => (by cases hs.symm.trans h)⟩; simp only [List.nil_append]; rw [kp_one, if_neg (by simp [hs])]
 ·have hs' := (has_iff s).1 hs; have h0 : Cuts s [] ([], s.1) := ⟨rfl, Int.le_refl _, hs'.2.1, fun d => by simp [kp, fst], .inl rfl⟩; have h := cuts_all hs ds [] _ h0 (by simpa using hp); simp only [List.nil_append] at h; have e : ds.foldl (ps s) ([], s.1) = pf s ds := rfl; rw [e] at h; generalize pf s ds = st at h ⊢; obtain ⟨L, f⟩ := st; have h1 := h.chain; have h2 := h.lo; have h3 := h.hi; have h4 := h.cuts; simp only at h1 h2 h3 h4 ⊢
  have hk : kp (L ++ [(f, s.2)]) = kp L ++ [(f, s.2)] := by
   rw [kp_append, kp_one, if_pos ((has_iff _).2 (by simp only; omega))]
  rw [hk]; refine ⟨fun h => (by cases hs.symm.trans h), fun _ => h1.snoc h3, fun _ d => ?_⟩; rw [fst_snoc, ← hm d, ← h4 d]; exact or_congr Iff.rfl ⟨Eq.symm, Eq.symm⟩
def nx (f t : Int) (ds : List Int) : Int := ds.foldl (fun n a => if f < a ∧ a < n then a else n) t
theorem nx_snoc (f t : Int) (ds : List Int) (d : Int) : nx f t (ds ++ [d]) = if f < d ∧ d < nx f t ds then d else nx f t ds := by unfold nx; rw [List.foldl_append]; rfl
theorem nx_facts (f t : Int) (h : f < t) (ds : List Int) : f < nx f t ds ∧ nx f t ds ≤ t ∧ (nx f t ds = t ∨ nx f t ds ∈ ds) ∧ ∀ a ∈ ds, f < a → nx f t ds ≤ a := by
 have key : ∀ (es ps : List Int) (n : Int), f < n → n ≤ t → (n = t ∨ n ∈ ps) → (∀ a ∈ ps, f < a → n ≤ a) →
   f < es.foldl (fun n a => if f < a ∧ a < n then a else n) n ∧ es.foldl (fun n a => if f < a ∧ a < n then a else n) n ≤ t ∧ (es.foldl (fun n a => if f < a ∧ a < n then a else n) n = t ∨ es.foldl (fun n a => if f < a ∧ a < n then a else n) n ∈ ps ++ es) ∧ ∀ a ∈ ps ++ es, f < a → es.foldl (fun n a => if f < a ∧ a < n then a else n) n ≤ a := by
  intro es
  induction es with
  | nil => intro ps n h1 h2 h3 h4; simpa using ⟨h1, h2, h3, h4⟩
  | cons e es ih =>
   intro ps n h1 h2 h3 h4; have eq : ps ++ e :: es = (ps ++ [e]) ++ es := by simp
   rw [eq]; simp only [List.foldl_cons]; by_cases hc : f < e ∧ e < n
   ·rw [if_pos hc]; refine ih (ps ++ [e]) e hc.1 (by omega) (.inr (by simp)) fun a ha hfa => ?_
    rcases List.mem_append.1 ha with ha | ha
    ·have := h4 a ha hfa; omega
    ·simp at ha; omega
   ·rw [if_neg hc]; refine ih (ps ++ [e]) n h1 h2 (h3.imp id fun h => by simp [h]) fun a ha hfa => ?_
    rcases List.mem_append.1 ha with ha | ha
    ·exact h4 a ha hfa
    ·simp at ha; omega
 have := key ds [] t h (Int.le_refl _) (.inl rfl) (fun a ha => by cases ha); simpa [nx] using this
structure Goes (s : Sp) (ds : List Int) (zs : List Sp) (f : Int) : Prop where
 chain : Chain s.1 f zs
 hi : f ≤ s.2
 at_ : f = s.1 ∨ (f ∈ ds ∧ s.1 < f) ∨ f = s.2
 cuts : ∀ d, fst zs d ↔ (d = s.1 ∨ (d ∈ ds ∧ s.1 < d)) ∧ d < f
theorem goes_start {s : Sp} (hs : has s = true) (ds : List Int) : Goes s ds [] s.1 := by
 have hs' := (has_iff s).1 hs; refine ⟨rfl, by omega, .inl rfl, fun d => ⟨fun h => absurd h (fst_nil d), ?_⟩⟩; rintro ⟨h | h, h2⟩ <;> omega
theorem goes_step {s : Sp} {ds : List Int} {zs : List Sp} {f : Int} (h : Goes s ds zs f) (hf : f < s.2) : Goes s ds (zs ++ [(f, nx f s.2 ds)]) (nx f s.2 ds) := by
 obtain ⟨n1, n2, n3, n4⟩ := nx_facts f s.2 hf ds; have hle := h.chain.le; refine ⟨h.chain.snoc n1, n2, ?_, fun d => ?_⟩
 ·rcases n3 with n3 | n3
  ·exact .inr (.inr n3)
  ·exact .inr (.inl ⟨n3, by omega⟩)
 ·rw [fst_snoc, h.cuts d]; simp only; constructor
  ·rintro (⟨h1, h2⟩ | h1)
   ·exact ⟨h1, by omega⟩
   ·subst h1; refine ⟨?_, n1⟩; rcases h.at_ with h2 | h2 | h2
    ·exact .inl h2
    ·exact .inr h2
    ·omega
  ·rintro ⟨h1, h2⟩; by_cases hd : d < f
   ·exact .inl ⟨h1, hd⟩
   ·refine .inr ?_; rcases h1 with h1 | h1
    ·omega
    ·by_cases he : f = d
     ·exact he
     ·have := n4 d h1.1 (by omega); omega
theorem goes_end {s : Sp} {ds : List Int} {zs : List Sp} (hs : has s = true) (h : Goes s ds zs s.2) : Parted s ds zs := by
 have hs' := (has_iff s).1 hs; refine ⟨fun h => (by cases hs.symm.trans h), fun _ => h.chain, fun _ d => ?_⟩; rw [h.cuts d]; constructor
 ·rintro ⟨h1 | h1, h2⟩
  ·exact .inl h1
  ·exact .inr ⟨h1.1, h1.2, h2⟩
 ·rintro (h1 | h1)
  ·exact ⟨.inl h1, by omega⟩
  ·exact ⟨.inr ⟨h1.1, h1.2.1⟩, h1.2.2⟩
end Go.Proofs.YtplenoaajokpjaaGreat.Sp

namespace Go.Proofs.YtplenoaajokpjaaGreat
open Ba Cv Sp Te Ag
namespace Sl
set_option linter.unusedVariables false
instance : DecidableEq Ri := fun a b => decidable_of_iff (a.k = b.k ∧ a.v = b.v ∧ a.a = b.a ∧ a.z = b.z) (by cases a; cases b; simp)
instance : DecidableEq Co := fun a b => decidable_of_iff (a.p = b.p ∧ a.l = b.l ∧ a.g = b.g ∧ a.d = b.d ∧ a.s = b.s) (by cases a; cases b; simp)
structure Hd where
 on : Bool
 r : Ri
 cs : List Co
instance : DecidableEq Hd := fun a b => decidable_of_iff (a.on = b.on ∧ a.r = b.r ∧ a.cs = b.cs) (by cases a; cases b; simp)
structure Sc where
 s : Sp
 h : Hd
 y : Int
instance : DecidableEq Sc := fun a b => decidable_of_iff (a.s = b.s ∧ a.h = b.h ∧ a.y = b.y) (by cases a; cases b; simp)
def zhd : Hd := ⟨false, zri, []⟩
def zsc : Sc := ⟨(0, 0), zhd, 0⟩
def don (s : Hd) (c : Ch) : Hd := if c.kd = 1 then ⟨s.on, c.r, s.cs⟩ else if c.kd = 2 then ⟨s.on, s.r, c.cs⟩ else if c.kd = 3 then ⟨false, s.r, s.cs⟩ else if c.kd = 4 then ⟨true, s.r, s.cs⟩ else s
def ups (o : List Ch) (d : Int) : List Ch := o.filter fun c => decide (c.dy ≤ d)
def hld (i : Hd) (o : List Ch) (d : Int) : Hd := (ups o d).foldl don i
theorem ups_same {o : List Ch} {a b : Int} (hab : a ≤ b) (h : ∀ c ∈ o, ¬ (a < c.dy ∧ c.dy ≤ b)) : ups o b = ups o a := by
 unfold ups; refine List.filter_congr fun c hc => ?_
 have := h c hc; exact decide_eq_decide.2 (by omega)
theorem hld_same {i : Hd} {o : List Ch} {a b : Int} (hab : a ≤ b) (h : ∀ c ∈ o, ¬ (a < c.dy ∧ c.dy ≤ b)) : hld i o b = hld i o a := by unfold hld; rw [ups_same hab h]
theorem ups_take {o : List Ch} {d : Int} {p : Nat} (h1 : ∀ c ∈ o.take p, c.dy ≤ d) (h2 : ∀ c ∈ o.drop p, d < c.dy) : ups o d = o.take p := by
 unfold ups
 conv => lhs; rw [← List.take_append_drop p o]
 rw [List.filter_append, List.filter_eq_self.2 (fun c hc => decide_eq_true (h1 c hc)), List.filter_eq_nil_iff.2 (fun c hc => by have := h2 c hc; simp; omega), List.append_nil]
theorem rise_drop {o : List Ch} (h : o.Pairwise fun a b => a.dy ≤ b.dy) {p : Nat} {d : Int} (hp : ∀ c, o[p]? = some c → d < c.dy) : ∀ c ∈ o.drop p, d < c.dy := by
 intro c hc; rcases Nat.lt_or_ge p o.length with hl | hl
 ·have h' : (o.drop p).Pairwise fun a b => a.dy ≤ b.dy := h.sublist (List.drop_sublist p o)
  rw [List.drop_eq_getElem_cons hl] at hc h'; have h0 := hp _ (List.getElem?_eq_getElem hl); rcases List.mem_cons.1 hc with rfl | hc
  ·exact h0
  ·have := (List.pairwise_cons.1 h').1 c hc; omega
 ·rw [List.drop_of_length_le hl] at hc; cases hc
structure Cutd (g : Int → Hd) (f t : Int) (L : List (Sp × Hd)) : Prop where
 ch : Chain f t (L.map Prod.fst)
 is : ∀ x ∈ L, ∀ d, x.1.1 ≤ d → d < x.1.2 → g d = x.2
 nb : ∀ (i : Nat) (x y : Sp × Hd), L[i]? = some x → L[i + 1]? = some y → x.2 ≠ y.2
section
variable {g : Int → Hd} {f m t : Int} {L : List (Sp × Hd)}
theorem Cutd.nil : Cutd g f f [] := ⟨rfl, (fun x hx => by cases hx), (fun i x y h => by simp at h)⟩
theorem Cutd.one {h : Hd} (hm : f < m) (hg : ∀ d, f ≤ d → d < m → g d = h) : Cutd g f m [((f, m), h)] :=
 ⟨⟨rfl, hm, rfl⟩, (fun x hx => by rw [List.mem_singleton] at hx; subst hx; exact hg), (fun i x y h0 h1 => by simp at h1)⟩
theorem Cutd.more {h : Hd} {x : Sp × Hd} (H : Cutd g f m (L ++ [x])) (hm : m < t) (hg : ∀ d, m ≤ d → d < t → g d = h) (hx : x.2 ≠ h) : Cutd g f t ((L ++ [x]) ++ [((m, t), h)]) := by
 refine ⟨?_, ?_, ?_⟩
 ·rw [List.map_append]; exact H.ch.snoc hm
 ·intro y hy; rcases List.mem_append.1 hy with hy | hy
  ·exact H.is y hy
  ·rw [List.mem_singleton] at hy; subst hy; exact hg
 ·intro i y z h0 h1; have hl : i + 1 < (L ++ [x] ++ [((m, t), h)]).length := (List.getElem?_eq_some_iff.1 h1).1; simp only [List.length_append, List.length_singleton] at hl; rcases Nat.lt_or_ge (i + 1) (L ++ [x]).length with hi | hi
  ·rw [List.getElem?_append_left hi] at h1; rw [List.getElem?_append_left (by omega)] at h0; exact H.nb i y z h0 h1
  ·simp only [List.length_append, List.length_singleton] at hi; obtain rfl : i = L.length := by omega
   rw [List.getElem?_append_left (by simp), List.getElem?_append_right (Nat.le_refl _), Nat.sub_self] at h0; rw [List.getElem?_append_right (by simp)] at h1; simp at h0 h1; subst h0 h1; exact hx
theorem Chain.len {m t : Int} : ∀ {xs : List Sp} {f a : Int}, Chain f m (xs ++ [(a, m)]) → m < t → Chain f t (xs ++ [(a, t)])
 | [], f, a, h, hm => ⟨h.1, by have := h.2.1; simp at this ⊢; omega, rfl⟩
 | x :: xs, f, a, h, hm => ⟨h.1, h.2.1, Chain.len h.2.2 hm⟩
theorem Chain.end_ {m b : Int} : ∀ {xs : List Sp} {f a : Int}, Chain f m (xs ++ [(a, b)]) → b = m
 | [], f, a, h => h.2.2
 | x :: xs, f, a, h => Chain.end_ h.2.2
theorem Cutd.longer {h : Hd} {a b : Int} (H : Cutd g f m (L ++ [((a, b), h)])) (hm : m < t) (hg : ∀ d, m ≤ d → d < t → g d = h) : Cutd g f t (L ++ [((a, t), h)]) := by
 have hc := H.ch; rw [List.map_append] at hc; obtain rfl : b = m := Chain.end_ hc; refine ⟨?_, ?_, ?_⟩
 ·rw [List.map_append]; exact Chain.len hc hm
 ·intro y hy; rcases List.mem_append.1 hy with hy | hy
  ·exact H.is y (List.mem_append_left _ hy)
  ·rw [List.mem_singleton] at hy; subst hy; intro d h1 h2; rcases Int.lt_or_le d b with h3 | h3
   ·exact H.is _ (List.mem_append_right _ (List.mem_singleton.2 rfl)) d h1 h3
   ·exact hg d h3 h2
 ·intro i y z h0 h1; have hl : i + 1 < (L ++ [((a, t), h)]).length := (List.getElem?_eq_some_iff.1 h1).1; simp only [List.length_append, List.length_singleton] at hl; rw [List.getElem?_append_left (by omega)] at h0; rcases Nat.lt_or_ge (i + 1) L.length with hi | hi
  ·rw [List.getElem?_append_left hi] at h1; exact H.nb i y z (by rw [List.getElem?_append_left (by omega)]; exact h0) (by rw [List.getElem?_append_left hi]; exact h1)
  ·rw [List.getElem?_append_right hi] at h1; have e : i + 1 = L.length := by omega
   rw [e, Nat.sub_self] at h1; simp at h1; subst h1; exact H.nb i y ((a, b), h) (by rw [List.getElem?_append_left (by omega)]; exact h0) (by rw [e, List.getElem?_append_right (Nat.le_refl _), Nat.sub_self]; rfl)
theorem Cutd.tail {x : Sp × Hd} (H : Cutd g f t (x :: L)) : Cutd g x.1.2 t L :=
 ⟨H.ch.2.2, fun y hy => H.is y (List.mem_cons_of_mem _ hy), fun i y z h0 h1 => H.nb (i + 1) y z (by simpa using h0) (by simpa using h1)⟩
theorem Cutd.head {x : Sp × Hd} (H : Cutd g f t (x :: L)) : x.1.1 = f ∧ f < x.1.2 ∧ x.1.2 ≤ t ∧ g f = x.2 := by
 have h1 : x.1.1 = f := H.ch.1; have h2 : x.1.1 < x.1.2 := H.ch.2.1; have h3 : x.1.2 ≤ t := H.tail.ch.le; exact ⟨h1, by omega, h3, by rw [← h1]; exact H.is x (List.mem_cons_self) _ (Int.le_refl _) h2⟩
theorem Cutd.unique : ∀ {L M : List (Sp × Hd)} {f : Int}, Cutd g f t L → Cutd g f t M → L = M
 | [], [], _, _, _ => rfl
 | [], y :: M, f, H, K => by have := K.head; have h : f = t := H.ch; omega
 | x :: L, [], f, H, K => by have := H.head; have h : f = t := K.ch; omega
 | x :: L, y :: M, f, H, K => by
  have hx := H.head; have hy := K.head
  have key : ∀ {x y : Sp × Hd} {L M : List (Sp × Hd)}, Cutd g f t (x :: L) → Cutd g f t (y :: M) → ¬ x.1.2 < y.1.2 := by
   intro x y L M H K hlt; have hx := H.head; have hy := K.head; cases L with
   | nil => have h : x.1.2 = t := H.tail.ch; omega
   | cons z L =>
    have hz := H.tail.head; have h1 := H.nb 0 x z rfl rfl; have h2 : g x.1.2 = y.2 := K.is y List.mem_cons_self _ (by omega) hlt; exact h1 (by rw [← hx.2.2.2, hy.2.2.2, ← h2, hz.2.2.2])
  have e : x.1.2 = y.1.2 := by
   have := key H K; have := key K H; omega
  have e2 : x = y := Prod.ext (Prod.ext (by rw [hx.1, hy.1]) e) (by rw [← hx.2.2.2, hy.2.2.2]); subst e2; rw [Cutd.unique H.tail K.tail]
theorem Cutd.mem (H : Cutd g f t L) {d : Int} (h1 : f ≤ d) (h2 : d < t) : ∃ x ∈ L, x.1.1 ≤ d ∧ d < x.1.2 ∧ x.2 = g d := by
 induction L generalizing f with
 | nil => have h : f = t := H.ch; omega
 | cons x L ih =>
  have hx := H.head; by_cases hd : d < x.1.2
  ·exact ⟨x, List.mem_cons_self, by omega, hd, (H.is x List.mem_cons_self d (by omega) hd).symm⟩
  ·obtain ⟨y, hy, r⟩ := ih H.tail (by omega); exact ⟨y, List.mem_cons_of_mem _ hy, r⟩
theorem Cutd.congr {k : Int → Hd} (H : Cutd g f t L) (h : ∀ d, f ≤ d → d < t → g d = k d) : Cutd k f t L :=
 ⟨H.ch, fun x hx d h1 h2 => by
  have := H.ch.mem x.1 (List.mem_map.2 ⟨x, hx, rfl⟩); rw [← h d (by omega) (by omega)]; exact H.is x hx d h1 h2, H.nb⟩
end
def lng (L : List (Sp × Hd)) (z : Sp) (h : Hd) : List (Sp × Hd) := match L.getLast? with
 | some x => if x.2 = h then L.dropLast ++ [((x.1.1, z.2), h)] else L ++ [(z, h)]
 | none => [(z, h)]
theorem lng_nil (z : Sp) (h : Hd) : lng [] z h = [(z, h)] := rfl
theorem lng_same {L : List (Sp × Hd)} {x : Sp × Hd} {z : Sp} : lng (L ++ [x]) z x.2 = L ++ [((x.1.1, z.2), x.2)] := by simp [lng]
theorem lng_more {L : List (Sp × Hd)} {x : Sp × Hd} {z : Sp} {h : Hd} (hx : x.2 ≠ h) : lng (L ++ [x]) z h = (L ++ [x]) ++ [(z, h)] := by simp [lng, hx]
theorem lng_cutd {g : Int → Hd} {f : Int} {L : List (Sp × Hd)} {z : Sp} {h : Hd} (H : Cutd g f z.1 L) (hz : z.1 < z.2) (hg : ∀ d, z.1 ≤ d → d < z.2 → g d = h) : Cutd g f z.2 (lng L z h) := by
 rcases List.eq_nil_or_concat L with rfl | ⟨M, x, rfl⟩
 ·have e : f = z.1 := H.ch; subst e; exact Cutd.one hz hg
 ·rw [List.concat_eq_append] at H ⊢; by_cases hx : x.2 = h
  ·subst hx; rw [lng_same]; obtain ⟨⟨a, b⟩, c⟩ := x; exact H.longer hz hg
  ·rw [lng_more hx]; exact H.more hz hg hx
theorem lng_len (L : List (Sp × Hd)) (z : Sp) (h : Hd) : (lng L z h).length ≤ L.length + 1 := by
 rcases List.eq_nil_or_concat L with rfl | ⟨M, x, rfl⟩
 ·simp [lng]
 ·rw [List.concat_eq_append]; by_cases hx : x.2 = h
  ·subst hx; rw [lng_same]; simp
  ·rw [lng_more hx]; simp
theorem chain_apart {f t : Int} : ∀ {zs : List Sp} {f : Int}, Chain f t zs → ∀ x ∈ zs, ∀ y ∈ zs, x.1 < y.1 → x.2 ≤ y.1
 | [], f, h, x, hx => by cases hx
 | z :: zs, f, h, x, hx => by
  intro y hy hlt; have h0 := h.1; have h1 := h.2.1; have hm := Chain.mem h.2.2; rcases List.mem_cons.1 hx with ex | kx
  ·subst ex; rcases List.mem_cons.1 hy with ey | ky
   ·subst ey; omega
   ·exact (hm y ky).1
  ·rcases List.mem_cons.1 hy with ey | ky
   ·subst ey; have := hm x kx; omega
   ·exact chain_apart (f := z.2) h.2.2 x kx y ky hlt
theorem part_quiet {s : Sp} {ds : List Int} {zs : List Sp} (P : Parted s ds zs) (hs : has s = true) {z : Sp} (hz : z ∈ zs) {x : Int} (hx : x ∈ ds) : ¬ (z.1 < x ∧ x < z.2) := by
 rintro ⟨h1, h2⟩; have hm := (P.chain hs).mem z hz; obtain ⟨y, hy, e⟩ := (P.cuts hs x).2 (.inr ⟨hx, by omega, by omega⟩); have := chain_apart (f := s.1) (P.chain hs) z hz y hy (by omega); omega
def bad (q : Ri → List Co → Int × Int) : List (Sp × Hd) → Int
 | [] => 0
 | x :: l => if x.2.on = true ∧ (q x.2.r x.2.cs).2 ≠ 0 then (q x.2.r x.2.cs).2 else bad q l
def prc (q : Ri → List Co → Int × Int) (x : Sp × Hd) : Sc := ⟨x.1, x.2, if x.2.on = true then (q x.2.r x.2.cs).1 else 0⟩
theorem bad_off {q : Ri → List Co → Int × Int} {x : Sp × Hd} {l : List (Sp × Hd)} (h : x.2.on = false) : bad q (x :: l) = bad q l := by rw [bad, if_neg (by rw [h]; simp)]
theorem bad_ok {q : Ri → List Co → Int × Int} {x : Sp × Hd} {l : List (Sp × Hd)} (h : (q x.2.r x.2.cs).2 = 0) : bad q (x :: l) = bad q l := by rw [bad, if_neg (by rw [h]; simp)]
theorem bad_is {q : Ri → List Co → Int × Int} {x : Sp × Hd} {l : List (Sp × Hd)} (h : x.2.on = true) (h2 : (q x.2.r x.2.cs).2 ≠ 0) : bad q (x :: l) = (q x.2.r x.2.cs).2 := by rw [bad, if_pos ⟨h, h2⟩]
theorem prc_off {q : Ri → List Co → Int × Int} {x : Sp × Hd} (h : x.2.on = false) : prc q x = ⟨x.1, x.2, 0⟩ := by rw [prc, if_neg (by rw [h]; simp)]
theorem prc_on {q : Ri → List Co → Int × Int} {x : Sp × Hd} (h : x.2.on = true) : prc q x = ⟨x.1, x.2, (q x.2.r x.2.cs).1⟩ := by rw [prc, if_pos h]
theorem bad_zero {q : Ri → List Co → Int × Int} {l : List (Sp × Hd)} (h : bad q l = 0) : ∀ x ∈ l, x.2.on = true → (q x.2.r x.2.cs).2 = 0 := by
 induction l with
 | nil => intro x hx; cases hx
 | cons y l ih =>
  intro x hx hon; by_cases hy : y.2.on = true ∧ (q y.2.r y.2.cs).2 ≠ 0
  ·rw [bad, if_pos hy] at h; exact absurd h hy.2
  ·rw [bad, if_neg hy] at h; rcases List.mem_cons.1 hx with rfl | hx
   ·by_cases h0 : (q x.2.r x.2.cs).2 = 0
    ·exact h0
    ·exact absurd ⟨hon, h0⟩ hy
   ·exact ih h x hx hon
def hrt (h : Hi) : Bool := te h.s h.r h.cs && (decide (h.hs.length ≤ 2000) && h.hs.all fun c => rch c && inn h.s c.dy)
theorem hrt_iff {h : Hi} : hrt h = true ↔ te h.s h.r h.cs = true ∧ h.hs.length ≤ 2000 ∧ ∀ c ∈ h.hs, rch c = true ∧ inn h.s c.dy = true := by
 unfold hrt; simp [List.all_eq_true]
def ordl (hs : List Ch) (o : List Int) : List Ch := o.map fun x => (hs[x.toNat]?).getD zch
def ini (h : Hi) : Hd := ⟨true, h.r, h.cs⟩
theorem ordl_len (hs : List Ch) (o : List Int) : (ordl hs o).length = o.length := by simp [ordl]
theorem key_getD (hs : List Ch) (x : Int) : key hs x = ((hs[x.toNat]?).getD zch).dy := by
 unfold key; cases hs[x.toNat]? <;> rfl
theorem ordl_rise {hs : List Ch} {o : List Int} (h : Ag.Ord hs o) : (ordl hs o).Pairwise fun a b => a.dy ≤ b.dy := by
 unfold ordl; rw [List.pairwise_map]; refine h.2.imp fun {a b} hab => ?_
 unfold St.lt at hab; rw [key_getD, key_getD] at hab; omega
theorem ord_at {hs : List Ch} {o : List Int} (h : Ag.Ord hs o) {x : Int} (hx : x ∈ o) : 0 ≤ x ∧ x < hs.length := plc_mem.1 (h.mem hx)
theorem ordl_get {hs : List Ch} {o : List Int} {k : Nat} {x : Int} {c : Ch} (hx : o[k]? = some x) (hc : hs[x.toNat]? = some c) : (ordl hs o)[k]? = some c := by
 unfold ordl; rw [List.getElem?_map, hx]; simp [hc]
theorem ordl_mem {hs : List Ch} {o : List Int} (h : Ag.Ord hs o) {c : Ch} : c ∈ ordl hs o ↔ c ∈ hs := by
 unfold ordl; rw [List.mem_map]; constructor
 ·rintro ⟨x, hx, rfl⟩; have := ord_at h hx; have hl : x.toNat < hs.length := by omega
  rw [List.getElem?_eq_getElem hl]; exact List.getElem_mem hl
 ·intro hc; obtain ⟨k, hk, rfl⟩ := List.mem_iff_getElem.1 hc; refine ⟨(k : Int), h.1.mem_iff.2 (plc_mem.2 ⟨by omega, by omega⟩), ?_⟩; rw [Int.toNat_natCast, List.getElem?_eq_getElem hk]; rfl
end Sl
end Go.Proofs.YtplenoaajokpjaaGreat
