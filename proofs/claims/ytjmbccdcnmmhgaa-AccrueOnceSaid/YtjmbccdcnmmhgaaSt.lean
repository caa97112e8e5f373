/-
  Sorting that keeps the order of equals: plain mathematics. Conditions: those of each theorem.
-/
namespace Go.Proofs.Ytjmbccdcnmmhgaa
namespace St
set_option linter.unusedVariables false

/-- One place comes ahead of another one. -/
def lt (key : Int → Int) (x y : Int) : Prop := key x < key y ∨ (key x = key y ∧ x < y)
section
variable {key : Int → Int} {x y z : Int}
theorem lt_trans (h1 : lt key x y) (h2 : lt key y z) : lt key x z := by unfold lt at *; omega
theorem lt_irr (h1 : lt key x y) (h2 : lt key y x) : False := by unfold lt at *; omega
/-- y is the greater place. -/
theorem lt_key (h : x < y) : lt key y x ↔ key y < key x := by unfold lt; omega
theorem lt_nkey (h : x < y) : lt key x y ↔ ¬ key y < key x := by unfold lt; omega
end
abbrev Srt (key : Int → Int) (xs : List Int) : Prop := xs.Pairwise (lt key)
/-- The row in order. -/
def Good (key : Int → Int) (xs D : List Int) : Prop := List.Perm xs D ∧ Srt key xs
theorem Good.one {key : Int → Int} {xs ys D : List Int} (h1 : Good key xs D) (h2 : Good key ys D) : xs = ys :=
  List.Perm.eq_of_pairwise (fun a b _ _ h h' => (lt_irr h h').elim) h1.2 h2.2 (h1.1.trans h2.1.symm)
theorem Good.mem {key : Int → Int} {xs D : List Int} (h : Good key xs D) {x : Int} (hx : x ∈ xs) : x ∈ D := h.1.mem_iff.1 hx
theorem Good.len {key : Int → Int} {xs D : List Int} (h : Good key xs D) : xs.length = D.length := h.1.length_eq
theorem Good.nil {key : Int → Int} : Good key [] [] := ⟨List.Perm.nil, List.Pairwise.nil⟩

/-- What the closure answers. -/
def cf (a b : Int) : Int := if a < b then -1 else if b < a then 1 else 0
theorem cf_neg (a b : Int) : decide (cf a b < 0) = decide (a < b) := by
  unfold cf; split
  · simp [*]
  · split <;> simp [*]
theorem cf_in (a b : Int) : -1 ≤ cf a b ∧ cf a b ≤ 1 := by
  unfold cf; split
  · omega
  · split <;> omega

/-- Two places of a row change. -/
theorem get_at {p q : List Int} {x : Int} {i : Nat} (hi : p.length = i) : (p ++ x :: q)[i]? = some x := by
  subst hi; simp
theorem set_at {p q : List Int} {x y : Int} {i : Nat} (hi : p.length = i) : (p ++ x :: q).set i y = p ++ y :: q := by
  subst hi; simp
theorem swap_at {p m q : List Int} {x y : Int} {i j : Nat} (hi : p.length = i) (hj : p.length + 1 + m.length = j) :
    (p ++ x :: (m ++ y :: q))[i]? = some x ∧ (p ++ x :: (m ++ y :: q))[j]? = some y ∧ ((p ++ x :: (m ++ y :: q)).set i y).set j x = p ++ y :: (m ++ x :: q) ∧ ((p ++ x :: (m ++ y :: q)).set j x).set i y = p ++ y :: (m ++ x :: q) := by
  have e : ∀ a b : Int, p ++ a :: (m ++ b :: q) = (p ++ a :: m) ++ b :: q := fun a b => by simp
  have hl : ∀ a : Int, (p ++ a :: m).length = j := fun a => by simp; omega
  refine ⟨get_at hi, ?_, ?_, ?_⟩
  · rw [e]; exact get_at (hl x)
  · rw [set_at hi, e, set_at (hl y), ← e]
  · rw [e, set_at (hl x), ← e, set_at hi]

/-- A row of blocks that change places, so many of them changed. -/
def half (p A M B q : List Int) (k : Nat) : List Int := p ++ (B.take k ++ A.drop k) ++ M ++ (A.take k ++ B.drop k) ++ q
theorem half_zero (p A M B q : List Int) : half p A M B q 0 = p ++ A ++ M ++ B ++ q := by simp [half]
theorem half_all {p A M B q : List Int} {n : Nat} (h1 : A.length = n) (h2 : B.length = n) : half p A M B q n = p ++ B ++ M ++ A ++ q := by
  unfold half
  rw [List.take_of_length_le (by omega), List.drop_of_length_le (by omega), List.take_of_length_le (by omega), List.drop_of_length_le (by omega)]
  simp
theorem half_next {p A M B q : List Int} {n k a b : Nat} (h1 : A.length = n) (h2 : B.length = n) (hk : k < n) (ha : p.length = a) (hb : p.length + n + M.length = b) :
    ∃ x y, (half p A M B q k)[a + k]? = some x ∧ (half p A M B q k)[b + k]? = some y ∧ ((half p A M B q k).set (a + k) y).set (b + k) x = half p A M B q (k + 1) := by
  have e1 : half p A M B q k = (p ++ B.take k) ++ A[k] :: ((A.drop (k + 1) ++ M ++ A.take k) ++ B[k] :: (B.drop (k + 1) ++ q)) := by
    unfold half
    rw [List.drop_eq_getElem_cons (show k < A.length by omega), List.drop_eq_getElem_cons (show k < B.length by omega)]
    simp only [List.append_assoc, List.cons_append, List.nil_append]
  have e2 : half p A M B q (k + 1) = (p ++ B.take k) ++ B[k] :: ((A.drop (k + 1) ++ M ++ A.take k) ++ A[k] :: (B.drop (k + 1) ++ q)) := by
    unfold half
    rw [← List.take_concat_get (show k < A.length by omega), ← List.take_concat_get (show k < B.length by omega)]
    simp only [List.concat_eq_append, List.append_assoc, List.cons_append, List.nil_append]
  have hi : (p ++ B.take k).length = a + k := by simp; omega
  have hj : (p ++ B.take k).length + 1 + (A.drop (k + 1) ++ M ++ A.take k).length = b + k := by simp; omega
  obtain ⟨g1, g2, g3, _⟩ := swap_at (x := A[k]) (y := B[k]) (q := B.drop (k + 1) ++ q) hi hj
  refine ⟨A[k], B[k], by rw [e1]; exact g1, by rw [e1]; exact g2, by rw [e1, e2]; exact g3⟩
theorem half_len (p A M B q : List Int) (n k : Nat) (h1 : A.length = n) (h2 : B.length = n) (hk : k ≤ n) : (half p A M B q k).length = p.length + n + M.length + n + q.length := by
  simp [half]; omega

/-- Insertion: T is in order, x is to go in; T2 stands behind it. -/
theorem ins_end {key : Int → Int} {T1 T2 D : List Int} {x : Int} (hT : Srt key (T1 ++ T2)) (hp : List.Perm (T1 ++ T2) D) (hx : ∀ y ∈ T2, lt key x y) (hy : ∀ y ∈ T1, lt key y x) : Good key (T1 ++ x :: T2) (D ++ [x]) := by
  refine ⟨(List.perm_middle.trans (hp.cons x)).trans (List.perm_append_singleton x D).symm, ?_⟩
  unfold Srt at hT ⊢
  rw [List.pairwise_append] at hT ⊢
  obtain ⟨a, b, c⟩ := hT
  refine ⟨a, List.Pairwise.cons hx b, fun u hu v hv => ?_⟩
  rcases List.mem_cons.1 hv with rfl | hv
  · exact hy u hu
  · exact c u hu v hv
theorem ins_all {key : Int → Int} {T1 T2 : List Int} {u x : Int} (hT : Srt key (T1 ++ u :: T2)) (h : lt key u x) : ∀ y ∈ T1 ++ [u], lt key y x := by
  unfold Srt at hT
  rw [List.pairwise_append] at hT
  intro y hy
  rcases List.mem_append.1 hy with hy | hy
  · exact lt_trans (hT.2.2 y hy u (List.mem_cons_self ..)) h
  · simp at hy; subst hy; exact h

/-- A row in order: what is left of a place, what is right of it. -/
theorem srt_get {key : Int → Int} {xs : List Int} (h : Srt key xs) {i j : Nat} {x y : Int} (hi : xs[i]? = some x) (hj : xs[j]? = some y) (hij : i < j) : lt key x y := by
  obtain ⟨h1, e1⟩ := List.getElem?_eq_some_iff.1 hi
  obtain ⟨h2, e2⟩ := List.getElem?_eq_some_iff.1 hj
  have := List.pairwise_iff_getElem.1 h i j h1 h2 hij
  rwa [e1, e2] at this
theorem srt_sub {key : Int → Int} {xs ys : List Int} (h : Srt key ys) (hs : xs.Sublist ys) : Srt key xs := h.sublist hs

/-- All below a place are of one kind, all from it on are of the other one. -/
def Cut (P : Int → Prop) (xs : List Int) (k : Nat) : Prop := (∀ j x, j < k → xs[j]? = some x → P x) ∧ (∀ j x, k ≤ j → xs[j]? = some x → ¬ P x)
theorem Cut.take {P : Int → Prop} {xs : List Int} {k : Nat} (h : Cut P xs k) : ∀ x ∈ xs.take k, P x := by
  intro x hx
  obtain ⟨j, hj⟩ := List.mem_iff_getElem?.1 hx
  by_cases hjk : j < k
  · rw [List.getElem?_take_of_lt hjk] at hj; exact h.1 j x hjk hj
  · rw [List.getElem?_take] at hj; rw [if_neg hjk] at hj; cases hj
theorem Cut.drop {P : Int → Prop} {xs : List Int} {k : Nat} (h : Cut P xs k) : ∀ x ∈ xs.drop k, ¬ P x := by
  intro x hx
  obtain ⟨j, hj⟩ := List.mem_iff_getElem?.1 hx
  rw [List.getElem?_drop] at hj
  exact h.2 (k + j) x (by omega) hj
/-- One that goes into a row that is in order. -/
theorem put_in {key : Int → Int} {x : Int} {T : List Int} {k : Nat} (hT : Srt key T) (h : Cut (fun y => lt key y x) T k) (hn : ∀ y ∈ T, lt key y x ∨ lt key x y) : Good key (T.take k ++ x :: T.drop k) (x :: T) := by
  have e : T.take k ++ T.drop k = T := List.take_append_drop k T
  refine ⟨?_, ?_⟩
  · have := List.perm_middle (a := x) (l₁ := T.take k) (l₂ := T.drop k)
    rwa [e] at this
  · have hT' := hT
    rw [← e] at hT'
    unfold Srt at hT' ⊢
    rw [List.pairwise_append] at hT' ⊢
    obtain ⟨a, b, c⟩ := hT'
    have hd : ∀ y ∈ T.drop k, lt key x y := fun y hy => (hn y (List.mem_of_mem_drop hy)).resolve_left (h.drop y hy)
    refine ⟨a, List.Pairwise.cons hd b, fun u hu v hv => ?_⟩
    rcases List.mem_cons.1 hv with rfl | hv
    · exact h.take u hu
    · exact c u hu v hv
theorem Good.perm {key : Int → Int} {xs D D' : List Int} (h : Good key xs D) (hp : List.Perm D D') : Good key xs D' := ⟨h.1.trans hp, h.2⟩

/-- Two rows in order, cut crosswise: the two halves put in order are all in order. -/
theorem halves {key : Int → Int} {L1 L2 R1 R2 S1 S2 : List Int} (hL : Srt key (L1 ++ L2)) (hR : Srt key (R1 ++ R2)) (h1 : ∀ x ∈ L1, ∀ y ∈ R2, lt key x y) (h2 : ∀ y ∈ R1, ∀ x ∈ L2, lt key y x)
    (g1 : Good key S1 (L1 ++ R1)) (g2 : Good key S2 (L2 ++ R2)) : Good key (S1 ++ S2) ((L1 ++ L2) ++ (R1 ++ R2)) := by
  unfold Srt at hL hR
  rw [List.pairwise_append] at hL hR
  refine ⟨(g1.1.append g2.1).trans ?_, ?_⟩
  · have : List.Perm (R1 ++ L2) (L2 ++ R1) := List.perm_append_comm
    have := (this.append_right R2).append_left L1
    simpa [List.append_assoc] using this
  · unfold Srt
    rw [List.pairwise_append]
    refine ⟨g1.2, g2.2, fun x hx y hy => ?_⟩
    rcases List.mem_append.1 (g1.mem hx) with hx | hx <;> rcases List.mem_append.1 (g2.mem hy) with hy | hy
    · exact hL.2.2 x hx y hy
    · exact h1 x hx y hy
    · exact h2 x hx y hy
    · exact hR.2.2 x hx y hy

/-- Blocks of one size, each in order, the last one may be short. -/
inductive Blk (key : Int → Int) (s : Nat) : List Int → List Int → Prop
  | last {xs D : List Int} : D.length ≤ s → Good key xs D → Blk key s xs D
  | cons {x1 D1 x2 D2 : List Int} : D1.length = s → Good key x1 D1 → Blk key s x2 D2 → Blk key s (x1 ++ x2) (D1 ++ D2)
/-- Full blocks alone. -/
inductive Full (key : Int → Int) (s : Nat) : List Int → List Int → Prop
  | nil : Full key s [] []
  | snoc {x1 D1 x2 D2 : List Int} : Full key s x1 D1 → D2.length = s → Good key x2 D2 → Full key s (x1 ++ x2) (D1 ++ D2)
section
variable {key : Int → Int} {s : Nat} {xs ys D E : List Int}
theorem Full.blk (h : Full key s xs D) : ∀ {ys E : List Int}, Blk key s ys E → Blk key s (xs ++ ys) (D ++ E) := by
  induction h with
  | nil => intro ys E h; exact h
  | snoc h1 h2 h3 ih => intro ys E h; rw [List.append_assoc, List.append_assoc]; exact ih (.cons h2 h3 h)
theorem Blk.perm (h : Blk key s xs D) : List.Perm xs D := by
  induction h with
  | last _ h => exact h.1
  | cons _ h _ ih => exact h.1.append ih
theorem Full.perm (h : Full key s xs D) : List.Perm xs D := by
  induction h with
  | nil => exact List.Perm.nil
  | snoc _ _ h ih => exact ih.append h.1
theorem Blk.len (h : Blk key s xs D) : xs.length = D.length := h.perm.length_eq
theorem Full.len (h : Full key s xs D) : xs.length = D.length := h.perm.length_eq
theorem Blk.done (h : Blk key s xs D) (hs : D.length ≤ s) : Good key xs D := by
  cases h with
  | last _ h => exact h
  | cons h1 h2 h3 =>
    rename_i x1 D1 x2 D2
    have hD : D2 = [] := List.eq_nil_of_length_eq_zero (by rw [List.length_append] at hs; omega)
    have hx : x2 = [] := List.eq_nil_of_length_eq_zero (by rw [h3.len, hD]; rfl)
    subst hD hx
    simpa using h2
/-- A row longer than a block: its first one. -/
theorem Blk.first (h : Blk key s xs D) (hs : s < D.length) : ∃ x1 D1 x2 D2, xs = x1 ++ x2 ∧ D = D1 ++ D2 ∧ D1.length = s ∧ Good key x1 D1 ∧ Blk key s x2 D2 := by
  cases h with
  | last h _ => omega
  | cons h1 h2 h3 => exact ⟨_, _, _, _, rfl, rfl, h1, h2, h3⟩
/-- A row as long as a block at least: its first one. -/
theorem Blk.head (h : Blk key s xs D) (hs : s ≤ D.length) : ∃ x1 D1 x2 D2, xs = x1 ++ x2 ∧ D = D1 ++ D2 ∧ D1.length = s ∧ Good key x1 D1 ∧ Blk key s x2 D2 := by
  cases h with
  | last h g => exact ⟨xs, D, [], [], by simp, by simp, by omega, g, .last (Nat.zero_le _) Good.nil⟩
  | cons h1 h2 h3 => exact ⟨_, _, _, _, rfl, rfl, h1, h2, h3⟩
end

/-- What is known in a search by halves: all below i are of one kind, all from j on are not. -/
structure Bis (P : Nat → Prop) (lo hi i j : Nat) : Prop where
  a : lo ≤ i
  b : i ≤ j
  c : j ≤ hi
  yes : ∀ h, lo ≤ h → h < i → P h
  no : ∀ h, j ≤ h → h < hi → ¬ P h
def Down (P : Nat → Prop) (lo hi : Nat) : Prop := ∀ h h', lo ≤ h' → h' < h → h < hi → P h → P h'
section
variable {P : Nat → Prop} {lo hi i j h : Nat}
theorem Bis.start (hl : lo ≤ hi) : Bis P lo hi lo hi := ⟨Nat.le_refl _, hl, Nat.le_refl _, fun h h1 h2 => by omega, fun h h1 h2 => by omega⟩
theorem Bis.up (H : Bis P lo hi i j) (D : Down P lo hi) (h1 : i ≤ h) (h2 : h < j) (hp : P h) : Bis P lo hi (h + 1) j := by
  have := H.a
  have := H.c
  refine ⟨by omega, by omega, H.c, fun h' h3 h4 => ?_, H.no⟩
  rcases Nat.lt_or_ge h' h with hlt | hge
  · exact D h h' h3 hlt (by omega) hp
  · obtain rfl : h' = h := by omega
    exact hp
theorem Bis.down (H : Bis P lo hi i j) (D : Down P lo hi) (h1 : i ≤ h) (h2 : h < j) (hp : ¬ P h) : Bis P lo hi i h := by
  have := H.a
  have := H.c
  refine ⟨H.a, h1, by omega, H.yes, fun h' h3 h4 hp' => ?_⟩
  rcases Nat.lt_or_ge h h' with hlt | hge
  · exact hp (D h' h (by omega) hlt h4 hp')
  · obtain rfl : h' = h := by omega
    exact hp hp'
end

/-- One row, cut crosswise where the search ends. -/
theorem cross {key : Int → Int} {L R : List Int} {s t : Nat} (hL : Srt key L) (hR : Srt key R) (hLR : ∀ x ∈ L, ∀ y ∈ R, x < y) (hs : s ≤ L.length) (ht : t ≤ R.length)
    (hp : ∀ x y, 0 < s → L[s - 1]? = some x → R[t]? = some y → ¬ key y < key x) (hq : ∀ x y, 0 < t → L[s]? = some x → R[t - 1]? = some y → key y < key x) :
    (∀ x ∈ L.take s, ∀ y ∈ R.drop t, lt key x y) ∧ (∀ y ∈ R.take t, ∀ x ∈ L.drop s, lt key y x) := by
  have le : ∀ {xs : List Int} {i j : Nat} {x y : Int}, Srt key xs → xs[i]? = some x → xs[j]? = some y → i ≤ j → x = y ∨ lt key x y := by
    intro xs i j x y h hi hj hij
    rcases Nat.eq_or_lt_of_le hij with rfl | hlt
    · rw [hi] at hj; injection hj with hj; exact .inl hj
    · exact .inr (srt_get h hi hj hlt)
  refine ⟨fun x hx y hy => ?_, fun y hy x hx => ?_⟩
  · obtain ⟨i, hi⟩ := List.mem_iff_getElem?.1 hx
    obtain ⟨j, hj⟩ := List.mem_iff_getElem?.1 hy
    rw [List.getElem?_drop] at hj
    have his : i < s := by
      rcases Nat.lt_or_ge i s with h | h
      · exact h
      · rw [List.getElem?_take, if_neg (by omega)] at hi; cases hi
    rw [List.getElem?_take_of_lt his] at hi
    have hjl := (List.getElem?_eq_some_iff.1 hj).1
    obtain ⟨u, hu⟩ : ∃ u, L[s - 1]? = some u := ⟨_, List.getElem?_eq_getElem (by omega)⟩
    obtain ⟨v, hv⟩ : ∃ v, R[t]? = some v := ⟨_, List.getElem?_eq_getElem (by omega)⟩
    have huv : lt key u v := (lt_nkey (hLR u (List.mem_of_getElem? hu) v (List.mem_of_getElem? hv))).2 (hp u v (by omega) hu hv)
    rcases le hL hi hu (by omega) with rfl | h1 <;> rcases le hR hv hj (by omega) with rfl | h2
    · exact huv
    · exact lt_trans huv h2
    · exact lt_trans h1 huv
    · exact lt_trans h1 (lt_trans huv h2)
  · obtain ⟨j, hj⟩ := List.mem_iff_getElem?.1 hy
    obtain ⟨i, hi⟩ := List.mem_iff_getElem?.1 hx
    rw [List.getElem?_drop] at hi
    have hjt : j < t := by
      rcases Nat.lt_or_ge j t with h | h
      · exact h
      · rw [List.getElem?_take, if_neg (by omega)] at hj; cases hj
    rw [List.getElem?_take_of_lt hjt] at hj
    have hil := (List.getElem?_eq_some_iff.1 hi).1
    obtain ⟨u, hu⟩ : ∃ u, L[s]? = some u := ⟨_, List.getElem?_eq_getElem (by omega)⟩
    obtain ⟨v, hv⟩ : ∃ v, R[t - 1]? = some v := ⟨_, List.getElem?_eq_getElem (by omega)⟩
    have huv : lt key v u := (lt_key (hLR u (List.mem_of_getElem? hu) v (List.mem_of_getElem? hv))).2 (hq u v (by omega) hu hv)
    rcases le hR hj hv (by omega) with rfl | h1 <;> rcases le hL hu hi (by omega) with rfl | h2
    · exact huv
    · exact lt_trans huv h2
    · exact lt_trans h1 huv
    · exact lt_trans h1 (lt_trans huv h2)
theorem Good.left {key : Int → Int} {L : List Int} (h : Srt key L) : Good key L (L ++ []) := ⟨by simp, h⟩
theorem Good.right {key : Int → Int} {R : List Int} (h : Srt key R) : Good key R ([] ++ R) := ⟨by simp, h⟩

/-- A row in parts: where each place stands. -/
theorem get_mid {P L Q : List Int} {a h t : Nat} (ha : P.length = a) (ht : a + t = h) (hl : t < L.length) : (P ++ L ++ Q)[h]? = L[t]? := by
  subst ha ht
  rw [List.append_assoc, List.getElem?_append_right (by omega), List.getElem?_append_left (by omega)]
  congr 1; omega
/-- One that has moved so many places to the right. -/
theorem shift_next {P R Q : List Int} {x : Int} {a k : Nat} (ha : P.length = a) (hk : k < R.length) :
    ∃ y, (P ++ (R.take k ++ x :: R.drop k) ++ Q)[a + k]? = some x ∧ (P ++ (R.take k ++ x :: R.drop k) ++ Q)[a + k + 1]? = some y ∧
      ((P ++ (R.take k ++ x :: R.drop k) ++ Q).set (a + k) y).set (a + k + 1) x = P ++ (R.take (k + 1) ++ x :: R.drop (k + 1)) ++ Q ∧
      (P ++ (R.take (k + 1) ++ x :: R.drop (k + 1)) ++ Q)[a + k]? = some y ∧ (P ++ (R.take (k + 1) ++ x :: R.drop (k + 1)) ++ Q)[a + k + 1]? = some x ∧
      ((P ++ (R.take (k + 1) ++ x :: R.drop (k + 1)) ++ Q).set (a + k + 1) y).set (a + k) x = P ++ (R.take k ++ x :: R.drop k) ++ Q := by
  have e1 : P ++ (R.take k ++ x :: R.drop k) ++ Q = (P ++ R.take k) ++ x :: ([] ++ R[k] :: (R.drop (k + 1) ++ Q)) := by
    rw [List.drop_eq_getElem_cons hk]; simp only [List.append_assoc, List.cons_append, List.nil_append]
  have e2 : P ++ (R.take (k + 1) ++ x :: R.drop (k + 1)) ++ Q = (P ++ R.take k) ++ R[k] :: ([] ++ x :: (R.drop (k + 1) ++ Q)) := by
    rw [← List.take_concat_get hk]; simp only [List.concat_eq_append, List.append_assoc, List.cons_append, List.nil_append]
  have hi : (P ++ R.take k).length = a + k := by simp; omega
  obtain ⟨g1, g2, g3, _⟩ := swap_at (x := x) (y := R[k]) (m := []) (q := R.drop (k + 1) ++ Q) (j := a + k + 1) hi (by simp; omega)
  obtain ⟨k1, k2, _, k4⟩ := swap_at (x := R[k]) (y := x) (m := []) (q := R.drop (k + 1) ++ Q) (j := a + k + 1) hi (by simp; omega)
  refine ⟨R[k], by rw [e1]; exact g1, by rw [e1]; exact g2, by rw [e1, e2]; exact g3, by rw [e2]; exact k1, by rw [e2]; exact k2, by rw [e1, e2]; exact k4⟩
end St
end Go.Proofs.Ytjmbccdcnmmhgaa
