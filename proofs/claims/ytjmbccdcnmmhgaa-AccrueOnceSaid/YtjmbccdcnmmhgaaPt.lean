/-
  Parts of a span: plain mathematics. Conditions: those of each theorem.
-/
import Derived.Test.YtjmbccdcnmmhgaaMa
namespace Go.Proofs.Ytjmbccdcnmmhgaa.Sp
set_option linter.unusedVariables false

/-- Spans on end, from one day up to another. -/
def Chain (f t : Int) : List Sp → Prop
  | [] => f = t
  | x :: xs => x.1 = f ∧ x.1 < x.2 ∧ Chain x.2 t xs

theorem Chain.le {f t : Int} {xs : List Sp} (h : Chain f t xs) : f ≤ t := by
  induction xs generalizing f with
  | nil => exact Int.le_of_eq h
  | cons x xs ih => have := ih h.2.2; have := h.1; have := h.2.1; omega
theorem Chain.mem {f t : Int} {xs : List Sp} (h : Chain f t xs) : ∀ x ∈ xs, f ≤ x.1 ∧ x.1 < x.2 ∧ x.2 ≤ t := by
  induction xs generalizing f with
  | nil => intro x hx; cases hx
  | cons y ys ih =>
    intro x hx
    have h1 := h.1; have h2 := h.2.1; have h3 := h.2.2.le
    rcases List.mem_cons.1 hx with rfl | hx
    · omega
    · have := ih h.2.2 x hx; omega
theorem Chain.snoc {f m t : Int} {xs : List Sp} (h : Chain f m xs) (hm : m < t) : Chain f t (xs ++ [(m, t)]) := by
  induction xs generalizing f with
  | nil => have h' : f = m := h; subst h'; exact ⟨rfl, hm, rfl⟩
  | cons x xs ih => exact ⟨h.1, h.2.1, ih h.2.2⟩
theorem Chain.length {f t : Int} {xs : List Sp} (h : Chain f t xs) : (xs.length : Int) ≤ t - f := by
  induction xs generalizing f with
  | nil => have h' : f = t := h; simp; omega
  | cons x xs ih => have := ih h.2.2; have := h.1; have := h.2.1; simp; omega
/-- A day is the first one of a part. -/
def fst (xs : List Sp) (d : Int) : Prop := ∃ x ∈ xs, x.1 = d
theorem fst_nil (d : Int) : ¬ fst [] d := by rintro ⟨x, hx, _⟩; cases hx
theorem fst_cons (x : Sp) (xs : List Sp) (d : Int) : fst (x :: xs) d ↔ x.1 = d ∨ fst xs d := by simp [fst]
theorem fst_snoc (xs : List Sp) (x : Sp) (d : Int) : fst (xs ++ [x]) d ↔ fst xs d ∨ x.1 = d := by
  simp only [fst, List.mem_append, List.mem_singleton]
  constructor
  · rintro ⟨y, hy | rfl, e⟩
    · exact .inl ⟨y, hy, e⟩
    · exact .inr e
  · rintro (⟨y, hy, e⟩ | e)
    · exact ⟨y, .inl hy, e⟩
    · exact ⟨x, .inr rfl, e⟩

theorem Chain.unique {f t : Int} {xs ys : List Sp} (hx : Chain f t xs) (hy : Chain f t ys) (h : ∀ d, fst xs d ↔ fst ys d) : xs = ys := by
  induction xs generalizing f ys with
  | nil =>
    cases ys with
    | nil => rfl
    | cons y ys => exact absurd ((h y.1).2 ((fst_cons _ _ _).2 (.inl rfl))) (fst_nil _)
  | cons x xs ih =>
    cases ys with
    | nil => exact absurd ((h x.1).1 ((fst_cons _ _ _).2 (.inl rfl))) (fst_nil _)
    | cons y ys =>
      have x1 := hx.1; have x2 := hx.2.1; have x3 := hx.2.2
      have y1 := hy.1; have y2 := hy.2.1; have y3 := hy.2.2
      have next : ∀ {m : Int} {zs : List Sp}, Chain m t zs → m < t → fst zs m := by
        intro m zs hz hm
        cases zs with
        | nil => have hz' : m = t := hz; omega
        | cons z zs => exact (fst_cons _ _ _).2 (.inl hz.1)
      have e2 : x.2 = y.2 := by
        have xl := x3.le; have yl := y3.le
        rcases Int.lt_trichotomy x.2 y.2 with hlt | he | hgt
        · exfalso
          have h1 := (h x.2).1 ((fst_cons _ _ _).2 (.inr (next x3 (by omega))))
          rcases (fst_cons _ _ _).1 h1 with h1 | ⟨z, hz, e⟩
          · omega
          · have := y3.mem z hz; omega
        · exact he
        · exfalso
          have h1 := (h y.2).2 ((fst_cons _ _ _).2 (.inr (next y3 (by omega))))
          rcases (fst_cons _ _ _).1 h1 with h1 | ⟨z, hz, e⟩
          · omega
          · have := x3.mem z hz; omega
      have e : x = y := Prod.ext (by omega) e2
      subst e
      rw [ih x3 y3 fun d => ?_]
      have hd := h d
      rw [fst_cons, fst_cons] at hd
      constructor
      · rintro ⟨z, hz, e⟩
        have := x3.mem z hz
        rcases hd.1 (.inr ⟨z, hz, e⟩) with hh | hh
        · omega
        · exact hh
      · rintro ⟨z, hz, e⟩
        have := y3.mem z hz
        rcases hd.2 (.inr ⟨z, hz, e⟩) with hh | hh
        · omega
        · exact hh

/-- What a span is cut into. -/
structure Parted (s : Sp) (ds : List Int) (zs : List Sp) : Prop where
  none : has s = false → zs = []
  chain : has s = true → Chain s.1 s.2 zs
  cuts : has s = true → ∀ d, fst zs d ↔ d = s.1 ∨ (d ∈ ds ∧ s.1 < d ∧ d < s.2)
theorem Parted.unique {s : Sp} {ds es : List Int} {zs ws : List Sp} (h1 : Parted s ds zs) (h2 : Parted s es ws) (h : ∀ d, d ∈ ds ↔ d ∈ es) : zs = ws := by
  cases hs : has s
  · rw [h1.none hs, h2.none hs]
  · refine (h1.chain hs).unique (h2.chain hs) fun d => ?_
    rw [h1.cuts hs d, h2.cuts hs d, h d]
theorem chain_tot {f t : Int} {xs : List Sp} (h : Chain f t xs) (h1 : 1 ≤ f) (h2 : t ≤ 292195) : tot xs = t - f ∧ (∀ x ∈ xs, has x = true) ∧ ∀ d, hit xs d ↔ f ≤ d ∧ d < t := by
  induction xs generalizing f with
  | nil =>
    have h' : f = t := h
    refine ⟨by rw [tot_nil]; omega, fun x hx => (by cases hx), fun d => ⟨fun hh => absurd hh (hit_nil d), fun hh => by omega⟩⟩
  | cons x xs ih =>
    have a := h.1; have b := h.2.1; have c := h.2.2.le
    obtain ⟨i1, i2, i3⟩ := ih h.2.2 (by omega)
    have hx : has x = true := (has_iff x).2 (by omega)
    refine ⟨by rw [tot_cons, mn_has hx, i1]; omega, fun y hy => ?_, fun d => ?_⟩
    · rcases List.mem_cons.1 hy with rfl | hy
      · exact hx
      · exact i2 y hy
    · rw [hit_cons, i3 d, inn_iff]
      constructor
      · rintro (hh | hh) <;> omega
      · intro hh
        by_cases hd : d < x.2
        · exact .inl (by omega)
        · exact .inr (by omega)
theorem Parted.facts {s : Sp} {ds : List Int} {zs : List Sp} (h : Parted s ds zs) : tot zs = mn s ∧ (∀ d, hit zs d ↔ hit [s] d) ∧ zs.length ≤ 292194 := by
  cases hs : has s
  · rw [h.none hs, mn_no hs]
    refine ⟨rfl, fun d => ⟨fun hh => absurd hh (hit_nil d), ?_⟩, by simp⟩
    rw [hit_cons]
    rintro (hh | hh)
    · rw [inn_has hh] at hs; cases hs
    · exact hh
  · have hs' := (has_iff s).1 hs
    obtain ⟨i1, i2, i3⟩ := chain_tot (h.chain hs) (by omega) (by omega)
    refine ⟨by rw [i1, mn_has hs], fun d => ?_, ?_⟩
    · rw [i3 d, hit_cons, inn_iff]
      constructor
      · intro hh; exact .inl (by omega)
      · rintro (hh | hh)
        · omega
        · exact absurd hh (hit_nil d)
    · have := (h.chain hs).length
      omega

/-- The program's way: one more day, of days that rise. -/
def ps (s : Sp) (st : List Sp × Int) (d : Int) : List Sp × Int := if inn s d = true then (st.1 ++ [(st.2, d)], d) else st
def pf (s : Sp) (ds : List Int) : List Sp × Int := ds.foldl (ps s) ([], s.1)
theorem pf_snoc (s : Sp) (ds : List Int) (d : Int) : pf s (ds ++ [d]) = ps s (pf s ds) d := by simp [pf]
theorem ps_len (s : Sp) (st : List Sp × Int) (d : Int) : (ps s st d).1.length ≤ st.1.length + 1 := by unfold ps; split <;> simp
theorem pf_len (s : Sp) (ds : List Int) : (pf s ds).1.length ≤ ds.length := by
  have : ∀ (es : List Int) (st : List Sp × Int), (es.foldl (ps s) st).1.length ≤ st.1.length + es.length := by
    intro es
    induction es with
    | nil => intro st; simp
    | cons e es ih => intro st; have h1 := ih (ps s st e); have h2 := ps_len s st e; simp only [List.foldl_cons, List.length_cons]; omega
  simpa [pf] using this ds ([], s.1)

/-- What holds when these days are done. -/
structure Cuts (s : Sp) (ds : List Int) (st : List Sp × Int) : Prop where
  chain : Chain s.1 st.2 (kp st.1)
  lo : s.1 ≤ st.2
  hi : st.2 < s.2
  cuts : ∀ d, (fst (kp st.1) d ∨ d = st.2) ↔ d = s.1 ∨ (d ∈ ds ∧ s.1 < d ∧ d < s.2)
  last : st.2 = s.1 ∨ st.2 ∈ ds

theorem cuts_step {s : Sp} {ds : List Int} {st : List Sp × Int} {e : Int} (hs : has s = true) (h : Cuts s ds st) (hr : ∀ d ∈ ds, d ≤ e) : Cuts s (ds ++ [e]) (ps s st e) := by
  have hs' := (has_iff s).1 hs
  obtain ⟨L, f⟩ := st
  have h1 := h.chain; have h2 := h.lo; have h3 := h.hi; have h4 := h.cuts; have h5 := h.last
  simp only at h1 h2 h3 h4 h5
  unfold ps
  by_cases he : inn s e = true
  · rw [if_pos he]
    rw [inn_iff] at he
    have hfe : f ≤ e := by
      rcases h5 with h5 | h5
      · omega
      · exact hr f h5
    have hd : ∀ d, (d ∈ ds ++ [e] ∧ s.1 < d ∧ d < s.2) ↔ (d ∈ ds ∧ s.1 < d ∧ d < s.2) ∨ (d = e ∧ s.1 < d) := by
      intro d
      simp only [List.mem_append, List.mem_singleton]
      constructor
      · rintro ⟨hd | hd, h6, h7⟩
        · exact .inl ⟨hd, h6, h7⟩
        · exact .inr ⟨hd, h6⟩
      · rintro (⟨hd, h6, h7⟩ | ⟨hd, h6⟩)
        · exact ⟨.inl hd, h6, h7⟩
        · exact ⟨.inr hd, h6, by omega⟩
    rcases Int.lt_or_eq_of_le hfe with hlt | heq
    · have hk : kp (L ++ [(f, e)]) = kp L ++ [(f, e)] := by
        rw [kp_append, kp_one, if_pos ((has_iff _).2 (by simp only; omega))]
      refine ⟨?_, ?_, ?_, fun d => ?_, .inr (by simp)⟩
      · simp only; rw [hk]; exact h1.snoc hlt
      · simp only; omega
      · simp only; omega
      · simp only
        rw [hk, fst_snoc, hd d]
        have := h4 d
        constructor
        · rintro ((h6 | h6) | h6)
          · rcases this.1 (.inl h6) with h7 | h7
            · exact .inl h7
            · exact .inr (.inl h7)
          · rcases this.1 (.inr h6.symm) with h7 | h7
            · exact .inl h7
            · exact .inr (.inl h7)
          · exact .inr (.inr ⟨h6, by omega⟩)
        · rintro (h6 | h6 | h6)
          · rcases this.2 (.inl h6) with h7 | h7
            · exact .inl (.inl h7)
            · exact .inl (.inr h7.symm)
          · rcases this.2 (.inr h6) with h7 | h7
            · exact .inl (.inl h7)
            · exact .inl (.inr h7.symm)
          · exact .inr h6.1
    · subst heq
      have hk : kp (L ++ [(f, f)]) = kp L := by
        rw [kp_append, kp_one, if_neg (by rw [has_iff]; simp only; omega), List.append_nil]
      refine ⟨?_, h2, h3, fun d => ?_, .inr (by simp)⟩
      · simp only; rw [hk]; exact h1
      · simp only
        rw [hk, hd d, h4 d]
        constructor
        · rintro (h6 | h6)
          · exact .inl h6
          · exact .inr (.inl h6)
        · rintro (h6 | h6 | h6)
          · exact .inl h6
          · exact .inr h6
          · rcases (h4 f).1 (.inr rfl) with h7 | h7
            · omega
            · rw [h6.1]; exact .inr h7
  · rw [if_neg he]
    refine ⟨h1, h2, h3, fun d => ?_, ?_⟩
    · rw [h4 d]
      refine or_congr Iff.rfl ?_
      simp only [List.mem_append, List.mem_singleton]
      constructor
      · rintro ⟨h6, h7⟩; exact ⟨.inl h6, h7⟩
      · rintro ⟨h6 | h6, h7⟩
        · exact ⟨h6, h7⟩
        · subst h6; exact absurd ((inn_iff s d).2 (by omega)) he
    · rcases h5 with h5 | h5
      · exact .inl h5
      · exact .inr (by simp [h5])

theorem cuts_all {s : Sp} (hs : has s = true) : ∀ (es ds : List Int) (st : List Sp × Int), Cuts s ds st → (ds ++ es).Pairwise (· ≤ ·) → Cuts s (ds ++ es) (es.foldl (ps s) st) := by
  intro es
  induction es with
  | nil => intro ds st h _; simpa using h
  | cons e es ih =>
    intro ds st h hp
    have eq : ds ++ e :: es = (ds ++ [e]) ++ es := by simp
    rw [eq] at hp ⊢
    refine ih (ds ++ [e]) (ps s st e) (cuts_step hs h fun d hd => ?_) hp
    exact (List.pairwise_append.1 (List.pairwise_append.1 hp).1).2.2 d hd e (by simp)

theorem pf_none {s : Sp} (hs : has s = false) (ds : List Int) : pf s ds = ([], s.1) := by
  have hi : ∀ d, inn s d = false := fun d => by cases hh : inn s d; rfl; rw [inn_has hh] at hs; cases hs
  have : ∀ (es : List Int) (st : List Sp × Int), es.foldl (ps s) st = st := by
    intro es
    induction es with
    | nil => intro st; rfl
    | cons e es ih => intro st; simp only [List.foldl_cons]; rw [ih]; simp [ps, hi]
  exact this ds _

theorem pf_parted {s : Sp} {ds es : List Int} (hp : ds.Pairwise (· ≤ ·)) (hm : ∀ d, d ∈ ds ↔ d ∈ es) : Parted s es (kp ((pf s ds).1 ++ [((pf s ds).2, s.2)])) := by
  cases hs : has s
  · rw [pf_none hs]
    refine ⟨fun _ => ?_, fun h => (by cases hs.symm.trans h), fun h => (by cases hs.symm.trans h)⟩
    simp only [List.nil_append]
    rw [kp_one, if_neg (by simp [hs])]
  · have hs' := (has_iff s).1 hs
    have h0 : Cuts s [] ([], s.1) := ⟨rfl, Int.le_refl _, hs'.2.1, fun d => by simp [kp, fst], .inl rfl⟩
    have h := cuts_all hs ds [] _ h0 (by simpa using hp)
    simp only [List.nil_append] at h
    have e : ds.foldl (ps s) ([], s.1) = pf s ds := rfl
    rw [e] at h
    generalize pf s ds = st at h ⊢
    obtain ⟨L, f⟩ := st
    have h1 := h.chain; have h2 := h.lo; have h3 := h.hi; have h4 := h.cuts
    simp only at h1 h2 h3 h4 ⊢
    have hk : kp (L ++ [(f, s.2)]) = kp L ++ [(f, s.2)] := by
      rw [kp_append, kp_one, if_pos ((has_iff _).2 (by simp only; omega))]
    rw [hk]
    refine ⟨fun h => (by cases hs.symm.trans h), fun _ => h1.snoc h3, fun _ d => ?_⟩
    rw [fst_snoc, ← hm d, ← h4 d]
    exact or_congr Iff.rfl ⟨Eq.symm, Eq.symm⟩

/-- The document's way: the least day that cuts what is left. -/
def nx (f t : Int) (ds : List Int) : Int := ds.foldl (fun n a => if f < a ∧ a < n then a else n) t
theorem nx_snoc (f t : Int) (ds : List Int) (d : Int) : nx f t (ds ++ [d]) = if f < d ∧ d < nx f t ds then d else nx f t ds := by unfold nx; rw [List.foldl_append]; rfl
theorem nx_facts (f t : Int) (h : f < t) (ds : List Int) : f < nx f t ds ∧ nx f t ds ≤ t ∧ (nx f t ds = t ∨ nx f t ds ∈ ds) ∧ ∀ a ∈ ds, f < a → nx f t ds ≤ a := by
  have key : ∀ (es ps : List Int) (n : Int), f < n → n ≤ t → (n = t ∨ n ∈ ps) → (∀ a ∈ ps, f < a → n ≤ a) →
      f < es.foldl (fun n a => if f < a ∧ a < n then a else n) n ∧ es.foldl (fun n a => if f < a ∧ a < n then a else n) n ≤ t ∧ (es.foldl (fun n a => if f < a ∧ a < n then a else n) n = t ∨ es.foldl (fun n a => if f < a ∧ a < n then a else n) n ∈ ps ++ es) ∧ ∀ a ∈ ps ++ es, f < a → es.foldl (fun n a => if f < a ∧ a < n then a else n) n ≤ a := by
    intro es
    induction es with
    | nil => intro ps n h1 h2 h3 h4; simpa using ⟨h1, h2, h3, h4⟩
    | cons e es ih =>
      intro ps n h1 h2 h3 h4
      have eq : ps ++ e :: es = (ps ++ [e]) ++ es := by simp
      rw [eq]
      simp only [List.foldl_cons]
      by_cases hc : f < e ∧ e < n
      · rw [if_pos hc]
        refine ih (ps ++ [e]) e hc.1 (by omega) (.inr (by simp)) fun a ha hfa => ?_
        rcases List.mem_append.1 ha with ha | ha
        · have := h4 a ha hfa; omega
        · simp at ha; omega
      · rw [if_neg hc]
        refine ih (ps ++ [e]) n h1 h2 (h3.imp id fun h => by simp [h]) fun a ha hfa => ?_
        rcases List.mem_append.1 ha with ha | ha
        · exact h4 a ha hfa
        · simp at ha; omega
  have := key ds [] t h (Int.le_refl _) (.inl rfl) (fun a ha => by cases ha)
  simpa [nx] using this

/-- What holds at the head of each of the document's rounds: f is where the next part begins. -/
structure Goes (s : Sp) (ds : List Int) (zs : List Sp) (f : Int) : Prop where
  chain : Chain s.1 f zs
  hi : f ≤ s.2
  at_ : f = s.1 ∨ (f ∈ ds ∧ s.1 < f) ∨ f = s.2
  cuts : ∀ d, fst zs d ↔ (d = s.1 ∨ (d ∈ ds ∧ s.1 < d)) ∧ d < f
theorem goes_start {s : Sp} (hs : has s = true) (ds : List Int) : Goes s ds [] s.1 := by
  have hs' := (has_iff s).1 hs
  refine ⟨rfl, by omega, .inl rfl, fun d => ⟨fun h => absurd h (fst_nil d), ?_⟩⟩
  rintro ⟨h | h, h2⟩ <;> omega
theorem goes_step {s : Sp} {ds : List Int} {zs : List Sp} {f : Int} (h : Goes s ds zs f) (hf : f < s.2) : Goes s ds (zs ++ [(f, nx f s.2 ds)]) (nx f s.2 ds) := by
  obtain ⟨n1, n2, n3, n4⟩ := nx_facts f s.2 hf ds
  have hle := h.chain.le
  refine ⟨h.chain.snoc n1, n2, ?_, fun d => ?_⟩
  · rcases n3 with n3 | n3
    · exact .inr (.inr n3)
    · exact .inr (.inl ⟨n3, by omega⟩)
  · rw [fst_snoc, h.cuts d]
    simp only
    constructor
    · rintro (⟨h1, h2⟩ | h1)
      · exact ⟨h1, by omega⟩
      · subst h1
        refine ⟨?_, n1⟩
        rcases h.at_ with h2 | h2 | h2
        · exact .inl h2
        · exact .inr h2
        · omega
    · rintro ⟨h1, h2⟩
      by_cases hd : d < f
      · exact .inl ⟨h1, hd⟩
      · refine .inr ?_
        rcases h1 with h1 | h1
        · omega
        · by_cases he : f = d
          · exact he
          · have := n4 d h1.1 (by omega); omega
theorem goes_end {s : Sp} {ds : List Int} {zs : List Sp} (hs : has s = true) (h : Goes s ds zs s.2) : Parted s ds zs := by
  have hs' := (has_iff s).1 hs
  refine ⟨fun h => (by cases hs.symm.trans h), fun _ => h.chain, fun _ d => ?_⟩
  rw [h.cuts d]
  constructor
  · rintro ⟨h1 | h1, h2⟩
    · exact .inl h1
    · exact .inr ⟨h1.1, h1.2, h2⟩
  · rintro (h1 | h1)
    · exact ⟨.inl h1, by omega⟩
    · exact ⟨.inr ⟨h1.1, h1.2.1⟩, h1.2.2⟩

end Go.Proofs.Ytjmbccdcnmmhgaa.Sp
