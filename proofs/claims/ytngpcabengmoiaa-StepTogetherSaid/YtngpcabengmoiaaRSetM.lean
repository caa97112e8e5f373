/-
  What the document's Set makes, without model. Conditions: those of each theorem.
-/
import Derived.Test.YtngpcabengmoiaaWith
namespace Go.Proofs.Ytngpcabengmoiaa
open Go.RowKit St
namespace Stp
set_option linter.unusedVariables false

/-- Entries put in, one after the other. -/
def wts (o l : List Pr) : List Pr := l.foldl (fun o x => wt o x.1 x.2) o
theorem wts_snoc (o l : List Pr) (x : Pr) : wts o (l ++ [x]) = wt (wts o l) x.1 x.2 := by simp [wts]
theorem wt_len (o : List Pr) (x v : Int) : (wt o x v).length ≤ o.length + 1 := by unfold wt; split <;> simp
theorem wts_len (l : List Pr) : ∀ o, (wts o l).length ≤ o.length + l.length := by
  induction l with
  | nil => intro o; simp [wts]
  | cons x l ih =>
    intro o
    have h1 := ih (wt o x.1 x.2)
    have h2 := wt_len o x.1 x.2
    have h3 : wts o (x :: l) = wts (wt o x.1 x.2) l := rfl
    rw [h3, List.length_cons]
    omega
theorem flt_yes {ps : List Pr} {k : Nat} {x : Pr} (p : Pr → Bool) (hz : ps[k]? = some x) (h : p x = true) : (ps.take (k + 1)).filter p = (ps.take k).filter p ++ [x] := by
  rw [take_more hz, List.filter_append]; simp [h]
theorem flt_no {ps : List Pr} {k : Nat} {x : Pr} (p : Pr → Bool) (hz : ps[k]? = some x) (h : p x = false) : (ps.take (k + 1)).filter p = (ps.take k).filter p := by
  rw [take_more hz, List.filter_append]; simp [h]

/-- A step in the making: what it says, and where it ends. -/
structure Wi (out : List Pr) (b : Int) (g : Int → Int) : Prop where
  r : Rt 0 0 out
  f : Fit out
  lt : ∀ x ∈ out, x.1 < b
  v : ∀ d, d ≤ 292194 → val 0 out d = g d
theorem Wi.nil (b : Int) : Wi [] b (fun _ => 0) := ⟨trivial, fun x h => by simp at h, fun x h => by simp at h, fun _ _ => rfl⟩
theorem Wi.put {out : List Pr} {b x v : Int} {g : Int → Int} (h : Wi out b g) (hb : b ≤ x) (h1 : 1 ≤ x) (hv : St.fits v = true) : Wi (wt out x v) (x + 1) (fun d => if x ≤ d then v else g d) := by
  unfold wt
  split
  · rename_i h'
    refine ⟨h.r, h.f, fun y hy => by have := h.lt y hy; omega, fun d hd => ?_⟩
    by_cases hx : x ≤ d
    · rw [if_pos hx]
      rcases h' with e | e
      · rw [e, val_lst 0 out d (fun y hy => by have := h.lt y hy; omega)]
      · omega
    · rw [if_neg hx]; exact h.v d hd
  · rename_i h'
    have hr : Rt 0 0 (out ++ [(x, v)]) := h.r.snoc (x := (x, v)) (fun y hy => by have := h.lt y hy; simp only; omega) (by simp only; omega) (by simp only; omega) (fun e => h' (.inl e))
    refine ⟨hr, fun y hy => ?_, fun y hy => ?_, fun d hd => ?_⟩
    · rcases List.mem_append.1 hy with hy | hy
      · exact h.f y hy
      · simp at hy; subst hy; exact hv
    · rcases List.mem_append.1 hy with hy | hy
      · have := h.lt y hy; omega
      · simp at hy; subst hy; simp only; omega
    · rw [val_snoc hr d, h.v d hd]
theorem val_above {d : Int} {l : List Pr} (h : Int) (hl : ∀ y ∈ l, d < y.1) : val h l d = h := by
  cases l with
  | nil => rfl
  | cons x r => rw [val, if_neg (by have := hl x (by simp); omega)]
theorem Wi.puts (l : List Pr) : ∀ {out : List Pr} {b : Int} {g : Int → Int}, Wi out b g → l.Pairwise (fun x y => x.1 < y.1) → (∀ x ∈ l, b ≤ x.1 ∧ 1 ≤ x.1 ∧ St.fits x.2 = true) → ∃ b', Wi (wts out l) b' (fun d => val (g d) l d) ∧ ∀ c, b ≤ c → (∀ x ∈ l, x.1 < c) → b' ≤ c := by
  induction l with
  | nil => intro out b g h _ _; exact ⟨b, h, fun c hc _ => hc⟩
  | cons x r ih =>
    intro out b g h hp hx
    have hp' := List.pairwise_cons.1 hp
    obtain ⟨x1, x2, x3⟩ := hx x (by simp)
    have h1 := h.put x1 x2 x3
    obtain ⟨b', h2, h3⟩ := ih h1 hp'.2 (fun y hy => by have := hp'.1 y hy; have := hx y (by simp [hy]); exact ⟨by omega, this.2⟩)
    refine ⟨b', ⟨h2.r, h2.f, h2.lt, fun d hd => ?_⟩, fun c hc hl => h3 c (by have := hl x (by simp); omega) (fun y hy => hl y (by simp [hy]))⟩
    have e := h2.v d hd
    have e2 : wts out (x :: r) = wts (wt out x.1 x.2) r := rfl
    rw [e2, e, val]
    by_cases hd' : x.1 ≤ d
    · rw [if_pos hd', if_pos hd']
    · rw [if_neg hd', if_neg hd', val_above _ (fun y hy => by have := hp'.1 y hy; omega)]
theorem val_lo_f {f d : Int} (hd : d < f) : ∀ (l : List Pr) (h : Int), l.Pairwise (fun x y => x.1 < y.1) → val h (l.filter fun x => decide (x.1 < f)) d = val h l d
  | [], _, _ => rfl
  | x :: r, h, hp => by
    have hp' := List.pairwise_cons.1 hp
    by_cases hx : x.1 < f
    · rw [List.filter_cons_of_pos (by simpa using hx), val, val, val_lo_f hd r x.2 hp'.2]
    · rw [List.filter_cons_of_neg (by simpa using hx), val, if_neg (by omega)]
      exact val_above _ (fun y hy => by have := hp'.1 y (List.mem_filter.1 hy).1; omega)
theorem val_hi_f {t d : Int} (hd : t ≤ d) : ∀ (l : List Pr) (h : Int), l.Pairwise (fun x y => x.1 < y.1) → val (val h l t) (l.filter fun x => decide (t < x.1)) d = val h l d
  | [], _, _ => rfl
  | x :: r, h, hp => by
    have hp' := List.pairwise_cons.1 hp
    by_cases hx : t < x.1
    · rw [List.filter_cons_of_pos (by simpa using hx), List.filter_eq_self.2 (fun y hy => by have := hp'.1 y hy; simp; omega), val_above h (l := x :: r) (d := t) (fun y hy => by
        rcases List.mem_cons.1 hy with rfl | hy
        · exact hx
        · have := hp'.1 y hy; omega)]
    · rw [List.filter_cons_of_neg (by simpa using hx), val, val, if_pos (by omega), if_pos (by omega), val_hi_f hd r x.2 hp'.2]
theorem Rt.pw {day held : Int} {ps : List Pr} (h : Rt day held ps) : ps.Pairwise (fun x y => x.1 < y.1) := List.pairwise_map.1 h.sorted
theorem rt_pos {ps : List Pr} : ∀ {day held : Int}, 0 ≤ day → Rt day held ps → ∀ x ∈ ps, 1 ≤ x.1 := by
  induction ps with
  | nil => intro _ _ _ _ x hx; simp at hx
  | cons y r ih =>
    intro day held h0 h x hx
    have h1 := h.1
    rcases List.mem_cons.1 hx with rfl | hx
    · omega
    · exact ih (by omega) h.2.2.2 x hx
theorem rset_all {ps : List Pr} (h : Right ps) : wts [] ps = ps := by
  obtain ⟨b, hw, _⟩ := Wi.puts ps (Wi.nil 1) (Rt.pw h.1) (fun x hx => ⟨rt_pos (Int.le_refl 0) h.1 x hx, rt_pos (Int.le_refl 0) h.1 x hx, h.2 x hx⟩)
  exact St.right_eq ⟨hw.r, hw.f⟩ h fun d d1 d2 => hw.v d d2
theorem rset_eq {ps : List Pr} (h : Right ps) {f t v : Int} (h1 : 1 ≤ f) (h2 : f < t) (h3 : t ≤ 292195) (hv : St.fits v = true) :
    wts (wt (wt (wts [] (ps.filter fun x => decide (x.1 < f))) f v) t (val 0 ps t)) (ps.filter fun x => decide (t < x.1)) = setR ps (f, t) v := by
  have hp := Rt.pw h.1
  have hpos := rt_pos (Int.le_refl 0) h.1
  obtain ⟨b1, w1, hb1⟩ := Wi.puts (ps.filter fun x => decide (x.1 < f)) (Wi.nil 1) (hp.filter _) (fun x hx => ⟨hpos x (List.mem_filter.1 hx).1, hpos x (List.mem_filter.1 hx).1, h.2 x (List.mem_filter.1 hx).1⟩)
  have w2 := w1.put (x := f) (hb1 f h1 (fun x hx => by have := (List.mem_filter.1 hx).2; simpa using this)) h1 hv
  have w3 := w2.put (x := t) (v := val 0 ps t) (by omega) (by omega) (val_fits h.2 t)
  obtain ⟨b4, w4, _⟩ := Wi.puts (ps.filter fun x => decide (t < x.1)) w3 (hp.filter _) (fun x hx => by
    have h5 := (List.mem_filter.1 hx).2
    simp at h5
    exact ⟨by omega, hpos x (List.mem_filter.1 hx).1, h.2 x (List.mem_filter.1 hx).1⟩)
  refine St.right_eq ⟨w4.r, w4.f⟩ (setR_right h _ _) fun d d1 d2 => ?_
  rw [w4.v d d2, setR_val h (s := (f, t)) h1 (by simp only; omega) h3 hv d d1 d2]
  by_cases ht : t ≤ d
  · rw [if_pos ht, val_hi_f ht _ _ hp, if_neg (by rw [inn_iff]; simp only; omega)]
  · rw [if_neg ht, val_above _ (fun y hy => by have := (List.mem_filter.1 hy).2; simp at this; omega)]
    by_cases hf : f ≤ d
    · rw [if_pos hf, if_pos (by rw [inn_iff]; simp only; omega)]
    · rw [if_neg hf, val_lo_f (by omega) _ _ hp, if_neg (by rw [inn_iff]; simp only; omega)]

/-- A call of with, by letters. -/
def PutsL (base : Nat) (w : World) (L : Nat) (qs : List Pr) (e : Ending) (w' : World) : Prop := ∃ A c V d, e = .returned (sg A L c V L d) ∧ OwnS w' base A L c V L d (qs.map (·.1)) (qs.map (·.2)) ∧ Below base w w'
theorem with_l (base : Nat) (A : Option Addr) (n c : Nat) (V : Option Addr) (d : Nat) (ps : List Pr) (x v : Int) (w : World) (hO : OwnS w base A n c V n d (ps.map (·.1)) (ps.map (·.2))) (hl : ps.length = n) (hbase : base ≤ w.heap.size) (hn : n ≤ 1000) {qs : List Pr} {L : Nat} (hq : wt ps x v = qs) (hL : qs.length = L) :
    Calls Try.prog 22 #[sg A n c V n d, .int .i64 x, .int .i64 v] w (PutsL base w L qs) := by
  subst hq hL
  exact with_ base A n c V d ps x v w hO hl hbase hn

/-- The step in the making, in its box. -/
structure RQ (w2 W : World) (A : Option Addr) (N c : Nat) (V : Option Addr) (d : Nat) (out : List Pr) : Prop where
  own : OwnS W (w2.heap.size + 1) A N c V N d (out.map (·.1)) (out.map (·.2))
  bx : Bx W w2.heap.size 24 (.slice A N c) (.slice V N d)
  b : Below w2.heap.size w2 W
  len : out.length = N
section
variable {w2 W W' : World} {A V A' V' : Option Addr} {N c d L c' d' : Nat} {out qs : List Pr}
theorem RQ.drew (h : RQ w2 W A N c V d out) (k : Nat) : RQ w2 (W.drewN k) A N c V d out := ⟨⟨h.own.a, h.own.v, h.own.dj⟩, h.bx, below_drewN h.b k, h.len⟩
theorem RQ.size (h : RQ w2 W A N c V d out) : w2.heap.size + 1 ≤ W.heap.size := h.bx.lt
theorem RQ.put (h : RQ w2 W A N c V d out) (hO : OwnS W' (w2.heap.size + 1) A' L c' V' L d' (qs.map (·.1)) (qs.map (·.2))) (hb : Below (w2.heap.size + 1) W W') (hl : qs.length = L) :
    RQ w2 ((W'.setCell ⟨w2.heap.size, 0, none⟩ (.slice A' L c')).setCell ⟨w2.heap.size, 1, none⟩ (.slice V' L d')) A' L c' V' d' qs := by
  have ht : 24 ≠ 3 := by decide
  have x0 := h.bx.below hb (Nat.lt_succ_self _)
  have O1 := hO.far (p := ⟨w2.heap.size, 0, none⟩) (hO.a.not_box x0 ht) (hO.v.not_box x0 ht) (.slice A' L c')
  have x1 := x0.set0 (.slice A' L c')
  have O2 := O1.far (p := ⟨w2.heap.size, 1, none⟩) (O1.a.not_box x1 ht) (O1.v.not_box x1 ht) (.slice V' L d')
  exact ⟨O2, x1.set1 _, ((h.b.trans (hb.mono (by omega))).setCell (p := ⟨w2.heap.size, 0, none⟩) (Nat.le_refl _) _).setCell (p := ⟨w2.heap.size, 1, none⟩) (Nat.le_refl _) _, hl⟩
end

end Stp
end Go.Proofs.Ytngpcabengmoiaa
