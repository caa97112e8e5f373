/-
  symMergeCmpFunc of package slices: what its search comes to. Conditions: the closure answers by a key.
-/
import Derived.Test.YtcnlllamldlnmaaSym2
namespace Go.Proofs.Ytcnlllamldlnmaa
open Go.RowKit Ba Cv Sp Te
namespace Tm
set_option linter.unusedVariables false

/-- What a merge gives, of rows shorter than N in all. -/
def Merges (w0 : World) (ad : Addr) (n c : Nat) (key : Int → Int) (V : Int → Prop) (pt : Value) (N : Nat) : Prop := ∀ (P L R Q : List Int) (a m b : Nat) (w : World), L.length + R.length < N → At w0 ad (P ++ L ++ R ++ Q) w → P.length = a → a + L.length = m → m + R.length = b → (P ++ L ++ R ++ Q).length = n → 0 < L.length → 0 < R.length →
  St.Srt key L → St.Srt key R → (∀ x ∈ L, ∀ y ∈ R, x < y) → (∀ y ∈ L ++ R, V y) →
  Calls Try.prog 73 #[.slice (some ad) n c, .int .i64 (a : Int), .int .i64 (m : Int), .int .i64 (b : Int), clv pt] w (Puts w0 ad key P (L ++ R) Q)
/-- Where all lies. -/
structure Geo (a m b mid nn s0 r0 : Nat) : Prop where
  h1 : mid = (a + b) / 2
  h2 : nn = mid + m
  h3 : (mid < m ∧ s0 + b = nn ∧ r0 = mid) ∨ (m ≤ mid ∧ s0 = a ∧ r0 = m)
  h4 : a + 2 ≤ m
  h5 : m + 2 ≤ b
theorem Geo.io {a m b mid nn s0 r0 : Nat} (g : Geo a m b mid nn s0 r0) : a ≤ s0 ∧ s0 ≤ r0 ∧ r0 ≤ m := by
  obtain ⟨h1, h2, h3, h4, h5⟩ := g
  rcases h3 with ⟨h, h', h''⟩ | ⟨h, h', h''⟩ <;> omega
theorem Geo.at {a m b mid nn s0 r0 c : Nat} (g : Geo a m b mid nn s0 r0) (h1 : s0 ≤ c) (h2 : c < r0) : a ≤ c ∧ c < m ∧ m + c + 1 ≤ nn ∧ nn < b + c + 1 := by
  have := g.io
  obtain ⟨h1, h2, h3, h4, h5⟩ := g
  rcases h3 with ⟨h, h', h''⟩ | ⟨h, h', h''⟩ <;> omega
/-- The row, and how it is searched. -/
structure Sr (key : Int → Int) (xs L R : List Int) (a m b nn s0 r0 : Nat) (Pr : Nat → Prop) : Prop where
  gl : ∀ h t, a + t = h → t < L.length → xs[h]? = L[t]?
  gr : ∀ h t, m + t = h → t < R.length → xs[h]? = R[t]?
  l : St.Srt key L
  r : St.Srt key R
  lr : ∀ x ∈ L, ∀ y ∈ R, x < y
  ml : a + L.length = m
  mr : m + R.length = b
  p : Pr = fun h => ∀ u v, xs[nn - 1 - h]? = some u → xs[h]? = some v → key v ≤ key u
section
variable {key : Int → Int} {xs L R : List Int} {a m b mid nn s0 r0 : Nat} {Pr : Nat → Prop}
theorem Sr.look (s : Sr key xs L R a m b nn s0 r0 Pr) (g : Geo a m b mid nn s0 r0) {c : Nat} (h1 : s0 ≤ c) (h2 : c < r0) : ∃ u v, xs[nn - 1 - c]? = some u ∧ xs[c]? = some v ∧ u ∈ R ∧ v ∈ L ∧ R[nn - 1 - c - m]? = some u ∧ L[c - a]? = some v := by
  obtain ⟨h3, h4, h5, h6⟩ := g.at h1 h2
  have hl := s.ml
  have hr := s.mr
  obtain ⟨u, hu⟩ : ∃ u, R[nn - 1 - c - m]? = some u := ⟨_, List.getElem?_eq_getElem (by omega)⟩
  obtain ⟨v, hv⟩ : ∃ v, L[c - a]? = some v := ⟨_, List.getElem?_eq_getElem (by omega)⟩
  exact ⟨u, v, by rw [s.gr (nn - 1 - c) (nn - 1 - c - m) (by omega) (by omega)]; exact hu, by rw [s.gl c (c - a) (by omega) (by omega)]; exact hv, List.mem_of_getElem? hu, List.mem_of_getElem? hv, hu, hv⟩
theorem Sr.down (s : Sr key xs L R a m b nn s0 r0 Pr) (g : Geo a m b mid nn s0 r0) : St.Down Pr s0 r0 := by
  intro h h' h1 h2 h3 hp
  rw [s.p] at hp ⊢
  intro u' v' hu' hv'
  obtain ⟨u, v, a1, a2, _, _, a3, a4⟩ := s.look g (c := h) (by omega) h3
  obtain ⟨u2, v2, b1, b2, _, _, b3, b4⟩ := s.look g (c := h') h1 (by omega)
  rw [b1] at hu'
  rw [b2] at hv'
  injection hu' with hu'
  injection hv' with hv'
  subst hu' hv'
  have k := hp u v a1 a2
  have q1 := g.at (c := h) (by omega) h3
  have q2 := g.at (c := h') h1 (by omega)
  have k1 := St.srt_get s.l b4 a4 (by omega)
  have k2 := St.srt_get s.r a3 b3 (by omega)
  unfold St.lt at k1 k2
  omega
/-- Where the search ends. -/
structure Fi (key : Int → Int) (L R : List Int) (a m b mid nn st en s t : Nat) : Prop where
  es : a + s = st
  et : m + t = en
  sl : s ≤ L.length
  tr : t ≤ R.length
  e : en + st = nn
  x : (∀ x ∈ L.take s, ∀ y ∈ R.drop t, St.lt key x y) ∧ (∀ y ∈ R.take t, ∀ x ∈ L.drop s, St.lt key y x)
  md : a + s + t = mid
  me : mid + (L.length - s) = en
  n0 : 0 < s + t
  n1 : s + t < L.length + R.length
theorem Sr.fin (s : Sr key xs L R a m b nn s0 r0 Pr) (g : Geo a m b mid nn s0 r0) {st : Nat} (B : St.Bis Pr s0 r0 st st) : Fi key L R a m b mid nn st (nn - st) (st - a) (nn - st - m) := by
  have hl := s.ml
  have hr := s.mr
  have io := g.io
  have ba := B.a
  have bc := B.c
  obtain ⟨h1, h2, h3, h4, h5⟩ := g
  have g : Geo a m b mid nn s0 r0 := ⟨h1, h2, h3, h4, h5⟩
  have hq : m + st ≤ nn ∧ nn ≤ b + st := by rcases h3 with ⟨h, h', h''⟩ | ⟨h, h', h''⟩ <;> omega
  refine ⟨by omega, by omega, by omega, by omega, by omega, ?_, by omega, by omega, by omega, by omega⟩
  refine St.cross s.l s.r s.lr (by omega) (by omega) (fun x y hs hx hy => ?_) (fun x y ht hx hy => ?_)
  · have hyl := (List.getElem?_eq_some_iff.1 hy).1
    have hs0 : s0 ≤ st - 1 := by rcases h3 with ⟨h, h', h''⟩ | ⟨h, h', h''⟩ <;> omega
    have hp := B.yes (st - 1) hs0 (by omega)
    rw [s.p] at hp
    have := hp y x (by rw [s.gr (nn - 1 - (st - 1)) (nn - st - m) (by omega) hyl]; exact hy) (by rw [s.gl (st - 1) (st - a - 1) (by omega) (by omega)]; exact hx)
    omega
  · have hxl := (List.getElem?_eq_some_iff.1 hx).1
    have hs0 : st < r0 := by rcases h3 with ⟨h, h', h''⟩ | ⟨h, h', h''⟩ <;> omega
    have hp := B.no st (Nat.le_refl _) hs0
    rw [s.p] at hp
    rcases Int.lt_or_le (key y) (key x) with h | h
    · exact h
    · refine (hp fun u v hu hv => ?_).elim
      rw [s.gr (nn - 1 - st) (nn - st - m - 1) (by omega) (by omega), hy] at hu
      rw [s.gl st (st - a) (by omega) hxl, hx] at hv
      injection hu with hu
      injection hv with hv
      subst hu hv
      omega
/-- Where nothing is to be turned round. -/
theorem Fi.no {st en s t : Nat} {P Q : List Int} (f : Fi key L R a m b mid nn st en s t) (h : L.length ≤ s ∨ t = 0) : P ++ L ++ R ++ Q = P ++ (L.take s ++ R.take t) ++ (L.drop s ++ R.drop t) ++ Q := by
  rcases h with h | h
  · rw [List.take_of_length_le h, List.drop_of_length_le h]
    simp [← List.append_assoc (R.take t)]
  · subst h
    simp [← List.append_assoc (L.take s)]
theorem take_one {D : List Int} {k : Nat} : D.take k ++ D.drop k = D := List.take_append_drop k D
theorem left_good {s t : Nat} (hl : St.Srt key L) (hr : St.Srt key R) (h : s = 0 ∨ t = 0) : St.Good key (L.take s ++ R.take t) (L.take s ++ R.take t) := by
  refine ⟨List.Perm.refl _, ?_⟩
  rcases h with rfl | rfl
  · simpa using St.srt_sub hr (List.take_sublist t R)
  · simpa using St.srt_sub hl (List.take_sublist s L)
theorem right_good {s t : Nat} (hl : St.Srt key L) (hr : St.Srt key R) (h : L.length ≤ s ∨ R.length ≤ t) : St.Good key (L.drop s ++ R.drop t) (L.drop s ++ R.drop t) := by
  refine ⟨List.Perm.refl _, ?_⟩
  rcases h with h | h
  · rw [List.drop_of_length_le h]; simpa using St.srt_sub hr (List.drop_sublist t R)
  · rw [List.drop_of_length_le h, List.append_nil]; exact St.srt_sub hl (List.drop_sublist s L)
theorem Fi.done {w0 W : World} {ad : Addr} {st en s t : Nat} {P Q S1 S2 : List Int} (f : Fi key L R a m b mid nn st en s t) (hl : St.Srt key L) (hr : St.Srt key R) (g1 : St.Good key S1 (L.take s ++ R.take t)) (g2 : St.Good key S2 (L.drop s ++ R.drop t)) (h : At w0 ad ((P ++ S1) ++ S2 ++ Q) W) : ∃ S, St.Good key S (L ++ R) ∧ At w0 ad (P ++ S ++ Q) W := by
  refine ⟨S1 ++ S2, ?_, by simpa using h⟩
  have := St.halves (L1 := L.take s) (L2 := L.drop s) (R1 := R.take t) (R2 := R.drop t) (by rw [take_one]; exact hl) (by rw [take_one]; exact hr) f.x.1 f.x.2 g1 g2
  rwa [take_one, take_one] at this
end

end Tm
end Go.Proofs.Ytcnlllamldlnmaa
