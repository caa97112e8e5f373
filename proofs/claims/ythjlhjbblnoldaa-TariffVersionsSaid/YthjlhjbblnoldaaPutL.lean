/-
  The row of versions that Put lays anew. Conditions: the version's lists read as lists, and are short.
-/
import Derived.Test.YthjlhjbblnoldaaConcat
namespace Go.Proofs.Ythjlhjbblnoldaa
open Go.RowKit Ba Tf
namespace Trf
set_option linter.unusedVariables false

theorem off_ne {b o1 o2 : Nat} (h : o1 ≠ o2) : (⟨b, o1, none⟩ : Addr) ≠ ⟨b, o2, none⟩ := fun e => by injection e with _ e; exact h e
theorem nine_at {w : World} {b o : Nat} {r r0 : Rw} (h : Nin w ⟨b, o, none⟩ r0) : Nin (nine w b o r) ⟨b, o, none⟩ r := by
  refine ⟨?_, ?_, ?_, ?_, ?_, ?_, ?_, ?_, ?_⟩
  · show (nine w b o r).cell? ⟨b, o, none⟩ = _
    unfold nine
    rw [World.cell?_setCell_other _ _ _ _ (off_ne (by omega)), World.cell?_setCell_other _ _ _ _ (off_ne (by omega)), World.cell?_setCell_other _ _ _ _ (off_ne (by omega)), World.cell?_setCell_other _ _ _ _ (off_ne (by omega)), World.cell?_setCell_other _ _ _ _ (off_ne (by omega)), World.cell?_setCell_other _ _ _ _ (off_ne (by omega)), World.cell?_setCell_other _ _ _ _ (off_ne (by omega)), World.cell?_setCell_other _ _ _ _ (off_ne (by omega))]
    exact World.cell?_setCell_same _ _ _ h.c0
  · show (nine w b o r).cell? ⟨b, o + 1, none⟩ = _
    unfold nine
    rw [World.cell?_setCell_other _ _ _ _ (off_ne (by omega)), World.cell?_setCell_other _ _ _ _ (off_ne (by omega)), World.cell?_setCell_other _ _ _ _ (off_ne (by omega)), World.cell?_setCell_other _ _ _ _ (off_ne (by omega)), World.cell?_setCell_other _ _ _ _ (off_ne (by omega)), World.cell?_setCell_other _ _ _ _ (off_ne (by omega)), World.cell?_setCell_other _ _ _ _ (off_ne (by omega))]
    exact World.cell?_setCell_same _ _ _ (by rw [World.cell?_setCell_other _ _ _ _ (off_ne (by omega))]; exact h.c1)
  · show (nine w b o r).cell? ⟨b, o + 2, none⟩ = _
    unfold nine
    rw [World.cell?_setCell_other _ _ _ _ (off_ne (by omega)), World.cell?_setCell_other _ _ _ _ (off_ne (by omega)), World.cell?_setCell_other _ _ _ _ (off_ne (by omega)), World.cell?_setCell_other _ _ _ _ (off_ne (by omega)), World.cell?_setCell_other _ _ _ _ (off_ne (by omega)), World.cell?_setCell_other _ _ _ _ (off_ne (by omega))]
    exact World.cell?_setCell_same _ _ _ (by rw [World.cell?_setCell_other _ _ _ _ (off_ne (by omega)), World.cell?_setCell_other _ _ _ _ (off_ne (by omega))]; exact h.c2)
  · show (nine w b o r).cell? ⟨b, o + 3, none⟩ = _
    unfold nine
    rw [World.cell?_setCell_other _ _ _ _ (off_ne (by omega)), World.cell?_setCell_other _ _ _ _ (off_ne (by omega)), World.cell?_setCell_other _ _ _ _ (off_ne (by omega)), World.cell?_setCell_other _ _ _ _ (off_ne (by omega)), World.cell?_setCell_other _ _ _ _ (off_ne (by omega))]
    exact World.cell?_setCell_same _ _ _ (by rw [World.cell?_setCell_other _ _ _ _ (off_ne (by omega)), World.cell?_setCell_other _ _ _ _ (off_ne (by omega)), World.cell?_setCell_other _ _ _ _ (off_ne (by omega))]; exact h.c3)
  · show (nine w b o r).cell? ⟨b, o + 4, none⟩ = _
    unfold nine
    rw [World.cell?_setCell_other _ _ _ _ (off_ne (by omega)), World.cell?_setCell_other _ _ _ _ (off_ne (by omega)), World.cell?_setCell_other _ _ _ _ (off_ne (by omega)), World.cell?_setCell_other _ _ _ _ (off_ne (by omega))]
    exact World.cell?_setCell_same _ _ _ (by rw [World.cell?_setCell_other _ _ _ _ (off_ne (by omega)), World.cell?_setCell_other _ _ _ _ (off_ne (by omega)), World.cell?_setCell_other _ _ _ _ (off_ne (by omega)), World.cell?_setCell_other _ _ _ _ (off_ne (by omega))]; exact h.c4)
  · show (nine w b o r).cell? ⟨b, o + 5, none⟩ = _
    unfold nine
    rw [World.cell?_setCell_other _ _ _ _ (off_ne (by omega)), World.cell?_setCell_other _ _ _ _ (off_ne (by omega)), World.cell?_setCell_other _ _ _ _ (off_ne (by omega))]
    exact World.cell?_setCell_same _ _ _ (by rw [World.cell?_setCell_other _ _ _ _ (off_ne (by omega)), World.cell?_setCell_other _ _ _ _ (off_ne (by omega)), World.cell?_setCell_other _ _ _ _ (off_ne (by omega)), World.cell?_setCell_other _ _ _ _ (off_ne (by omega)), World.cell?_setCell_other _ _ _ _ (off_ne (by omega))]; exact h.c5)
  · show (nine w b o r).cell? ⟨b, o + 6, none⟩ = _
    unfold nine
    rw [World.cell?_setCell_other _ _ _ _ (off_ne (by omega)), World.cell?_setCell_other _ _ _ _ (off_ne (by omega))]
    exact World.cell?_setCell_same _ _ _ (by rw [World.cell?_setCell_other _ _ _ _ (off_ne (by omega)), World.cell?_setCell_other _ _ _ _ (off_ne (by omega)), World.cell?_setCell_other _ _ _ _ (off_ne (by omega)), World.cell?_setCell_other _ _ _ _ (off_ne (by omega)), World.cell?_setCell_other _ _ _ _ (off_ne (by omega)), World.cell?_setCell_other _ _ _ _ (off_ne (by omega))]; exact h.c6)
  · show (nine w b o r).cell? ⟨b, o + 7, none⟩ = _
    unfold nine
    rw [World.cell?_setCell_other _ _ _ _ (off_ne (by omega))]
    exact World.cell?_setCell_same _ _ _ (by rw [World.cell?_setCell_other _ _ _ _ (off_ne (by omega)), World.cell?_setCell_other _ _ _ _ (off_ne (by omega)), World.cell?_setCell_other _ _ _ _ (off_ne (by omega)), World.cell?_setCell_other _ _ _ _ (off_ne (by omega)), World.cell?_setCell_other _ _ _ _ (off_ne (by omega)), World.cell?_setCell_other _ _ _ _ (off_ne (by omega)), World.cell?_setCell_other _ _ _ _ (off_ne (by omega))]; exact h.c7)
  · show (nine w b o r).cell? ⟨b, o + 8, none⟩ = _
    unfold nine
    exact World.cell?_setCell_same _ _ _ (by rw [World.cell?_setCell_other _ _ _ _ (off_ne (by omega)), World.cell?_setCell_other _ _ _ _ (off_ne (by omega)), World.cell?_setCell_other _ _ _ _ (off_ne (by omega)), World.cell?_setCell_other _ _ _ _ (off_ne (by omega)), World.cell?_setCell_other _ _ _ _ (off_ne (by omega)), World.cell?_setCell_other _ _ _ _ (off_ne (by omega)), World.cell?_setCell_other _ _ _ _ (off_ne (by omega)), World.cell?_setCell_other _ _ _ _ (off_ne (by omega))]; exact h.c8)

theorem nine_frozen (w : World) (b o : Nat) (r : Rw) (p : Addr) : (nine w b o r).frozen? p = w.frozen? p := by simp [nine]

theorem Bx.nine {w : World} {b : Nat} {t : TypeId} {xs : Array Value} (h : Bx w b t xs) {g : Nat} (hp : b ≠ g) (o : Nat) (r : Rw) : Bx (nine w g o r) b t xs := by
  unfold Trf.nine
  exact ((((((((h.far (a := ⟨g, _, none⟩) hp _).far (a := ⟨g, _, none⟩) hp _).far (a := ⟨g, _, none⟩) hp _).far (a := ⟨g, _, none⟩) hp _).far (a := ⟨g, _, none⟩) hp _).far (a := ⟨g, _, none⟩) hp _).far (a := ⟨g, _, none⟩) hp _).far (a := ⟨g, _, none⟩) hp _).far (a := ⟨g, _, none⟩) hp _
/-- The row of the call's own, and what it means: lists lie elsewhere. -/
structure PL (w w1 : World) (g n : Nat) (vs : List Ve) : Prop where
  b : Below w.heap.size w w1
  lo : w.heap.size + 2 < g
  lt : g < w1.heap.size
  fz : ∀ o, w1.frozen? ⟨g, o, none⟩ = false
  rows : ∃ rs, Raws w1 (· = g) (some ⟨g, 0, none⟩) n rs ∧ rs.map Rw.v = vs ∧ (∀ r ∈ rs, Sm r) ∧ ∀ r ∈ rs, Mean w1 (fun b => (b ≠ g ∧ b ≠ w.heap.size + 2) ∧ b < w1.heap.size) r
  x : Bx w1 (w.heap.size + 2) 29 #[.slice none 0 0]
section
variable {w w1 w2 : World} {g n k : Nat} {vs : List Ve}
theorem Raws.at {ok : Nat → Prop} {rs : List Rw} {r : Rw} {j : Nat} (h : Raws w ok (some ⟨g, 0, none⟩) n rs) (hr : rs[j]? = some r) : Nin w ⟨g, j * 9, none⟩ r := by
  obtain ⟨ad, e, _, hc⟩ := h.2 (by have := h.1; have := (List.getElem?_eq_some_iff.1 hr).1; omega)
  injection e with e
  subst e
  have := hc j r hr
  rwa [Addr.add_lit, Nat.zero_add] at this
theorem PL.get (h : PL w w1 g n vs) (hk : k < n) : ∃ r : Rw, vs[k]? = some r.v ∧ Nin w1 ⟨g, k * 9, none⟩ r ∧ Mean w1 (fun b => (b ≠ g ∧ b ≠ w.heap.size + 2) ∧ b < w1.heap.size) r ∧ Sm r := by
  obtain ⟨rs, a, e, s, m⟩ := h.rows
  have hl : k < rs.length := by have := a.1; omega
  have hr : rs[k]? = some rs[k] := List.getElem?_eq_getElem hl
  have hmem := List.mem_of_getElem? hr
  refine ⟨rs[k], ?_, a.at hr, m _ hmem, s _ hmem⟩
  subst e
  exact map_get hr
/-- One version laid anew. -/
theorem PL.put (h : PL w w1 g n vs) (hk : k < n) (o : Obj) (hb : Below (w1.alloc o).heap.size (w1.alloc o) w2) {r : Rw} (he : vs[k]? = some r.v) (hs : Sm r)
    (hl : Mean w2 (fun b => (((b ≠ g ∧ b ≠ w.heap.size + 2) ∧ b < w1.heap.size) ∨ (w1.alloc o).heap.size ≤ b) ∧ b < w2.heap.size) r) : PL w (nine w2 g (k * 9) r) g n vs := by
  have hb' := below_alloc hb
  have hsz := nine_size w2 g (k * 9) r
  have hlt2 : w1.heap.size ≤ w2.heap.size := hb'.size
  have hlo := h.lo
  have hlt := h.lt
  have hal : (w1.alloc o).heap.size = w1.heap.size + 1 := World.size_alloc _ _
  refine ⟨nine_below (h.b.trans (hb'.mono h.b.size)) (by omega) _ _, h.lo, by rw [hsz]; omega, fun o' => ?_, ?_, ?_⟩
  · rw [nine_frozen, hb'.frozen (p := ⟨g, o', none⟩) hlt]
    exact h.fz o'
  · obtain ⟨rs, a, e, s, m⟩ := h.rows
    have hlk : k < rs.length := by have := a.1; omega
    have hr : rs[k]? = some rs[k] := List.getElem?_eq_getElem hlk
    have a2 : Raws w2 (· = g) (some ⟨g, 0, none⟩) n rs := a.keep (fun p hp => hb'.cell (by rw [hp]; exact hlt)) fun _ h => h
    have far : ∀ (p : Addr), p.block ≠ g → (nine w2 g (k * 9) r).cell? p = w2.cell? p := fun p hp => nine_other _ _ _ _ _ fun j _ e => hp (by rw [e])
    refine ⟨rs.set k r, ⟨by rw [List.length_set]; exact a.1, fun hn => ⟨_, rfl, rfl, fun j r' hj => ?_⟩⟩, ?_, ?_, ?_⟩
    · rw [Addr.add_lit, Nat.zero_add]
      by_cases hjk : j = k
      · subst hjk
        rw [List.getElem?_set_self hlk] at hj
        injection hj with hj
        subst hj
        exact nine_at (a2.at hr)
      · rw [List.getElem?_set_ne (Ne.symm hjk)] at hj
        have q := a2.at hj
        have cell : ∀ i, i < 9 → (nine w2 g (k * 9) r).cell? ⟨g, j * 9 + i, none⟩ = w2.cell? ⟨g, j * 9 + i, none⟩ := fun i hi => nine_other _ _ _ _ _ fun i2 hi2 e => by injection e with _ e; omega
        exact ⟨(cell 0 (by omega)).trans q.c0, (cell 1 (by omega)).trans q.c1, (cell 2 (by omega)).trans q.c2, (cell 3 (by omega)).trans q.c3, (cell 4 (by omega)).trans q.c4, (cell 5 (by omega)).trans q.c5, (cell 6 (by omega)).trans q.c6, (cell 7 (by omega)).trans q.c7, (cell 8 (by omega)).trans q.c8⟩
    · rw [List.map_set, e]
      obtain ⟨hk2, e2⟩ := List.getElem?_eq_some_iff.1 he
      rw [← e2]
      exact List.set_getElem_self hk2
    · intro x hx
      rcases List.mem_or_eq_of_mem_set hx with hx | rfl
      · exact s x hx
      · exact hs
    · intro x hx
      rcases List.mem_or_eq_of_mem_set hx with hx | rfl
      · refine (m x hx).keep (fun p hp => ?_) fun b hb => ⟨hb.1, by rw [hsz]; omega⟩
        rw [far p hp.1.1]
        exact hb'.cell hp.2
      · refine hl.keep (fun p hp => far p ?_) fun b hb => ⟨?_, by rw [hsz]; exact hb.2⟩
        · rcases hp.1 with hp | hp
          · exact hp.1.1
          · omega
        · rcases hb.1 with hp | hp
          · exact hp.1
          · have hxl := h.x.lt
            omega
  · exact (h.x.keep hb').nine (by omega) _ _
/-- The result's box is stored into. -/
theorem PL.done (h : PL w w1 g n vs) (u : Value) : ∃ rs, Vers (w1.setCell ⟨w.heap.size + 2, 0, none⟩ u) (some ⟨g, 0, none⟩) n rs ∧ rs.map Rw.v = vs := by
  obtain ⟨rs, a, e, s, m⟩ := h.rows
  have hlo := h.lo
  have hlt := h.lt
  refine ⟨rs, ⟨a.keep (fun p hp => World.cell?_setCell_other _ _ _ _ (fun e => ?_)) fun b hb => by rw [hb]; simpa using hlt, fun r hr => (m r hr).keep (fun p hp => World.cell?_setCell_other _ _ _ _ (fun e => ?_)) fun b hb => by have := hb.2; simpa using this, s⟩, e⟩
  · rw [← e] at hp; simp only at hp; omega
  · have := hp.1.2; rw [← e] at this; simp only at this; omega
end
/-- The row as Concat leaves it. -/
theorem PL.start {w W w' : World} {g n cap : Nat} {rs : List Rw} {vs : List Ve} (hW : Below w.heap.size w W) (hx : Bx W (w.heap.size + 2) 29 #[.slice none 0 0]) (ho : Own w' W.heap.size (some ⟨g, 0, none⟩) n cap rs) (hb : Below W.heap.size W w') (hg : W.heap.size ≤ g) (hlt : g < w'.heap.size) (he : rs.map Rw.v = vs) (hs : ∀ r ∈ rs, Sm r) (hM : ∀ r ∈ rs, Mean W (· < w.heap.size) r) : PL w w' g n vs := by
  have hxl := hx.lt
  refine ⟨hW.trans (hb.mono hW.size), by omega, hlt, fun o => ?_, ⟨rs, ?_, he, hs, fun r hr => (hM r hr).keep (fun p hp => hb.cell (Nat.lt_of_lt_of_le hp hW.size)) fun b hb' => ⟨⟨by have := hW.size; omega, by omega⟩, by have := hb.size; have := hW.size; omega⟩⟩, hx.keep hb⟩
  · rcases ho.2 with ⟨e, _⟩ | ⟨g', cap', cur, e, _, hh, _⟩
    · cases e
    · injection e with e
      injection e with e
      injection e with e
      subst e
      simp [World.frozen?, hh]
  · obtain ⟨A', c', e, hr⟩ := raws_own ho
    injection e with e1 e2 e3
    subst e1
    refine ⟨hr.1, fun hn => ?_⟩
    obtain ⟨ad, e, _, hc⟩ := hr.2 hn
    injection e with e
    subst e
    exact ⟨_, rfl, rfl, hc⟩

end Trf
end Go.Proofs.Ythjlhjbblnoldaa
