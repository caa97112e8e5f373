/-
  Appending one entry to a full slice of entries; a row of the call's own whose slices of lines are laid anew. Conditions: those of each theorem.
-/
import Derived.Test.YtheamhjgohacdaaTri
import Derived.Deep.AppendLies
namespace Go.Proofs.Ytheamhjgohacdaa
open Go.RowKit Bk
namespace Pst
set_option linter.unusedVariables false

theorem raws_cells {w : World} {ok : Nat → Prop} {ad : Addr} {n : Nat} {rs : List Rw} (h : Raws w ok (some ad) n rs) (j : Nat) (u : Value) (hu : (cel rs)[j]? = some u) : w.cell? (ad.add j) = some u := by
  have hl : j < rs.length * 3 := by rw [← cel_length]; exact (List.getElem?_eq_some_iff.1 hu).1
  have hm : j / 3 < rs.length := by omega
  have hy : rs[j / 3]? = some rs[j / 3] := List.getElem?_eq_getElem hm
  obtain ⟨ad', e, _, hc⟩ := h.2 (by have := h.1; omega)
  injection e with e
  subst e
  obtain ⟨c0, c1, c2⟩ := hc _ _ hy
  obtain ⟨g0, g1, g2⟩ := cel_get hy
  rcases (by omega : j = j / 3 * 3 ∨ j = j / 3 * 3 + 1 ∨ j = j / 3 * 3 + 2) with hj | hj | hj
  · rw [hj, g0] at hu
    rw [hj, c0]; exact hu
  · rw [hj, g1] at hu
    rw [hj, c1]; exact hu
  · rw [hj, g2] at hu
    rw [hj, c2]; exact hu
theorem bx_news {w : World} {b : Nat} {r : Rw} (h : Bx w b 24 #[.int .i64 r.d, .int .i64 r.f, .slice r.L r.m r.c]) (j : Nat) (u : Value) (hu : (cel [r])[j]? = some u) : w.cell? ((⟨b, 0, none⟩ : Addr).add j) = some u :=
  World.news_of_block (cs := #[.int .i64 r.d, .int .i64 r.f, .slice r.L r.m r.c]) h j u hu

theorem run_grow (w : World) (ty : TypeId) (ok : Nat → Prop) (A : Option Addr) (n : Nat) (rs : List Rw) (hR : Raws w ok A n rs) (b : Nat) (r : Rw) (hb : Bx w b 24 #[.int .i64 r.d, .int .i64 r.f, .slice r.L r.m r.c]) (hn : n ≤ 2000) :
    ∃ g cap w', (Builtin.append_ #[27, 27] ty #[.slice A n n, .slice (some ⟨b, 0, none⟩) 1 1]).run Try.prog w = .ok (.slice (some ⟨g, 0, none⟩) (n + 1) cap) w' ∧ w'.ownsRow w.heap.size 24 3 (.slice (some ⟨g, 0, none⟩) (n + 1) cap) (n + 1) (cel (rs ++ [r])) ∧ Below w.heap.size w w' ∧ w.heap.size ≤ g ∧ g < w'.heap.size := by
  obtain ⟨i, hi, hz, h1, h2⟩ := info_parts info_entry
  rw [cel_append]
  cases A with
  | some ad =>
    obtain ⟨v', w', hrun, r1, r2⟩ := run_append_arg_grows (P := Try.prog) w 27 ty 24 i _ 3 40 Try.underlying27 hi hz h1 h2 rfl (by omega) ad n n (cel rs) (by rw [cel_length, hR.1]) (raws_cells hR) ⟨b, 0, none⟩ 1 1 (cel [r]) rfl (bx_news hb) (by omega) (by unfold maxLen; omega) (by omega)
    obtain ⟨g, cap, rfl, hlo, hlt⟩ := r1.form (by omega)
    exact ⟨g, cap, w', hrun, r1, below_of_grown r2, hlo, hlt⟩
  | none =>
    obtain rfl : n = 0 := by
      rcases Nat.eq_zero_or_pos n with h0 | h0
      · exact h0
      · obtain ⟨ad, e, _⟩ := hR.2 h0; cases e
    obtain rfl : rs = [] := List.eq_nil_of_length_eq_zero hR.1
    obtain ⟨v', w', hrun, r1, r2, _⟩ := run_append_own (P := Try.prog) w w.heap.size 27 ty 24 i _ 3 40 Try.underlying27 hi hz h1 h2 rfl (by omega) (.slice none 0 0) 0 [] (World.ownsRow_nil w _ _ 3) ⟨b, 0, none⟩ 1 1 (cel [r]) rfl (bx_news hb) (cel_cell [r]) (by unfold maxLen; omega) (by omega) (Nat.le_refl _)
    obtain ⟨g, cap, rfl, hlo, hlt⟩ := r1.form (by omega)
    exact ⟨g, cap, w', hrun, r1, below_of_grown r2, hlo, hlt⟩

/-- As a step of a region that draws its order. -/
theorem step_grow (w : World) {ops : Array Oper} {o : Oper} {a : Act} {K : Act → World → Prop} {Q : Exit → Act → World → Prop} {E : Prop} (hgd : o.guard = none) (s x : Operand)
    (ho : o.op = .call { callee := .builtin .append, args := #[s, x], argTypes := #[27, 27] })
    (ok : Nat → Prop) (A : Option Addr) (n : Nat) (rs : List Rw) (hs : a.eval s = .slice A n n) (hR : Raws w ok A n rs)
    (b : Nat) (r : Rw) (hx : a.eval x = .slice (some ⟨b, 0, none⟩) 1 1) (hb : Bx w b 24 #[.int .i64 r.d, .int .i64 r.f, .slice r.L r.m r.c]) (hn : n ≤ 2000)
    (h : ∀ g cap w', w'.ownsRow w.heap.size 24 3 (.slice (some ⟨g, 0, none⟩) (n + 1) cap) (n + 1) (cel (rs ++ [r])) → Below w.heap.size w w' → w.heap.size ≤ g → g < w'.heap.size → K (a.put o.dst (.slice (some ⟨g, 0, none⟩) (n + 1) cap)) w') :
    if Region.wanted o (yielded ops a.tmps) = true then Oper.wp Try.prog o a w K Q else E := by
  have hw : Region.wanted o (yielded ops a.tmps) = true := by simp [Region.wanted, hgd]
  rw [if_pos hw]
  obtain ⟨g, cap, w', hrun, r1, r2, r3, r4⟩ := run_grow w o.type ok A n rs hR b r hb hn
  unfold Oper.wp execOp
  simp only [ho, resolve, invoke, builtin, Sem.run_bind, Sem.run_pure, Result.andThen_ok, List.map_toArray, List.map_cons, List.map_nil, hs, hx, hrun]
  exact h g cap w' r1 r2 r3 r4

/-- The row of the call's own, and what it means: lines lie elsewhere. -/
structure PL (w w1 : World) (g n q : Nat) (es : List En) : Prop where
  b : Below w.heap.size w w1
  lo : w.heap.size + 2 < g
  lt : g < w1.heap.size
  fz : ∀ o, w1.frozen? ⟨g, o, none⟩ = false
  rows : ∃ rs, Raws w1 (· = g) (some ⟨g, 0, none⟩) n rs ∧ rs.length = es.length ∧ ∀ (j : Nat) (r : Rw) (e : En), rs[j]? = some r → es[j]? = some e → Mean w1 (fun b => ((b < w.heap.size ∧ q ≤ j) ∨ g < b) ∧ b < w1.heap.size) r e
  x : Bx w1 (w.heap.size + 2) 29 #[.slice none 0 0]

theorem Raws.set {w : World} {g n k : Nat} {rs : List Rw} {r : Rw} (h : Raws w (· = g) (some ⟨g, 0, none⟩) n rs) (hr : rs[k]? = some r) (L : Option Addr) (m c : Nat) :
    Raws (w.setCell ⟨g, k * 3 + 2, none⟩ (.slice L m c)) (· = g) (some ⟨g, 0, none⟩) n (rs.set k ⟨r.d, r.f, L, m, c⟩) := by
  refine ⟨by rw [List.length_set]; exact h.1, fun hn => ?_⟩
  obtain ⟨ad, e, _, hc⟩ := h.2 hn
  injection e with e
  subst e
  refine ⟨_, rfl, rfl, fun j r' hr' => ?_⟩
  have cell : ∀ o, o ≠ k * 3 + 2 → (w.setCell ⟨g, k * 3 + 2, none⟩ (.slice L m c)).cell? ((⟨g, 0, none⟩ : Addr).add o) = w.cell? ((⟨g, 0, none⟩ : Addr).add o) := by
    intro o ho
    rw [Addr.add_lit]
    exact World.cell?_setCell_other _ _ _ _ (by intro e; injection e with _ e2; omega)
  by_cases hjk : j = k
  · subst hjk
    have hlt : j < rs.length := (List.getElem?_eq_some_iff.1 hr).1
    rw [List.getElem?_set_self hlt] at hr'
    injection hr' with hr'
    subst hr'
    obtain ⟨c0, c1, c2⟩ := hc _ _ hr
    refine ⟨(cell _ (by omega)).trans c0, (cell _ (by omega)).trans c1, ?_⟩
    rw [Addr.add_lit] at c2 ⊢
    rw [Nat.zero_add] at c2 ⊢
    exact World.cell?_setCell_same _ _ _ c2
  · rw [List.getElem?_set_ne (Ne.symm hjk)] at hr'
    obtain ⟨c0, c1, c2⟩ := hc _ _ hr'
    exact ⟨(cell _ (by omega)).trans c0, (cell _ (by omega)).trans c1, (cell _ (by omega)).trans c2⟩

section
variable {w w1 w2 : World} {g n k : Nat} {es : List En}
theorem PL.get (h : PL w w1 g n k es) (hk : k < n) : ∃ (d f : Int) (ls : List Pr) (L : Option Addr) (m c : Nat), es[k]? = some ⟨d, f, ls⟩ ∧ w1.cell? ⟨g, k * 3, none⟩ = some (.int .i64 d) ∧ w1.cell? ⟨g, k * 3 + 1, none⟩ = some (.int .i64 f) ∧ w1.cell? ⟨g, k * 3 + 2, none⟩ = some (.slice L m c) ∧ Lns w1 (fun b => (b < w.heap.size ∨ g < b) ∧ b < w1.heap.size) L m ls := by
  obtain ⟨rs, a, b⟩ := h.rows
  obtain ⟨ad, e, hb, hc⟩ := a.2 (by omega)
  injection e with e
  subst e
  have hl : k < rs.length := by have := a.1; omega
  have hl2 : k < es.length := by rw [← b.1]; exact hl
  obtain ⟨c0, c1, c2⟩ := hc k _ (List.getElem?_eq_getElem hl)
  have M := b.2 k _ _ (List.getElem?_eq_getElem hl) (List.getElem?_eq_getElem hl2)
  rw [Addr.add_lit, Nat.zero_add] at c0 c1 c2
  refine ⟨es[k].day, es[k].fr, es[k].ls, rs[k].L, rs[k].m, rs[k].c, List.getElem?_eq_getElem hl2, ?_, c1.trans (by rw [M.f]), c2, M.l.keep (fun _ _ => rfl) fun b hb => ⟨hb.1.elim (fun h => .inl h.1) .inr, hb.2⟩⟩
  rw [c0, M.d]
/-- Lines of one entry laid anew. -/
theorem PL.put (h : PL w w1 g n k es) (hk : k < n) (o : Obj) (hb : Below (w1.alloc o).heap.size (w1.alloc o) w2) {d f : Int} {ls : List Pr} (he : es[k]? = some ⟨d, f, ls⟩) {L : Option Addr} {m c : Nat} (hl : Lns w2 (fun b => (w1.alloc o).heap.size ≤ b ∧ b < w2.heap.size) L m ls) :
    PL w (w2.setCell ⟨g, k * 3 + 2, none⟩ (.slice L m c)) g n (k + 1) es := by
  have hb' := below_alloc hb
  have hsz : ((w2.setCell ⟨g, k * 3 + 2, none⟩ (.slice L m c)).heap.size) = w2.heap.size := by simp
  have hlt2 : w1.heap.size ≤ w2.heap.size := hb'.size
  have hlo := h.lo
  have hlt := h.lt
  refine ⟨(h.b.trans (hb'.mono h.b.size)).setCell (p := ⟨g, k * 3 + 2, none⟩) (by show w.heap.size ≤ g; omega) _, h.lo, by rw [hsz]; omega, fun o' => ?_, ?_, (h.x.keep hb').far (by show w.heap.size + 2 ≠ g; omega) _⟩
  · have := h.fz o'
    rw [← hb'.frozen (p := ⟨g, o', none⟩) hlt] at this
    rw [← this]
    simp
  · obtain ⟨rs, a, b⟩ := h.rows
    have hlk : k < rs.length := by have := a.1; omega
    have hr : rs[k]? = some rs[k] := List.getElem?_eq_getElem hlk
    have M := b.2 k _ _ hr he
    refine ⟨rs.set k ⟨rs[k].d, rs[k].f, L, m, c⟩, (a.keep (w' := w2) (ok' := (· = g)) (fun p hp => hb'.cell (by rw [hp]; exact hlt)) fun _ h => h).set hr L m c, by rw [List.length_set]; exact b.1, fun j r e hj hej => ?_⟩
    by_cases hjk : j = k
    · subst hjk
      rw [List.getElem?_set_self hlk] at hj
      injection hj with hj
      subst hj
      rw [he] at hej
      injection hej with hej
      subst hej
      refine ⟨M.d, M.f, hl.keep (fun p hp => World.cell?_setCell_other _ _ _ _ (fun e => ?_)) fun b hb => ⟨.inr ?_, by rw [hsz]; exact hb.2⟩⟩
      · have := hp.1
        rw [← e] at this
        simp at this
        omega
      · have := hb.1
        simp at this
        omega
    · rw [List.getElem?_set_ne (Ne.symm hjk)] at hj
      refine (b.2 j r e hj hej).keep (fun p hp => ?_) fun b hb => ⟨hb.1.elim (fun h => .inl ⟨h.1, by omega⟩) .inr, by rw [hsz]; omega⟩
      rw [World.cell?_setCell_other _ _ _ _ (fun e => by have := hp.1; rw [← e] at this; simp only at this; omega)]
      exact hb'.cell hp.2
/-- The result's box is stored into: all lies in memory of the call's own. -/
theorem PL.done (h : PL w w1 g n n es) (u : Value) : EntsP (w1.setCell ⟨w.heap.size + 2, 0, none⟩ u) (fun b => w.heap.size ≤ b ∧ b < w1.heap.size) (some ⟨g, 0, none⟩) n es := by
  obtain ⟨rs, a, b⟩ := h.rows
  have hlo := h.lo
  have hlt := h.lt
  refine ⟨rs, a.keep (fun p hp => World.cell?_setCell_other _ _ _ _ (fun e => ?_)) fun b hb => by rw [hb]; omega, b.1, fun j r e hr he => ?_⟩
  · rw [← e] at hp; simp only at hp; omega
  · have hj : j < n := by rw [← a.1]; exact (List.getElem?_eq_some_iff.1 hr).1
    refine (b.2 j r e hr he).keep (fun p hp => World.cell?_setCell_other _ _ _ _ (fun e => ?_)) fun b hb => ⟨?_, hb.2⟩
    · have := hp.1; rw [← e] at this; simp only at this; omega
    · have := hb.1; omega
end

/-- The row as append leaves it. -/
theorem PL.start {w W w' : World} {g n cap : Nat} {rs : List Rw} {es : List En} (hW : Below w.heap.size w W) (hx : Bx W (w.heap.size + 2) 29 #[.slice none 0 0]) (ho : w'.ownsRow W.heap.size 24 3 (.slice (some ⟨g, 0, none⟩) n cap) n (cel rs)) (hb : Below W.heap.size W w') (hg : W.heap.size ≤ g) (hlt : g < w'.heap.size) (hM : Means W (· < w.heap.size) rs es) : PL w w' g n 0 es := by
  have hxl := hx.lt
  refine ⟨hW.trans (hb.mono hW.size), by omega, hlt, fun o => ?_, ⟨rs, ⟨?_, fun hn => ⟨_, rfl, rfl, fun j r hr => ?_⟩⟩, hM.1, fun j r e hr he => (hM.2 j r e hr he).keep (fun p hp => hb.cell (Nat.lt_of_lt_of_le hp hW.size)) fun b hb' => ⟨.inl ⟨hb', Nat.zero_le _⟩, by have := hb.size; have := hW.size; omega⟩⟩, hx.keep hb⟩
  · rcases ho.2 with ⟨e, _⟩ | ⟨g', cap', cur, e, _, hh, _⟩
    · cases e
    · injection e with e
      injection e with e
      injection e with e
      subst e
      simp [World.frozen?, hh]
  · have := ho.1
    rw [cel_length] at this
    omega
  · obtain ⟨g0, g1, g2⟩ := cel_get hr
    exact ⟨World.ownsRow.cells (g := g) ho rfl _ _ g0, World.ownsRow.cells (g := g) ho rfl _ _ g1, World.ownsRow.cells (g := g) ho rfl _ _ g2⟩

end Pst
end Go.Proofs.Ytheamhjgohacdaa
