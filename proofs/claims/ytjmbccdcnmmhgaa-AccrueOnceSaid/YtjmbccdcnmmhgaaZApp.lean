/-
  Appending to a row of ints of the call's own, and where the new row lies; two such rows beside one another. Conditions: those of each theorem.
-/
import Derived.Test.YtjmbccdcnmmhgaaZBase
import Derived.OwnWalkIn
import Derived.RangeFuncBox
namespace Go.Proofs.Ytjmbccdcnmmhgaa
open Go.RowKit Stm
namespace Stp
set_option linter.unusedVariables false

/-- The new row lies where the old one lay, or in new memory. -/
def Wh (w : World) (u v : Value) : Prop := v.ownBlock = u.ownBlock ∨ ∃ g, v.ownBlock = some g ∧ w.heap.size ≤ g

theorem run_appW (w : World) (base : Nat) (ty : TypeId) (A : Option Addr) (n c : Nat) (xs : List Int) (hown : OwnI w base A n c xs) (ad : Addr) (m d B : Nat) (ys : List Int) (hr : Ints w B (some ad) m ys) (h0 : 0 < m) (hlen : n + m ≤ 4000000) (hbase : base ≤ w.heap.size) :
    ∃ A' c' w', (Builtin.append_ #[31, 31] ty #[.slice A n c, .slice (some ad) m d]).run Try.prog w = .ok (.slice A' (n + m) c') w' ∧ OwnI w' base A' (n + m) c' (xs ++ ys) ∧ w.grownBy w' (Value.slice A n c).ownBlock ∧ Wh w (.slice A n c) (.slice A' (n + m) c') := by
  obtain ⟨i, hi, hz, h1, h2⟩ := info_parts info_int
  have hl : (ys.map (Value.int .i64)).length = m * 1 := by simpa using hr.1
  obtain ⟨v', w', hrun, hO, hg, _⟩ := run_append_own (P := Try.prog) w base 31 ty 3 i _ 1 8 Try.underlying31 hi hz h1 h2 rfl (by omega) (.slice A n c) n _ hown ad m d (ys.map (Value.int .i64)) hl (ints_cells hr) (ints_one ys) (by unfold maxLen; omega) (by omega) hbase
  rw [← List.map_append] at hO
  obtain ⟨A', c', rfl, hO'⟩ := own_of_row hO
  refine ⟨A', c', w', hrun, hO', hg, ?_⟩
  rcases hown.2 with ⟨e, hn⟩ | ⟨g, cap, cur, e, hbg, hgg, hnc, hcm, hcs, htake⟩
  · injection e with e1 e2 e3
    subst e1 e2 e3
    have hx := run_append_nil (P := Try.prog) w 31 ty 3 i _ Try.underlying31 hi hz ad m d (ys.map (Value.int .i64)) (by rw [h1]; exact hl) (ints_cells hr) h0 (by omega) (by rw [h2]; omega)
    rw [hrun] at hx
    injection hx with hx1 hx2
    injection hx1 with hx3
    refine .inr ⟨w.heap.size, ?_, Nat.le_refl _⟩
    rw [hx3]; rfl
  · injection e with e1 e2 e3
    subst e1 e3
    by_cases hroom : n + m ≤ c
    · have hx := run_append_room (P := Try.prog) w 31 ty 3 i Try.underlying31 hi g n c cur hgg ad m d (ys.map (Value.int .i64)) (by rw [h1]; exact hl) (ints_cells hr) (ints_one ys) hroom (by rw [h1, hl, hcs]; omega)
      rw [hrun] at hx
      injection hx with hx1 hx2
      injection hx1 with hx3
      refine .inl ?_
      rw [hx3]; rfl
    · have hx := run_append_grow (P := Try.prog) w 31 ty 3 i _ Try.underlying31 hi hz ⟨g, 0, none⟩ n c (xs.map (Value.int .i64)) (by rw [h1]; exact hown.1) (World.ownsRow.cells (g := g) hown rfl) ad m d (ys.map (Value.int .i64)) (by rw [h1]; exact hl) (ints_cells hr) (by omega) (by omega) (growslice_fits (by omega) (by rw [h2]; omega))
      rw [hrun] at hx
      injection hx with hx1 hx2
      injection hx1 with hx3
      refine .inr ⟨w.heap.size, ?_, Nat.le_refl _⟩
      rw [hx3]; rfl

theorem wpListIn_appW {F : Fence} {k : Nat} (w : World) {ops : Array Oper} {rest : List Oper} {o : Oper} {a : Act} {Q : Exit → Act → World → Prop} (hgd : o.guard = none) (s x : Operand)
    (ho : o.op = .call { callee := .builtin .append, args := #[s, x], argTypes := #[31, 31] })
    (base : Nat) (A : Option Addr) (n c : Nat) (xs : List Int) (hs : a.eval s = .slice A n c) (hown : OwnI w base A n c xs)
    (B : Nat) (ad : Addr) (m d : Nat) (ys : List Int) (hx : a.eval x = .slice (some ad) m d) (hr : Ints w B (some ad) m ys) (h0 : 0 < m) (hlen : n + m ≤ 4000000) (hbase : base ≤ w.heap.size)
    (h : ∀ A' c' w', OwnI w' base A' (n + m) c' (xs ++ ys) → w.grownBy w' (Value.slice A n c).ownBlock → Wh w (.slice A n c) (.slice A' (n + m) c') → wpListIn F k Try.prog ops Q rest (a.put o.dst (.slice A' (n + m) c')) w') :
    wpListIn F k Try.prog ops Q (o :: rest) a w := by
  refine wpListIn_plain hgd fun K hK' => ?_
  obtain ⟨A', c', w', hrun, r1, r2, r3⟩ := run_appW w base o.type A n c xs hown ad m d B ys hr h0 hlen hbase
  unfold Oper.wpIn
  refine ⟨?_, ?_⟩
  · simp [Oper.about, ho, resolve, Target.leads, Sem.run_pure]
  · rw [Oper.semAt_plain F _ _ (by rw [ho]; intro c hc'; cases hc')]
    simp [execOp, ho, resolve, invoke, builtin, hs, hx, hrun, Result.andThen]
    exact hK' _ _ (h A' c' w' r1 r2 r3)

theorem wpList_appW (w : World) {ops : Array Oper} {rest : List Oper} {o : Oper} {a : Act} {Q : Exit → Act → World → Prop} (hgd : o.guard = none) (s x : Operand)
    (ho : o.op = .call { callee := .builtin .append, args := #[s, x], argTypes := #[31, 31] })
    (base : Nat) (A : Option Addr) (n c : Nat) (xs : List Int) (hs : a.eval s = .slice A n c) (hown : OwnI w base A n c xs)
    (B : Nat) (ad : Addr) (m d : Nat) (ys : List Int) (hx : a.eval x = .slice (some ad) m d) (hr : Ints w B (some ad) m ys) (h0 : 0 < m) (hlen : n + m ≤ 4000000) (hbase : base ≤ w.heap.size)
    (h : ∀ A' c' w', OwnI w' base A' (n + m) c' (xs ++ ys) → w.grownBy w' (Value.slice A n c).ownBlock → Wh w (.slice A n c) (.slice A' (n + m) c') → wpList Try.prog ops Q rest (a.put o.dst (.slice A' (n + m) c')) w') :
    wpList Try.prog ops Q (o :: rest) a w := by
  refine wpList_plain hgd fun K hK' => ?_
  obtain ⟨A', c', w', hrun, r1, r2, r3⟩ := run_appW w base o.type A n c xs hown ad m d B ys hr h0 hlen hbase
  unfold Oper.wp execOp
  simp only [ho, resolve, invoke, builtin, Sem.run_bind, Sem.run_pure, Result.andThen_ok, List.map_toArray, List.map_cons, List.map_nil, hs, hx, hrun]
  exact hK' _ _ (h A' c' w' r1 r2 r3)

/-- Appending in a region that draws its order. -/
theorem step_appW (w : World) {ops : Array Oper} {o : Oper} {a : Act} {K : Act → World → Prop} {Q : Exit → Act → World → Prop} {E : Prop} (hgd : o.guard = none) (s x : Operand)
    (ho : o.op = .call { callee := .builtin .append, args := #[s, x], argTypes := #[31, 31] })
    (base : Nat) (A : Option Addr) (n c : Nat) (xs : List Int) (hs : a.eval s = .slice A n c) (hown : OwnI w base A n c xs)
    (B : Nat) (ad : Addr) (m d : Nat) (ys : List Int) (hx : a.eval x = .slice (some ad) m d) (hr : Ints w B (some ad) m ys) (h0 : 0 < m) (hlen : n + m ≤ 4000000) (hbase : base ≤ w.heap.size)
    (h : ∀ A' c' w', OwnI w' base A' (n + m) c' (xs ++ ys) → w.grownBy w' (Value.slice A n c).ownBlock → Wh w (.slice A n c) (.slice A' (n + m) c') → K (a.put o.dst (.slice A' (n + m) c')) w') :
    if Region.wanted o (yielded ops a.tmps) = true then Oper.wp Try.prog o a w K Q else E := by
  have hw : Region.wanted o (yielded ops a.tmps) = true := by simp [Region.wanted, hgd]
  rw [if_pos hw]
  obtain ⟨A', c', w', hrun, r1, r2, r3⟩ := run_appW w base o.type A n c xs hown ad m d B ys hr h0 hlen hbase
  unfold Oper.wp execOp
  simp only [ho, resolve, invoke, builtin, Sem.run_bind, Sem.run_pure, Result.andThen_ok, List.map_toArray, List.map_cons, List.map_nil, hs, hx, hrun]
  exact h A' c' w' r1 r2 r3

/-- Two rows of the call's own, apart. -/
structure OwnS (w : World) (base : Nat) (A : Option Addr) (n c : Nat) (V : Option Addr) (m d : Nat) (xs vs : List Int) : Prop where
  a : OwnI w base A n c xs
  v : OwnI w base V m d vs
  dj : ∀ g, (Value.slice A n c).ownBlock = some g → (Value.slice V m d).ownBlock ≠ some g
section
variable {w w' w2 : World} {base n c m d : Nat} {A V : Option Addr} {xs vs : List Int}
theorem OwnS.nil : OwnS w base none 0 0 none 0 0 [] [] := ⟨OwnI.nil, OwnI.nil, fun g h => by cases h⟩
theorem OwnS.below (h : OwnS w base A n c V m d xs vs) (hb : Below w.heap.size w w') : OwnS w' base A n c V m d xs vs := ⟨h.a.below hb, h.v.below hb, h.dj⟩
theorem OwnS.alloc (h : OwnS w base A n c V m d xs vs) (o : Obj) : OwnS (w.alloc o) base A n c V m d xs vs := ⟨h.a.alloc o, h.v.alloc o, h.dj⟩
theorem OwnS.sx (h : OwnS w base A n c V m d xs vs) : Sx w w.heap.size A n V m xs vs := ⟨h.a.ints.1, h.v.ints.1⟩
theorem own_apart {u v : Value} (hd : ∀ g, u.ownBlock = some g → v.ownBlock ≠ some g) : v.ownBlock = none ∨ v.ownBlock ≠ u.ownBlock := by
  cases hv : v.ownBlock with
  | none => exact .inl rfl
  | some g => exact .inr (fun e => hd g e.symm hv)
/-- The first row grew. -/
theorem OwnS.appA (h : OwnS w base A n c V m d xs vs) {A' : Option Addr} {n' c' : Nat} {zs : List Int} (hO : OwnI w' base A' n' c' zs) (hg : w.grownBy w' (Value.slice A n c).ownBlock) (hw : Wh w (.slice A n c) (.slice A' n' c')) : OwnS w' base A' n' c' V m d zs vs := by
  refine ⟨hO, h.v.grown hg (own_apart h.dj), fun g e => ?_⟩
  rcases hw with e2 | ⟨k, e2, hk⟩
  · exact h.dj g (by rw [← e2]; exact e)
  · rw [e] at e2
    injection e2 with e2
    intro hv
    have := (h.v.lt g hv).2
    omega
/-- The second row grew. -/
theorem OwnS.appV (h : OwnS w base A n c V m d xs vs) {V' : Option Addr} {m' d' : Nat} {zs : List Int} (hO : OwnI w' base V' m' d' zs) (hg : w.grownBy w' (Value.slice V m d).ownBlock) (hw : Wh w (.slice V m d) (.slice V' m' d')) : OwnS w' base A n c V' m' d' xs zs := by
  refine ⟨h.a.grown hg (own_apart fun g e hv => h.dj g hv e), hO, fun g e hv => ?_⟩
  rcases hw with e2 | ⟨k, e2, hk⟩
  · exact h.dj g e (by rw [← e2]; exact hv)
  · rw [hv] at e2
    injection e2 with e2
    have := (h.a.lt g e).2
    omega
/-- Another block's cell is stored. -/
theorem OwnI.far (h : OwnI w base A n c xs) {p : Addr} (hp : ∀ g, (Value.slice A n c).ownBlock = some g → g ≠ p.block) (u : Value) : OwnI (w.setCell p u) base A n c xs := by
  refine World.ownsRow.kept h (row := some p.block) ⟨rfl, rfl, rfl, (KeepsWalks.setCell w _ u).size, fun k _ hk => Below.heap_setCell _ _ _ k (fun e => hk (by rw [e]))⟩ ?_
  cases hv : (Value.slice A n c).ownBlock with
  | none => exact .inl rfl
  | some g => exact .inr (fun e => hp g hv (by injection e))
theorem OwnS.far (h : OwnS w base A n c V m d xs vs) {p : Addr} (hp : ∀ g, (Value.slice A n c).ownBlock = some g → g ≠ p.block) (hq : ∀ g, (Value.slice V m d).ownBlock = some g → g ≠ p.block) (u : Value) : OwnS (w.setCell p u) base A n c V m d xs vs := ⟨h.a.far hp u, h.v.far hq u, h.dj⟩
/-- A row of ints is no box of another type. -/
theorem OwnI.not_box {t : TypeId} {cs : Array Value} {b : Nat} (h : OwnI w base A n c xs) (hb : w.heap[b]? = some (.cells cs t (0, 0))) (ht : t ≠ 3) : ∀ g, (Value.slice A n c).ownBlock = some g → g ≠ b := by
  intro g e hgb
  subst hgb
  rcases h.2 with ⟨e2, _⟩ | ⟨g', cap, cur, e2, _, hgg, _⟩
  · rw [e2] at e; cases e
  · rw [e2] at e
    simp [Value.ownBlock] at e
    subst e
    rw [hb] at hgg
    simp at hgg
    exact ht hgg.2
theorem OwnI.abide {row : Option Nat} (h : OwnI w base A n c xs) (hg : w.grownBy w' row) (hr : ∀ r, row = some r → ∃ o : Obj, w.heap[r]? = some o ∧ o.isCells = false) : OwnI w' base A n c xs := by
  refine World.ownsRow.kept h hg ?_
  rcases h.2 with ⟨e, _⟩ | ⟨g, cap, cur, e, _, hgb, _⟩
  · rw [e]; exact .inl rfl
  · rw [e]
    refine .inr fun e' => ?_
    obtain ⟨o, ho, hc⟩ := hr g (by simpa [Value.ownBlock] using e'.symm)
    rw [hgb] at ho; cases ho; cases hc
theorem OwnS.abide {row : Option Nat} (h : OwnS w base A n c V m d xs vs) (hg : w.grownBy w' row) (hr : ∀ r, row = some r → ∃ o : Obj, w.heap[r]? = some o ∧ o.isCells = false) : OwnS w' base A n c V m d xs vs := ⟨h.a.abide hg hr, h.v.abide hg hr, h.dj⟩
theorem cells_abide {row : Option Nat} {b : Nat} {cs : Array Value} {t : TypeId} (h : w.heap[b]? = some (.cells cs t (0, 0))) (hg : w.grownBy w' row) (hr : ∀ r, row = some r → ∃ o : Obj, w.heap[r]? = some o ∧ o.isCells = false) : w'.heap[b]? = some (.cells cs t (0, 0)) := by
  refine (hg.block b (Array.getElem?_eq_some_iff.1 h).1 ?_).trans h
  intro e
  obtain ⟨o, ho, hc⟩ := hr b e.symm
  rw [h] at ho; cases ho; cases hc
/-- A box stays while an own row of ints grows. -/
theorem cells_grown {b : Nat} {cs : Array Value} {t : TypeId} (hO : OwnI w base A n c xs) (h : w.heap[b]? = some (.cells cs t (0, 0))) (ht : t ≠ 3) (hg : w.grownBy w' (Value.slice A n c).ownBlock) : w'.heap[b]? = some (.cells cs t (0, 0)) :=
  (hg.block b (Array.getElem?_eq_some_iff.1 h).1 (fun e => hO.not_box h ht b e.symm rfl)).trans h
theorem ints_new1 (w : World) (x : Int) : Ints (w.alloc (.cells #[.int .i64 x] 3)) (w.heap.size + 1) (some ⟨w.heap.size, 0, none⟩) 1 [x] := by
  refine ⟨rfl, fun _ => ⟨_, rfl, by simp, fun j z hz => ?_⟩⟩
  have hh : (w.alloc (.cells #[.int .i64 x] 3)).heap[w.heap.size]? = some (.cells #[.int .i64 x] 3 (0, 0)) := heap_alloc_new w _
  match j, hz with
  | 0, hz =>
    simp at hz; subst hz
    have ea : (⟨w.heap.size, 0, none⟩ : Addr).add 0 = ⟨w.heap.size, 0, none⟩ := by unfold Addr.add; simp
    rw [ea, cell_of_row _ _ 0 _ _ _ hh]; rfl
  | j + 1, hz => simp at hz
end

theorem ints_new2 (w : World) (x y : Int) : Ints (w.alloc (.cells #[.int .i64 x, .int .i64 y] 3)) (w.heap.size + 1) (some ⟨w.heap.size, 0, none⟩) 2 [x, y] := by
  refine ⟨rfl, fun _ => ⟨_, rfl, by simp, fun j z hz => ?_⟩⟩
  have hh : (w.alloc (.cells #[.int .i64 x, .int .i64 y] 3)).heap[w.heap.size]? = some (.cells #[.int .i64 x, .int .i64 y] 3 (0, 0)) := heap_alloc_new w _
  have ea : ∀ i, (⟨w.heap.size, 0, none⟩ : Addr).add i = ⟨w.heap.size, i, none⟩ := fun i => by unfold Addr.add; split <;> simp_all
  rw [ea, cell_of_row _ _ j _ _ _ hh]
  match j, hz with
  | 0, hz => simp at hz; subst hz; rfl
  | 1, hz => simp at hz; subst hz; rfl
  | j + 2, hz => simp at hz
theorem OwnI.low {w : World} {base b n c : Nat} {A : Option Addr} {xs : List Int} (h : OwnI w base A n c xs) (hb : b ≤ base) : OwnI w b A n c xs := by
  refine ⟨h.1, ?_⟩
  rcases h.2 with e | ⟨g, cap, cur, e, hbg, rest⟩
  · exact .inl e
  · exact .inr ⟨g, cap, cur, e, Nat.le_trans hb hbg, rest⟩
theorem OwnS.low {w : World} {base b n c m d : Nat} {A V : Option Addr} {xs vs : List Int} (h : OwnS w base A n c V m d xs vs) (hb : b ≤ base) : OwnS w b A n c V m d xs vs := ⟨h.a.low hb, h.v.low hb, h.dj⟩
theorem size_set (w : World) (p : Addr) (u : Value) : (w.setCell p u).heap.size = w.heap.size := by simp [World.setCell]
theorem ints_new1' (w : World) (x : Int) (N : Nat) (h : w.heap.size = N) : Ints (w.alloc (.cells #[.int .i64 x] 3)) (N + 1) (some ⟨N, 0, none⟩) 1 [x] := by subst h; exact ints_new1 w x

theorem ko_below {W W1 : World} (h : Below W.heap.size W W1) : KeepsOthers W W1 := KeepsOthers.of_grownBy (grown_of_below h) (fun j o e => by cases e)
theorem ko_app {w w' : World} {base n c : Nat} {A : Option Addr} {xs : List Int} (hO : OwnI w base A n c xs) (hg : w.grownBy w' (Value.slice A n c).ownBlock) : KeepsOthers w w' := by
  refine KeepsOthers.of_grownBy hg fun j o ej hj => ?_
  rcases hO.2 with ⟨e, _⟩ | ⟨g, cap, cur, e, _, hgb, _⟩
  · rw [e] at ej; cases ej
  · rw [e] at ej
    simp [Value.ownBlock] at ej
    subst ej
    rw [hgb] at hj; cases hj; rfl
theorem low_grown {w w' : World} {base n c b : Nat} {A : Option Addr} {xs : List Int} {o : Obj} (hO : OwnI w base A n c xs) (hg : w.grownBy w' (Value.slice A n c).ownBlock) (hb : b < base) (h : w.heap[b]? = some o) : w'.heap[b]? = some o :=
  (hg.block b (Array.getElem?_eq_some_iff.1 h).1 (fun e => by have := (hO.lt b e.symm).1; omega)).trans h
theorem low_ne {w : World} {base n c b : Nat} {A : Option Addr} {xs : List Int} (hO : OwnI w base A n c xs) (hb : b < base) : ∀ g, (Value.slice A n c).ownBlock = some g → g ≠ b := fun g e => by have := (hO.lt g e).1; omega
theorem below_app {w w' : World} {base B n c : Nat} {A : Option Addr} {xs : List Int} (hO : OwnI w base A n c xs) (hg : w.grownBy w' (Value.slice A n c).ownBlock) (hB : B ≤ base) (hbase : B ≤ w.heap.size) : Below B w w' :=
  (Below.refl B w).grown hg hbase (fun k e => Nat.le_trans hB (hO.lt k e).1)

end Stp
end Go.Proofs.Ytjmbccdcnmmhgaa
