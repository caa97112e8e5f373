/-
  Rows of ints of the call's own. Conditions: those of each theorem.
-/
import Derived.Test.YtkdhcloaeifbdaaGreatMRi
import Derived.Test.YtkdhcloaeifbdaaGreatKStable
import Derived.Test.YtkdhcloaeifbdaaGreatMCh
namespace Go.Proofs.YtkdhcloaeifbdaaGreat
open Go.RowKit Ba Cv Sp Te Ag
namespace Tm
set_option linter.unusedVariables false

/-- The history's box. -/
structure HX (w W : World) (h : Hr) : Prop where
  b : Below w.heap.size w W
  x : Bx W w.heap.size 31 (hc h)
theorem HX.next {w W W' : World} {h : Hr} (H : HX w W h) (hb : Below W.heap.size W W') : HX w W' h := ⟨H.b.trans (hb.mono H.b.size), H.x.keep hb⟩
theorem HX.start (w : World) (h : Hr) : HX w (w.alloc (.cells (hc h) 31)) h := ⟨alloc_ _ _, Bx.new _ _ _⟩
/-- The history's box and the change's. -/
structure HC (w W : World) (h : Hr) (r : Rw) : Prop where
  h : HX w W h
  y : Bx W (w.heap.size + 1) 52 (vc r)
theorem HC.next {w W W' : World} {h : Hr} {r : Rw} (H : HC w W h r) (hb : Below W.heap.size W W') : HC w W' h r := ⟨H.h.next hb, H.y.keep hb⟩
theorem HC.start (w : World) (h : Hr) (r : Rw) : HC w ((w.alloc (.cells (hc h) 31)).alloc (.cells (vc r) 52)) h r := by
  refine ⟨(HX.start w h).next (alloc_ _ _), ?_⟩
  have := Bx.new (w.alloc (.cells (hc h) 31)) 52 (vc r)
  rw [World.size_alloc] at this
  exact this
theorem map_get {rs : List Rw} {k : Nat} {r : Rw} (h : rs[k]? = some r) : (rs.map Rw.v)[k]? = some r.v := by rw [List.getElem?_map, h]; rfl
theorem last_zero {b : Int} {hs : List Ch} (h : hs.length = 0) : last b hs = b := by rw [List.eq_nil_of_length_eq_zero h]; rfl

end Tm
end Go.Proofs.YtkdhcloaeifbdaaGreat

namespace Go.Proofs.YtkdhcloaeifbdaaGreat
open Go.RowKit Ba Cv Sp Te Ag
namespace Tm
set_option linter.unusedVariables false

theorem info_int : (Tryz.prog.info? 3).map (fun i => (i.zero, i.size, i.bytes)) = some (some (.int .i64 0), 1, 8) := by kernel_rfl
/-- The slice with this address and length reads as these ints, in blocks that are asked for. -/
def Ins (w : World) (ok : Nat → Prop) (L : Option Addr) (m : Nat) (xs : List Int) : Prop :=
  xs.length = m ∧ (0 < m → ∃ ad : Addr, L = some ad ∧ ok ad.block ∧ ∀ (j : Nat) (x : Int), xs[j]? = some x → w.cell? (ad.add j) = some (.int .i64 x))
section
variable {w w' : World} {ok ok' : Nat → Prop} {m : Nat} {L : Option Addr} {xs : List Int}
theorem Ins.nil {L : Option Addr} : Ins w ok L 0 [] := ⟨rfl, fun h => absurd h (by omega)⟩
theorem Ins.get {k : Nat} (h : Ins w ok L m xs) (hk : k < m) : ∃ (ad : Addr) (x : Int), L = some ad ∧ ok ad.block ∧ xs[k]? = some x ∧ w.cell? (ad.add k) = some (.int .i64 x) := by
  obtain ⟨ad, e, hb, hc⟩ := h.2 (by omega)
  have hl : k < xs.length := by have := h.1; omega
  exact ⟨ad, xs[k], e, hb, List.getElem?_eq_getElem hl, hc k _ (List.getElem?_eq_getElem hl)⟩
theorem Ins.keep (h : Ins w ok L m xs) (hk : ∀ p : Addr, ok p.block → w'.cell? p = w.cell? p) (hw : ∀ b, ok b → ok' b) : Ins w' ok' L m xs :=
  ⟨h.1, fun hn => by
    obtain ⟨ad, e, hb, hc⟩ := h.2 hn
    exact ⟨ad, e, hw _ hb, fun j x hx => (hk _ (by rw [add_block]; exact hb)).trans (hc j x hx)⟩⟩
theorem Ins.below (h : Ins w (· < w.heap.size) L m xs) (hb : Below w.heap.size w w') : Ins w' (· < w'.heap.size) L m xs := h.keep (fun _ hp => hb.cell hp) fun b h => Nat.lt_of_lt_of_le h hb.size
theorem Ins.noroom (h : Ins w ok none m xs) : m = 0 := by
  rcases Nat.eq_zero_or_pos m with h0 | h0
  · exact h0
  · obtain ⟨ad, e, _⟩ := h.2 h0; cases e
theorem Ins.cells {ad : Addr} (h : Ins w ok (some ad) m xs) (j : Nat) (u : Value) (hu : (xs.map (Value.int .i64))[j]? = some u) : w.cell? (ad.add j) = some u := by
  rw [List.getElem?_map] at hu
  cases e : xs[j]? with
  | none => rw [e] at hu; cases hu
  | some x =>
    rw [e] at hu
    obtain ⟨ad', e', _, hc⟩ := h.2 (by have := h.1; have := (List.getElem?_eq_some_iff.1 e).1; omega)
    injection e' with e'
    subst e'
    rw [hc j x e]
    exact hu
end
def celi (xs : List Int) : List Value := xs.map (Value.int .i64)
theorem celi_length (xs : List Int) : (celi xs).length = xs.length * 1 := by simp [celi]
theorem celi_append (xs ys : List Int) : celi (xs ++ ys) = celi xs ++ celi ys := List.map_append
theorem celi_cell (xs : List Int) : ∀ u ∈ celi xs, u.oneCell' = true := by
  intro u hu
  obtain ⟨x, _, rfl⟩ := List.mem_map.1 hu
  rfl
/-- A row of the call's own reads as ints, in a block from base on. -/
theorem i_own_ {w : World} {base n : Nat} {v : Value} {xs : List Int} (h : w.ownsRow base 3 1 v n (celi xs)) : ∃ A c, v = .slice A n c ∧ Ins w (fun b => base ≤ b ∧ b < w.heap.size) A n xs := by
  have hl : xs.length = n := by have := h.1; rw [celi_length] at this; omega
  rcases h.2 with ⟨rfl, hn⟩ | ⟨g, cap, cur, rfl, hb, hh, hnc, hm, hs, ht⟩
  · subst hn
    exact ⟨_, _, rfl, hl, fun h => absurd h (by omega)⟩
  · refine ⟨_, _, rfl, hl, fun _ => ⟨_, rfl, ⟨hb, ?_⟩, fun j x hx => ?_⟩⟩
    · rcases Nat.lt_or_ge g w.heap.size with hlt | hge
      · exact hlt
      · rw [Array.getElem?_eq_none hge] at hh; cases hh
    · exact World.ownsRow.cells (g := g) h rfl j _ (by unfold celi; rw [List.getElem?_map, hx]; rfl)
/-- A row of the call's own, that reads as these. -/
def IOwn (w : World) (base : Nat) (A : Option Addr) (n c : Nat) (xs : List Int) : Prop := w.ownsRow base 3 1 (.slice A n c) n (celi xs)
section
variable {w w' : World} {base n c : Nat} {A : Option Addr} {xs : List Int}
theorem IOwn.nil : IOwn w base none 0 0 [] := World.ownsRow_nil w base _ 1
theorem IOwn.len (h : IOwn w base A n c xs) : xs.length = n := by have := h.1; rw [celi_length] at this; omega
theorem IOwn.lt (h : IOwn w base A n c xs) : ∀ k, (Value.slice A n c).ownBlock = some k → base ≤ k ∧ k < w.heap.size := World.ownsRow.lt h
theorem IOwn.below (h : IOwn w base A n c xs) (hb : Below w.heap.size w w') : IOwn w' base A n c xs := by
  refine World.ownsRow.kept h (grown_of_below hb) ?_
  cases A with
  | none => exact .inl rfl
  | some a => exact .inr (by simp [Value.ownBlock])
theorem IOwn.row (h : IOwn w base A n c xs) : Ins w (fun b => base ≤ b ∧ b < w.heap.size) A n xs := by
  obtain ⟨A', c', e, hl⟩ := i_own_ h
  injection e with e1 e2 e3
  subst e1
  exact hl
theorem IOwn.drew (h : IOwn w base A n c xs) : IOwn w.drew base A n c xs := h
theorem IOwn.made (w : World) : IOwn (w.alloc (.cells #[] 3)) w.heap.size (some ⟨w.heap.size, 0, none⟩) 0 0 [] := World.ownsRow_made w #[] 0 (Nat.le_refl _) (Nat.zero_le _) (by simp)
end
theorem own_of_row_i {w : World} {base k : Nat} {v : Value} {xs : List Int} (h : w.ownsRow base 3 1 v k (celi xs)) : ∃ A c, v = .slice A k c ∧ IOwn w base A k c xs := by
  rcases h.2 with ⟨rfl, hn⟩ | ⟨g, cap, cur, rfl, hr⟩
  · subst hn; exact ⟨_, _, rfl, h⟩
  · exact ⟨_, _, rfl, h⟩
/-- What append does. -/
theorem run_app_i (w : World) (ty : TypeId) (base : Nat) (A : Option Addr) (n c : Nat) (xs : List Int) (hown : IOwn w base A n c xs)
    (ok : Nat → Prop) (C : Option Addr) (m d : Nat) (ys : List Int) (hr : Ins w ok C m ys) (hnil : C = none → m = 0 ∧ d = 0) (hlen : n + m ≤ 4000000) (hbase : base ≤ w.heap.size) :
    ∃ A' c' w', (Builtin.append_ #[56, 56] ty #[.slice A n c, .slice C m d]).run Tryz.prog w = .ok (.slice A' (n + m) c') w' ∧ IOwn w' base A' (n + m) c' (xs ++ ys) ∧ w.grownBy w' (Value.slice A n c).ownBlock := by
  obtain ⟨i, hi, hz, h1, h2⟩ := info_parts info_int
  cases C with
  | none =>
    obtain ⟨rfl, rfl⟩ := hnil rfl
    have hy : ys = [] := List.eq_nil_of_length_eq_zero hr.1
    subst hy
    exact ⟨A, c, w, run_append_owned_none (P := Tryz.prog) (w := w) base _ ty 3 i 1 Tryz.underlying56 hi _ n _ hown, by rw [List.append_nil]; exact hown, World.grownBy.refl w _⟩
  | some ad =>
    obtain ⟨v', w', hrun, hO, hg, _⟩ := run_append_own (P := Tryz.prog) w base 56 ty 3 i _ 1 8 Tryz.underlying56 hi hz h1 h2 rfl (by omega) (.slice A n c) n _ hown ad m d (celi ys) (by rw [celi_length, hr.1]) ((fun j u hu => Ins.cells hr j u (by unfold celi at hu; exact hu))) (celi_cell ys) (by unfold maxLen; omega) (by omega) hbase
    rw [← celi_append] at hO
    obtain ⟨A', c', rfl, hO'⟩ := own_of_row_i hO
    exact ⟨A', c', w', hrun, hO', hg⟩
theorem wpList_app_i (w : World) {ops : Array Oper} {rest : List Oper} {o : Oper} {a : Act} {Q : Exit → Act → World → Prop} (hgd : o.guard = none) (s x : Operand)
    (ho : o.op = .call { callee := .builtin .append, args := #[s, x], argTypes := #[56, 56] })
    (base : Nat) (A : Option Addr) (n c : Nat) (xs : List Int) (hs : a.eval s = .slice A n c) (hown : IOwn w base A n c xs)
    (ok : Nat → Prop) (C : Option Addr) (m d : Nat) (ys : List Int) (hx : a.eval x = .slice C m d) (hr : Ins w ok C m ys) (hnil : C = none → m = 0 ∧ d = 0) (N : Nat) (hN : n + m = N) (hlen : n + m ≤ 4000000) (hbase : base ≤ w.heap.size)
    (h : ∀ A' c' w', IOwn w' base A' N c' (xs ++ ys) → w.grownBy w' (Value.slice A n c).ownBlock → wpList Tryz.prog ops Q rest (a.put o.dst (.slice A' N c')) w') :
    wpList Tryz.prog ops Q (o :: rest) a w := by
  subst hN
  refine wpList_plain hgd fun K hK => ?_
  obtain ⟨A', c', w', hrun, hO, hg⟩ := run_app_i w o.type base A n c xs hown ok C m d ys hr hnil hlen hbase
  unfold Oper.wp
  simp [execOp, ho, resolve, invoke, builtin, hs, hx, hrun, Result.andThen]
  exact hK _ _ (h A' c' w' hO hg)
theorem step_app_i (w : World) {ops : Array Oper} {o : Oper} {a : Act} {K : Act → World → Prop} {Q : Exit → Act → World → Prop} {E : Prop} (hgd : o.guard = none) (s x : Operand)
    (ho : o.op = .call { callee := .builtin .append, args := #[s, x], argTypes := #[56, 56] })
    (base : Nat) (A : Option Addr) (n c : Nat) (xs : List Int) (hs : a.eval s = .slice A n c) (hown : IOwn w base A n c xs)
    (ok : Nat → Prop) (C : Option Addr) (m d : Nat) (ys : List Int) (hx : a.eval x = .slice C m d) (hr : Ins w ok C m ys) (hnil : C = none → m = 0 ∧ d = 0) (N : Nat) (hN : n + m = N) (hlen : n + m ≤ 4000000) (hbase : base ≤ w.heap.size)
    (h : ∀ A' c' w', IOwn w' base A' N c' (xs ++ ys) → w.grownBy w' (Value.slice A n c).ownBlock → K (a.put o.dst (.slice A' N c')) w') :
    if Region.wanted o (yielded ops a.tmps) = true then Oper.wp Tryz.prog o a w K Q else E := by
  subst hN
  have hw : Region.wanted o (yielded ops a.tmps) = true := by simp [Region.wanted, hgd]
  rw [if_pos hw]
  obtain ⟨A', c', w', hrun, hO, hg⟩ := run_app_i w o.type base A n c xs hown ok C m d ys hr hnil hlen hbase
  unfold Oper.wp execOp
  simp only [ho, resolve, invoke, builtin, Sem.run_bind, Sem.run_pure, Result.andThen_ok, List.map_toArray, List.map_cons, List.map_nil, hs, hx, hrun]
  exact h A' c' w' hO hg

theorem IOwn.form {w : World} {base n c : Nat} {A : Option Addr} {xs : List Int} (h : IOwn w base A n c xs) (hn : 0 < n) : ∃ g, A = some ⟨g, 0, none⟩ ∧ base ≤ g ∧ g < w.heap.size := by
  rcases h.2 with ⟨e, h0⟩ | ⟨g, cap, cur, e, hb, hh, _⟩
  · omega
  · injection e with e1 e2 e3
    refine ⟨g, e1, hb, ?_⟩
    rcases Nat.lt_or_ge g w.heap.size with hlt | hge
    · exact hlt
    · rw [Array.getElem?_eq_none hge] at hh; cases hh
theorem IOwn.frozen {w : World} {base n c g : Nat} {xs : List Int} (h : IOwn w base (some ⟨g, 0, none⟩) n c xs) (o : Nat) : w.frozen? ⟨g, o, none⟩ = false := by
  rcases h.2 with ⟨e, _⟩ | ⟨g', cap, cur, e, _, hh, _⟩
  · cases e
  · injection e with e; injection e with e; injection e with e
    subst e
    simp [World.frozen?, hh]
theorem IOwn.fits {w : World} {base n c : Nat} {A : Option Addr} {xs : List Int} (h : IOwn w base A n c xs) : n ≤ c ∧ (A = none → n = 0 ∧ c = 0) := by
  rcases h.2 with ⟨e, hn⟩ | ⟨g, cap, cur, e, _, _, hnc, _⟩
  · injection e with e1 e2 e3; exact ⟨by omega, fun _ => ⟨hn, e3⟩⟩
  · injection e with e1 e2 e3; subst e3; exact ⟨hnc, fun h0 => by rw [e1] at h0; cases h0⟩
theorem ins_one {w : World} {b : Nat} {x : Int} (hx : Bx w b 3 #[.int .i64 x]) : Ins w (· = b) (some ⟨b, 0, none⟩) 1 [x] := by
  refine ⟨rfl, fun _ => ⟨_, rfl, rfl, fun j y hy => ?_⟩⟩
  match j, hy with
  | 0, hy => simp at hy; subst hy; rw [Addr.add_lit]; exact hx.c 0
theorem IOwn.one (w : World) (x : Int) : IOwn (w.alloc (.cells #[.int .i64 x] 3)) w.heap.size (some ⟨w.heap.size, 0, none⟩) 1 1 [x] :=
  ⟨rfl, .inr ⟨w.heap.size, 1, _, rfl, Nat.le_refl _, heap_alloc_new w _, Nat.le_refl _, by unfold maxLen; omega, rfl, rfl⟩⟩
theorem IOwn.low {w : World} {base base' n c : Nat} {A : Option Addr} {xs : List Int} (h : IOwn w base A n c xs) (hb : base' ≤ base) : IOwn w base' A n c xs := by
  refine ⟨h.1, ?_⟩
  rcases h.2 with h | ⟨g, cap, cur, e, hb2, r⟩
  · exact .inl h
  · exact .inr ⟨g, cap, cur, e, Nat.le_trans hb hb2, r⟩
theorem IOwn.grown {w w1 w2 : World} {lo n c : Nat} {A : Option Addr} {xs : List Int} (h : IOwn w1 lo A n c xs) (hb : Below lo w w1) (hB : lo ≤ w1.heap.size) (hg : w1.grownBy w2 (Value.slice A n c).ownBlock) : Below lo w w2 :=
  hb.grown hg hB fun j hj => (h.lt j hj).1

end Tm
end Go.Proofs.YtkdhcloaeifbdaaGreat
