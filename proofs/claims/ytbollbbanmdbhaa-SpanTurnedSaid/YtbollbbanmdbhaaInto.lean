/-
  The document's into and Join. Conditions: the row reads as a list of at most a million spans.
-/
import Derived.Test.YtbollbbanmdbhaaApp
import Derived.Test.YtbollbbanmdbhaaIn
import Derived.Deep.AppendLies
namespace Go.Proofs.Ytbollbbanmdbhaa
open Go.RowKit Sp
namespace Spn
set_option linter.unusedVariables false

/-- One span appended to a row of the call's own; where the row lies then. -/
theorem wpList_one (w : World) {ops : Array Oper} {rest : List Oper} {o : Oper} {a : Act} {Q : Exit → Act → World → Prop} (hgd : o.guard = none) (s x : Operand)
    (ho : o.op = .call { callee := .builtin .append, args := #[s, x], argTypes := #[30, 30] })
    (base : Nat) (A : Option Addr) (n c : Nat) (xs : List Sp) (hs : a.eval s = .slice A n c) (hown : Own w base A n c xs)
    (ad : Addr) (p q : Int) (hx : a.eval x = .slice (some ad) 1 1) (hc : ∀ j u, [Value.int .i64 p, .int .i64 q][j]? = some u → w.cell? (ad.add j) = some u) (hlen : n ≤ 1000000) (hbase : base ≤ w.heap.size)
    (h : ∀ g c' w', Own w' base (some ⟨g, 0, none⟩) (n + 1) c' (xs ++ [(p, q)]) → w.grownBy w' (Value.slice A n c).ownBlock → ((Value.slice A n c).ownBlock = some g ∨ g = w.heap.size) → wpList Try.prog ops Q rest (a.put o.dst (.slice (some ⟨g, 0, none⟩) (n + 1) c')) w') :
    wpList Try.prog ops Q (o :: rest) a w := by
  obtain ⟨i, hi, hz, h1, h2⟩ := info_parts info_span
  refine wpList_append_lies w hgd s x _ ho base 23 i _ 2 16 Try.underlying30 hi hz h1 h2 rfl (by omega) (.slice A n c) n _ hs hown ad 1 1 [.int .i64 p, .int .i64 q] hx rfl hc (by simp [Value.oneCell']) (by omega) (by unfold maxLen; omega) (by omega) hbase _ rfl ?_
  intro g cap w' hO hg hl hlt
  exact h g cap w' (by have := hO; rwa [show cel xs ++ [Value.int .i64 p, .int .i64 q] = cel (xs ++ [(p, q)]) by rw [cel_append, cel_one]] at this) hg hl

/-- What holds at the head of each round of into. -/
structure IntoI (w w' : World) (A1 : Option Addr) (n1 c1 : Nat) (A2 : Option Addr) (n2 c2 : Nat) (st : Laid) : Prop where
  o1 : Own w' (w.heap.size + 1) A1 n1 c1 st.a
  o2 : Own w' (w.heap.size + 1) A2 n2 c2 st.b
  ne : (Value.slice A1 n1 c1).ownBlock = none ∨ (Value.slice A1 n1 c1).ownBlock ≠ (Value.slice A2 n2 c2).ownBlock
  box : Bx w' w.heap.size st.t.1 st.t.2
  below : Below w.heap.size w w'

theorem IntoI.drewN {w w' : World} {A1 A2 : Option Addr} {n1 c1 n2 c2 : Nat} {st : Laid} (h : IntoI w w' A1 n1 c1 A2 n2 c2 st) (k : Nat) : IntoI w (w'.drewN k) A1 n1 c1 A2 n2 c2 st :=
  ⟨h.o1, h.o2, h.ne, h.box, ⟨h.below.os, h.below.tape, h.below.output, h.below.size, h.below.block⟩⟩
theorem Own.nil_ {w : World} {base n c : Nat} {A : Option Addr} {xs : List Sp} (h : Own w base A n c xs) : A = none → n = 0 ∧ c = 0 := by
  intro e
  subst e
  rcases h.2 with ⟨e, hn⟩ | ⟨g, cap, cur, e, _⟩
  · injection e with _ e2 e3
    exact ⟨e2, e3⟩
  · cases e
theorem ownBlock_none {A : Option Addr} {n c : Nat} (h : (Value.slice A n c).ownBlock = none) : A = none := by
  cases A with
  | none => rfl
  | some a => simp [Value.ownBlock] at h

/-- One more ahead. -/
theorem IntoI.more1 {w w' w2 : World} {A1 A2 : Option Addr} {n1 c1 n2 c2 g c' : Nat} {a b : List Sp} {t x : Sp} {tmp : Obj} (h : IntoI w w' A1 n1 c1 A2 n2 c2 ⟨a, b, t⟩)
    (hO : Own w2 (w.heap.size + 1) (some ⟨g, 0, none⟩) (n1 + 1) c' (a ++ [x])) (hg : (w'.alloc tmp).grownBy w2 (Value.slice A1 n1 c1).ownBlock) (hl : (Value.slice A1 n1 c1).ownBlock = some g ∨ g = (w'.alloc tmp).heap.size) :
    IntoI w w2 (some ⟨g, 0, none⟩) (n1 + 1) c' A2 n2 c2 ⟨a ++ [x], b, t⟩ := by
  have hlt2 := h.o2.lt
  have hne2 : (Value.slice A2 n2 c2).ownBlock = none ∨ (Value.slice A2 n2 c2).ownBlock ≠ (Value.slice A1 n1 c1).ownBlock := by
    rcases h.ne with e | e
    · rw [e]
      cases hh : (Value.slice A2 n2 c2).ownBlock with
      | none => exact .inl rfl
      | some k => exact .inr (by simp)
    · exact .inr (fun e' => e e'.symm)
  refine ⟨hO, (h.o2.alloc tmp).grown hg hne2, .inr ?_, ?_, ?_⟩
  · intro e
    have e1 : (Value.slice (some (⟨g, 0, none⟩ : Addr)) (n1 + 1) c').ownBlock = some g := rfl
    rw [e1] at e
    have := (hlt2 g e.symm).2
    rcases hl with hl | hl
    · rcases h.ne with e2 | e2
      · rw [e2] at hl; cases hl
      · exact e2 (hl.trans e)
    · simp at hl; omega
  · refine (hg.block w.heap.size (by have := h.box.lt; simp; omega) ?_).trans (h.box.alloc tmp)
    intro e
    have := (h.o1.lt _ e.symm).1
    omega
  · refine (h.below.alloc h.below.size tmp).grown hg (by have := h.below.size; simp; omega) (fun j hj => ?_)
    have := (h.o1.lt _ hj).1
    omega
theorem IntoI.more2 {w w' w2 : World} {A1 A2 : Option Addr} {n1 c1 n2 c2 g c' : Nat} {a b : List Sp} {t x : Sp} {tmp : Obj} (h : IntoI w w' A1 n1 c1 A2 n2 c2 ⟨a, b, t⟩)
    (hO : Own w2 (w.heap.size + 1) (some ⟨g, 0, none⟩) (n2 + 1) c' (b ++ [x])) (hg : (w'.alloc tmp).grownBy w2 (Value.slice A2 n2 c2).ownBlock) (hl : (Value.slice A2 n2 c2).ownBlock = some g ∨ g = (w'.alloc tmp).heap.size) :
    IntoI w w2 A1 n1 c1 (some ⟨g, 0, none⟩) (n2 + 1) c' ⟨a, b ++ [x], t⟩ := by
  have hlt1 := h.o1.lt
  refine ⟨(h.o1.alloc tmp).grown hg h.ne, hO, ?_, ?_, ?_⟩
  · have e1 : (Value.slice (some (⟨g, 0, none⟩ : Addr)) (n2 + 1) c').ownBlock = some g := rfl
    rw [e1]
    cases hh : (Value.slice A1 n1 c1).ownBlock with
    | none => exact .inl rfl
    | some k =>
      refine .inr fun e => ?_
      have ek : k = g := by simpa using e
      subst ek
      rcases hl with hl | hl
      · rcases h.ne with e2 | e2
        · rw [hh] at e2; cases e2
        · exact e2 (hh.trans hl.symm)
      · have := (hlt1 k hh).2
        simp at hl; omega
  · refine (hg.block w.heap.size (by have := h.box.lt; simp; omega) ?_).trans (h.box.alloc tmp)
    intro e
    have := (h.o2.lt _ e.symm).1
    omega
  · refine (h.below.alloc h.below.size tmp).grown hg (by have := h.below.size; simp; omega) (fun j hj => ?_)
    have := (h.o2.lt _ hj).1
    omega
/-- The span has grown. -/
theorem IntoI.turn0 {w w' : World} {A1 A2 : Option Addr} {n1 c1 n2 c2 : Nat} {a b : List Sp} {p q : Int} (h : IntoI w w' A1 n1 c1 A2 n2 c2 ⟨a, b, (p, q)⟩) (z : Int) :
    IntoI w (w'.setCell ⟨w.heap.size, 0, none⟩ (.int .i64 z)) A1 n1 c1 A2 n2 c2 ⟨a, b, (z, q)⟩ :=
  ⟨ownsRow_setCell_below h.o1 (by simp) _, ownsRow_setCell_below h.o2 (by simp) _, h.ne, h.box.set0 z, h.below.setCell (p := ⟨w.heap.size, 0, none⟩) (Nat.le_refl _) _⟩
theorem IntoI.turn1 {w w' : World} {A1 A2 : Option Addr} {n1 c1 n2 c2 : Nat} {a b : List Sp} {p q : Int} (h : IntoI w w' A1 n1 c1 A2 n2 c2 ⟨a, b, (p, q)⟩) (z : Int) :
    IntoI w (w'.setCell ⟨w.heap.size, 1, none⟩ (.int .i64 z)) A1 n1 c1 A2 n2 c2 ⟨a, b, (p, z)⟩ :=
  ⟨ownsRow_setCell_below h.o1 (by simp) _, ownsRow_setCell_below h.o2 (by simp) _, h.ne, h.box.set1 z, h.below.setCell (p := ⟨w.heap.size, 1, none⟩) (Nat.le_refl _) _⟩

theorem take_more {xs : List Sp} {k : Nat} {x : Sp} (h : xs[k]? = some x) : xs.take (k + 1) = xs.take k ++ [x] := by
  obtain ⟨hl, e⟩ := List.getElem?_eq_some_iff.1 h
  rw [List.take_succ_eq_append_getElem hl, e]
theorem lay1 {a b : List Sp} {t x : Sp} (h : x.2 < t.1) : lay ⟨a, b, t⟩ x = ⟨a ++ [x], b, t⟩ := by simp [lay, h]
theorem lay2 {a b : List Sp} {t x : Sp} (h1 : ¬ x.2 < t.1) (h2 : t.2 < x.1) : lay ⟨a, b, t⟩ x = ⟨a, b ++ [x], t⟩ := by simp [lay, h1, h2]
theorem lay3 {a b : List Sp} {t x : Sp} (h1 : ¬ x.2 < t.1) (h2 : ¬ t.2 < x.1) : lay ⟨a, b, t⟩ x = ⟨a, b, (min x.1 t.1, max x.2 t.2)⟩ := by simp [lay, h1, h2]

set_option maxRecDepth 100000 in
set_option maxHeartbeats 4000000 in
theorem into (A : Option Addr) (n c : Nat) (xs : List Sp) (s : Sp) (w : World) (hS : Spans w w.heap.size A n xs) (hn : n ≤ 1000000) :
    Calls Try.prog 36 #[.slice A n c, ag s] w (Gives w (intoL xs s)) := by
  have HS := Lib.hid hS
  clear hS
  obtain ⟨s1, s2⟩ := s
  go_enter Try.func36, Try.ntmps36
  go_wp2
  go_loopw [5, 6, 7] (fun sa sb i w' => ∃ (k : Nat) (A1 : Option Addr) (n1 c1 : Nat) (A2 : Option Addr) (n2 c2 : Nat), k ≤ n ∧ sa = .slice A1 n1 c1 ∧ sb = .slice A2 n2 c2 ∧ i = .int .i64 (k : Int) ∧ Hid (IntoI w w' A1 n1 c1 A2 n2 c2 (lays (s1, s2) (xs.take k)))) (fun _ _ i _ => n - (intOf i).toNat)
  case atStart => exact ⟨0, none, 0, 0, none, 0, 0, Nat.zero_le _, rfl, rfl, rfl, Lib.hid ⟨Own.nil, Own.nil, .inl rfl, Bx.new w s1 s2, (Below.refl _ _).alloc (Nat.le_refl _) _⟩⟩
  case round =>
    obtain ⟨k, A1, n1, c1, A2, n2, c2, hk, rfl, rfl, rfl, HR⟩ := hrel
    have hln : n1 + n2 ≤ k := by
      have h1 := HR.out.o1.len
      have h2 := HR.out.o2.len
      have h3 := lays_len (s1, s2) (xs.take k)
      have h4 : (xs.take k).length ≤ k := by rw [List.length_take]; omega
      omega
    by_cases hlt : k < n
    · obtain ⟨ad, x, y, rfl, hb, hx, hc, hc'⟩ := (HS.out.below HR.out.below (Nat.le_refl _)).get hlt
      have htk := take_more hx
      obtain ⟨st, hst⟩ : ∃ st, lays (s1, s2) (xs.take k) = st := ⟨_, rfl⟩
      have hnx : lays (s1, s2) (xs.take (k + 1)) = lay st (x, y) := by rw [htk, lays_snoc, hst]
      rw [hst] at HR
      have HN := Lib.hid hnx
      clear hnx htk hst hx
      obtain ⟨a, b, p, q⟩ := st
      have b0 := HR.out.box.c0
      have b1 := HR.out.box.c1
      have bl := HR.out.box.lt
      have adl : ad.block < wr.heap.size := Nat.lt_of_lt_of_le hb HR.out.below.size
      have hlt2 : (k : Int) < (n : Int) := by omega
      simp only at b0 b1
      by_cases h1 : y < p
      · have t1 : decide (y < p) = true := by simpa using h1
        have H1 := Lib.hid h1
        clear h1
        go_wp2
        go_quiet (fail)
        obtain ⟨W1, hW1⟩ : ∃ W, World.drewN wr nq = W := ⟨_, rfl⟩
        have HR1 := Lib.hid (show IntoI w W1 A1 n1 c1 A2 n2 c2 ⟨a, b, (p, q)⟩ by rw [← hW1]; exact HR.out.drewN nq)
        have hc1 : W1.cell? (ad.add (k * 2)) = some (.int .i64 x) := by rw [← hW1]; exact hc
        have hd1 : W1.cell? ⟨(ad.add (k * 2)).block, (ad.add (k * 2)).off + 1, none⟩ = some (.int .i64 y) := by rw [← hW1]; exact hc'
        have b01 := HR1.out.box.c0
        have b11 := HR1.out.box.c1
        have f01 := HR1.out.box.f 0
        have f11 := HR1.out.box.f 1
        rw [hW1]
        simp only at b01 b11
        go_wp2_with (at_builtin; refine wpList_one _ rfl (.tmp 22) (.tmp 27) rfl (w.heap.size + 1) A1 n1 c1 a rfl (HR1.out.o1.alloc _) ⟨W1.heap.size, 0, none⟩ x y rfl (new_cells _ _ _) (by omega) (by have := HR1.out.below.size; simp; omega) ?_; intro g c' w3 hO hg hl; have HR9 := Lib.hid (HR1.out.more1 hO hg hl); clear hO hg hl)
        go_roundw
        case rel => exact ⟨k + 1, _, _, _, _, _, _, by omega, rfl, rfl, by go_num, Lib.hid (by rw [HN.out, lay1 (by have := H1.out; simpa using this)]; exact HR9.out)⟩
        case measure => simp [intOf]; omega
      · have t1 : decide (y < p) = false := by simpa using h1
        by_cases h2 : q < x
        · have t2 : decide (q < x) = true := by simpa using h2
          have H1 := Lib.hid h1
          have H2 := Lib.hid h2
          clear h1 h2
          go_wp2
          go_quiet (fail)
          obtain ⟨W1, hW1⟩ : ∃ W, World.drewN wr nq = W := ⟨_, rfl⟩
          have HR1 := Lib.hid (show IntoI w W1 A1 n1 c1 A2 n2 c2 ⟨a, b, (p, q)⟩ by rw [← hW1]; exact HR.out.drewN nq)
          have hc1 : W1.cell? (ad.add (k * 2)) = some (.int .i64 x) := by rw [← hW1]; exact hc
          have hd1 : W1.cell? ⟨(ad.add (k * 2)).block, (ad.add (k * 2)).off + 1, none⟩ = some (.int .i64 y) := by rw [← hW1]; exact hc'
          have b01 := HR1.out.box.c0
          have b11 := HR1.out.box.c1
          have f01 := HR1.out.box.f 0
          have f11 := HR1.out.box.f 1
          rw [hW1]
          simp only at b01 b11
          go_wp2
          go_quiet (fail)
          obtain ⟨W2, hW2⟩ : ∃ W, World.drewN W1 nq = W := ⟨_, rfl⟩
          have HR2 := Lib.hid (show IntoI w W2 A1 n1 c1 A2 n2 c2 ⟨a, b, (p, q)⟩ by rw [← hW2]; exact HR1.out.drewN nq)
          have hc2 : W2.cell? (ad.add (k * 2)) = some (.int .i64 x) := by rw [← hW2]; exact hc1
          have hd2 : W2.cell? ⟨(ad.add (k * 2)).block, (ad.add (k * 2)).off + 1, none⟩ = some (.int .i64 y) := by rw [← hW2]; exact hd1
          have b02 := HR2.out.box.c0
          have b12 := HR2.out.box.c1
          have f02 := HR2.out.box.f 0
          have f12 := HR2.out.box.f 1
          rw [hW2]
          simp only at b02 b12
          go_wp2_with (at_builtin; refine wpList_one _ rfl (.tmp 37) (.tmp 42) rfl (w.heap.size + 1) A2 n2 c2 b rfl (HR2.out.o2.alloc _) ⟨W2.heap.size, 0, none⟩ x y rfl (new_cells _ _ _) (by omega) (by have := HR2.out.below.size; simp; omega) ?_; intro g c' w3 hO hg hl; have HR9 := Lib.hid (HR2.out.more2 hO hg hl); clear hO hg hl)
          go_roundw
          case rel => exact ⟨k + 1, _, _, _, _, _, _, by omega, rfl, rfl, by go_num, Lib.hid (by rw [HN.out, lay2 (by have := H1.out; simpa using this) (by have := H2.out; simpa using this)]; exact HR9.out)⟩
          case measure => simp [intOf]; omega
        · have t2 : decide (q < x) = false := by simpa using h2
          by_cases h3 : x < p
          · by_cases h4 : q < y
            · have t3 : decide (x < p) = true := by simpa using h3
              have t4 : decide (q < y) = true := by simpa using h4
              have HL := Lib.hid (show lay ⟨a, b, (p, q)⟩ (x, y) = ⟨a, b, (x, y)⟩ by rw [lay3 (by simpa using h1) (by simpa using h2)]; simp only; rw [show min x p = x by omega, show max y q = y by omega])
              clear h1 h2 h3 h4
              go_wp2
              go_quiet (fail)
              obtain ⟨W1, hW1⟩ : ∃ W, World.drewN wr nq = W := ⟨_, rfl⟩
              have HR1 := Lib.hid (show IntoI w W1 A1 n1 c1 A2 n2 c2 ⟨a, b, (p, q)⟩ by rw [← hW1]; exact HR.out.drewN nq)
              have hc1 : W1.cell? (ad.add (k * 2)) = some (.int .i64 x) := by rw [← hW1]; exact hc
              have hd1 : W1.cell? ⟨(ad.add (k * 2)).block, (ad.add (k * 2)).off + 1, none⟩ = some (.int .i64 y) := by rw [← hW1]; exact hc'
              have b01 := HR1.out.box.c0
              have b11 := HR1.out.box.c1
              have f01 := HR1.out.box.f 0
              have f11 := HR1.out.box.f 1
              rw [hW1]
              simp only at b01 b11
              go_wp2
              go_quiet (fail)
              obtain ⟨W2, hW2⟩ : ∃ W, World.drewN W1 nq = W := ⟨_, rfl⟩
              have HR2 := Lib.hid (show IntoI w W2 A1 n1 c1 A2 n2 c2 ⟨a, b, (p, q)⟩ by rw [← hW2]; exact HR1.out.drewN nq)
              have hc2 : W2.cell? (ad.add (k * 2)) = some (.int .i64 x) := by rw [← hW2]; exact hc1
              have hd2 : W2.cell? ⟨(ad.add (k * 2)).block, (ad.add (k * 2)).off + 1, none⟩ = some (.int .i64 y) := by rw [← hW2]; exact hd1
              have b02 := HR2.out.box.c0
              have b12 := HR2.out.box.c1
              have f02 := HR2.out.box.f 0
              have f12 := HR2.out.box.f 1
              rw [hW2]
              simp only at b02 b12
              go_wp2
              go_quiet (fail)
              obtain ⟨W3, hW3⟩ : ∃ W, World.drewN W2 nq = W := ⟨_, rfl⟩
              have HR3 := Lib.hid (show IntoI w W3 A1 n1 c1 A2 n2 c2 ⟨a, b, (p, q)⟩ by rw [← hW3]; exact HR2.out.drewN nq)
              have hc3 : W3.cell? (ad.add (k * 2)) = some (.int .i64 x) := by rw [← hW3]; exact hc2
              have hd3 : W3.cell? ⟨(ad.add (k * 2)).block, (ad.add (k * 2)).off + 1, none⟩ = some (.int .i64 y) := by rw [← hW3]; exact hd2
              have b03 := HR3.out.box.c0
              have b13 := HR3.out.box.c1
              have f03 := HR3.out.box.f 0
              have f13 := HR3.out.box.f 1
              rw [hW3]
              simp only at b03 b13
              go_wp2
              have HT := Lib.hid (HR3.out.turn0 x)
              have kc : ∀ u : Addr, u.block ≠ w.heap.size → (W3.setCell ⟨w.heap.size, 0, none⟩ (.int .i64 x)).cell? u = W3.cell? u := fun u hu => World.cell?_setCell_other _ _ _ _ (fun e => hu (by rw [← e]))
              obtain ⟨V, hV⟩ : ∃ V, W3.setCell ⟨w.heap.size, 0, none⟩ (.int .i64 x) = V := ⟨_, rfl⟩
              rw [hV] at HT kc
              have hcV : V.cell? (ad.add (k * 2)) = some (.int .i64 x) := (kc _ (by rw [add_block]; omega)).trans hc3
              have hdV : V.cell? ⟨(ad.add (k * 2)).block, (ad.add (k * 2)).off + 1, none⟩ = some (.int .i64 y) := (kc _ (by simp only [add_block]; omega)).trans hd3
              have b0V := HT.out.box.c0
              have b1V := HT.out.box.c1
              simp only at b0V b1V
              rw [hV]
              clear kc hV
              go_quiet (fail)
              obtain ⟨W4, hW4⟩ : ∃ W, World.drewN V nq = W := ⟨_, rfl⟩
              have HR4 := Lib.hid (show IntoI w W4 A1 n1 c1 A2 n2 c2 ⟨a, b, (x, q)⟩ by rw [← hW4]; exact HT.out.drewN nq)
              have hc4 : W4.cell? (ad.add (k * 2)) = some (.int .i64 x) := by rw [← hW4]; exact hcV
              have hd4 : W4.cell? ⟨(ad.add (k * 2)).block, (ad.add (k * 2)).off + 1, none⟩ = some (.int .i64 y) := by rw [← hW4]; exact hdV
              have b04 := HR4.out.box.c0
              have b14 := HR4.out.box.c1
              have f04 := HR4.out.box.f 0
              have f14 := HR4.out.box.f 1
              rw [hW4]
              simp only at b04 b14
              go_wp2
              go_roundw
              case rel => exact ⟨k + 1, _, _, _, _, _, _, by omega, rfl, rfl, by go_num, Lib.hid (by rw [HN.out, HL.out]; exact (Lib.hid (HR4.out.turn1 y)).out)⟩
              case measure => simp [intOf]; omega
            · have t3 : decide (x < p) = true := by simpa using h3
              have t4 : decide (q < y) = false := by simpa using h4
              have HL := Lib.hid (show lay ⟨a, b, (p, q)⟩ (x, y) = ⟨a, b, (x, q)⟩ by rw [lay3 (by simpa using h1) (by simpa using h2)]; simp only; rw [show min x p = x by omega, show max y q = q by omega])
              clear h1 h2 h3 h4
              go_wp2
              go_quiet (fail)
              obtain ⟨W1, hW1⟩ : ∃ W, World.drewN wr nq = W := ⟨_, rfl⟩
              have HR1 := Lib.hid (show IntoI w W1 A1 n1 c1 A2 n2 c2 ⟨a, b, (p, q)⟩ by rw [← hW1]; exact HR.out.drewN nq)
              have hc1 : W1.cell? (ad.add (k * 2)) = some (.int .i64 x) := by rw [← hW1]; exact hc
              have hd1 : W1.cell? ⟨(ad.add (k * 2)).block, (ad.add (k * 2)).off + 1, none⟩ = some (.int .i64 y) := by rw [← hW1]; exact hc'
              have b01 := HR1.out.box.c0
              have b11 := HR1.out.box.c1
              have f01 := HR1.out.box.f 0
              have f11 := HR1.out.box.f 1
              rw [hW1]
              simp only at b01 b11
              go_wp2
              go_quiet (fail)
              obtain ⟨W2, hW2⟩ : ∃ W, World.drewN W1 nq = W := ⟨_, rfl⟩
              have HR2 := Lib.hid (show IntoI w W2 A1 n1 c1 A2 n2 c2 ⟨a, b, (p, q)⟩ by rw [← hW2]; exact HR1.out.drewN nq)
              have hc2 : W2.cell? (ad.add (k * 2)) = some (.int .i64 x) := by rw [← hW2]; exact hc1
              have hd2 : W2.cell? ⟨(ad.add (k * 2)).block, (ad.add (k * 2)).off + 1, none⟩ = some (.int .i64 y) := by rw [← hW2]; exact hd1
              have b02 := HR2.out.box.c0
              have b12 := HR2.out.box.c1
              have f02 := HR2.out.box.f 0
              have f12 := HR2.out.box.f 1
              rw [hW2]
              simp only at b02 b12
              go_wp2
              go_quiet (fail)
              obtain ⟨W3, hW3⟩ : ∃ W, World.drewN W2 nq = W := ⟨_, rfl⟩
              have HR3 := Lib.hid (show IntoI w W3 A1 n1 c1 A2 n2 c2 ⟨a, b, (p, q)⟩ by rw [← hW3]; exact HR2.out.drewN nq)
              have hc3 : W3.cell? (ad.add (k * 2)) = some (.int .i64 x) := by rw [← hW3]; exact hc2
              have hd3 : W3.cell? ⟨(ad.add (k * 2)).block, (ad.add (k * 2)).off + 1, none⟩ = some (.int .i64 y) := by rw [← hW3]; exact hd2
              have b03 := HR3.out.box.c0
              have b13 := HR3.out.box.c1
              have f03 := HR3.out.box.f 0
              have f13 := HR3.out.box.f 1
              rw [hW3]
              simp only at b03 b13
              go_wp2
              have HT := Lib.hid (HR3.out.turn0 x)
              have kc : ∀ u : Addr, u.block ≠ w.heap.size → (W3.setCell ⟨w.heap.size, 0, none⟩ (.int .i64 x)).cell? u = W3.cell? u := fun u hu => World.cell?_setCell_other _ _ _ _ (fun e => hu (by rw [← e]))
              obtain ⟨V, hV⟩ : ∃ V, W3.setCell ⟨w.heap.size, 0, none⟩ (.int .i64 x) = V := ⟨_, rfl⟩
              rw [hV] at HT kc
              have hcV : V.cell? (ad.add (k * 2)) = some (.int .i64 x) := (kc _ (by rw [add_block]; omega)).trans hc3
              have hdV : V.cell? ⟨(ad.add (k * 2)).block, (ad.add (k * 2)).off + 1, none⟩ = some (.int .i64 y) := (kc _ (by simp only [add_block]; omega)).trans hd3
              have b0V := HT.out.box.c0
              have b1V := HT.out.box.c1
              simp only at b0V b1V
              rw [hV]
              clear kc hV
              go_quiet (fail)
              obtain ⟨W4, hW4⟩ : ∃ W, World.drewN V nq = W := ⟨_, rfl⟩
              have HR4 := Lib.hid (show IntoI w W4 A1 n1 c1 A2 n2 c2 ⟨a, b, (x, q)⟩ by rw [← hW4]; exact HT.out.drewN nq)
              have hc4 : W4.cell? (ad.add (k * 2)) = some (.int .i64 x) := by rw [← hW4]; exact hcV
              have hd4 : W4.cell? ⟨(ad.add (k * 2)).block, (ad.add (k * 2)).off + 1, none⟩ = some (.int .i64 y) := by rw [← hW4]; exact hdV
              have b04 := HR4.out.box.c0
              have b14 := HR4.out.box.c1
              have f04 := HR4.out.box.f 0
              have f14 := HR4.out.box.f 1
              rw [hW4]
              simp only at b04 b14
              go_wp2
              go_roundw
              case rel => exact ⟨k + 1, _, _, _, _, _, _, by omega, rfl, rfl, by go_num, Lib.hid (by rw [HN.out, HL.out]; exact HR4.out)⟩
              case measure => simp [intOf]; omega
          · by_cases h4 : q < y
            · have t3 : decide (x < p) = false := by simpa using h3
              have t4 : decide (q < y) = true := by simpa using h4
              have HL := Lib.hid (show lay ⟨a, b, (p, q)⟩ (x, y) = ⟨a, b, (p, y)⟩ by rw [lay3 (by simpa using h1) (by simpa using h2)]; simp only; rw [show min x p = p by omega, show max y q = y by omega])
              clear h1 h2 h3 h4
              go_wp2
              go_quiet (fail)
              obtain ⟨W1, hW1⟩ : ∃ W, World.drewN wr nq = W := ⟨_, rfl⟩
              have HR1 := Lib.hid (show IntoI w W1 A1 n1 c1 A2 n2 c2 ⟨a, b, (p, q)⟩ by rw [← hW1]; exact HR.out.drewN nq)
              have hc1 : W1.cell? (ad.add (k * 2)) = some (.int .i64 x) := by rw [← hW1]; exact hc
              have hd1 : W1.cell? ⟨(ad.add (k * 2)).block, (ad.add (k * 2)).off + 1, none⟩ = some (.int .i64 y) := by rw [← hW1]; exact hc'
              have b01 := HR1.out.box.c0
              have b11 := HR1.out.box.c1
              have f01 := HR1.out.box.f 0
              have f11 := HR1.out.box.f 1
              rw [hW1]
              simp only at b01 b11
              go_wp2
              go_quiet (fail)
              obtain ⟨W2, hW2⟩ : ∃ W, World.drewN W1 nq = W := ⟨_, rfl⟩
              have HR2 := Lib.hid (show IntoI w W2 A1 n1 c1 A2 n2 c2 ⟨a, b, (p, q)⟩ by rw [← hW2]; exact HR1.out.drewN nq)
              have hc2 : W2.cell? (ad.add (k * 2)) = some (.int .i64 x) := by rw [← hW2]; exact hc1
              have hd2 : W2.cell? ⟨(ad.add (k * 2)).block, (ad.add (k * 2)).off + 1, none⟩ = some (.int .i64 y) := by rw [← hW2]; exact hd1
              have b02 := HR2.out.box.c0
              have b12 := HR2.out.box.c1
              have f02 := HR2.out.box.f 0
              have f12 := HR2.out.box.f 1
              rw [hW2]
              simp only at b02 b12
              go_wp2
              go_quiet (fail)
              obtain ⟨W3, hW3⟩ : ∃ W, World.drewN W2 nq = W := ⟨_, rfl⟩
              have HR3 := Lib.hid (show IntoI w W3 A1 n1 c1 A2 n2 c2 ⟨a, b, (p, q)⟩ by rw [← hW3]; exact HR2.out.drewN nq)
              have hc3 : W3.cell? (ad.add (k * 2)) = some (.int .i64 x) := by rw [← hW3]; exact hc2
              have hd3 : W3.cell? ⟨(ad.add (k * 2)).block, (ad.add (k * 2)).off + 1, none⟩ = some (.int .i64 y) := by rw [← hW3]; exact hd2
              have b03 := HR3.out.box.c0
              have b13 := HR3.out.box.c1
              have f03 := HR3.out.box.f 0
              have f13 := HR3.out.box.f 1
              rw [hW3]
              simp only at b03 b13
              go_wp2
              go_quiet (fail)
              obtain ⟨W4, hW4⟩ : ∃ W, World.drewN W3 nq = W := ⟨_, rfl⟩
              have HR4 := Lib.hid (show IntoI w W4 A1 n1 c1 A2 n2 c2 ⟨a, b, (p, q)⟩ by rw [← hW4]; exact HR3.out.drewN nq)
              have hc4 : W4.cell? (ad.add (k * 2)) = some (.int .i64 x) := by rw [← hW4]; exact hc3
              have hd4 : W4.cell? ⟨(ad.add (k * 2)).block, (ad.add (k * 2)).off + 1, none⟩ = some (.int .i64 y) := by rw [← hW4]; exact hd3
              have b04 := HR4.out.box.c0
              have b14 := HR4.out.box.c1
              have f04 := HR4.out.box.f 0
              have f14 := HR4.out.box.f 1
              rw [hW4]
              simp only at b04 b14
              go_wp2
              go_roundw
              case rel => exact ⟨k + 1, _, _, _, _, _, _, by omega, rfl, rfl, by go_num, Lib.hid (by rw [HN.out, HL.out]; exact (Lib.hid (HR4.out.turn1 y)).out)⟩
              case measure => simp [intOf]; omega
            · have t3 : decide (x < p) = false := by simpa using h3
              have t4 : decide (q < y) = false := by simpa using h4
              have HL := Lib.hid (show lay ⟨a, b, (p, q)⟩ (x, y) = ⟨a, b, (p, q)⟩ by rw [lay3 (by simpa using h1) (by simpa using h2)]; simp only; rw [show min x p = p by omega, show max y q = q by omega])
              clear h1 h2 h3 h4
              go_wp2
              go_quiet (fail)
              obtain ⟨W1, hW1⟩ : ∃ W, World.drewN wr nq = W := ⟨_, rfl⟩
              have HR1 := Lib.hid (show IntoI w W1 A1 n1 c1 A2 n2 c2 ⟨a, b, (p, q)⟩ by rw [← hW1]; exact HR.out.drewN nq)
              have hc1 : W1.cell? (ad.add (k * 2)) = some (.int .i64 x) := by rw [← hW1]; exact hc
              have hd1 : W1.cell? ⟨(ad.add (k * 2)).block, (ad.add (k * 2)).off + 1, none⟩ = some (.int .i64 y) := by rw [← hW1]; exact hc'
              have b01 := HR1.out.box.c0
              have b11 := HR1.out.box.c1
              have f01 := HR1.out.box.f 0
              have f11 := HR1.out.box.f 1
              rw [hW1]
              simp only at b01 b11
              go_wp2
              go_quiet (fail)
              obtain ⟨W2, hW2⟩ : ∃ W, World.drewN W1 nq = W := ⟨_, rfl⟩
              have HR2 := Lib.hid (show IntoI w W2 A1 n1 c1 A2 n2 c2 ⟨a, b, (p, q)⟩ by rw [← hW2]; exact HR1.out.drewN nq)
              have hc2 : W2.cell? (ad.add (k * 2)) = some (.int .i64 x) := by rw [← hW2]; exact hc1
              have hd2 : W2.cell? ⟨(ad.add (k * 2)).block, (ad.add (k * 2)).off + 1, none⟩ = some (.int .i64 y) := by rw [← hW2]; exact hd1
              have b02 := HR2.out.box.c0
              have b12 := HR2.out.box.c1
              have f02 := HR2.out.box.f 0
              have f12 := HR2.out.box.f 1
              rw [hW2]
              simp only at b02 b12
              go_wp2
              go_quiet (fail)
              obtain ⟨W3, hW3⟩ : ∃ W, World.drewN W2 nq = W := ⟨_, rfl⟩
              have HR3 := Lib.hid (show IntoI w W3 A1 n1 c1 A2 n2 c2 ⟨a, b, (p, q)⟩ by rw [← hW3]; exact HR2.out.drewN nq)
              have hc3 : W3.cell? (ad.add (k * 2)) = some (.int .i64 x) := by rw [← hW3]; exact hc2
              have hd3 : W3.cell? ⟨(ad.add (k * 2)).block, (ad.add (k * 2)).off + 1, none⟩ = some (.int .i64 y) := by rw [← hW3]; exact hd2
              have b03 := HR3.out.box.c0
              have b13 := HR3.out.box.c1
              have f03 := HR3.out.box.f 0
              have f13 := HR3.out.box.f 1
              rw [hW3]
              simp only at b03 b13
              go_wp2
              go_quiet (fail)
              obtain ⟨W4, hW4⟩ : ∃ W, World.drewN W3 nq = W := ⟨_, rfl⟩
              have HR4 := Lib.hid (show IntoI w W4 A1 n1 c1 A2 n2 c2 ⟨a, b, (p, q)⟩ by rw [← hW4]; exact HR3.out.drewN nq)
              have hc4 : W4.cell? (ad.add (k * 2)) = some (.int .i64 x) := by rw [← hW4]; exact hc3
              have hd4 : W4.cell? ⟨(ad.add (k * 2)).block, (ad.add (k * 2)).off + 1, none⟩ = some (.int .i64 y) := by rw [← hW4]; exact hd3
              have b04 := HR4.out.box.c0
              have b14 := HR4.out.box.c1
              have f04 := HR4.out.box.f 0
              have f14 := HR4.out.box.f 1
              rw [hW4]
              simp only at b04 b14
              go_wp2
              go_roundw
              case rel => exact ⟨k + 1, _, _, _, _, _, _, by omega, rfl, rfl, by go_num, Lib.hid (by rw [HN.out, HL.out]; exact HR4.out)⟩
              case measure => simp [intOf]; omega
    · obtain rfl : n = k := by omega
      have he : xs.take n = xs := List.take_of_length_le (by rw [HS.out.1]; exact Nat.le_refl _)
      rw [he] at HR
      obtain ⟨st, hst⟩ : ∃ st, lays (s1, s2) xs = st := ⟨_, rfl⟩
      have hio : intoL xs (s1, s2) = st.out := by rw [intoL, hst]
      rw [hst] at HR
      clear hst he
      obtain ⟨a, b, p, q⟩ := st
      have HIO := Lib.hid (show intoL xs (s1, s2) = a ++ [(p, q)] ++ b from hio)
      clear hio
      have b0 := HR.out.box.c0
      have b1 := HR.out.box.c1
      simp only at b0 b1
      have hm2 := HR.out.o2.lt
      go_wp2_with (first
        | (at_builtin; (with_reducible refine wpList_one _ rfl (.tmp 72) (.tmp 74) rfl (w.heap.size + 1) A1 n1 c1 a rfl (HR.out.o1.alloc _) ⟨wr.heap.size, 0, none⟩ p q rfl (new_cells _ _ _) (by omega) (by have := HR.out.below.size; simp; omega) ?_); intro g c' w3 hO hg hl; have HR9 := Lib.hid (HR.out.more1 hO hg hl); clear hO hg hl)
        | (at_builtin; refine wpList_app _ rfl (.tmp 75) (.tmp 76) rfl (w.heap.size + 1) (some ⟨g, 0, none⟩) (n1 + 1) c' (a ++ [(p, q)]) rfl HR9.out.o1 w3.heap.size A2 n2 c2 b rfl HR9.out.o2.spans.1 HR9.out.o2.nil_ (by omega) (by have := HR9.out.box.lt; omega) ?_; intro A' c3 w4 hO4 hg4; have HO4 := Lib.hid hO4; have HG4 := Lib.hid hg4; clear hO4 hg4))
      go_ret
      exact ⟨A', _, c3, rfl, by rw [HIO.out]; exact HO4.out.spans.1, HO4.out.spans.2, HR9.out.below.grown HG4.out HR9.out.below.size (fun j hj => by have := (HR9.out.o1.lt _ hj).1; omega)⟩

end Spn
end Go.Proofs.Ytbollbbanmdbhaa
