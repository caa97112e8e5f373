/-
  Appending to a row of the call's own; the document's put and Less. Conditions: those of each theorem.
-/
import Derived.Test.YtbollbbanmdbhaaLess
import Derived.Maps.AppendAt
namespace Go.Proofs.Ytbollbbanmdbhaa
open Go.RowKit Sp
namespace Spn
set_option linter.unusedVariables false

/-- The cells of a row, by their place. -/
theorem spans_cells {w : World} {B : Nat} {ad : Addr} {m : Nat} {ys : List Sp} (h : Spans w B (some ad) m ys) (j : Nat) (u : Value) (hu : (cel ys)[j]? = some u) : w.cell? (ad.add j) = some u := by
  have hl : j < ys.length * 2 := by rw [← cel_length]; exact (List.getElem?_eq_some_iff.1 hu).1
  have hm : j / 2 < ys.length := by omega
  have hy : ys[j / 2]? = some ys[j / 2] := List.getElem?_eq_getElem hm
  obtain ⟨ad', e, _, hc⟩ := h.2 (by have := h.1; omega)
  injection e with e
  subst e
  obtain ⟨c0, c1⟩ := hc _ _ hy
  obtain ⟨g0, g1⟩ := cel_get hy
  rcases (by omega : j = j / 2 * 2 ∨ j = j / 2 * 2 + 1) with hj | hj
  · rw [hj, g0] at hu
    rw [hj, c0]; exact hu
  · rw [hj, g1] at hu
    rw [hj, c1]; exact hu

theorem wpList_app (w : World) {ops : Array Oper} {rest : List Oper} {o : Oper} {a : Act} {Q : Exit → Act → World → Prop} (hgd : o.guard = none) (s x : Operand)
    (ho : o.op = .call { callee := .builtin .append, args := #[s, x], argTypes := #[30, 30] })
    (base : Nat) (A : Option Addr) (n c : Nat) (xs : List Sp) (hs : a.eval s = .slice A n c) (hown : Own w base A n c xs)
    (B : Nat) (C : Option Addr) (m d : Nat) (ys : List Sp) (hx : a.eval x = .slice C m d) (hr : Spans w B C m ys) (hnil : C = none → m = 0 ∧ d = 0) (hlen : n + m ≤ 4000000) (hbase : base ≤ w.heap.size)
    (h : ∀ A' c' w', Own w' base A' (n + m) c' (xs ++ ys) → w.grownBy w' (Value.slice A n c).ownBlock → wpList Try.prog ops Q rest (a.put o.dst (.slice A' (n + m) c')) w') :
    wpList Try.prog ops Q (o :: rest) a w := by
  obtain ⟨i, hi, hz, h1, h2⟩ := info_parts info_span
  cases C with
  | none =>
    obtain ⟨rfl, rfl⟩ := hnil rfl
    have hy : ys = [] := List.eq_nil_of_length_eq_zero hr.1
    subst hy
    refine wpList_append_own_none hgd s x _ ho base 23 i 2 Try.underlying30 hi (.slice A n c) n _ hs hown hx ?_
    have hh := h A c w (by simpa [Own] using hown) (World.grownBy.refl w _)
    simpa using hh
  | some ad =>
    refine wpList_append_own w hgd s x _ ho base 23 i _ 2 16 Try.underlying30 hi hz h1 h2 rfl (by omega) (.slice A n c) n _ hs hown ad m d (cel ys) hx (by rw [cel_length, hr.1]) (spans_cells hr) (cel_cell ys) (by unfold maxLen; omega) (by omega) hbase ?_
    intro v' w' hown' hg _
    rw [← cel_append] at hown'
    obtain ⟨A', c', rfl, hO⟩ := own_of_row hown'
    exact h A' c' w' hO hg

theorem grown_below {w w' : World} {B : Nat} {row : Option Nat} (hg : w.grownBy w' row) (hB : B ≤ w.heap.size) (hr : ∀ k, row = some k → B ≤ k) : Below B w w' := (Below.refl B w).grown hg hB hr

/-- What a call gives that appends to a row of the caller's own. -/
def Puts (base : Nat) (w : World) (zs : List Sp) (e : Ending) (w' : World) : Prop := ∃ A k c, e = .returned (.slice A k c) ∧ Own w' base A k c zs ∧ Below base w w'

set_option maxHeartbeats 1000000 in
theorem put_no (base : Nat) (A : Option Addr) (n c : Nat) (xs : List Sp) (s : Sp) (w : World) (hO : Own w base A n c xs) (hb : base ≤ w.heap.size) (h : has s = false) :
    Calls Try.prog 30 #[.slice A n c, ag s] w (Puts base w xs) := by
  have C := fun w => Lib.hid (rmany s w)
  rw [mn_no h] at C
  have HO := Lib.hid hO
  clear h hO
  obtain ⟨s1, s2⟩ := s
  go_enter Try.func30, Try.ntmps30
  go_wp2_with fail
  refine (C _).out.mono ?_
  rintro e w1 ⟨rfl, hb1⟩
  obtain ⟨X, hB⟩ := bx1 hb1
  have HB := Lib.hid hB
  clear hb1 hB X
  go_wp2
  go_ret
  exact ⟨A, n, c, rfl, HO.out.below HB.out, HB.out.mono hb⟩

set_option maxHeartbeats 1000000 in
theorem put_yes (base : Nat) (A : Option Addr) (n c : Nat) (xs : List Sp) (s : Sp) (w : World) (hO : Own w base A n c xs) (hb : base ≤ w.heap.size) (hn : n ≤ 1000000) (h : has s = true) :
    Calls Try.prog 30 #[.slice A n c, ag s] w (Puts base w (xs ++ [s])) := by
  have C := fun w => Lib.hid (rmany s w)
  have tm : (mn s == 0) = false := by
    rw [beq_eq_false_iff_ne]
    have : 0 < mn s := by simpa [has] using h
    omega
  have HO := Lib.hid hO
  clear h hO
  generalize mn s = m at C tm
  obtain ⟨s1, s2⟩ := s
  go_enter Try.func30, Try.ntmps30
  go_wp2_with fail
  refine (C _).out.mono ?_
  rintro e w1 ⟨rfl, hb1⟩
  obtain ⟨X, hB⟩ := bx1 hb1
  have x0 := X.c0
  have x1 := X.c1
  have HB := Lib.hid hB
  clear hb1 hB X
  go_wp2_with (at_builtin; refine wpList_app _ rfl (.tmp 9) (.tmp 11) rfl base A n c xs rfl ((HO.out.below HB.out).alloc _) (w1.heap.size + 1) (some ⟨w1.heap.size, 0, none⟩) 1 1 [(s1, s2)] rfl (by have := spans_new1 w1 s1 s2; rwa [World.size_alloc] at this) (fun h => by cases h) (by omega) (by have := HB.out.size; simp; omega) ?_; intro A2 c2 w2 hO2 hg2; have HO2 := Lib.hid hO2; have HG2 := Lib.hid hg2; clear hO2 hg2)
  go_ret
  exact ⟨A2, n + 1, c2, rfl, HO2.out, (((HB.out.mono hb).alloc (Nat.le_trans hb HB.out.size) _).grown HG2.out (by have := HB.out.size; simp; omega) (fun j hj => (HO.out.lt j hj).1))⟩

theorem put (base : Nat) (A : Option Addr) (n c : Nat) (xs : List Sp) (s : Sp) (w : World) (hO : Own w base A n c xs) (hb : base ≤ w.heap.size) (hn : n ≤ 1000000) :
    Calls Try.prog 30 #[.slice A n c, ag s] w (Puts base w (xs ++ kp [s])) := by
  rw [kp_one]
  by_cases h : has s = true
  · rw [if_pos h]; exact put_yes base A n c xs s w hO hb hn h
  · rw [if_neg h, List.append_nil]; exact put_no base A n c xs s w hO hb (by simpa using h)

theorem Own.le1 {w : World} {base k c : Nat} {A : Option Addr} {x : Sp} (h : Own w base A k c ([] ++ kp [x])) : k ≤ 1000000 := by
  have hl := h.len
  have : ([] ++ kp [x]).length ≤ 1 := Nat.le_trans (List.length_filter_le _ _) (by simp)
  omega

theorem putN (s : Sp) (w : World) : Calls Try.prog 30 #[.slice none 0 0, ag s] w (Puts w.heap.size w ([] ++ kp [s])) := put w.heap.size none 0 0 [] s w Own.nil (Nat.le_refl _) (by omega)

set_option maxHeartbeats 1000000 in
theorem rless_no (a b : Sp) (w : World) (h0 : ct a b = (0, 0)) : Calls Try.prog 22 #[ag a, ag b] w (Gives w (kp [a])) := by
  have C := fun w => Lib.hid (rcut a b w)
  have D := fun w => Lib.hid (rmany (0, 0) w)
  have e0 : mn (0, 0) = 0 := by decide
  rw [e0] at D
  rw [h0] at C
  clear h0 e0
  obtain ⟨a1, a2⟩ := a
  obtain ⟨b1, b2⟩ := b
  go_enter Try.func22, Try.ntmps22
  go_wp2_with fail
  refine (C _).out.mono ?_
  rintro e w1 ⟨rfl, hb⟩
  obtain ⟨X, Y, hB⟩ := bx2 hb
  have HX := Lib.hid X
  have HB := Lib.hid hB
  clear hb hB X Y C
  go_wp2_with fail
  refine (D _).out.mono ?_
  rintro e w2 ⟨rfl, hb⟩
  obtain ⟨K, hB⟩ := bx1 hb
  have HB2 := Lib.hid (HB.out.trans (hB.mono HB.out.size))
  have X2 := HX.out.keep hB
  have x0 := X2.c0
  have x1 := X2.c1
  clear hb hB K X2 HX HB D
  go_wp2_with fail
  refine (put w2.heap.size none 0 0 [] (a1, a2) w2 Own.nil (Nat.le_refl _) (by omega)).mono ?_
  rintro e w3 ⟨A, k, c, rfl, hO, hb⟩
  have HO := Lib.hid hO
  have HB3 := Lib.hid (HB2.out.trans (hb.mono HB2.out.size))
  clear hO hb HB2
  go_wp2
  go_ret
  exact ⟨A, k, c, rfl, HO.out.spans.1, HO.out.spans.2, HB3.out⟩

set_option maxHeartbeats 1000000 in
theorem rless_yes (a b : Sp) (w : World) (h0 : ct a b ≠ (0, 0)) : Calls Try.prog 22 #[ag a, ag b] w (Gives w (kp [(a.1, (ct a b).1), ((ct a b).2, a.2)])) := by
  have C := fun w => Lib.hid (rcut a b w)
  have D := fun w => Lib.hid (rmany (ct a b) w)
  have tm : (mn (ct a b) == 0) = false := by
    rw [beq_eq_false_iff_ne]
    obtain ⟨_, _, hh, e⟩ := ct_yes h0
    have : 0 < mn (ct a b) := by rw [e]; simpa [has] using hh
    omega
  clear h0
  generalize ct a b = k at C D tm ⊢
  generalize mn k = m at D tm
  obtain ⟨a1, a2⟩ := a
  obtain ⟨b1, b2⟩ := b
  obtain ⟨k1, k2⟩ := k
  rw [kp_two]
  go_enter Try.func22, Try.ntmps22
  go_wp2_with fail
  refine (C _).out.mono ?_
  rintro e w1 ⟨rfl, hb⟩
  obtain ⟨X, Y, hB⟩ := bx2 hb
  have HX := Lib.hid X
  have HB := Lib.hid hB
  clear hb hB X Y C
  go_wp2_with fail
  refine (D _).out.mono ?_
  rintro e w2 ⟨rfl, hb⟩
  obtain ⟨K, hB⟩ := bx1 hb
  have HB2 := Lib.hid (HB.out.trans (hB.mono HB.out.size))
  have X2 := HX.out.keep hB
  have x0 := X2.c0
  have x1 := X2.c1
  have k0 := K.c0
  have k1' := K.c1
  have HX2 := Lib.hid X2
  have HK2 := Lib.hid K
  clear hb hB K X2 HX HB D
  go_wp2_with fail
  go_region_held3 (fun w' => (w'.cell? ⟨w.heap.size, 0, none⟩ = some (.int .i64 a1) ∧ w'.cell? ⟨w.heap.size, 1, none⟩ = some (.int .i64 a2)) ∧ (w'.cell? ⟨w1.heap.size, 0, none⟩ = some (.int .i64 k1) ∧ w'.cell? ⟨w1.heap.size, 1, none⟩ = some (.int .i64 k2)))
    (first | exact ⟨⟨x0, x1⟩, ⟨k0, k1'⟩⟩ | exact ⟨⟨y0, y1⟩, ⟨q0, q1⟩⟩ | exact ⟨⟨z0, z1⟩, ⟨p0, p1⟩⟩)
    (first
    | (go_at_call 30; ((with_reducible refine (putN (a1, k1) _).mono ?_); rintro e w3 ⟨A, k, c, rfl, hO, hb⟩; have HO := Lib.hid hO; have HB3 := Lib.hid (p := Below w2.heap.size w2 w3) ⟨hb.os, hb.tape, hb.output, hb.size, hb.block⟩; have Y2 := HX2.out.keep HB3.out; have Q2 := HK2.out.keep HB3.out; have y0 := Y2.c0; have y1 := Y2.c1; have q0 := Q2.c0; have q1 := Q2.c1; clear hO hb Y2 Q2))
    | (go_at_call 30; (refine (put w2.heap.size A k c _ (k2, a2) _ HO.out HB3.out.size HO.out.le1).mono ?_; rintro e w4 ⟨A', k', c', rfl, hO, hb⟩; have HO4 := Lib.hid hO; have HB4 := Lib.hid (p := Below w2.heap.size w2 w4) (HB3.out.trans hb); have Z2 := HX2.out.keep HB4.out; have P2 := HK2.out.keep HB4.out; have z0 := Z2.c0; have z1 := Z2.c1; have p0 := P2.c0; have p1 := P2.c1; clear hO hb Z2 P2)))
  all_goals (go_wp2; go_ret; exact ⟨A', k', c', rfl, HO4.out.spans.1, HO4.out.spans.2, HB2.out.trans (HB4.out.mono HB2.out.size)⟩)

theorem rless (a b : Sp) (w : World) : Calls Try.prog 22 #[ag a, ag b] w (Gives w (ls a b)) := by
  by_cases h0 : ct a b = (0, 0)
  · rw [ls, if_pos h0]; exact rless_no a b w h0
  · rw [ls, if_neg h0]; exact rless_yes a b w h0

end Spn
end Go.Proofs.Ytbollbbanmdbhaa
