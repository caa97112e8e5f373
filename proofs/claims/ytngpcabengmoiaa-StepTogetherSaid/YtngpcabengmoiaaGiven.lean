/-
  What the arguments read as; the statements' own look at the chapter's example; the document's In. Conditions: those of each theorem.
-/
import Derived.Test.YtngpcabengmoiaaSetW
import Derived.Test.YtngpcabengmoiaaSum
import Derived.Test.YtngpcabengmoiaaSame
import Derived.ProofKit
import Derived.OpenShut
import Derived.ChangeOld
import Derived.Below
import Derived.Lib.SmallJoins
import Derived.Deep.SlicePairs
namespace Go.Proofs.Ytngpcabengmoiaa
open Go.ChangeShapes Go.WideShapes Go.ChangeAt Go.RowKit St
namespace Stp
set_option linter.unusedVariables false

theorem own : ownKnob Try.prog.godebug = none := by kernel_rfl
theorem laidOut : laidOutB Try.prog = true := by kernel_rfl
theorem i64_of {n : Int} (h : (Lit.int .i64 n).wf = true) : -9223372036854775808 ≤ n ∧ n ≤ 9223372036854775807 := by
  simpa [Lit.wf, IntKind.min, IntKind.max, IntKind.signed, IntKind.bits] using h
theorem u32_of {n : Int} (h : (Lit.int .u32 n).wf = true) : 0 ≤ n ∧ n ≤ 4294967295 := by
  simpa [Lit.wf, IntKind.min, IntKind.max, IntKind.signed, IntKind.bits] using h
theorem i32_of {n : Int} (h : (Lit.int .i32 n).wf = true) : -2147483648 ≤ n ∧ n ≤ 2147483647 := by
  simpa [Lit.wf, IntKind.min, IntKind.max, IntKind.signed, IntKind.bits] using h

/-- A span by value: its form. -/
theorem open_span {H : Type} {enc : TypeId × Value → H} {W : World} {base : Nat} {sp : Nat → Bool} {v : Value} {d : DataW H} {p : List MemPlace}
    (hv : Value.okWide Try.prog W .any base 33 v) (h : DataW.Trod enc Try.prog W 0 sp true 33 v d p) : ∃ x : Pr, v = ag x := by
  obtain ⟨v0, v1, y0, y1, n, rfl, _, _, h0, h1⟩ := Go.Joins.open_agg2 Try.underlying33 (by kernel_rfl) (by kernel_rfl) hv h
  obtain ⟨a, e0, _, _⟩ := DataW.trod_int Try.underlying3 h0
  obtain ⟨b, e1, _, _⟩ := DataW.trod_int Try.underlying3 h1
  simp at e0 e1
  exact ⟨(a, b), by rw [e0, e1]⟩

theorem ints_of {H : Type} {enc : TypeId × Value → H} {W : World} {sp : Nat → Bool} {v : Value} {fuel : Nat} {y : DataW H × List MemPlace} (hf : DataW.trod enc Try.prog W 0 sp true fuel 22 [v] = some y) : ∃ A n c xs, v = .slice A n c ∧ Ints W W.heap.size A n xs ∧ n ≤ maxLen := by
  rcases open_ints Try.underlying22 Try.underlying3 (by kernel_rfl) hf with ⟨hcs, _⟩ | ⟨x, l, c', zs, hcs, _, hl, hm, hz, _, hcell, hwz⟩
  · simp at hcs
    subst hcs
    exact ⟨none, 0, 0, [], rfl, Ints.nil, by unfold maxLen; omega⟩
  · simp at hcs
    subst hcs
    have hz' : l ≤ zs.length := by rw [hz]; split <;> omega
    refine ⟨_, l, c', zs.take l, rfl, ⟨by rw [List.length_take]; omega, fun hn => ⟨x, rfl, ?_, fun j y hj => ?_⟩⟩, Nat.le_trans hl hm⟩
    · have h0 := hcell 0 (by omega)
      have := World.block_lt_of_cell? _ _ h0
      rwa [add_block] at this
    · obtain ⟨hlt, e⟩ := List.getElem?_eq_some_iff.1 hj
      rw [List.length_take] at hlt
      rw [hcell j (by omega)]
      rw [List.getElem_take] at e
      simp only [List.getD_eq_getElem?_getD, List.getElem?_eq_getElem (show j < zs.length by omega), Option.getD_some, e]

/-- A step that came in. -/
structure GivenT (w : World) (A : Option Addr) (n c : Nat) (V : Option Addr) (m d : Nat) (xs vs : List Int) : Prop where
  s : Sx w w.heap.size A n V m xs vs
  n : n ≤ maxLen
  m : m ≤ maxLen

theorem open_step {H : Type} {enc : TypeId × Value → H} {W : World} {base : Nat} {sp : Nat → Bool} {v : Value} {dd : DataW H} {p : List MemPlace}
    (hv : Value.okWide Try.prog W .any base 24 v) (h : DataW.Trod enc Try.prog W 0 sp true 24 v dd p) : ∃ A n c V m d xs vs, v = sg A n c V m d ∧ GivenT W A n c V m d xs vs := by
  obtain ⟨v0, v1, y0, y1, k, rfl, _, _, h0, h1⟩ := Go.Joins.open_agg2 Try.underlying24 (by kernel_rfl) (by kernel_rfl) hv h
  obtain ⟨A, n, c, xs, rfl, a1, a2⟩ := ints_of h0
  obtain ⟨V, m, d, vs, rfl, b1, b2⟩ := ints_of h1
  exact ⟨A, n, c, V, m, d, xs, vs, rfl, ⟨⟨a1, b1⟩, a2, b2⟩⟩

theorem set_ (A : Option Addr) (n c : Nat) (V : Option Addr) (d : Nat) (ps : List Pr) (s : Pr) (v : Int) (w : World) (hS : Sr w w.heap.size A V n ps) (hn : n ≤ 1000) (h : Right ps) :
    Calls Try.prog 14 #[sg A n c V n d, ag s, .int .i64 v] w (GivesB w (setR ps s v)) := by
  cases hs : full s
  · rw [setR, if_neg (by simp [hs])]
    exact set_wide A n c V d ps s v w hS hn h hs
  · cases hv : St.fits v
    · rw [setR, if_neg (by simp [hv])]
      exact set_far A n c V d ps s v w hS hn h hs hv
    · rw [setR, if_pos ⟨hs, hv⟩]
      exact set_yes A n c V d ps s v w hS hn h hs hv

/-- A step that a call made. -/
structure Mk (w : World) (A : Option Addr) (V : Option Addr) (ps : List Pr) : Prop where
  mk ::
  s : Sr w w.heap.size A V ps.length ps
theorem GivesB.mk_ {w w' : World} {ps : List Pr} {A V : Option Addr} {c d : Nat} (h : OwnS w' w.heap.size A ps.length c V ps.length d (ps.map (·.1)) (ps.map (·.2))) : Mk w' A V ps := ⟨h.sx⟩
theorem Mk.keep {w w' : World} {A V : Option Addr} {ps : List Pr} (h : Mk w A V ps) (hb : Below w.heap.size w w') : Mk w' A V ps := ⟨h.s.keep_ hb⟩

theorem al1 (w : World) (o : Obj) : Below w.heap.size w (w.alloc o) := (Below.refl _ _).alloc (Nat.le_refl _) o
theorem al_set : setR [] (3, 5) 7 = [(3, 7), (5, 0)] := by decide +kernel
theorem al_right : Right [(3, 7), (5, 0)] := by
  refine ⟨⟨by decide, by decide, by decide, by decide, by decide, by decide, trivial⟩, fun x hx => ?_⟩
  simp at hx
  rcases hx with rfl | rfl <;> decide
theorem al_sv : sv (pieces (val 0 [(3, 7), (5, 0)]) (cuts (1, 10) [(3, 7), (5, 0)]) 10) = 14 := by decide +kernel
theorem al_se : se (pieces (val 0 [(3, 7), (5, 0)]) (cuts (1, 10) [(3, 7), (5, 0)]) 10) = 0 := by decide +kernel

set_option maxRecDepth 100000 in
set_option maxHeartbeats 4000000 in
theorem awake (w : World) : Calls Try.prog 5 #[] w fun e w' => e = .returned (.bool true) ∧ Below w.heap.size w w' := by
  have h0 : Right [] := ⟨trivial, fun x hx => by cases hx⟩
  have C1 := Lib.hid (set_ none 0 0 none 0 [] (3, 5) 7 w ⟨Ints.nil, Ints.nil⟩ (by omega) h0)
  rw [al_set] at C1
  go_enter Try.func5, Try.ntmps5
  go_wp2_with fail
  refine C1.out.mono ?_
  rintro e w1 ⟨A, c, V, d, rfl, hO, hb⟩
  have M1 := GivesB.mk_ hO
  have hB1 := hb.alloc hb.size (.cells #[.slice A 2 c, .slice V 2 d] 24)
  have M2 := M1.keep ((Below.refl _ w1).alloc (Nat.le_refl _) (.cells #[.slice A 2 c, .slice V 2 d] 24))
  have X2 := Bx.new w1 24 (.slice A 2 c) (.slice V 2 d)
  have HB1 := Lib.hid hB1
  have HM2 := Lib.hid M2
  have HX2 := Lib.hid X2
  clear hO hb M1 hB1 M2 X2 C1
  simp only [List.length_cons, List.length_nil, Nat.zero_add, Nat.reduceAdd]
  go_wp2_with fail
  refine (sum_yes A 2 c V d _ (1, 10) _ HM2.out.s (by omega) al_right (by decide)).mono ?_
  rintro e w2 ⟨rfl, hb⟩
  rw [al_sv, al_se]
  have HB2 := Lib.hid (HB1.out.trans (hb.mono HB1.out.size))
  have HM3 := Lib.hid (HM2.out.keep hb)
  have HX3 := Lib.hid (HX2.out.keep hb)
  clear hb HB1 HM2 HX2
  have x0 := HX3.out.c0
  have x1 := HX3.out.c1
  go_wp2_with fail
  refine (right A 2 c V 2 d _ _ w2 HM3.out.s (by omega)).mono ?_
  rintro e w3 ⟨rfl, hb⟩
  rw [rg_of al_right]
  have HB3 := Lib.hid (HB2.out.trans (hb.mono HB2.out.size))
  have HM4 := Lib.hid (HM3.out.keep hb)
  have HX4 := Lib.hid (HX3.out.keep hb)
  clear hb HB2 HM3 HX3 x0 x1
  have x0 := HX4.out.c0
  have x1 := HX4.out.c1
  go_wp2_with fail
  refine (at_yes A 2 c V d _ 4 w3 HM4.out.s (by omega) al_right).mono ?_
  rintro e w4 ⟨rfl, hb⟩
  rw [show val 0 [(3, 7), (5, 0)] 4 = 7 by decide +kernel]
  have HB4 := Lib.hid (HB3.out.trans (hb.mono HB3.out.size))
  have HM5 := Lib.hid (HM4.out.keep hb)
  have HX5 := Lib.hid (HX4.out.keep hb)
  clear hb HB3 HM4 HX4 x0 x1
  have x0 := HX5.out.c0
  have x1 := HX5.out.c1
  go_wp2_with fail
  refine (at_yes A 2 c V d _ 5 w4 HM5.out.s (by omega) al_right).mono ?_
  rintro e w5 ⟨rfl, hb⟩
  rw [show val 0 [(3, 7), (5, 0)] 5 = 0 by decide +kernel]
  have HB5 := Lib.hid (HB4.out.trans (hb.mono HB4.out.size))
  have HM6 := Lib.hid (HM5.out.keep hb)
  have HX6 := Lib.hid (HX5.out.keep hb)
  clear hb HB4 HM5 HX5 x0 x1
  have x0 := HX6.out.c0
  have x1 := HX6.out.c1
  have hBa : Below w5.heap.size w5 ((w5.alloc (.cells #[.int .i64 3, .int .i64 5] 3)).alloc (.cells #[.int .i64 7, .int .i64 0] 3)) := ((Below.refl _ w5).alloc (Nat.le_refl _) _).alloc (by simp) _
  have i1 := ints_new2 w5 3 5
  have i2 := ints_new2 (w5.alloc (.cells #[.int .i64 3, .int .i64 5] 3)) 7 0
  rw [World.size_alloc] at i2
  have HS2 := Lib.hid (show Sx ((w5.alloc (.cells #[.int .i64 3, .int .i64 5] 3)).alloc (.cells #[.int .i64 7, .int .i64 0] 3)) (w5.heap.size + 1 + 1) (some ⟨w5.heap.size, 0, none⟩) 2 (some ⟨w5.heap.size + 1, 0, none⟩) 2 [3, 5] [7, 0] from ⟨(i1.below ((Below.refl _ _).alloc (Nat.le_refl _) _) (by simp)).wide (by omega), i2⟩)
  have HS1 := Lib.hid (show Sx ((w5.alloc (.cells #[.int .i64 3, .int .i64 5] 3)).alloc (.cells #[.int .i64 7, .int .i64 0] 3)) (w5.heap.size + 1 + 1) A 2 V 2 [3, 5] [7, 0] from Sx.wide (Sx.below HM6.out.s hBa (Nat.le_refl _)) (by omega))
  have HBa := Lib.hid hBa
  clear hBa i1 i2
  go_wp2_with fail
  refine (same A 2 c V 2 d _ _ _ _ (w5.heap.size + 1 + 1) [3, 5] [7, 0] _ (by simp) HS1.out HS2.out (by omega) (by omega)).mono ?_
  rintro e w6 ⟨rfl, hb⟩
  have HB6 := Lib.hid ((HB5.out.trans (HBa.out.mono HB5.out.size)).trans (hb.mono (Nat.le_trans HB5.out.size HBa.out.size)))
  clear hb
  go_wp2
  go_ret
  exact ⟨rfl, HB6.out⟩

/-- A span as two numbers tell one. -/
def spn (a b : Int) : Pr := (min (1 + a % 292195) (1 + b % 292195), max (1 + a % 292195) (1 + b % 292195))
theorem spn_bd {a b : Int} : 1 ≤ (spn a b).1 ∧ (spn a b).1 ≤ (spn a b).2 ∧ (spn a b).2 ≤ 292195 := by unfold spn; simp only; omega
theorem spn_full {a b : Int} (h : (spn a b).1 ≠ (spn a b).2) : full (spn a b) = true := by
  rw [full_iff]
  have := spn_bd (a := a) (b := b)
  omega

set_option maxHeartbeats 1000000 in
theorem in_r (a b : Int) (w : World) (ha : 0 ≤ a ∧ a ≤ 4294967295) (hb : 0 ≤ b ∧ b ≤ 4294967295) :
    Calls Try.prog 11 #[.int .u32 a, .int .u32 b] w fun e w' => e = .returned (ag (spn a b)) ∧ Below w.heap.size w w' := by
  obtain ⟨ha1, ha2⟩ := ha
  obtain ⟨hb1, hb2⟩ := hb
  go_enter Try.func11, Try.ntmps11
  go_wp2
  exact bodyPost_ret (v := ag (spn a b)) (by simp [results, Try.results11, go_sem, spn]) rfl ⟨rfl, (Below.refl _ _).alloc (Nat.le_refl _) _⟩

/-- A world in which all that lay in w lies as it lay. -/
structure Ext (w : World) where
  W : World
  b : Below w.heap.size w W
/-- A region whose operations read what lay there, and whose callees make memory of their own and answer the same in every such world: one walk, in the order of the text. -/
theorem quietE {P : Program} {id : Nat} {Q : Exit → Act → World → Prop} {a : Act} {w : World} {l : List Oper} (hm : P.follows .mixedOrders = true) (hB : Region.lexB .any l.toArray = true)
    (h : wpQuiet P l.toArray (fun w' => ∃ p : Ext w, w' = p.W) (fun a' => ∀ w', (∃ p : Ext w, w' = p.W) → Q .normal a' w') l a) : (Code.region id l.toArray true).wp P Q a w :=
  wp_region_quiet (C := fun w' => ∃ p : Ext w, w' = p.W) hm hB ⟨⟨{ w with drawn := w.drawn + 1 }, ⟨rfl, rfl, rfl, Nat.le_refl _, fun _ _ => rfl⟩⟩, rfl⟩ (by simpa using h)
theorem ext_of {P : Program} {f : FuncId} {args : Array Value} {w : World} {p : Ext w} {v : Value} (h : Calls P f args p.W fun e w' => e = .returned v ∧ Below p.W.heap.size p.W w') :
    Calls P f args p.W fun e w'' => e = .returned v ∧ ∃ q : Ext w, w'' = q.W := h.mono fun _ _ ⟨he, hb⟩ => ⟨he, ⟨_, p.b.trans (hb.mono p.b.size)⟩, rfl⟩
theorem Bx.ext {w : World} {b : Nat} {t : TypeId} {x y : Value} (h : Bx w b t x y) (p : Ext w) : p.W.cell? ⟨b, 0, none⟩ = some x ∧ p.W.cell? ⟨b, 1, none⟩ = some y := ⟨(h.keep p.b).c0, (h.keep p.b).c1⟩

end Stp
end Go.Proofs.Ytngpcabengmoiaa
