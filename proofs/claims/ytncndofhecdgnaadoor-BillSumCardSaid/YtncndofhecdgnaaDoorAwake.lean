/-
  What the condition on the listed variable gives: the table of months; and the statements' own look at the chapter's examples. Conditions: the table reads as it is laid.
-/
import Derived.Test.YtncndofhecdgnaaDoorRefShift
import Derived.ProofKit
import Derived.LaidMore
import Derived.OpenShut
import Derived.ChangeOld
import Derived.Below
import Derived.Lay
import Derived.Stop.Joined
import Derived.Lib.SmallJoins
namespace Go.Proofs.YtncndofhecdgnaaDoor
open Go.ChangeShapes Go.WideShapes Go.ChangeAt Go.RowKit Cal
namespace Day
set_option linter.unusedVariables false

theorem own : ownKnob Tryd.prog.godebug = none := by kernel_rfl
theorem laidOut : laidOutB Tryd.prog = true := by kernel_rfl
theorem gMonths : Tryd.prog.globalNamed "bordereau/day.monthDays" = some 0 := by kernel_rfl
theorem tMonths : (Tryd.prog.globals[0]?).map (·.type) = some 67 := by kernel_rfl
/-- The door's own heap meets the condition. -/
theorem door_met (os : Os) (args : Array Value) : laidMetH Tryd.prog [("bordereau/day.monthDays", Rows.laid_bordereau_day_monthDays)] ((World.doorLaid Tryd.prog 14 os).forCall (fun _ _ => 0) ⟨#[], args, []⟩).memory :=
  laidMetH_of_parts3 (fuel := 8) (laidMet_of_run' 8 (by kernel_rfl) (by kernel_rfl)) (by kernel_rfl) (by kernel_rfl)

theorem i64_of {n : Int} (h : (Lit.int .i64 n).wf = true) : -9223372036854775808 ≤ n ∧ n ≤ 9223372036854775807 := by
  simpa [Lit.wf, IntKind.min, IntKind.max, IntKind.signed, IntKind.bits] using h
theorem u32_of {n : Int} (h : (Lit.int .u32 n).wf = true) : 0 ≤ n ∧ n ≤ 4294967295 := by
  simpa [Lit.wf, IntKind.min, IntKind.max, IntKind.signed, IntKind.bits] using h
theorem u16_of {n : Int} (h : (Lit.int .u16 n).wf = true) : 0 ≤ n ∧ n ≤ 65535 := by
  simpa [Lit.wf, IntKind.min, IntKind.max, IntKind.signed, IntKind.bits] using h

/-- A struct of three ints by value: its form. -/
theorem open_civil {H : Type} {enc : TypeId × Value → H} {W : World} {base : Nat} {sp : Nat → Bool} {v : Value} {d : DataW H} {p : List MemPlace}
    (hv : Value.okWide Tryd.prog W .any base 54 v) (h : DataW.Trod enc Tryd.prog W 0 sp true 54 v d p) : ∃ y m d : Int, v = .agg #[.int .i64 y, .int .i64 m, .int .i64 d] := by
  obtain ⟨v0, v1, v2, y0, y1, y2, n, rfl, _, _, h0, h1, h2⟩ := Go.Joins.open_agg3 Tryd.underlying54 (by kernel_rfl) (by kernel_rfl) hv h
  obtain ⟨a, e0, _, _⟩ := DataW.trod_int Tryd.underlying3 h0
  obtain ⟨b, e1, _, _⟩ := DataW.trod_int Tryd.underlying3 h1
  obtain ⟨c, e2, _, _⟩ := DataW.trod_int Tryd.underlying3 h2
  simp at e0 e1 e2
  exact ⟨a, b, c, by rw [e0, e1, e2]⟩

theorem of_laid {W : World} (h : laidMetH Tryd.prog [("bordereau/day.monthDays", Rows.laid_bordereau_day_monthDays)] W) : Tab W := by
  rw [MakeChecks.laidMetH_plain _ _ _ (by kernel_rfl)] at h
  obtain ⟨ps, ⟨g0, t0, cs0, f0, p0, q0, hg0, ht0, hv0, hd0, _, _⟩, _, _⟩ := h
  obtain rfl := Option.some.inj (gMonths.symm.trans hg0)
  obtain rfl := Option.some.inj (tMonths.symm.trans ht0)
  obtain ⟨xs, m1, rfl, hx1, hlen, hn3, hel⟩ := DataW.trod_array Tryd.underlying67 hd0
  have c3 : Tryd.prog.cellsOf 3 = 1 := by kernel_rfl
  have c47 : Tryd.prog.cellsOf 67 = 12 := by kernel_rfl
  simp only [Prod.mk.injEq, Rows.laid_bordereau_day_monthDays, DataW.agg.injEq] at hx1
  obtain ⟨l⟩ := cs0
  have hcell : ∀ k : Nat, k < 12 → W.cell? ⟨0, k, none⟩ = some (.int .i64 (mt k)) := by
    intro k hk
    have hk' := hel k hk
    rw [c3, Nat.mul_one] at hk'
    have hl : l.length = 12 := by rw [c47] at hlen; simpa using hlen
    have hxk : ∃ x, xs[k]? = some x ∧ x.1 = .lit (.int .i64 (mt k)) := by
      match xs, hn3, hx1.1 with
      | [x0, x1, x2, x3, x4, x5, x6, x7, x8, x9, x10, x11], _, hx =>
        simp only [List.map_cons, List.map_nil, List.cons.injEq] at hx
        rcases (by omega : k = 0 ∨ k = 1 ∨ k = 2 ∨ k = 3 ∨ k = 4 ∨ k = 5 ∨ k = 6 ∨ k = 7 ∨ k = 8 ∨ k = 9 ∨ k = 10 ∨ k = 11) with rfl | rfl | rfl | rfl | rfl | rfl | rfl | rfl | rfl | rfl | rfl | rfl
        · exact ⟨_, rfl, hx.1.symm⟩
        · exact ⟨_, rfl, hx.2.1.symm⟩
        · exact ⟨_, rfl, hx.2.2.1.symm⟩
        · exact ⟨_, rfl, hx.2.2.2.1.symm⟩
        · exact ⟨_, rfl, hx.2.2.2.2.1.symm⟩
        · exact ⟨_, rfl, hx.2.2.2.2.2.1.symm⟩
        · exact ⟨_, rfl, hx.2.2.2.2.2.2.1.symm⟩
        · exact ⟨_, rfl, hx.2.2.2.2.2.2.2.1.symm⟩
        · exact ⟨_, rfl, hx.2.2.2.2.2.2.2.2.1.symm⟩
        · exact ⟨_, rfl, hx.2.2.2.2.2.2.2.2.2.1.symm⟩
        · exact ⟨_, rfl, hx.2.2.2.2.2.2.2.2.2.2.1.symm⟩
        · exact ⟨_, rfl, hx.2.2.2.2.2.2.2.2.2.2.2.1.symm⟩
    obtain ⟨x, hx0, hx2⟩ := hxk
    rw [hx0] at hk'
    obtain ⟨z, e1, e2, _⟩ := DataW.trod_int Tryd.underlying3 hk'
    have hz : z = mt k := by rw [e2] at hx2; simpa using hx2
    subst hz
    have e3 : (l.drop k).take 1 = [l[k]'(by omega)] := by rw [List.drop_eq_getElem_cons (by omega)]; rfl
    rw [e3] at e1
    have := World.var?_cell hg0 hv0 k
    rw [this]
    simp at e1
    simp [e1, List.getElem?_eq_getElem (by omega : k < l.length)]
  exact ⟨World.block_lt_of_cell? _ _ (hcell 0 (by omega)), hcell⟩

/-- The block 'b' holds the three numbers. -/
structure Tri (w : World) (b : Nat) (y m d : Int) : Prop where
  c0 : w.cell? ⟨b, 0, none⟩ = some (.int .i64 y)
  c1 : w.cell? ⟨b, 1, none⟩ = some (.int .i64 m)
  c2 : w.cell? ⟨b, 2, none⟩ = some (.int .i64 d)
theorem Tri.lt {w : World} {b : Nat} {y m d : Int} (h : Tri w b y m d) : b < w.heap.size := World.block_lt_of_cell? _ _ h.c0
theorem Tri.below {w w' : World} {b : Nat} {y m d : Int} (h : Tri w b y m d) (hb : Below w.heap.size w w') : Tri w' b y m d :=
  ⟨(hb.cell (p := ⟨b, 0, none⟩) h.lt).trans h.c0, (hb.cell (p := ⟨b, 1, none⟩) h.lt).trans h.c1, (hb.cell (p := ⟨b, 2, none⟩) h.lt).trans h.c2⟩
theorem Tri.alloc {w : World} {b : Nat} {y m d : Int} (h : Tri w b y m d) (o : Obj) : Tri (w.alloc o) b y m d := h.below ((Below.refl _ _).alloc (Nat.le_refl _) o)
theorem Tri.made (w : World) (y m d : Int) : Tri (w.alloc (.cells #[.int .i64 y, .int .i64 m, .int .i64 d] 54)) w.heap.size y m d := ⟨by simp, by simp, by simp⟩

theorem aw1 : nuV 2000 2 29 = 145791 ∧ nuE 2000 2 29 = 0 := by decide
theorem aw2 : shV 1601 1 31 1 = 59 ∧ shE 1601 1 31 1 = 0 := by decide
theorem aw3 : Ymd 31 1601 1 31 := ⟨by decide, by decide, by decide, by decide, by decide, by decide, by decide⟩
theorem aw4 : Ymd 365 1601 12 31 := ⟨by decide, by decide, by decide, by decide, by decide, by decide, by decide⟩
theorem aw5 : lp 2000 = true := by decide

end Day
end Go.Proofs.YtncndofhecdgnaaDoor
