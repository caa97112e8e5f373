/-
  SameVersion and Same of the document, where both mean the same. Conditions: the version's lists read as lists, and are short.
-/
import Derived.Test.YthjlhjbblnoldaaOne
namespace Go.Proofs.Ythjlhjbblnoldaa
open Go.RowKit Ba Tf
namespace Trf
set_option linter.unusedVariables false

theorem eq_ints {P : Program} (w : World) (d : Nat) (t e : TypeId) (n : Nat) (ht : P.underlying t = some (.array n e)) (he : P.underlying e = some (.int .i64)) (hsz : ∀ w, (sizeOf e).run P w = .ok 1 w)
    (xs : List Int) (hx : xs.length = n) :
    (Op.equalIn (d + 2) t (.agg (xs.map (Value.int .i64)).toArray) (.agg (xs.map (Value.int .i64)).toArray)).run P w = .ok true w := by
  rw [Op.equalIn]
  simp only [Sem.run_bind, run_underlying ht, Result.andThen_ok, hsz, Std.Legacy.Range.forIn_eq_forIn_range', Std.Legacy.Range.size, Nat.sub_zero, Nat.add_sub_cancel, Nat.div_one]
  have hl : ∀ i ∈ List.range' 0 n 1, i < n := fun i hi => by simpa using (List.mem_range'_1.1 hi).2
  generalize List.range' 0 n 1 = l at hl ⊢
  induction l with
  | nil => simp
  | cons i l ih =>
    have hi : i < n := hl i (by simp)
    have px : (part e (xs.map (Value.int .i64)).toArray (i * 1)).run P w = .ok (.int .i64 (xs.getD i 0)) w := by
      simp [part, isAgg, run_underlying he, List.getD, List.getElem?_eq_getElem (show i < xs.length by omega)]
    have pe : (Op.equalIn (d + 1) e (.int .i64 (xs.getD i 0)) (.int .i64 (xs.getD i 0))).run P w = .ok true w := by
      rw [run_equalIn_int w d e .i64 .i64 _ _ he]; simp
    simp only [List.forIn_cons, Sem.run_bind, px, pe, Result.andThen_ok, Bool.not_true, Bool.false_eq_true, if_false, Sem.run_pure]
    exact ih fun j hj => hl j (by simp [hj])

theorem four_same (w : World) (a0 a1 a2 a3 : Int) :
    (Op.equalIn 10000 22 (.agg #[.int .i64 a0, .int .i64 a1, .int .i64 a2, .int .i64 a3]) (.agg #[.int .i64 a0, .int .i64 a1, .int .i64 a2, .int .i64 a3])).run Try.prog w = .ok true w :=
  eq_ints w 9998 22 3 4 Try.underlying22 Try.underlying3 (fun w => by
    obtain ⟨i, hi, hz, h1, h2⟩ := info_parts info_int
    simp [sizeOf, typeInfo, hi, h1]) [a0, a1, a2, a3] rfl

set_option maxRecDepth 100000 in
set_option maxHeartbeats 4000000 in
theorem same_version (r r2 : Rw) (hv : r2.v = r.v) (w : World) (M : Mean w (· < w.heap.size) r) (M2 : Mean w (· < w.heap.size) r2) (S : Sm r) :
    Calls Try.prog 16 #[vg r, vg r2] w (Yes w true) := by
  obtain ⟨v2, A2, la2, ca2, Z2, lz2, cz2, P2, lp2, cp2⟩ := r2
  simp only at hv
  subst hv
  have e1 := M2.a.1
  have e2 := M2.z.1
  have e3 := M2.p.1
  simp only at e1 e2 e3
  obtain rfl : la2 = r.la := by rw [← e1]; exact M.a.1
  obtain rfl : lz2 = r.lz := by rw [← e2]; exact M.z.1
  obtain rfl : lp2 = r.lp := by rw [← e3]; exact M.p.1
  have sa := S.a
  have sz := S.z
  have sp := S.p
  have CA := fun w' (h : Below w.heap.size w w') => Lib.hid (same_bands r.A A2 r.la r.ca ca2 r.v.ag w' _ _ (M.a.below h) (M2.a.below h) (by unfold maxLen; omega))
  have CZ := fun w' (h : Below w.heap.size w w') => Lib.hid (same_ints r.Z Z2 r.lz r.cz cz2 r.v.zn w' _ _ (M.z.below h) (M2.z.below h) (by unfold maxLen; omega))
  have CP := fun w' (h : Below w.heap.size w w') => Lib.hid (same_ints r.P P2 r.lp r.cp cp2 r.v.pe w' _ _ (M.p.below h) (M2.p.below h) (by unfold maxLen; omega))
  clear e1 e2 e3 M M2 S
  show Calls Try.prog 16 #[vg r, .agg #[.int .i64 r.v.fr, .int .i64 r.v.b0, .int .i64 r.v.b1, .int .i64 r.v.b2, .int .i64 r.v.b3, .slice A2 r.la ca2, .slice Z2 r.lz cz2, .slice P2 r.lp cp2, .int .i64 r.v.mn]] w (Yes w true)
  have q := four_same
  obtain ⟨W, hW⟩ : ∃ W, (w.alloc (.cells (vc r) 26)).alloc (.cells #[.int .i64 r.v.fr, .int .i64 r.v.b0, .int .i64 r.v.b1, .int .i64 r.v.b2, .int .i64 r.v.b3, .slice A2 r.la ca2, .slice Z2 r.lz cz2, .slice P2 r.lp cp2, .int .i64 r.v.mn] 26) = W := ⟨_, rfl⟩
  have HX := Lib.hid (show Bx W w.heap.size 26 (vc r) by rw [← hW]; exact (Bx.new _ _ _).alloc _)
  have HY := Lib.hid (show Bx W (w.heap.size + 1) 26 #[.int .i64 r.v.fr, .int .i64 r.v.b0, .int .i64 r.v.b1, .int .i64 r.v.b2, .int .i64 r.v.b3, .slice A2 r.la ca2, .slice Z2 r.lz cz2, .slice P2 r.lp cp2, .int .i64 r.v.mn] by
    rw [← hW]
    have := Bx.new (w.alloc (.cells (vc r) 26)) 26 #[.int .i64 r.v.fr, .int .i64 r.v.b0, .int .i64 r.v.b1, .int .i64 r.v.b2, .int .i64 r.v.b3, .slice A2 r.la ca2, .slice Z2 r.lz cz2, .slice P2 r.lp cp2, .int .i64 r.v.mn]
    rw [World.size_alloc] at this
    exact this)
  have HB := Lib.hid (show Below w.heap.size w W by rw [← hW]; exact (alloc_ _ _).alloc (by simp) _)
  have HW := Lib.hid hW
  clear hW
  go_enter Try.func16, Try.ntmps16
  go_wp2_with fail
  rw [HW.out]
  refine (CA _ HB.out).out.mono ?_
  rintro e w1 ⟨rfl, hb1⟩
  have HB1 := Lib.hid (HB.out.trans (hb1.mono HB.out.size))
  have HX1 := Lib.hid (HX.out.keep hb1)
  have HY1 := Lib.hid (HY.out.keep hb1)
  have x6 := HX1.out.c 6
  have y6 := HY1.out.c 6
  simp at x6 y6
  clear hb1 HX HY HB HW
  go_wp2_with fail
  refine (CZ _ HB1.out).out.mono ?_
  rintro e w2 ⟨rfl, hb2⟩
  have HB2 := Lib.hid (HB1.out.trans (hb2.mono HB1.out.size))
  have x7 := (HX1.out.keep hb2).c 7
  have y7 := (HY1.out.keep hb2).c 7
  simp at x7 y7
  clear hb2 HX1 HY1 x6 y6
  go_wp2_with fail
  refine (CP _ HB2.out).out.mono ?_
  rintro e w3 ⟨rfl, hb3⟩
  have HB3 := Lib.hid (HB2.out.trans (hb3.mono HB2.out.size))
  clear hb3
  go_wp2
  go_ret
  exact ⟨rfl, HB3.out⟩

end Trf
end Go.Proofs.Ythjlhjbblnoldaa
