/-
  made: the step with values that are asked of a function, changing on the days of an iterator. Conditions: the iterator's contract, the function's contract.
-/
import Derived.Test.YtngpcabengmoiaaIter
import Derived.Test.YtngpcabengmoiaaApp
import Derived.Test.YtngpcabengmoiaaVal
namespace Go.Proofs.Ytngpcabengmoiaa
open Go.RowKit Go.Shelf St
namespace Stp
set_option linter.unusedVariables false

attribute [local go_sem] Oper.semAt_some

/-- What a call gives that makes a step. -/
def GivesS (w : World) (ps : List Pr) (e : Ending) (w' : World) : Prop := ∃ A c V d, e = .returned (sg A ps.length c V ps.length d) ∧ OwnS w' w.heap.size A ps.length c V ps.length d (ps.map (·.1)) (ps.map (·.2)) ∧ Below w.heap.size w w'

/-- The call's boxes and rows. -/
structure MJ (w : World) (fv : Value) (W : World) (A : Option Addr) (n c : Nat) (V : Option Addr) (m d : Nat) (xs vs : List Int) (hd : Int) : Prop where
  own : OwnS W (w.heap.size + 4) A n c V m d xs vs
  box : Bx W (w.heap.size + 1 + 1) 24 (.slice A n c) (.slice V m d)
  held : Boxed W (w.heap.size + 1 + 1 + 1) 3 (.int .i64 hd)
  fn : Boxed W w.heap.size 40 fv
  res : Bx W (w.heap.size + 1) 24 (.slice none 0 0) (.slice none 0 0)
  below : Below w.heap.size w W
section
variable {w W W1 W2 : World} {fv : Value} {A V : Option Addr} {n c m d : Nat} {xs vs : List Int} {hd : Int}
theorem MJ.keep (h : MJ w fv W A n c V m d xs vs hd) (hb : Below W.heap.size W W1) : MJ w fv W1 A n c V m d xs vs hd :=
  ⟨h.own.below hb, h.box.keep hb, (hb.block _ h.held.lt).trans h.held, (hb.block _ h.fn.lt).trans h.fn, h.res.keep hb, h.below.trans (hb.mono h.below.size)⟩
theorem MJ.size (h : MJ w fv W A n c V m d xs vs hd) : w.heap.size + 4 ≤ W.heap.size := by have := h.held.lt; omega
/-- The first row grew, and its header was stored. -/
theorem MJ.appA (h : MJ w fv W1 A n c V m d xs vs hd) {o : Obj} {A2 : Option Addr} {n2 c2 : Nat} {zs : List Int} (hO : OwnI W2 (w.heap.size + 4) A2 n2 c2 zs) (hg : (W1.alloc o).grownBy W2 (Value.slice A n c).ownBlock) (hw : Wh (W1.alloc o) (.slice A n c) (.slice A2 n2 c2)) :
    Bx W2 (w.heap.size + 1 + 1) 24 (.slice A n c) (.slice V m d) ∧ MJ w fv (W2.setCell ⟨w.heap.size + 1 + 1, 0, none⟩ (.slice A2 n2 c2)) A2 n2 c2 V m d zs vs hd ∧ KeepsOthers W1 (W2.setCell ⟨w.heap.size + 1 + 1, 0, none⟩ (.slice A2 n2 c2)) ∧ Below w.heap.size W1 (W2.setCell ⟨w.heap.size + 1 + 1, 0, none⟩ (.slice A2 n2 c2)) := by
  have hsz := h.size
  have hO1 := h.own.a.alloc o
  have b2 : Bx W2 (w.heap.size + 1 + 1) 24 (.slice A n c) (.slice V m d) := low_grown hO1 hg (by omega) (h.box.alloc o)
  have b3 : Boxed W2 (w.heap.size + 1 + 1 + 1) 3 (.int .i64 hd) := low_grown hO1 hg (by omega) (h.held.alloc o)
  have b0 : Boxed W2 w.heap.size 40 fv := low_grown hO1 hg (by omega) (h.fn.alloc o)
  have b1 : Bx W2 (w.heap.size + 1) 24 (.slice none 0 0) (.slice none 0 0) := low_grown hO1 hg (by omega) (h.res.alloc o)
  have hS := (h.own.alloc o).appA hO hg hw
  have hB : Below w.heap.size W1 (W2.setCell ⟨w.heap.size + 1 + 1, 0, none⟩ (.slice A2 n2 c2)) := (((Below.refl w.heap.size W1).alloc (by omega) o).trans (below_app hO1 hg (by omega) (by simp <;> omega))).setCell (p := ⟨w.heap.size + 1 + 1, 0, none⟩) (by simp <;> omega) _
  refine ⟨b2, ⟨hS.far (low_ne hS.a (by simp <;> omega)) (low_ne hS.v (by simp <;> omega)) _, b2.set0 _, ?_, ?_, b1.far (by simp) _, h.below.trans hB⟩, ?_, hB⟩
  · exact (Below.heap_setCell _ _ _ _ (by simp)).trans b3
  · exact (Below.heap_setCell _ _ _ _ (by simp <;> omega)).trans b0
  · exact ((KeepsOthers.alloc W1 o).trans (ko_app hO1 hg)).trans (KeepsOthers.setCell _ _ _)
/-- The second row grew, and its header was stored. -/
theorem MJ.appV (h : MJ w fv W1 A n c V m d xs vs hd) {o : Obj} {A2 : Option Addr} {n2 c2 : Nat} {zs : List Int} (hO : OwnI W2 (w.heap.size + 4) A2 n2 c2 zs) (hg : (W1.alloc o).grownBy W2 (Value.slice V m d).ownBlock) (hw : Wh (W1.alloc o) (.slice V m d) (.slice A2 n2 c2)) :
    Bx W2 (w.heap.size + 1 + 1) 24 (.slice A n c) (.slice V m d) ∧ Boxed W2 (w.heap.size + 1 + 1 + 1) 3 (.int .i64 hd) ∧ MJ w fv (W2.setCell ⟨w.heap.size + 1 + 1, 1, none⟩ (.slice A2 n2 c2)) A n c A2 n2 c2 xs zs hd ∧ KeepsOthers W1 (W2.setCell ⟨w.heap.size + 1 + 1, 1, none⟩ (.slice A2 n2 c2)) ∧ Below w.heap.size W1 (W2.setCell ⟨w.heap.size + 1 + 1, 1, none⟩ (.slice A2 n2 c2)) := by
  have hsz := h.size
  have hO1 := h.own.v.alloc o
  have b2 : Bx W2 (w.heap.size + 1 + 1) 24 (.slice A n c) (.slice V m d) := low_grown hO1 hg (by omega) (h.box.alloc o)
  have b3 : Boxed W2 (w.heap.size + 1 + 1 + 1) 3 (.int .i64 hd) := low_grown hO1 hg (by omega) (h.held.alloc o)
  have b0 : Boxed W2 w.heap.size 40 fv := low_grown hO1 hg (by omega) (h.fn.alloc o)
  have b1 : Bx W2 (w.heap.size + 1) 24 (.slice none 0 0) (.slice none 0 0) := low_grown hO1 hg (by omega) (h.res.alloc o)
  have hS := (h.own.alloc o).appV hO hg hw
  have hB : Below w.heap.size W1 (W2.setCell ⟨w.heap.size + 1 + 1, 1, none⟩ (.slice A2 n2 c2)) := (((Below.refl w.heap.size W1).alloc (by omega) o).trans (below_app hO1 hg (by omega) (by simp <;> omega))).setCell (p := ⟨w.heap.size + 1 + 1, 1, none⟩) (by simp <;> omega) _
  refine ⟨b2, b3, ⟨hS.far (low_ne hS.a (by simp <;> omega)) (low_ne hS.v (by simp <;> omega)) _, b2.set1 _, ?_, ?_, b1.far (by simp) _, h.below.trans hB⟩, ?_, hB⟩
  · exact (Below.heap_setCell _ _ _ _ (by simp)).trans b3
  · exact (Below.heap_setCell _ _ _ _ (by simp <;> omega)).trans b0
  · exact ((KeepsOthers.alloc W1 o).trans (ko_app hO1 hg)).trans (KeepsOthers.setCell _ _ _)
theorem MJ.put (h : MJ w fv W A n c V m d xs vs hd) (y : Int) : MJ w fv (W.setCell ⟨w.heap.size + 1 + 1 + 1, 0, none⟩ (.int .i64 y)) A n c V m d xs vs y ∧ KeepsOthers W (W.setCell ⟨w.heap.size + 1 + 1 + 1, 0, none⟩ (.int .i64 y)) ∧ Below w.heap.size W (W.setCell ⟨w.heap.size + 1 + 1 + 1, 0, none⟩ (.int .i64 y)) := by
  have hB : Below w.heap.size W (W.setCell ⟨w.heap.size + 1 + 1 + 1, 0, none⟩ (.int .i64 y)) := (Below.refl w.heap.size W).setCell (p := ⟨w.heap.size + 1 + 1 + 1, 0, none⟩) (by simp <;> omega) _
  refine ⟨⟨h.own.far (low_ne h.own.a (by simp <;> omega)) (low_ne h.own.v (by simp <;> omega)) _, h.box.far (by simp) _, h.held.set _, ?_, h.res.far (by simp <;> omega) _, h.below.trans hB⟩, KeepsOthers.setCell _ _ _, hB⟩
  exact (Below.heap_setCell _ _ _ _ (by simp <;> omega)).trans h.fn
end

/-- What holds at the head of each round. -/
def MI (w : World) (fv : Value) (st : List Pr × Int) (W : World) : Prop := ∃ A c V d, MJ w fv W A st.1.length c V st.1.length d (st.1.map (·.1)) (st.1.map (·.2)) st.2

theorem mi_own (w : World) (fv : Value) (g : Int → Int) (B : Nat) (hB : w.heap.size ≤ B) : OwnFrom B (fun (pre : List Int) W => MI w fv (mks g pre) W) := by
  rintro pre W W' row ⟨A, c, V, d, h⟩ hg hr
  have hr' := fun r e => (hr r e).2
  exact ⟨A, c, V, d, h.own.abide hg hr', cells_abide h.box hg hr', cells_abide h.held hg hr', cells_abide h.fn hg hr', cells_abide h.res hg hr', h.below.grown hg h.below.size (fun k e => Nat.le_trans hB (hr k e).1)⟩

set_option maxRecDepth 100000 in
set_option maxHeartbeats 4000000 in
theorem made (gf : Nat) (lb : Array Value) (vf : Nat) (vlb : Array Value) (g : Int → Int) (ds : List Int) (w : World) (hds : ds.length ≤ 1000000)
    (eg : ∀ args w, (callFunc gf args).run Try.prog w = .ok (.enter gf args) w) (ev : ∀ args w, (callFunc vf args).run Try.prog w = .ok (.enter vf args) w)
    (hseq : SeqStopsK Fence.wide 9 Try.prog gf lb (fun x : Int => #[.int .i64 x]) (Below w.heap.size) (fun zs => zs = ds) (fun _ => True) ds.length w)
    (hV : ∀ d W, Below w.heap.size w W → Calls Try.prog vf (#[.int .i64 d] ++ vlb) W fun e W' => e = .returned (.int .i64 (g d)) ∧ Below W.heap.size W W') :
    Calls Try.prog 16 #[.func (.func gf) #[] lb, .func (.func vf) #[] vlb] w (GivesS w (mks g ds).1) := by
  have HV := Lib.hid hV
  have HSQ := Lib.hid hseq
  clear hV hseq
  refine callsIn_wide (n := 10) |>.1 ?_
  refine callsIn_of_wp_marks Try.func16 rfl trivial ?_ rfl
  simp only [Try.ntmps16, List.size_toArray, List.length_cons, List.length_nil, Nat.reduceAdd, Nat.reduceSub, Array.replicate_succ, Array.replicate_zero, List.push_toArray, List.append_toArray, List.nil_append, List.cons_append]
  have b0 := Boxed.new w 40 (Value.func (.func vf) #[] vlb)
  have b1 := Bx.new (w.alloc (.cells #[Value.func (.func vf) #[] vlb] 40)) 24 (.slice none 0 0) (.slice none 0 0)
  have b2 := Bx.new ((w.alloc (.cells #[Value.func (.func vf) #[] vlb] 40)).alloc (.cells #[.slice none 0 0, .slice none 0 0] 24)) 24 (.slice none 0 0) (.slice none 0 0)
  have b3 := Boxed.new (((w.alloc (.cells #[Value.func (.func vf) #[] vlb] 40)).alloc (.cells #[.slice none 0 0, .slice none 0 0] 24)).alloc (.cells #[.slice none 0 0, .slice none 0 0] 24)) 3 (.int .i64 0)
  simp only [World.size_alloc] at b1 b2 b3
  have hB0 : Below w.heap.size w ((((w.alloc (.cells #[Value.func (.func vf) #[] vlb] 40)).alloc (.cells #[.slice none 0 0, .slice none 0 0] 24)).alloc (.cells #[.slice none 0 0, .slice none 0 0] 24)).alloc (.cells #[.int .i64 0] 3)) := ((((Below.refl _ w).alloc (Nat.le_refl _) _).alloc (by simp) _).alloc (by simp <;> omega) _).alloc (by simp <;> omega) _
  gi_wp2
  refine wpIn_rangeFunc_ownH rfl (by decide) (gf := gf) (lb := lb) rfl trivial eg HSQ.out belowK_t (belowK_b (by simp <;> omega)) hB0 (fun _ => rfl)
    (fun pre W => MI w (Value.func (.func vf) #[] vlb) (mks g pre) W)
    (fun _ _ _ => False)
    (mi_own w _ g _ (by simp <;> omega))
    (fun _ _ _ _ _ hs _ _ => hs)
    ⟨none, 0, none, 0, OwnS.nil, b2.alloc _, b3, ((b0.alloc _).alloc _).alloc _, (b1.alloc _).alloc _, hB0⟩
    (fun x a' W => a' = { tmps := #[.func (.func gf) #[] lb, .func (.func vf) #[] vlb, undef, .pointer (some ⟨w.heap.size, 0, none⟩), .pointer (some ⟨w.heap.size + 1, 0, none⟩), .pointer (some ⟨w.heap.size + 1 + 1, 0, none⟩), .pointer (some ⟨w.heap.size + 1 + 1 + 1, 0, none⟩), .int .i64 x, undef, .func (.func gf) #[] lb, .int .i64 x, undef, undef, undef, undef, undef, undef, undef, undef, undef, undef, undef, undef, undef, undef, undef, undef, undef, undef, undef, undef], defers := [] })
    (fun x a' _ X Y row hs hg hr => hs)
    ?assign ?body ?done ?stop
  case assign =>
    rintro l pre x W K hI hK
    gi_wp2
    exact hK _ _ (KeepsFrom.refl _ _) (Below.refl _ W) hI rfl
  case body =>
    rintro l pre x a' W hl ⟨r, hr⟩ ⟨A, c, V, d, I⟩ rfl hlt
    have hst : (mks g pre).1.length ≤ pre.length := mks_len g pre
    have hk : (mks g pre).1.length ≤ 1000000 := by omega
    have HMS := Lib.hid (show mks g (pre ++ [x]) = if g x = (mks g pre).2 then mks g pre else ((mks g pre).1 ++ [(x, g x)], g x) from mks_snoc g pre x)
    generalize mks g pre = st at I hk hst HMS
    obtain ⟨ps, hd⟩ := st
    simp only at I hk hst
    obtain ⟨k, hkl⟩ : ∃ k, ps.length = k := ⟨_, rfl⟩
    rw [hkl] at I hk
    have HKL := Lib.hid hkl
    clear hst hkl
    have HC := Lib.hid (CallsIn.inRound l (callsIn_wide (n := 7).2 (HV.out x W I.below)))
    have c3 := I.fn.cell
    have HI := Lib.hid I
    clear I
    gi_wp2_with fail
    refine ⟨trivial, HC.out.mono ?_⟩
    rintro e W1 ⟨rfl, hb1⟩
    have I1 := HI.out.keep hb1
    have hKO := Lib.hid (ko_below hb1)
    have hBW := Lib.hid (show Below w.heap.size W W1 from hb1.mono HI.out.below.size)
    have hb := I1.held.cell
    have hbx := I1.box.c0
    have H1 := Lib.hid I1
    have hs1 := I1.size
    clear hb1 HC c3 I1
    generalize g x = y at HMS
    by_cases hv : y = hd
    · have tv : (y == hd) = true := by simpa using hv
      have HM := Lib.hid (show mks g (pre ++ [x]) = (ps, hd) by rw [HMS.out]; exact if_pos hv)
      clear hv HMS
      gi_wp2
      refine ⟨hKO.out.from _, hBW.out, ?_⟩
      show MI w _ (mks g (pre ++ [x])) W1
      rw [HM.out]
      refine ⟨A, c, V, d, ?_⟩
      simp only [HKL.out]
      exact H1.out
    · have tv : (y == hd) = false := by simpa using hv
      have HM := Lib.hid (show mks g (pre ++ [x]) = (ps ++ [(x, y)], y) by rw [HMS.out]; exact if_neg hv)
      clear hv HMS
      gi_wp2_with (first
        | (gi_at_builtin; refine wpListIn_appW _ rfl (.tmp 18) (.tmp 20) rfl (w.heap.size + 4) A k c _ rfl (H1.out.own.a.alloc _) (W1.heap.size + 1) ⟨W1.heap.size, 0, none⟩ 1 1 [x] rfl (ints_new1 W1 x) (by omega) (by omega) (by simp <;> omega) ?_; intro A2 c2 W2 hO2 hg2 hw2; obtain ⟨B2, J2, K2, L2⟩ := H1.out.appA hO2 hg2 hw2; have x0 := B2.c0; have x1 := B2.c1; have f0 := B2.f 0; have f1 := B2.f 1; have hs2 := J2.size; have HJ2 := Lib.hid J2; have HK2 := Lib.hid K2; have HL2 := Lib.hid L2; clear B2 hO2 hg2 hw2 J2 K2 L2)
        | (gi_at_builtin; refine wpListIn_appW _ rfl (.tmp 24) (.tmp 26) rfl (w.heap.size + 4) V k d _ rfl (HJ2.out.own.v.alloc _) (W2.heap.size + 1) ⟨W2.heap.size, 0, none⟩ 1 1 [y] rfl (ints_new1' _ y _ (size_set _ _ _)) (by omega) (by omega) (by simp only [World.size_alloc]; omega) ?_; intro V3 d3 W3 hO3 hg3 hw3; obtain ⟨B3, D3, J3, K3, L3⟩ := HJ2.out.appV hO3 hg3 hw3; have y0 := B3.c0; have y1 := B3.c1; have p0 := B3.f 0; have p1 := B3.f 1; have q0 := D3.cell; have q1 := D3.frozen; have HJ3 := Lib.hid J3; have HK3 := Lib.hid K3; have HL3 := Lib.hid L3; clear B3 hO3 hg3 hw3 J3 K3 L3 D3)
        | fail)
      obtain ⟨J4, K4, L4⟩ := HJ3.out.put y
      refine ⟨(((hKO.out.trans HK2.out).trans HK3.out).trans K4).from _, ((hBW.out.trans HL2.out).trans HL3.out).trans L4, ?_⟩
      show MI w _ (mks g (pre ++ [x])) _
      rw [HM.out]
      refine ⟨A2, c2, V3, d3, ?_⟩
      simp only [List.length_append, List.length_cons, List.length_nil, HKL.out, List.map_append, List.map_cons, List.map_nil]
      exact J4
  case done =>
    rintro D zs W hD rfl ⟨A, c, V, d, I⟩ hK
    have c0 := I.box.c0
    have c1 := I.box.c1
    have r0 := I.res.c0
    have r1 := I.res.c1
    have f0 := I.res.f 0
    have f1 := I.res.f 1
    have HI := Lib.hid I
    clear I
    obtain ⟨k, hk⟩ : ∃ k, (mks g zs).1.length = k := ⟨_, rfl⟩
    have HKL := Lib.hid hk
    rw [hk] at c0 c1 HI
    clear hk
    gi_wp2
    obtain ⟨W5, hW5⟩ : ∃ W5, (W.setCell ⟨w.heap.size + 1, 0, none⟩ (.slice A k c)).setCell ⟨w.heap.size + 1, 1, none⟩ (.slice V k d) = W5 := ⟨_, rfl⟩
    rw [hW5]
    have hD' : w.heap.size + 4 ≤ D := by simpa using hD
    have hK5 : W5.heap[D]? = some (.deferred (some [])) := by
      rw [← hW5]
      exact (Below.heap_setCell _ _ _ _ (by simp <;> omega)).trans ((Below.heap_setCell _ _ _ _ (by simp <;> omega)).trans hK)
    have R5 : Bx W5 (w.heap.size + 1) 24 (.slice A k c) (.slice V k d) := by rw [← hW5]; exact (HI.out.res.set0 _).set1 _
    have O5 : OwnS W5 (w.heap.size + 4) A k c V k d ((mks g zs).1.map (·.1)) ((mks g zs).1.map (·.2)) := by
      rw [← hW5]
      have h1 := HI.out.own.far (p := ⟨w.heap.size + 1, 0, none⟩) (low_ne HI.out.own.a (by simp <;> omega)) (low_ne HI.out.own.v (by simp <;> omega)) (.slice A k c)
      exact h1.far (p := ⟨w.heap.size + 1, 1, none⟩) (low_ne h1.a (by simp <;> omega)) (low_ne h1.v (by simp <;> omega)) (.slice V k d)
    have B5 : Below w.heap.size w W5 := by
      rw [← hW5]
      exact (HI.out.below.setCell (p := ⟨w.heap.size + 1, 0, none⟩) (by simp <;> omega) _).setCell (p := ⟨w.heap.size + 1, 1, none⟩) (by simp <;> omega) _
    have hrow : ∀ r, some D = some r → ∃ o : Obj, W5.heap[r]? = some o ∧ o.isCells = false := fun r e => by cases e; exact ⟨_, hK5, rfl⟩
    have R6 : Bx (W5.putObj D (.deferred none)) (w.heap.size + 1) 24 (.slice A k c) (.slice V k d) := cells_abide R5 (grownBy_putObj' W5 D _) hrow
    refine ⟨by simp, .inl ⟨_, _, rfl, run_takeDeferred hK5, ?_⟩⟩
    refine ⟨sg A k c V k d, by simp [results, Try.results16, go_sem, R6.c0, R6.c1], A, c, V, d, ?_, ?_, B5.grown (grownBy_putObj' W5 D _) B5.size (fun r e => by cases e; omega)⟩
    · rw [HKL.out]
    · rw [HKL.out]
      exact (O5.abide (grownBy_putObj' W5 D _) hrow).low (by omega)
  case stop =>
    rintro D c pre W _ _ h _
    exact h.elim

end Stp
end Go.Proofs.Ytngpcabengmoiaa
