/-
  The statement QuoteMin holds: for every input the call returns true, and each argument reads afterwards as it read before. Conditions: none beside those that the row itself bears.
-/
import Derived.Test.YtinhhphnbbdoeaaGiven
namespace Go.Proofs.Ytinhhphnbbdoeaa.quoteMin
open Go.ChangeShapes Go.WideShapes Go.ChangeAt Go.RowKit Ba Tf Cv Qm Qo
set_option linter.unusedVariables false


/-- A version's and a risk's box, one behind the other. -/
structure B2 (w W : World) (r : Rw) (x : Ri) : Prop where
  b : Below w.heap.size w W
  v : Bx W w.heap.size 26 (vc r)
  r : Bx W (w.heap.size + 1) 28 (rc x)
section
variable {w W W' : World} {r : Rw} {x : Ri}
theorem B2.next (h : B2 w W r x) (hb : Below W.heap.size W W') : B2 w W' r x := ⟨h.b.trans (hb.mono h.b.size), h.v.keep hb, h.r.keep hb⟩
theorem B2.start (w : World) (r : Rw) (x : Ri) : B2 w ((w.alloc (.cells (vc r) 26)).alloc (.cells (rc x) 28)) r x := by
  refine ⟨(alloc_ _ _).alloc (by simp) _, (Bx.new _ _ _).alloc _, ?_⟩
  have := Bx.new (w.alloc (.cells (vc r) 26)) 28 (rc x)
  rw [World.size_alloc] at this
  exact this
end
set_option maxRecDepth 100000 in
set_option maxHeartbeats 4000000 in
theorem way_no (r : Rw) (x : Ri) (A : Option Addr) (n d : Nat) (w : World) (CF : ∀ W : World, Hid (Calls Try.prog 9 #[vg r, .slice A n d] W (Yes W false))) (CA : ∀ W : World, Hid (Calls Try.prog 10 #[] W (Yes W true))) : Calls Try.prog 5 #[vg r, rg x, .slice A n d] w (Yes w true) := by
  obtain ⟨W, hW⟩ : ∃ W, ((w.alloc (.cells (vc r) 26)).alloc (.cells (rc x) 28)) = W := ⟨_, rfl⟩
  have HB0 := Lib.hid (show B2 w W r x by rw [← hW]; exact B2.start w r x)
  have HW := Lib.hid hW
  clear hW
  go_enter Try.func5, Try.ntmps5
  go_wp2_with fail
  rw [HW.out]
  clear HW
  refine (CF _).out.mono ?_
  rintro e w1 ⟨rfl, hb1⟩
  have HB1 := Lib.hid (HB0.out.next hb1)
  clear hb1 HB0 CF
  go_wp2_with fail
  refine (CA _).out.mono ?_
  rintro e w2 ⟨rfl, hb2⟩
  have HB2 := Lib.hid (HB1.out.next hb2)
  clear hb2 HB1 CA
  go_wp2
  go_ret
  exact ⟨rfl, HB2.out.b⟩

set_option maxRecDepth 100000 in
set_option maxHeartbeats 4000000 in
theorem way_err (r : Rw) (x : Ri) (A : Option Addr) (n d : Nat) (w : World) (e0 : Int) (t0 : (e0 == 0) = false) (CF : ∀ W : World, Hid (Calls Try.prog 9 #[vg r, .slice A n d] W (Yes W true))) (CA : ∀ W : World, Hid (Calls Try.prog 10 #[] W (Yes W true))) (C1 : ∀ W : World, Below w.heap.size w W → Hid (Calls Try.prog 13 #[vg r, rg x, .slice A n d] W (Tells W (0, e0)))) : Calls Try.prog 5 #[vg r, rg x, .slice A n d] w (Yes w true) := by
  obtain ⟨W, hW⟩ : ∃ W, ((w.alloc (.cells (vc r) 26)).alloc (.cells (rc x) 28)) = W := ⟨_, rfl⟩
  have HB0 := Lib.hid (show B2 w W r x by rw [← hW]; exact B2.start w r x)
  have HW := Lib.hid hW
  clear hW
  go_enter Try.func5, Try.ntmps5
  go_wp2_with fail
  rw [HW.out]
  clear HW
  refine (CF _).out.mono ?_
  rintro e w1 ⟨rfl, hb1⟩
  have HB1 := Lib.hid (HB0.out.next hb1)
  clear hb1 HB0 CF
  have x0 := HB1.out.v.c 0
  have x1 := HB1.out.v.c 1
  have x2 := HB1.out.v.c 2
  have x3 := HB1.out.v.c 3
  have x4 := HB1.out.v.c 4
  have x5 := HB1.out.v.c 5
  have x6 := HB1.out.v.c 6
  have x7 := HB1.out.v.c 7
  have x8 := HB1.out.v.c 8
  have y0 := HB1.out.r.c 0
  have y1 := HB1.out.r.c 1
  have y2 := HB1.out.r.c 2
  have y3 := HB1.out.r.c 3
  simp at x0 x1 x2 x3 x4 x5 x6 x7 x8 y0 y1 y2 y3
  go_wp2_with fail
  refine (C1 _ HB1.out.b).out.mono ?_
  rintro e w2 ⟨rfl, hb2⟩
  have HB2 := Lib.hid (HB1.out.next hb2)
  clear hb2 HB1 x0 x1 x2 x3 x4 x5 x6 x7 x8 y0 y1 y2 y3
  go_wp2_with fail
  refine (CA _).out.mono ?_
  rintro e w3 ⟨rfl, hb3⟩
  have HB3 := Lib.hid (HB2.out.next hb3)
  clear hb3 HB2 CA
  go_wp2
  go_ret
  exact ⟨rfl, HB3.out.b⟩

set_option maxRecDepth 100000 in
set_option maxHeartbeats 4000000 in
theorem way_ok (r : Rw) (x : Ri) (A : Option Addr) (n d : Nat) (w : World) (T P : Int) (cs : List Co) (f : Co → Int × Int) (hC : Cvs w (· < w.heap.size) A n cs) (hn : n ≤ 50) (HM : Hid (∀ c ∈ cs, (f c).2 = 0 ∧ r.v.mn ≤ (f c).1))
    (CF : ∀ W : World, Hid (Calls Try.prog 9 #[vg r, .slice A n d] W (Yes W true))) (CA : ∀ W : World, Hid (Calls Try.prog 10 #[] W (Yes W true))) (C1 : ∀ W : World, Below w.heap.size w W → Hid (Calls Try.prog 13 #[vg r, rg x, .slice A n d] W (Tells W (T, 0)))) (C : ∀ (c : Co) (W : World), Below w.heap.size w W → Hid (Calls Try.prog 11 #[vg r, rg x, cg c] W (Tells W (f c))))
    (q1 : wrap64 (r.v.mn * (n : Int)) = P) (q2 : IntKind.i64.wrap (r.v.mn * (n : Int)) = P) (t1 : decide (P ≤ T) = true) : Calls Try.prog 5 #[vg r, rg x, .slice A n d] w (Yes w true) := by
  have HC := Lib.hid hC
  clear hC
  obtain ⟨W, hW⟩ : ∃ W, ((w.alloc (.cells (vc r) 26)).alloc (.cells (rc x) 28)) = W := ⟨_, rfl⟩
  have HB0 := Lib.hid (show B2 w W r x by rw [← hW]; exact B2.start w r x)
  have HW := Lib.hid hW
  clear hW
  go_enter Try.func5, Try.ntmps5
  go_wp2_with fail
  rw [HW.out]
  clear HW
  refine (CF _).out.mono ?_
  rintro e w1 ⟨rfl, hb1⟩
  have HB1 := Lib.hid (HB0.out.next hb1)
  clear hb1 HB0 CF
  have x0 := HB1.out.v.c 0
  have x1 := HB1.out.v.c 1
  have x2 := HB1.out.v.c 2
  have x3 := HB1.out.v.c 3
  have x4 := HB1.out.v.c 4
  have x5 := HB1.out.v.c 5
  have x6 := HB1.out.v.c 6
  have x7 := HB1.out.v.c 7
  have x8 := HB1.out.v.c 8
  have y0 := HB1.out.r.c 0
  have y1 := HB1.out.r.c 1
  have y2 := HB1.out.r.c 2
  have y3 := HB1.out.r.c 3
  simp at x0 x1 x2 x3 x4 x5 x6 x7 x8 y0 y1 y2 y3
  go_wp2_with fail
  refine (C1 _ HB1.out.b).out.mono ?_
  rintro e w2 ⟨rfl, hb2⟩
  have HB2 := Lib.hid (HB1.out.next hb2)
  clear hb2 HB1 x0 x1 x2 x3 x4 x5 x6 x7 x8 y0 y1 y2 y3
  go_wp2
  go_loopw [10, 34] (fun s10 i w' => ∃ (k : Nat) (W : World), k ≤ n ∧ i = .int .i64 (k : Int) ∧ W = w' ∧ Hid (B2 w W r x)) (fun _ i _ => n - (intOf i).toNat)
  case atStart => exact ⟨0, _, Nat.zero_le _, rfl, rfl, HB2⟩
  case round =>
    obtain ⟨k, W3, hk, rfl, rfl, HB⟩ := hrel
    clear HB2
    by_cases hlt : k < n
    · obtain ⟨ad, c, rfl, hb, hc, hN⟩ := (HC.out.below HB.out.b).get hlt
      obtain ⟨c0, c1, c2, c3, c4⟩ := hN
      have hlt2 : (k : Int) < (n : Int) := by omega
      obtain ⟨p1, p2⟩ := HM.out c (List.mem_of_getElem? hc)
      have C2 := C c (W3.alloc (.cells #[.int .i64 c.p, .int .i64 c.l, .int .i64 c.g, .int .i64 c.d, .int .i64 c.s] 30)) (HB.out.b.alloc HB.out.b.size _)
      obtain ⟨⟨m, cd⟩, hp⟩ : ∃ p, f c = p := ⟨_, rfl⟩
      rw [hp] at C2 p1 p2
      simp only at p1 p2
      subst p1
      have t2 : decide (m < r.v.mn) = false := decide_eq_false (by omega)
      have HB3 := Lib.hid (HB.out.next (alloc_ W3 (.cells #[.int .i64 c.p, .int .i64 c.l, .int .i64 c.g, .int .i64 c.d, .int .i64 c.s] 30)))
      clear hb hc C hp p2 q1 q2 t1
      have x0 := HB3.out.v.c 0
      have x1 := HB3.out.v.c 1
      have x2 := HB3.out.v.c 2
      have x3 := HB3.out.v.c 3
      have x4 := HB3.out.v.c 4
      have x5 := HB3.out.v.c 5
      have x6 := HB3.out.v.c 6
      have x7 := HB3.out.v.c 7
      have x8 := HB3.out.v.c 8
      have y0 := HB3.out.r.c 0
      have y1 := HB3.out.r.c 1
      have y2 := HB3.out.r.c 2
      have y3 := HB3.out.r.c 3
      simp at x0 x1 x2 x3 x4 x5 x6 x7 x8 y0 y1 y2 y3
      go_wp2_with fail
      refine C2.out.mono ?_
      rintro e w4 ⟨rfl, hb4⟩
      have HB4 := Lib.hid (HB3.out.next hb4)
      clear hb4 HB3 C2 HB c0 c1 c2 c3 c4 x0 x1 x2 x3 x4 x5 x6 x7 x8 y0 y1 y2 y3
      have x0 := HB4.out.v.c 0
      have x1 := HB4.out.v.c 1
      have x2 := HB4.out.v.c 2
      have x3 := HB4.out.v.c 3
      have x4 := HB4.out.v.c 4
      have x5 := HB4.out.v.c 5
      have x6 := HB4.out.v.c 6
      have x7 := HB4.out.v.c 7
      have x8 := HB4.out.v.c 8
      have y0 := HB4.out.r.c 0
      have y1 := HB4.out.r.c 1
      have y2 := HB4.out.r.c 2
      have y3 := HB4.out.r.c 3
      simp at x0 x1 x2 x3 x4 x5 x6 x7 x8 y0 y1 y2 y3
      go_wp2
      go_roundw
      case rel => exact ⟨k + 1, _, by omega, by go_num, rfl, HB4⟩
      case measure => simp [intOf]; omega
    · clear C
      go_wp2_with fail
      refine (CA _).out.mono ?_
      rintro e w5 ⟨rfl, hb5⟩
      have HB5 := Lib.hid (HB.out.next hb5)
      clear hb5 HB CA
      have x0 := HB5.out.v.c 0
      have x1 := HB5.out.v.c 1
      have x2 := HB5.out.v.c 2
      have x3 := HB5.out.v.c 3
      have x4 := HB5.out.v.c 4
      have x5 := HB5.out.v.c 5
      have x6 := HB5.out.v.c 6
      have x7 := HB5.out.v.c 7
      have x8 := HB5.out.v.c 8
      have y0 := HB5.out.r.c 0
      have y1 := HB5.out.r.c 1
      have y2 := HB5.out.r.c 2
      have y3 := HB5.out.r.c 3
      simp at x0 x1 x2 x3 x4 x5 x6 x7 x8 y0 y1 y2 y3
      go_wp2
      go_ret
      exact ⟨rfl, HB5.out.b⟩

theorem walk {w0 : World} (r : Rw) (g : GivenV w0 r) (x : Ri) (A : Option Addr) (n d : Nat) (cs : List Co) (gc : GivenC w0 A n d cs) : Calls Try.prog 5 #[vg r, rg x, .slice A n d] w0 (Yes w0 true) := by
  have CF := fun W => Lib.hid (few_ r A n d W g.l gc.m)
  have CA := fun W => Lib.hid (alive_ W)
  have hl := gc.r.1
  cases h : fw r n
  · rw [h] at CF
    exact way_no r x A n d w0 CF CA
  rw [h] at CF
  have hf := fw_yes h
  have C1 := fun W hb => Lib.hid (year r x A n d cs W (g.m.below hb) g.l (gc.r.below hb) gc.m)
  have C := fun c W hb => Lib.hid (cost r x c W (g.m.below hb) g.l)
  have hm := fun c => @qd_min r.v x c
  by_cases he : (yr (qd r.v x) 0 cs).2 = 0
  · obtain ⟨a1, a2⟩ := yr_code.1 he
    have hv := yr_val he
    have hle := tot_least (f := qd r.v x) (l := cs) (m := r.v.mn) fun c hc => (hm c (a1 c hc)).1
    have hT : yr (qd r.v x) 0 cs = (tot (qd r.v x) cs, 0) := Prod.ext (by rw [hv, Int.zero_add]) he
    rw [hT] at C1
    rw [hl] at hle
    have hP : 0 ≤ r.v.mn * (n : Int) ∧ r.v.mn * (n : Int) ≤ 50000000000000000 := by
      rcases Nat.eq_zero_or_pos n with h0 | h0
      · subst h0; simp
      · obtain ⟨c, hc⟩ := List.exists_mem_of_length_pos (show 0 < cs.length by omega)
        have hmn := (vok (can_iff.1 (hm c (a1 c hc)).2).1).mn
        refine ⟨Int.mul_nonneg hmn.1 (by omega), ?_⟩
        have := Int.mul_le_mul hmn.2 (show (n : Int) ≤ 50 by omega) (by omega) (by omega)
        omega
    have hw : wrap64 (r.v.mn * (n : Int)) = r.v.mn * (n : Int) := IntWalk.wrap64_in _ ⟨by omega, by omega⟩
    exact way_ok r x A n d w0 _ _ cs _ gc.r hf.2 (Lib.hid fun c hc => ⟨a1 c hc, (hm c (a1 c hc)).1⟩) CF CA C1 C hw ((IntWalk.i64_left _).trans hw) (decide_eq_true hle)
  · have hT : yr (qd r.v x) 0 cs = (0, (yr (qd r.v x) 0 cs).2) := Prod.ext (yr_no he) rfl
    rw [hT] at C1
    exact way_err r x A n d w0 _ (by rw [beq_eq_false_iff_ne]; exact he) CF CA C1

set_option maxRecDepth 100000 in
theorem lifted (os : Os) (started : os.Started) (H : Type) (enc : TypeId × Value → H) :
    ReturnsInHanded {} Try.checked os 5 .any (Rows.quoteMinSpec.pre6 enc Try.prog Try.f5 Rows.quoteMinRow.domain false) (Rows.quoteMinSpec.post enc Try.prog Try.f5 false true false false) := by
  refine returnsInHanded_of_change_sized (C := Try.checked) Qo.own started (by kernel_rfl) Try.func5
    (ChangeSpec.witness6 (enc := enc) (C := Try.checked) false ⟨#[], #[.agg #[.int .i64 0, .int .i64 0, .int .i64 0, .int .i64 0, .int .i64 0, .slice none 0 0, .slice none 0 0, .slice none 0 0, .int .i64 0], .agg #[.int .i64 0, .int .i64 0, .int .i64 0, .int .i64 0], .slice none 0 0], []⟩ 8 (by kernel_rfl) (by kernel_rfl) (by kernel_rfl) (by kernel_rfl)) ?_
  intro W base args ds gs before hval0 hW hcnd hsz0 _
  have hval : ∀ (j : Nat) t v, Try.f5.params[j]? = some t → args[j]? = some v → Value.okWide Try.prog W .any base t v := hval0
  have hW' := hW
  have hsz : (DataW.weightsEach Try.prog (Try.f5.params.toList ++ Rows.quoteMinSpec.plain.varTypes Try.prog) (ds ++ gs)).all (· ≤ reachBytes) = true := hsz0
  obtain ⟨p, q, hA0, hV, rfl, hfz, hnd⟩ := hW
  have hA : DataW.TrodAll enc Try.prog W 0 (fun _ => true) true Try.f5.params.toList args.toList ds p := hA0
  rw [Try.params5] at hA hval hsz
  obtain ⟨v0, vs0, d0, ds0, p0, q0, hargs, rfl, rfl, h0, r0⟩ := trodAll_cons hA
  obtain ⟨v1, vs1, d1, ds1, p1, q1, rfl, rfl, rfl, h1, r1⟩ := trodAll_cons r0
  obtain ⟨v2, vs2, d2, ds2, p2, q2, rfl, rfl, rfl, h2, r2⟩ := trodAll_cons r1
  obtain ⟨rfl, rfl, rfl⟩ := trodAll_nil r2
  obtain rfl : args = #[v0, v1, v2] := by cases args; simp_all
  obtain ⟨rfl, rfl⟩ := trodVars_none hV
  have k0 := h0
  have lt0 : ∀ x ∈ p0, x.block < W.heap.size := by obtain ⟨m, hm⟩ := k0; exact DataW.trod_lt m _ _ _ hm
  obtain ⟨z0, rfl, g0⟩ := Qo.open_version (hval 0 26 v0 rfl rfl) h0 (fun k hk => of_decide_eq_true (List.all_eq_true.1 hsz _ (DataW.weights_mem_each (j := 0) rfl rfl k hk)))
  have k1 := h1
  have lt1 : ∀ x ∈ p1, x.block < W.heap.size := by obtain ⟨m, hm⟩ := k1; exact DataW.trod_lt m _ _ _ hm
  obtain ⟨x1, rfl⟩ := Qo.open_risk (hval 1 28 v1 rfl rfl) h1 (fun k hk => of_decide_eq_true (List.all_eq_true.1 hsz _ (DataW.weights_mem_each (j := 1) rfl rfl k hk)))
  have k2 := h2
  have lt2 : ∀ x ∈ p2, x.block < W.heap.size := by obtain ⟨m, hm⟩ := k2; exact DataW.trod_lt m _ _ _ hm
  obtain ⟨A2, n2, d2, s2, rfl, g2⟩ := Qo.open_covers (hval 2 37 v2 rfl rfl) h2 (fun k hk => of_decide_eq_true (List.all_eq_true.1 hsz _ (DataW.weights_mem_each (j := 2) rfl rfl k hk)))
  clear hA0 hval0 hsz hsz0
  refine (walk z0 g0 x1 A2 n2 d2 s2 g2).mono fun e W' ⟨he, bel⟩ => ?_
  subst he
  exact ⟨_, rfl, _, _, _, [], _, [], hW', trodAll_mk1 (shut_bool Try.underlying4 _), (trodAll_cons_mk (Below.trod Qo.laidOut (by kernel_rfl) (of_decide_eq_true (by kernel_rfl)) k0 bel lt0) (trodAll_cons_mk (Below.trod Qo.laidOut (by kernel_rfl) (of_decide_eq_true (by kernel_rfl)) k1 bel lt1) (trodAll_cons_mk (Below.trod Qo.laidOut (by kernel_rfl) (of_decide_eq_true (by kernel_rfl)) k2 bel lt2) trodAll_mk0))), rfl, bel.frame _, fun h => by cases h⟩

theorem over : Rows.quoteMinRow.holds Try.pinned (OpenSpec.ofChange Rows.quoteMinSpec) :=
  OpenClaim.holds_of_wide 5 Try.f5 rfl rfl rfl rfl rfl rfl rfl ⟨rfl, rfl, rfl, rfl, rfl⟩ rfl rfl rfl rfl rfl (by kernel_rfl) Try.func5 (by kernel_rfl)
    (of_decide_eq_true (by kernel_rfl)) (by unfold Func.isWrapper; first | (rw [if_pos (by decide +kernel)]; kernel_rfl) | (rw [if_neg (by decide +kernel)]; exact ⟨rfl, rfl⟩))
    (fun os started H enc _ => lifted os started H enc)

theorem proved : Rows.QuoteMinSaid := over
end Go.Proofs.Ytinhhphnbbdoeaa.quoteMin
