/-
  The statement SlicesAt holds: for every input the call returns true, and each argument reads afterwards as it read before. Conditions: none beside those that the row itself bears.
-/
import Derived.Test.YtkdhcloaeifbdaaGreatMAw
namespace Go.Proofs.YtkdhcloaeifbdaaGreat
open Go.RowKit Ba Cv Sp Te Ag Tf Sl Tm
namespace Slc
set_option linter.unusedVariables false

structure SB (w W : World) (x : Rw) : Prop where
  b : Below w.heap.size w W
  x : Bx W w.heap.size 43 (vc x)
theorem SB.next {w W W' : World} {x : Rw} (H : SB w W x) (hb : Below W.heap.size W W') : SB w W' x := ⟨H.b.trans (hb.mono H.b.size), H.x.keep hb⟩
set_option maxRecDepth 100000 in
set_option maxHeartbeats 4000000 in
theorem walk_SlicesAt {w : World} (A : Option Addr) (n c : Nat) (rs : List Rw) (G : GivenP w A n rs) (d : Int) (_ : -9223372036854775808 ≤ d ∧ d ≤ 9223372036854775807) (x : Rw) (GX : GivenL w x) : Calls Tryz.prog 4 #[.slice A n c, .int .i64 d, vg x] w (Yes w true) := by
  obtain ⟨W, hW⟩ : ∃ W, w.alloc (.cells (vc x) 43) = W := ⟨_, rfl⟩
  have H0 := Lib.hid (show SB w W x by rw [← hW]; exact ⟨alloc_ _ _, Bx.new _ _ _⟩)
  have HW := Lib.hid hW
  have HG := Lib.hid G
  have HGX := Lib.hid GX
  have bn := G.hm
  have bx := GX.m
  clear hW G GX
  by_cases h1 : n ≤ 60
  case neg =>
    have t1 : decide ((60 : Int) < (n : Int)) = true := decide_eq_true (by omega)
    go_enter Tryz.func4, Tryz.ntmps4
    go_upto_region 1 with fail
    rw [HW.out]
    go_wp2_with fail
    refine (awake12 _).mono ?_
    rintro e w1 ⟨rfl, hb1⟩
    have H1 := Lib.hid (H0.out.next hb1)
    clear hb1
    have x0 := H1.out.x.c 0
    have x1 := H1.out.x.c 1
    have x2 := H1.out.x.c 2
    have x3 := H1.out.x.c 3
    have x4 := H1.out.x.c 4
    have x5 := H1.out.x.c 5
    have x6 := H1.out.x.c 6
    have x7 := H1.out.x.c 7
    have x8 := H1.out.x.c 8
    simp at x0 x1 x2 x3 x4 x5 x6 x7 x8
    go_wp2
    go_ret
    exact ⟨rfl, H1.out.b⟩
  have t1 : decide ((60 : Int) < (n : Int)) = false := decide_eq_false (by omega)
  by_cases h2 : x.n ≤ 50
  case neg =>
    have t2 : decide ((50 : Int) < (x.n : Int)) = true := decide_eq_true (by omega)
    go_enter Tryz.func4, Tryz.ntmps4
    go_upto_region 1 with fail
    rw [HW.out]
    go_wp2_with fail
    refine (awake12 _).mono ?_
    rintro e w1 ⟨rfl, hb1⟩
    have H1 := Lib.hid (H0.out.next hb1)
    clear hb1
    have x0 := H1.out.x.c 0
    have x1 := H1.out.x.c 1
    have x2 := H1.out.x.c 2
    have x3 := H1.out.x.c 3
    have x4 := H1.out.x.c 4
    have x5 := H1.out.x.c 5
    have x6 := H1.out.x.c 6
    have x7 := H1.out.x.c 7
    have x8 := H1.out.x.c 8
    simp at x0 x1 x2 x3 x4 x5 x6 x7 x8
    go_wp2
    go_ret
    exact ⟨rfl, H1.out.b⟩
  have t2 : decide ((50 : Int) < (x.n : Int)) = false := decide_eq_false (by omega)
  have HX5 := Lib.hid h2
  clear h2 bx
  go_enter Tryz.func4, Tryz.ntmps4
  go_upto_region 1 with fail
  rw [HW.out]
  clear HW
  go_wp2_with fail
  refine (awake12 _).mono ?_
  rintro e w1 ⟨rfl, hb1⟩
  have H1 := Lib.hid (H0.out.next hb1)
  clear hb1 H0
  have x0 := H1.out.x.c 0
  have x1 := H1.out.x.c 1
  have x2 := H1.out.x.c 2
  have x3 := H1.out.x.c 3
  have x4 := H1.out.x.c 4
  have x5 := H1.out.x.c 5
  have x6 := H1.out.x.c 6
  have x7 := H1.out.x.c 7
  have x8 := H1.out.x.c 8
  simp at x0 x1 x2 x3 x4 x5 x6 x7 x8
  go_wp2
  clear x0 x1 x2 x3 x4 x5 x6 x7 x8
  go_loopw [8] (fun vi w' => ∃ (k : Nat) (W : World), k ≤ n ∧ vi = .int .i64 (k : Int) ∧ W = w' ∧ Hid (SB w W x) ∧ Hid (∀ r ∈ rs.take k, r.n ≤ 50)) (fun vi _ => n - (intOf vi).toNat)
  case atStart => exact ⟨0, _, Nat.zero_le _, rfl, rfl, H1, Lib.hid (fun r hr => by simp at hr)⟩
  case round =>
    obtain ⟨k, W, hk, rfl, rfl, H, HK⟩ := hrel
    clear H1
    by_cases hlt : k < n
    · obtain ⟨ad, r, rfl, hb, hr, N⟩ := (HG.out.r.below H.out.b).get hlt
      have hlt2 : (k : Int) < (n : Int) := by omega
      have HN := Lib.hid N
      have HB := Lib.hid (show (ad.add (k * 9)).block < W.heap.size by rw [add_block]; exact hb)
      have GR := Lib.hid (HG.out.k r (List.mem_of_getElem? hr))
      have br := GR.out.m
      by_cases hr5 : r.n ≤ 50
      · have t5 : decide ((50 : Int) < (r.n : Int)) = false := decide_eq_false (by omega)
        have HK2 := Lib.hid (show ∀ r ∈ rs.take (k + 1), r.n ≤ 50 from fun q hq => by
          rw [take_get hr] at hq
          rcases List.mem_append.1 hq with hq | hq
          · exact HK.out q hq
          · rw [List.mem_singleton] at hq; subst hq; exact hr5)
        have gr : ∀ p : Ext W, Gd p.W r := fun p => ⟨GR.out.c.keep (fun a ha => (H.out.b.trans (p.b.mono H.out.b.size)).cell ha) (fun b hb => Nat.lt_of_lt_of_le hb (Nat.le_trans H.out.b.size p.b.size)), Nat.le_trans hr5 (by omega)⟩
        have gx : ∀ p : Ext W, Gd p.W x := fun p => ⟨HGX.out.c.keep (fun a ha => (H.out.b.trans (p.b.mono H.out.b.size)).cell ha) (fun b hb => Nat.lt_of_lt_of_le hb (Nat.le_trans H.out.b.size p.b.size)), Nat.le_trans HX5.out (by omega)⟩
        have C1 := fun p : Ext W => Lib.hid (same_ r x p.W (gr p) (gx p))
        have C2 := fun p : Ext W => Lib.hid (rsame_ r x p.W (gr p) (gx p))
        have C3 := fun p : Ext W => Lib.hid (show Calls Tryz.prog 15 #[vg r, vg r] p.W (Yes p.W true) by have := same_ r r p.W (gr p) (gr p); rwa [decide_eq_true rfl] at this)
        obtain ⟨c0, c1, c2, c3, c4, c5, c6, c7, c8⟩ := N
        go_upto_region 9 with fail
        clear c0 c1 c2 c3 c4 c5 c6 c7 c8 hr hb gr gx hr5
        obtain ⟨u, hu⟩ : ∃ u, decide (r.v = x.v) = u := ⟨_, rfl⟩
        rw [hu] at C1 C2
        clear hu
        have n0 : ∀ p : Ext W, p.W.cell? (ad.add (k * 9)) = _ := fun p => (p.b.cell HB.out).trans HN.out.c0
        have n1 : ∀ p : Ext W, p.W.cell? ⟨(ad.add (k * 9)).block, (ad.add (k * 9)).off + 1, none⟩ = _ := fun p => (p.b.cell (p := ⟨(ad.add (k * 9)).block, (ad.add (k * 9)).off + 1, none⟩) HB.out).trans HN.out.c1
        have n2 : ∀ p : Ext W, p.W.cell? ⟨(ad.add (k * 9)).block, (ad.add (k * 9)).off + 2, none⟩ = _ := fun p => (p.b.cell (p := ⟨(ad.add (k * 9)).block, (ad.add (k * 9)).off + 2, none⟩) HB.out).trans HN.out.c2
        have n3 : ∀ p : Ext W, p.W.cell? ⟨(ad.add (k * 9)).block, (ad.add (k * 9)).off + 3, none⟩ = _ := fun p => (p.b.cell (p := ⟨(ad.add (k * 9)).block, (ad.add (k * 9)).off + 3, none⟩) HB.out).trans HN.out.c3
        have n4 : ∀ p : Ext W, p.W.cell? ⟨(ad.add (k * 9)).block, (ad.add (k * 9)).off + 4, none⟩ = _ := fun p => (p.b.cell (p := ⟨(ad.add (k * 9)).block, (ad.add (k * 9)).off + 4, none⟩) HB.out).trans HN.out.c4
        have n5 : ∀ p : Ext W, p.W.cell? ⟨(ad.add (k * 9)).block, (ad.add (k * 9)).off + 5, none⟩ = _ := fun p => (p.b.cell (p := ⟨(ad.add (k * 9)).block, (ad.add (k * 9)).off + 5, none⟩) HB.out).trans HN.out.c5
        have n6 : ∀ p : Ext W, p.W.cell? ⟨(ad.add (k * 9)).block, (ad.add (k * 9)).off + 6, none⟩ = _ := fun p => (p.b.cell (p := ⟨(ad.add (k * 9)).block, (ad.add (k * 9)).off + 6, none⟩) HB.out).trans HN.out.c6
        have n7 : ∀ p : Ext W, p.W.cell? ⟨(ad.add (k * 9)).block, (ad.add (k * 9)).off + 7, none⟩ = _ := fun p => (p.b.cell (p := ⟨(ad.add (k * 9)).block, (ad.add (k * 9)).off + 7, none⟩) HB.out).trans HN.out.c7
        have n8 : ∀ p : Ext W, p.W.cell? ⟨(ad.add (k * 9)).block, (ad.add (k * 9)).off + 8, none⟩ = _ := fun p => (p.b.cell (p := ⟨(ad.add (k * 9)).block, (ad.add (k * 9)).off + 8, none⟩) HB.out).trans HN.out.c8
        have x0 : ∀ p : Ext W, p.W.cell? ⟨w.heap.size, 0, none⟩ = some (.int .i64 x.v.s.1) := fun p => H.out.x.ext p 0
        have x1 : ∀ p : Ext W, p.W.cell? ⟨w.heap.size, 1, none⟩ = some (.int .i64 x.v.s.2) := fun p => H.out.x.ext p 1
        have x2 : ∀ p : Ext W, p.W.cell? ⟨w.heap.size, 2, none⟩ = some (.bool x.v.h.on) := fun p => H.out.x.ext p 2
        have x3 : ∀ p : Ext W, p.W.cell? ⟨w.heap.size, 3, none⟩ = some (.int .i64 x.v.h.r.k) := fun p => H.out.x.ext p 3
        have x4 : ∀ p : Ext W, p.W.cell? ⟨w.heap.size, 4, none⟩ = some (.int .i64 x.v.h.r.v) := fun p => H.out.x.ext p 4
        have x5 : ∀ p : Ext W, p.W.cell? ⟨w.heap.size, 5, none⟩ = some (.int .i64 x.v.h.r.a) := fun p => H.out.x.ext p 5
        have x6 : ∀ p : Ext W, p.W.cell? ⟨w.heap.size, 6, none⟩ = some (.int .i64 x.v.h.r.z) := fun p => H.out.x.ext p 6
        have x7 : ∀ p : Ext W, p.W.cell? ⟨w.heap.size, 7, none⟩ = some (.slice x.A x.n x.c) := fun p => H.out.x.ext p 7
        have x8 : ∀ p : Ext W, p.W.cell? ⟨w.heap.size, 8, none⟩ = some (.int .i64 x.v.y) := fun p => H.out.x.ext p 8
        cases u
        all_goals
          have ne : Nonempty (Ext W) := ⟨⟨W, Below.refl _ _⟩⟩
          refine quietE (by kernel_rfl) (by kernel_rfl) ?_
          repeat (first | go_big_quiet_skip | quiet_step (first
            | (go_at_call 15; with_reducible exact ext_of (C1 _).out)
            | (go_at_call 16; with_reducible exact ext_of (C2 _).out)
            | (go_at_call 15; with_reducible exact ext_of (C3 _).out)
            | fail))
          refine wpQuiet_nil ?_
          rintro _ ⟨p, rfl⟩
          have H3 := Lib.hid (H.out.next p.b)
          generalize p.W = w3 at H3 ⊢
          clear C1 C2 C3 ne n0 n1 n2 n3 n4 n5 n6 n7 n8 x0 x1 x2 x3 x4 x5 x6 x7 x8 H
          go_wp2
          go_roundw
          case rel => exact ⟨k + 1, _, by omega, by go_num, rfl, H3, HK2⟩
          case measure => simp [intOf]; omega
      · have t5 : decide ((50 : Int) < (r.n : Int)) = true := decide_eq_true (by omega)
        obtain ⟨c0, c1, c2, c3, c4, c5, c6, c7, c8⟩ := N
        clear hr hb
        go_wp2
        go_ret
        exact ⟨rfl, H.out.b⟩
    · obtain rfl : k = n := by omega
      have HSL := Lib.hid (show Sls W A k rs from ⟨HG.out.r.below H.out.b, fun r hr => ⟨(HG.out.k r hr).c.below H.out.b, Nat.le_trans (HK.out r (by rw [List.take_of_length_le (Nat.le_of_eq HG.out.r.1)]; exact hr)) (by omega)⟩⟩)
      have C1 := Lib.hid (at_ A k c rs d W HSL.out (by omega))
      obtain ⟨f, hf⟩ : ∃ f, fnd rs d = f := ⟨_, rfl⟩
      rw [hf] at C1
      have HF := Lib.hid hf
      clear hf HK
      obtain ⟨u, hu⟩ : ∃ u, f.isSome = u := ⟨_, rfl⟩
      have HU := Lib.hid hu
      clear hu
      go_wp2_with fail
      refine C1.out.mono ?_
      rintro e w2 ⟨r1, rfl, hv1, hg1, hb2⟩
      rw [HU.out]
      obtain ⟨W2, hW2⟩ : ∃ W2, w2.alloc (.cells (vc r1) 43) = W2 := ⟨_, rfl⟩
      have ha2 : Below w2.heap.size w2 W2 := hW2 ▸ alloc_ _ _
      have H2 := Lib.hid (H.out.next (hb2.trans (ha2.mono hb2.size)))
      have HL2 := Lib.hid (HSL.out.below (hb2.trans (ha2.mono hb2.size)))
      have HB2 := Lib.hid (show Bx W2 w2.heap.size 43 (vc r1) by rw [← hW2]; exact Bx.new _ _ _)
      have HG1 := Lib.hid (hg1.below ha2)
      have HV1 := Lib.hid hv1
      have HW2 := Lib.hid hW2
      clear hb2 ha2 hg1 hv1 hW2 C1 H
      go_upto_region 12 with fail
      rw [HW2.out]
      clear HW2
      have C2 := Lib.hid (rat_ A k c rs d W2 HL2.out (by omega))
      rw [HF.out] at C2
      go_wp2_with fail
      refine C2.out.mono ?_
      rintro e w3 ⟨r2, rfl, hv2, hg2, hb3⟩
      rw [HU.out]
      obtain ⟨W3, hW3⟩ : ∃ W3, w3.alloc (.cells (vc r2) 43) = W3 := ⟨_, rfl⟩
      have ha3 : Below w3.heap.size w3 W3 := hW3 ▸ alloc_ _ _
      have hb33 := hb3.trans (ha3.mono hb3.size)
      have H3 := Lib.hid (H2.out.next hb33)
      have HB3 := Lib.hid (HB2.out.keep hb33)
      have HB4 := Lib.hid (show Bx W3 w3.heap.size 43 (vc r2) by rw [← hW3]; exact Bx.new _ _ _)
      have CS := Lib.hid (rsame_ r1 r2 W3 (HG1.out.below hb33) (hg2.below ha3))
      rw [decide_eq_true (show r1.v = r2.v by rw [HV1.out, hv2])] at CS
      have HW3 := Lib.hid hW3
      clear hb3 ha3 hb33 hg2 hv2 hW3 C2 H2 HB2
      go_upto_region 13 with fail
      rw [HW3.out]
      clear HW3
      have x0 := HB3.out.c 0
      have x1 := HB3.out.c 1
      have x2 := HB3.out.c 2
      have x3 := HB3.out.c 3
      have x4 := HB3.out.c 4
      have x5 := HB3.out.c 5
      have x6 := HB3.out.c 6
      have x7 := HB3.out.c 7
      have x8 := HB3.out.c 8
      simp at x0 x1 x2 x3 x4 x5 x6 x7 x8
      have z0 := HB4.out.c 0
      have z1 := HB4.out.c 1
      have z2 := HB4.out.c 2
      have z3 := HB4.out.c 3
      have z4 := HB4.out.c 4
      have z5 := HB4.out.c 5
      have z6 := HB4.out.c 6
      have z7 := HB4.out.c 7
      have z8 := HB4.out.c 8
      simp at z0 z1 z2 z3 z4 z5 z6 z7 z8
      cases u
      all_goals
        go_wp2_with fail
        refine CS.out.mono ?_
        rintro e w5 ⟨rfl, hb5⟩
        have H5 := Lib.hid (H3.out.next hb5)
        clear hb5 CS
        go_wp2
        go_ret
        exact ⟨rfl, H5.out.b⟩

end Slc
end Go.Proofs.YtkdhcloaeifbdaaGreat
namespace Go.Proofs.YtkdhcloaeifbdaaGreat.slicesAt
open Go.ChangeShapes Go.WideShapes Go.ChangeAt Go.RowKit Ba Cv Sp Te Ag Tf Sl Slc
set_option linter.unusedVariables false


set_option maxRecDepth 100000 in
theorem lifted (os : Os) (started : os.Started) (H : Type) (enc : TypeId × Value → H) :
    ReturnsInHanded {} Tryz.checked os 4 .any (Rows.slicesAtSpec.pre6 enc Tryz.prog Tryz.f4 Rows.slicesAtRow.domain false) (Rows.slicesAtSpec.post enc Tryz.prog Tryz.f4 false true false false) := by
  refine returnsInHanded_of_change_sized (C := Tryz.checked) Slc.own started (by kernel_rfl) Tryz.func4
    (ChangeSpec.witness6 (enc := enc) (C := Tryz.checked) false ⟨#[], #[.slice none 0 0, .int .i64 0, .agg #[.int .i64 0, .int .i64 0, .bool false, .int .i64 0, .int .i64 0, .int .i64 0, .int .i64 0, .slice none 0 0, .int .i64 0]], []⟩ 8 (by kernel_rfl) (by kernel_rfl) (by kernel_rfl) (by kernel_rfl)) ?_
  intro W base args ds gs before hval0 hW hcnd hsz0 _
  have hval : ∀ (j : Nat) t v, Tryz.f4.params[j]? = some t → args[j]? = some v → Value.okWide Tryz.prog W .any base t v := hval0
  have hW' := hW
  have hsz : (DataW.weightsEach Tryz.prog (Tryz.f4.params.toList ++ Rows.slicesAtSpec.plain.varTypes Tryz.prog) (ds ++ gs)).all (· ≤ reachBytes) = true := hsz0
  obtain ⟨p, q, hA0, hV, rfl, hfz, hnd⟩ := hW
  have hA : DataW.TrodAll enc Tryz.prog W 0 (fun _ => true) true Tryz.f4.params.toList args.toList ds p := hA0
  rw [Tryz.params4] at hA hval hsz
  obtain ⟨v0, vs0, d0, ds0, p0, q0, hargs, rfl, rfl, h0, r0⟩ := trodAll_cons hA
  obtain ⟨v1, vs1, d1, ds1, p1, q1, rfl, rfl, rfl, h1, r1⟩ := trodAll_cons r0
  obtain ⟨v2, vs2, d2, ds2, p2, q2, rfl, rfl, rfl, h2, r2⟩ := trodAll_cons r1
  obtain ⟨rfl, rfl, rfl⟩ := trodAll_nil r2
  obtain rfl : args = #[v0, v1, v2] := by cases args; simp_all
  obtain ⟨rfl, rfl⟩ := trodVars_none hV
  have k0 := h0
  have lt0 : ∀ x ∈ p0, x.block < W.heap.size := by obtain ⟨m, hm⟩ := k0; exact DataW.trod_lt m _ _ _ hm
  obtain ⟨A0, n0, c0, s0, rfl, g0⟩ := Slc.open_slices (hval 0 37 v0 rfl rfl) h0 (fun k hk => of_decide_eq_true (List.all_eq_true.1 hsz _ (DataW.weights_mem_each (j := 0) rfl rfl k hk)))
  obtain ⟨a1, rfl, rfl, rfl, w1⟩ := open_int Tryz.underlying3 (hval 1 3 v1 rfl rfl) h1
  have k2 := h2
  have lt2 : ∀ x ∈ p2, x.block < W.heap.size := by obtain ⟨m, hm⟩ := k2; exact DataW.trod_lt m _ _ _ hm
  obtain ⟨x2, rfl, g2⟩ := Slc.open_slice (hval 2 43 v2 rfl rfl) h2 (fun k hk => of_decide_eq_true (List.all_eq_true.1 hsz _ (DataW.weights_mem_each (j := 2) rfl rfl k hk)))
  clear hA0 hval0 hsz hsz0
  refine (Slc.walk_SlicesAt A0 n0 c0 s0 g0 a1 (Slc.i64_of w1) x2 g2).mono fun e W' ⟨he, bel⟩ => ?_
  subst he
  exact ⟨_, rfl, _, _, _, [], _, [], hW', trodAll_mk1 (shut_bool Tryz.underlying4 _), (trodAll_cons_mk (Below.trod Slc.laidOut (by kernel_rfl) (of_decide_eq_true (by kernel_rfl)) k0 bel lt0) (trodAll_cons_mk (shut_int Tryz.underlying3 w1) (trodAll_cons_mk (Below.trod Slc.laidOut (by kernel_rfl) (of_decide_eq_true (by kernel_rfl)) k2 bel lt2) trodAll_mk0))), rfl, bel.frame _, fun h => by cases h⟩

theorem over : Rows.slicesAtRow.holds Tryz.pinned (OpenSpec.ofChange Rows.slicesAtSpec) :=
  OpenClaim.holds_of_wide 4 Tryz.f4 rfl rfl rfl rfl rfl rfl rfl ⟨rfl, rfl, rfl, rfl, rfl⟩ rfl rfl rfl rfl rfl (by kernel_rfl) Tryz.func4 (by kernel_rfl)
    (of_decide_eq_true (by kernel_rfl)) (by unfold Func.isWrapper; first | (rw [if_pos (by decide +kernel)]; kernel_rfl) | (rw [if_neg (by decide +kernel)]; exact ⟨rfl, rfl⟩))
    (fun os started H enc _ => lifted os started H enc)

theorem proved : Rows.SlicesAtSaid := over
end Go.Proofs.YtkdhcloaeifbdaaGreat.slicesAt
