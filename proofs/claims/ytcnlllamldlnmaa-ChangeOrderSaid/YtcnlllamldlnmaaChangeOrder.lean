/-
  The statement ChangeOrder holds: for every input the call returns true, and each argument reads afterwards as it read before. Conditions: none beside those that the row itself bears.
-/
import Derived.Test.YtcnlllamldlnmaaLaws
import Derived.Test.YtcnlllamldlnmaaROrder
namespace Go.Proofs.Ytcnlllamldlnmaa.changeOrder
open Go.ChangeShapes Go.WideShapes Go.ChangeAt Go.RowKit Ba Cv Sp Te St Ag Tm
set_option linter.unusedVariables false

structure RQ (W : World) (h : Hr) (L : Nat → Bool) (w' : World) (v10 v11 v12 v13 v3 v4 : Value) : Prop where
  b : Below W.heap.size W w'
  f0 : L 0 = true → v10 = hg h
  f1 : L 1 = true → OrdR (key h.v.hs) (plc h.v.hs.length) h.m w' v11
  f2 : L 2 = true → v12 = hg h
  f3 : L 3 = true → OrdR (key h.v.hs) (plc h.v.hs.length) h.m w' v13
  f4 : L 4 = true → OrdR (key h.v.hs) (plc h.v.hs.length) h.m w' v3
  f5 : L 5 = true → OrdR (key h.v.hs) (plc h.v.hs.length) h.m w' v4
theorem RQ.up {W : World} {h : Hr} {L : Nat → Bool} {w' w2 : World} {v10 v11 v12 v13 v3 v4 : Value} (H : RQ W h L w' v10 v11 v12 v13 v3 v4) (hb : Below w'.heap.size w' w2) : RQ W h L w2 v10 v11 v12 v13 v3 v4 :=
  ⟨H.b.trans (hb.mono H.b.size), H.f0, fun l => (H.f1 l).below hb, H.f2, fun l => (H.f3 l).below hb, fun l => (H.f4 l).below hb, fun l => (H.f5 l).below hb⟩
theorem RQ.s0 {W : World} {h : Hr} {L : Nat → Bool} {w' : World} {v10 v11 v12 v13 v3 v4 : Value} (H : RQ W h L w' v10 v11 v12 v13 v3 v4) {z : Value} (k : z = hg h) : RQ W h (fun j => j == 0 || L j) w' z v11 v12 v13 v3 v4 := ⟨H.b, fun _ => k, H.f1, H.f2, H.f3, H.f4, H.f5⟩
theorem RQ.s1 {W : World} {h : Hr} {L : Nat → Bool} {w' : World} {v10 v11 v12 v13 v3 v4 : Value} (H : RQ W h L w' v10 v11 v12 v13 v3 v4) {z : Value} (k : OrdR (key h.v.hs) (plc h.v.hs.length) h.m w' z) : RQ W h (fun j => j == 1 || L j) w' v10 z v12 v13 v3 v4 := ⟨H.b, H.f0, fun _ => k, H.f2, H.f3, H.f4, H.f5⟩
theorem RQ.s2 {W : World} {h : Hr} {L : Nat → Bool} {w' : World} {v10 v11 v12 v13 v3 v4 : Value} (H : RQ W h L w' v10 v11 v12 v13 v3 v4) {z : Value} (k : z = hg h) : RQ W h (fun j => j == 2 || L j) w' v10 v11 z v13 v3 v4 := ⟨H.b, H.f0, H.f1, fun _ => k, H.f3, H.f4, H.f5⟩
theorem RQ.s3 {W : World} {h : Hr} {L : Nat → Bool} {w' : World} {v10 v11 v12 v13 v3 v4 : Value} (H : RQ W h L w' v10 v11 v12 v13 v3 v4) {z : Value} (k : OrdR (key h.v.hs) (plc h.v.hs.length) h.m w' z) : RQ W h (fun j => j == 3 || L j) w' v10 v11 v12 z v3 v4 := ⟨H.b, H.f0, H.f1, H.f2, fun _ => k, H.f4, H.f5⟩
theorem RQ.s4 {W : World} {h : Hr} {L : Nat → Bool} {w' : World} {v10 v11 v12 v13 v3 v4 : Value} (H : RQ W h L w' v10 v11 v12 v13 v3 v4) {z : Value} (k : OrdR (key h.v.hs) (plc h.v.hs.length) h.m w' z) : RQ W h (fun j => j == 4 || L j) w' v10 v11 v12 v13 z v4 := ⟨H.b, H.f0, H.f1, H.f2, H.f3, fun _ => k, H.f5⟩
theorem RQ.s5 {W : World} {h : Hr} {L : Nat → Bool} {w' : World} {v10 v11 v12 v13 v3 v4 : Value} (H : RQ W h L w' v10 v11 v12 v13 v3 v4) {z : Value} (k : OrdR (key h.v.hs) (plc h.v.hs.length) h.m w' z) : RQ W h (fun j => j == 5 || L j) w' v10 v11 v12 v13 v3 z := ⟨H.b, H.f0, H.f1, H.f2, H.f3, H.f4, fun _ => k⟩
set_option maxRecDepth 100000 in
set_option maxHeartbeats 8000000 in
theorem walk {w : World} (h : Hr) (g : GivenH w h) : Calls Try.prog 7 #[hg h] w (Yes w true) := by
  obtain ⟨W, hW⟩ : ∃ W, w.alloc (.cells (hc h) 33) = W := ⟨_, rfl⟩
  have H0 := Lib.hid (show HX w W h by rw [← hW]; exact HX.start w h)
  have HW := Lib.hid hW
  have G := Lib.hid g
  clear hW g
  go_enter Try.func7, Try.ntmps7
  go_wp2_with fail
  rw [HW.out]
  clear HW
  refine (few_ h W (G.out.below H0.out.b)).mono ?_
  rintro e w1 ⟨q, rfl, hq, hb1⟩
  have H1 := Lib.hid (H0.out.next hb1)
  clear hb1 H0
  cases q
  · clear hq G
    go_wp2_with fail
    refine (alive11 _).mono ?_
    rintro e w2 ⟨rfl, hb2⟩
    have H2 := Lib.hid (H1.out.next hb2)
    clear hb2
    go_wp2
    go_ret
    exact ⟨rfl, H2.out.b⟩
  obtain ⟨hm, hn, hk⟩ := hq rfl
  have HSm := Lib.hid hm
  have CO := fun (W' : World) (hb : Below w.heap.size w W') => Lib.hid ((order_ h W' (G.out.M.below hb) (by omega)).mono fun e w' k => k.g)
  have CR := fun (W' : World) (hb : Below w.heap.size w W') => Lib.hid (rorder h W' (G.out.M.below hb) (by omega))
  clear hq hk hn
  go_wp2_with fail
  refine wp_region_steps (fun L_ a_ w_ => ∃ (v10 v11 v12 v13 v3 v4 : Value), a_ = { tmps := #[hg h, .pointer (some ⟨w.heap.size, 0, none⟩), .bool false, v3, v4, undef, hg h, .bool true, .bool false, undef, v10, v11, v12, v13, undef, undef, undef, undef, undef, undef, undef, undef, undef, undef, undef, undef, undef, undef, undef, undef, undef, undef, undef, undef, undef, undef, undef, undef, undef, undef, undef, undef, undef, undef, undef, undef, undef, undef, undef, undef, undef, undef, undef, undef, undef, undef, undef, undef, undef, undef, undef, undef, undef, undef, undef, undef, undef, undef, undef, undef, undef, undef, undef, undef, undef, undef, undef, undef, undef, undef, undef, undef, undef, undef, undef, undef, undef, undef, undef, undef, undef, undef, undef], defers := [] } ∧ Hid (RQ w1 h L_ w_ v10 v11 v12 v13 v3 v4)) (by kernel_rfl) (by kernel_rfl) ?_ (AllSteps.cons ?_ (AllSteps.cons ?_ (AllSteps.cons ?_ (AllSteps.cons ?_ (AllSteps.cons ?_ (AllSteps.cons ?_ AllSteps.nil)))))) ?_
  · exact ⟨_, _, _, _, _, _, rfl, Lib.hid ⟨⟨rfl, rfl, rfl, Nat.le_refl _, fun _ _ => rfl⟩, (fun h => by cases h), (fun h => by cases h), (fun h => by cases h), (fun h => by cases h), (fun h => by cases h), (fun h => by cases h)⟩⟩
  · rintro L_ a_ w_ hL hd ⟨v10, v11, v12, v13, v3, v4, rfl, HR⟩ K hK
    have hx := (H1.out.next HR.out.b).x
    have x0 := hx.c 0
    have x1 := hx.c 1
    have x2 := hx.c 2
    have x3 := hx.c 3
    have x4 := hx.c 4
    have x5 := hx.c 5
    have x6 := hx.c 6
    have x7 := hx.c 7
    have x8 := hx.c 8
    have x9 := hx.c 9
    simp at x0 x1 x2 x3 x4 x5 x6 x7 x8 x9
    clear hd hx
    go_simp
    exact hK.out _ _ ⟨_, _, _, _, _, _, rfl, Lib.hid (HR.out.s0 rfl)⟩
  · rintro L_ a_ w_ hL hd ⟨v10, v11, v12, v13, v3, v4, rfl, HR⟩ K hK
    have e0 := HR.out.f0 (hd ⟨0, .data⟩ (by simp) rfl)
    subst e0
    clear hd
    go_simp
    refine (CO w_ (H1.out.next HR.out.b).b).out.mono ?_
    rintro e w5 ⟨z, rfl, hO, hb⟩
    exact hK.out _ _ ⟨_, _, _, _, _, _, rfl, Lib.hid ((HR.out.up hb).s1 hO)⟩
  · rintro L_ a_ w_ hL hd ⟨v10, v11, v12, v13, v3, v4, rfl, HR⟩ K hK
    have hx := (H1.out.next HR.out.b).x
    have x0 := hx.c 0
    have x1 := hx.c 1
    have x2 := hx.c 2
    have x3 := hx.c 3
    have x4 := hx.c 4
    have x5 := hx.c 5
    have x6 := hx.c 6
    have x7 := hx.c 7
    have x8 := hx.c 8
    have x9 := hx.c 9
    simp at x0 x1 x2 x3 x4 x5 x6 x7 x8 x9
    clear hd hx
    go_simp
    exact hK.out _ _ ⟨_, _, _, _, _, _, rfl, Lib.hid (HR.out.s2 rfl)⟩
  · rintro L_ a_ w_ hL hd ⟨v10, v11, v12, v13, v3, v4, rfl, HR⟩ K hK
    have e2 := HR.out.f2 (hd ⟨2, .data⟩ (by simp) rfl)
    subst e2
    clear hd
    go_simp
    refine (CR w_ (H1.out.next HR.out.b).b).out.mono ?_
    rintro e w5 ⟨z, rfl, hO, hb⟩
    exact hK.out _ _ ⟨_, _, _, _, _, _, rfl, Lib.hid ((HR.out.up hb).s3 hO)⟩
  · rintro L_ a_ w_ hL hd ⟨v10, v11, v12, v13, v3, v4, rfl, HR⟩ K hK
    have e9 := HR.out.f1 (hd ⟨1, .data⟩ (by simp) rfl)
    clear hd
    go_simp
    exact hK.out _ _ ⟨_, _, _, _, _, _, rfl, Lib.hid (HR.out.s4 e9)⟩
  · rintro L_ a_ w_ hL hd ⟨v10, v11, v12, v13, v3, v4, rfl, HR⟩ K hK
    have e9 := HR.out.f3 (hd ⟨3, .data⟩ (by simp) rfl)
    clear hd
    go_simp
    exact hK.out _ _ ⟨_, _, _, _, _, _, rfl, Lib.hid (HR.out.s5 e9)⟩
  · rintro L_ a_ w_ hL ⟨v10, v11, v12, v13, v3, v4, rfl, HR⟩
    obtain ⟨A1, c1, o, rfl, i1, g1⟩ := HR.out.f4 (hL 4 (by decide))
    obtain ⟨A2, c2, o2, rfl, i2, g2⟩ := HR.out.f5 (hL 5 (by decide))
    obtain rfl : o2 = o := St.Good.one g2 g1
    have H2 := Lib.hid (H1.out.next HR.out.b)
    have HI1 := Lib.hid i1
    have HI2 := Lib.hid i2
    have HG := Lib.hid g1
    obtain ⟨w2, hw2⟩ : ∃ w2, w_ = w2 := ⟨_, rfl⟩
    subst hw2
    clear hL HR i1 i2 g1 g2 CO CR H1
    go_wp2
    go_loopw [5, 21] (fun v5 vi w' => ∃ (k : Nat) (W : World), k ≤ h.m ∧ vi = .int .i64 (k : Int) ∧ W = w' ∧ Hid (HX w W h ∧ Below w_.heap.size w_ W)) (fun _ vi _ => h.m - (intOf vi).toNat)
    case atStart => exact ⟨0, w_, Nat.zero_le _, rfl, rfl, Lib.hid ⟨H2.out, Below.refl _ _⟩⟩
    case round =>
      clear H2
      obtain ⟨k, W1, hkm, rfl, rfl, HK⟩ := hrel
      by_cases hlt : k < h.m
      · have hlt2 : (k : Int) < (h.m : Int) := by omega
        obtain ⟨ad1, x, rfl, hb1, hx, k1⟩ := (HI1.out.below HK.out.2).get hlt
        obtain ⟨ad2, y, rfl, hb2, hy, k2⟩ := (HI2.out.below HK.out.2).get hlt
        rw [hx] at hy
        injection hy with hy
        subst hy
        have u1 : ∀ p : Ext W1, p.W.cell? (ad1.add k) = some (.int .i64 x) := fun p => (p.b.cell (by rw [add_block]; exact hb1)).trans k1
        have u2 : ∀ p : Ext W1, p.W.cell? (ad2.add k) = some (.int .i64 x) := fun p => (p.b.cell (by rw [add_block]; exact hb2)).trans k2
        have dx := plc_mem.1 (HG.out.mem (List.mem_of_getElem? hx))
        rw [G.out.M.len] at dx
        have HX1 := Lib.hid hx
        have HLT := Lib.hid hlt
        clear hx hb2 k2 hlt hb1 k1
        go_wp2_with fail
        have ne : Nonempty (Ext W1) := ⟨⟨W1, Below.refl _ _⟩⟩
        refine quietE (by kernel_rfl) (by kernel_rfl) ?_
        repeat (first | go_big_quiet_skip | quiet_step (fail))
        refine wpQuiet_nil ?_
        rintro _ ⟨p, rfl⟩
        have HK := Lib.hid (And.intro (HK.out.1.next p.b) (HK.out.2.trans (p.b.mono HK.out.2.size)))
        generalize p.W = W2 at HK ⊢
        clear ne u1 u2
        rcases Nat.eq_zero_or_pos k with h0 | h0
        · have t1 : decide (0 < (k : Int)) = false := decide_eq_false (by omega)
          have t1' : decide (0 < k) = false := decide_eq_false (by omega)
          clear h0
          go_wp2_with fail
          have ne : Nonempty (Ext W2) := ⟨⟨W2, Below.refl _ _⟩⟩
          refine quietE (by kernel_rfl) (by kernel_rfl) ?_
          repeat (first | go_big_quiet_skip | quiet_step (fail))
          refine wpQuiet_nil ?_
          rintro _ ⟨p, rfl⟩
          have HK := Lib.hid (And.intro (HK.out.1.next p.b) (HK.out.2.trans (p.b.mono HK.out.2.size)))
          generalize p.W = W3 at HK ⊢
          clear ne
          go_wp2
          go_roundw
          case rel => exact ⟨k + 1, _, by have := HLT.out; omega, by go_num, rfl, HK⟩
          case measure => have := HLT.out; simp [intOf]; omega
        · have t1 : decide (0 < (k : Int)) = true := decide_eq_true (by omega)
          have t1' : decide (0 < k) = true := decide_eq_true (by omega)
          obtain ⟨j, hj⟩ : ∃ j, j + 1 = k := ⟨k - 1, by omega⟩
          have e1 : (k : Int) - 1 = (j : Int) := by omega
          have hjm : j < h.m := by have := HLT.out; omega
          have hj2 : (j : Int) < (h.m : Int) := by omega
          have hjb : j ≤ 1000 := by have := HSm.out; omega
          have j3 : IntKind.i64.wrap (j : Int) = (j : Int) := (IntWalk.i64_left _).trans (IntWalk.wrap64_in _ ⟨by omega, by omega⟩)
          have hk2 : (k : Int) < (h.m : Int) := by have := HLT.out; omega
          obtain ⟨ad1', x', ee1, hb1, hx', k1⟩ := (HI1.out.below HK.out.2).get HLT.out
          injection ee1 with ee1
          subst ee1
          rw [HX1.out] at hx'
          injection hx' with hx'
          subst hx'
          obtain ⟨ad1', z, ee1, hb3, hz, k3⟩ := (HI1.out.below HK.out.2).get hjm
          injection ee1 with ee1
          subst ee1
          have dz := plc_mem.1 (HG.out.mem (List.mem_of_getElem? hz))
          rw [G.out.M.len] at dz
          have hl := St.srt_get HG.out.2 hz HX1.out (by omega)
          obtain ⟨q1, e2⟩ : ∃ q1, x.toNat = q1 := ⟨_, rfl⟩
          obtain ⟨q2, e3⟩ : ∃ q2, z.toNat = q2 := ⟨_, rfl⟩
          have MW := G.out.M.below HK.out.1.b
          obtain ⟨ad, r1, hB, hb, _, m1, _, v1⟩ := MW.get (k := q1) (by omega)
          obtain ⟨ad', r2, hB', _, _, m2, _, v2⟩ := MW.get (k := q2) (by omega)
          rw [hB] at hB'
          injection hB' with hB'
          subst hB'
          have kx := key_at v1 e2
          have kz := key_at v2 e3
          have x9 : ∀ p : Ext W2, p.W.cell? ⟨w.heap.size, 9, none⟩ = some (.slice (some ad) h.m h.d) := fun p => by have := HK.out.1.x.ext p 9; rw [this]; simp [hB]
          have u1 : ∀ p : Ext W2, p.W.cell? (ad1.add k) = some (.int .i64 x) := fun p => (p.b.cell (by rw [add_block]; exact hb1)).trans k1
          have u2 : ∀ p : Ext W2, p.W.cell? (ad1.add j) = some (.int .i64 z) := fun p => (p.b.cell (by rw [add_block]; exact hb3)).trans k3
          have d1 : ∀ p : Ext W2, p.W.cell? ⟨(ad.add (q1 * 9)).block, (ad.add (q1 * 9)).off + 1, none⟩ = some (.int .i64 r1.v.dy) := fun p => (m1.keep fun a ha => p.b.cell (by rw [ha, add_block]; exact hb)).c1
          have d2 : ∀ p : Ext W2, p.W.cell? ⟨(ad.add (q2 * 9)).block, (ad.add (q2 * 9)).off + 1, none⟩ = some (.int .i64 r2.v.dy) := fun p => (m2.keep fun a ha => p.b.cell (by rw [ha, add_block]; exact hb)).c1
          have x1 := dx.1
          have x2 := dx.2
          have x3 : IntKind.i64.wrap x = x := (IntWalk.i64_left _).trans (IntWalk.wrap64_in _ ⟨by omega, by omega⟩)
          have z1 := dz.1
          have z2 := dz.2
          have z3 : IntKind.i64.wrap z = z := (IntWalk.i64_left _).trans (IntWalk.wrap64_in _ ⟨by omega, by omega⟩)
          obtain ⟨da, hda⟩ : ∃ da, r1.v.dy = da := ⟨_, rfl⟩
          obtain ⟨db, hdb⟩ : ∃ db, r2.v.dy = db := ⟨_, rfl⟩
          rw [hda] at d1 kx
          rw [hdb] at d2 kz
          unfold St.lt at hl
          rw [kx, kz] at hl
          have t2 : decide (da < db) = false := decide_eq_false (by omega)
          clear MW hB hb m1 m2 v1 v2 hda hdb kx kz dx dz k1 k3 hb1 hb3 hz h0 hj
          by_cases h3 : da = db
          · subst h3
            have t4 : decide (x < z) = false := decide_eq_false (by omega)
            clear hl
            go_wp2_with fail
            have ne : Nonempty (Ext W2) := ⟨⟨W2, Below.refl _ _⟩⟩
            refine quietE (by kernel_rfl) (by kernel_rfl) ?_
            repeat (first | go_big_quiet_skip | quiet_step (fail))
            refine wpQuiet_nil ?_
            rintro _ ⟨p, rfl⟩
            have HK := Lib.hid (And.intro (HK.out.1.next p.b) (HK.out.2.trans (p.b.mono HK.out.2.size)))
            generalize p.W = W3 at HK ⊢
            clear ne x9 u1 u2 d1 d2
            go_wp2
            go_roundw
            case rel => exact ⟨k + 1, _, by have := HLT.out; omega, by go_num, rfl, HK⟩
            case measure => have := HLT.out; simp [intOf]; omega
          · have t3 : decide (da = db) = false := decide_eq_false h3
            have t3' : (da == db) = false := by simpa using h3
            clear hl h3
            go_wp2_with fail
            have ne : Nonempty (Ext W2) := ⟨⟨W2, Below.refl _ _⟩⟩
            refine quietE (by kernel_rfl) (by kernel_rfl) ?_
            repeat (first | go_big_quiet_skip | quiet_step (fail))
            refine wpQuiet_nil ?_
            rintro _ ⟨p, rfl⟩
            have HK := Lib.hid (And.intro (HK.out.1.next p.b) (HK.out.2.trans (p.b.mono HK.out.2.size)))
            generalize p.W = W3 at HK ⊢
            clear ne x9 u1 u2 d1 d2
            go_wp2
            go_roundw
            case rel => exact ⟨k + 1, _, by have := HLT.out; omega, by go_num, rfl, HK⟩
            case measure => have := HLT.out; simp [intOf]; omega
      · have HE := Lib.hid HK.out.1
        clear HK
        go_wp2_with fail
        refine (alive11 _).mono ?_
        rintro e w3 ⟨rfl, hb3⟩
        have H3 := Lib.hid (HE.out.next hb3)
        clear hb3
        go_wp2
        go_ret
        exact ⟨rfl, H3.out.b⟩

set_option maxRecDepth 100000 in
theorem lifted (os : Os) (started : os.Started) (H : Type) (enc : TypeId × Value → H) :
    ReturnsInHanded {} Try.checked os 7 .any (Rows.changeOrderSpec.pre6 enc Try.prog Try.f7 Rows.changeOrderRow.domain false) (Rows.changeOrderSpec.post enc Try.prog Try.f7 false true false false) := by
  refine returnsInHanded_of_change_sized (C := Try.checked) Tm.own started (by kernel_rfl) Try.func7
    (ChangeSpec.witness6 (enc := enc) (C := Try.checked) false ⟨#[], #[.agg #[.int .i64 0, .int .i64 0, .int .i64 0, .int .i64 0, .int .i64 0, .int .i64 0, .int .i64 0, .int .i64 0, .slice none 0 0, .slice none 0 0]], []⟩ 8 (by kernel_rfl) (by kernel_rfl) (by kernel_rfl) (by kernel_rfl)) ?_
  intro W base args ds gs before hval0 hW hcnd hsz0 _
  have hval : ∀ (j : Nat) t v, Try.f7.params[j]? = some t → args[j]? = some v → Value.okWide Try.prog W .any base t v := hval0
  have hW' := hW
  have hsz : (DataW.weightsEach Try.prog (Try.f7.params.toList ++ Rows.changeOrderSpec.plain.varTypes Try.prog) (ds ++ gs)).all (· ≤ reachBytes) = true := hsz0
  obtain ⟨p, q, hA0, hV, rfl, hfz, hnd⟩ := hW
  have hA : DataW.TrodAll enc Try.prog W 0 (fun _ => true) true Try.f7.params.toList args.toList ds p := hA0
  rw [Try.params7] at hA hval hsz
  obtain ⟨v0, vs0, d0, ds0, p0, q0, hargs, rfl, rfl, h0, r0⟩ := trodAll_cons hA
  obtain ⟨rfl, rfl, rfl⟩ := trodAll_nil r0
  obtain rfl : args = #[v0] := by cases args; simp_all
  obtain ⟨rfl, rfl⟩ := trodVars_none hV
  have k0 := h0
  have lt0 : ∀ x ∈ p0, x.block < W.heap.size := by obtain ⟨m, hm⟩ := k0; exact DataW.trod_lt m _ _ _ hm
  obtain ⟨y0, rfl, g0⟩ := Tm.open_history (hval 0 33 v0 rfl rfl) h0 (fun k hk => of_decide_eq_true (List.all_eq_true.1 hsz _ (DataW.weights_mem_each (j := 0) rfl rfl k hk)))
  clear hA0 hval0 hsz hsz0
  refine (walk y0 g0).mono fun e W' ⟨he, bel⟩ => ?_
  subst he
  exact ⟨_, rfl, _, _, _, [], _, [], hW', trodAll_mk1 (shut_bool Try.underlying4 _), (trodAll_cons_mk (Below.trod Tm.laidOut (by kernel_rfl) (of_decide_eq_true (by kernel_rfl)) k0 bel lt0) trodAll_mk0), rfl, bel.frame _, fun h => by cases h⟩

theorem over : Rows.changeOrderRow.holds Try.pinned (OpenSpec.ofChange Rows.changeOrderSpec) :=
  OpenClaim.holds_of_wide 7 Try.f7 rfl rfl rfl rfl rfl rfl rfl ⟨rfl, rfl, rfl, rfl, rfl⟩ rfl rfl rfl rfl rfl (by kernel_rfl) Try.func7 (by kernel_rfl)
    (of_decide_eq_true (by kernel_rfl)) (by unfold Func.isWrapper; first | (rw [if_pos (by decide +kernel)]; kernel_rfl) | (rw [if_neg (by decide +kernel)]; exact ⟨rfl, rfl⟩))
    (fun os started H enc _ => lifted os started H enc)

theorem proved : Rows.ChangeOrderSaid := over
end Go.Proofs.Ytcnlllamldlnmaa.changeOrder
