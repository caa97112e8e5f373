/-
  The statement SlicesWhole holds: for every input the call returns true, and each argument reads afterwards as it read before. Conditions: none beside those that the row itself bears.
-/
import Derived.Test.YtkdhcloaeifbdaaGreatKFacts12
namespace Go.Proofs.YtkdhcloaeifbdaaGreat
open Go.RowKit Ba Cv Sp Te Ag Tf Sl Tm
namespace Slc
set_option linter.unusedVariables false

/-- What holds at the head of each round. -/
structure WJ (w W : World) (h : Hr) (T : Option Addr) (nt ct : Nat) (A : Option Addr) (n : Nat) (rs : List Rw) : Prop where
  o : O2 w W h T nt ct
  l : Sls W A n rs
theorem WJ.next {w W W' : World} {h : Hr} {T A : Option Addr} {nt ct n : Nat} {rs : List Rw} (H : WJ w W h T nt ct A n rs) (hb : Below W.heap.size W W') : WJ w W' h T nt ct A n rs := ⟨H.o.next hb, H.l.below hb⟩
set_option maxRecDepth 100000 in
set_option maxHeartbeats 4000000 in
theorem walk_SlicesWhole {w : World} (h : Hr) (G : GivenH w h) (T : Option Addr) (nt ct : Nat) (vs : List Trf.Rw) (GT : Trf.GivenT w T nt ct vs) (day : Int) (hday : 0 ≤ day ∧ day ≤ 4294967295) : Calls Tryz.prog 5 #[hg h, Trf.tg T nt ct, .int .u32 day] w (Yes w true) := by
  obtain ⟨W, hW⟩ : ∃ W, (w.alloc (.cells (hc h) 31)).alloc (.cells #[.slice T nt ct] 34) = W := ⟨_, rfl⟩
  have H0 := Lib.hid (show O2 w W h T nt ct by rw [← hW]; exact O2.start w h T nt ct)
  have HW := Lib.hid hW
  have HG := Lib.hid G
  have HGT := Lib.hid GT
  clear hW G GT
  go_enter Tryz.func5, Tryz.ntmps5
  go_upto_region 1 with fail
  rw [HW.out]
  clear HW
  go_wp2_with fail
  refine (awake12 _).mono ?_
  rintro e w1 ⟨rfl, hb1⟩
  have H1 := Lib.hid (H0.out.next hb1)
  clear hb1 H0
  have x0 := H1.out.x.c 0
  have x1 := H1.out.x.c 1
  have x2 := H1.out.x.c 2
  have x3 := H1.out.x.c 3
  have x4 := H1.out.x.c 4
  have x5 := H1.out.x.c 5
  have x6 := H1.out.x.c 6
  have x7 := H1.out.x.c 7
  have x8 := H1.out.x.c 8
  have x9 := H1.out.x.c 9
  simp at x0 x1 x2 x3 x4 x5 x6 x7 x8 x9
  have y0 := H1.out.y.c 0
  simp at y0
  have C := Lib.hid (few12 h T nt ct vs w1 (gh_below HG.out H1.out.b) (gt_below HGT.out H1.out.b))
  go_wp2_with fail
  refine C.out.mono ?_
  rintro e w2 ⟨b, rfl, hb2, hs⟩
  have H2 := Lib.hid (H1.out.next hb2)
  have HS0 := Lib.hid hs
  clear hb2 hs C x0 x1 x2 x3 x4 x5 x6 x7 x8 x9 y0 H1
  cases b
  · go_wp2
    go_ret
    exact ⟨rfl, H2.out.b⟩
  have HS := Lib.hid (HS0.out rfl)
  clear HS0
  have x0 := H2.out.x.c 0
  have x1 := H2.out.x.c 1
  have x2 := H2.out.x.c 2
  have x3 := H2.out.x.c 3
  have x4 := H2.out.x.c 4
  have x5 := H2.out.x.c 5
  have x6 := H2.out.x.c 6
  have x7 := H2.out.x.c 7
  have x8 := H2.out.x.c 8
  have x9 := H2.out.x.c 9
  simp at x0 x1 x2 x3 x4 x5 x6 x7 x8 x9
  have y0 := H2.out.y.c 0
  simp at y0
  have C := Lib.hid (of_ h T nt ct vs w2 (HG.out.M.below H2.out.b) (HS.out.hs HG.out) (Nat.le_trans HS.out.m (by omega)) (HS.out.vers (gt_below HGT.out H2.out.b)) (Nat.le_trans HS.out.t (by omega)))
  go_wp2_with fail
  refine C.out.mono ?_
  rintro e w3 ⟨A2, n2, c2, rs2, cd2, rfl, hs2, hn2, hi2, hb3⟩
  have H3 := Lib.hid (H2.out.next hb3)
  have HL2 := Lib.hid hs2
  have HIS2 := Lib.hid hi2
  clear hb3 hs2 hi2 C x0 x1 x2 x3 x4 x5 x6 x7 x8 x9 y0 H2
  by_cases hc0 : cd2 = 0
  case neg =>
    have t1 : decide (cd2 = 0) = false := decide_eq_false hc0
    have hz : n2 = 0 := by
      have h1 := HL2.out.r.1
      have h2 := HIS2.out.nil hc0
      have h3 : rs2.length = 0 := by simpa using congrArg List.length h2
      omega
    subst hz
    go_wp2
    go_ret
    exact ⟨rfl, H3.out.b⟩
  subst hc0
  obtain ⟨hr, hcod, o, K, hO, hCut, hbad, hmap⟩ := HIS2.out.ok
  obtain ⟨q, hq⟩ : ∃ q, qf (Trf.tol h.v.s.1 (vs.map Trf.Rw.v)) = q := ⟨_, rfl⟩
  have HQN := Lib.hid (show ∀ x cs, 0 ≤ (q x cs).1 from fun x cs => by rw [← hq]; exact qf_nn _ _ _)
  rw [hq] at hmap
  have HSP := Lib.hid (show 1 ≤ h.s.1 ∧ h.s.1 < h.s.2 ∧ h.s.2 ≤ 292195 ∧ h.s.2 - h.s.1 ≤ 1100 from hrt_span hr)
  have HCUT := Lib.hid (show Cutd (hld (ini h.v) (ordl h.v.hs o)) h.s.1 h.s.2 K from hCut)
  have HMAP := Lib.hid hmap
  have HKL := Lib.hid (show K.length = n2 by
    have h1 := HL2.out.r.1
    have h2 := congrArg List.length hmap
    rw [List.length_map, List.length_map] at h2
    omega)
  have HJ0 := Lib.hid (show WJ w w3 h T nt ct A2 n2 rs2 from ⟨H3.out, HL2.out⟩)
  clear hr hcod hO hCut hbad hmap hq HIS2 H3 HL2
  have x0 := HJ0.out.o.x.c 0
  have x1 := HJ0.out.o.x.c 1
  have x2 := HJ0.out.o.x.c 2
  have x3 := HJ0.out.o.x.c 3
  have x4 := HJ0.out.o.x.c 4
  have x5 := HJ0.out.o.x.c 5
  have x6 := HJ0.out.o.x.c 6
  have x7 := HJ0.out.o.x.c 7
  have x8 := HJ0.out.o.x.c 8
  have x9 := HJ0.out.o.x.c 9
  simp at x0 x1 x2 x3 x4 x5 x6 x7 x8 x9
  have y0 := HJ0.out.o.y.c 0
  simp at y0
  go_wp2
  clear x0 x1 x2 x3 x4 x5 x6 x7 x8 x9 y0
  go_loopw [11, 12] (fun s11 vi w' => ∃ (i : Nat) (at' : Int) (W : World), i ≤ n2 ∧ s11 = .int .i64 at' ∧ vi = .int .i64 (i : Int) ∧ W = w' ∧ Hid (WJ w W h T nt ct A2 n2 rs2) ∧ Hid (Chain at' h.s.2 ((K.map Prod.fst).drop i))) (fun _ vi _ => n2 - (intOf vi).toNat)
  case atStart => exact ⟨0, h.s.1, _, Nat.zero_le _, rfl, rfl, rfl, HJ0, Lib.hid (by rw [List.drop_zero]; exact HCUT.out.ch)⟩
  case round =>
    obtain ⟨i, at', W, hi, rfl, rfl, rfl, HJ, HCH⟩ := hrel
    clear HJ0
    by_cases hlt : i < n2
    · obtain ⟨ad, r, rfl, hb, hr, N⟩ := (HJ.out.l.r).get hlt
      have hlt2 : (i : Int) < (n2 : Int) := by omega
      have hkl := HKL.out
      obtain ⟨x, hx⟩ : ∃ x, K[i]? = some x := ⟨K[i]'(by omega), List.getElem?_eq_getElem (by omega)⟩
      have hrv : r.v = prc q x := by
        have h1 : (rs2.map Rw.v)[i]? = some r.v := by rw [List.getElem?_map, hr]; rfl
        rw [HMAP.out, List.getElem?_map, hx] at h1
        simpa using h1.symm
      have hca := chain_at HCH.out (show (K.map Prod.fst)[i]? = some x.1 by rw [List.getElem?_map, hx]; rfl)
      have hy := prc_y (q := q) x HQN.out
      rw [← hrv] at hy
      have hs1 : r.v.s.1 = at' := by rw [hrv, prc_s]; exact hca.1
      obtain ⟨to', hto⟩ : ∃ to', r.v.s.2 = to' := ⟨_, rfl⟩
      have hxt : x.1.2 = to' := by rw [← hto, hrv]; rfl
      have HRV := Lib.hid hrv
      have HR := Lib.hid hr
      have HXI := Lib.hid hx
      have HCH2 := Lib.hid (show Chain to' h.s.2 ((K.map Prod.fst).drop (i + 1)) by rw [← hxt]; exact hca.2.2)
      have htl : at' < to' := by rw [← hxt]; exact hca.2.1
      have t2 : decide (to' ≤ at') = false := decide_eq_false (by omega)
      have HN := Lib.hid N
      have hbl : (ad.add (i * 9)).block < W.heap.size := by rw [add_block]; exact hb
      have hbd : ad.block < W.heap.size := hb
      obtain ⟨c0, c1, c2, c3, c4, c5, c6, c7, c8⟩ := N
      rw [hs1] at c0
      rw [hto] at c1
      obtain ⟨y, hyy⟩ : ∃ y, r.v.y = y := ⟨_, rfl⟩
      rw [hyy] at c8 hy
      have t3 : decide (y < 0) = false := decide_eq_false (by have := hy.1; omega)
      have HS1 := Lib.hid (And.intro hs1 (And.intro hto hyy))
      have TAILX : (r.v.h.on = true ∨ (r.v.h.on = false ∧ decide (y = 0) = true)) := by
        have e : x.2 = r.v.h := by rw [hrv]; rfl
        rw [e] at hy
        cases hon : r.v.h.on
        · exact .inr ⟨rfl, decide_eq_true (hy.2 hon)⟩
        · exact .inl rfl
      clear hr hx hrv hca hxt htl hy hs1 hto hyy hkl hb
      rcases TAILX with hon | ⟨hon, t4⟩
      · rw [hon] at c2
        clear hon
        go_upto_region 14 with fail
        clear t2 t3
        by_cases h0 : i = 0
        · have tz' : decide (0 < i) = false := decide_eq_false (by omega)
          have tz : decide ((0 : Int) < (i : Int)) = false := decide_eq_false (by omega)
          clear h0
          go_wp2
          go_roundw
          case rel => exact ⟨i + 1, to', W, by omega, rfl, by go_num, rfl, HJ, HCH2⟩
          case measure => simp [intOf]; omega
        · obtain ⟨j, hij⟩ : ∃ j, i = j + 1 := ⟨i - 1, by omega⟩
          have tpos' : decide (0 < i) = true := decide_eq_true (by omega)
          have tpos : decide ((0 : Int) < (i : Int)) = true := decide_eq_true (by omega)
          have hw : IntKind.i64.wrap ((i : Int) - 1) = (j : Int) := by rw [IntWalk.i64_in _ (by omega)]; omega
          have hw2 : (i : Int) - 1 = (j : Int) := by omega
          have hjlt : j < n2 := by omega
          have hjlt2 : (j : Int) < (n2 : Int) := by omega
          obtain ⟨ad', r', e', hb', hr', N'⟩ := (HJ.out.l.r).get hjlt
          obtain rfl := Option.some.inj e'
          have hbl' : (ad.add (j * 9)).block < W.heap.size := by rw [add_block]; exact hb'
          have HBL := Lib.hid hbl
          have HIJ := Lib.hid hij
          have HR' := Lib.hid hr'
          obtain ⟨b0, b1, b2, b3, b4, b5, b6, b7, b8⟩ := N'
          clear hij hr' hb' e' h0
          obtain ⟨W2, hW2⟩ : ∃ W2, W.alloc (.cells (vc ⟨⟨(at', to'), r'.v.h, y⟩, r'.A, r'.n, r'.c⟩) 43) = W2 := ⟨_, rfl⟩
          have hal : Below W.heap.size W W2 := hW2 ▸ alloc_ _ _
          have HJ2 := Lib.hid (HJ.out.next hal)
          have HB2 := Lib.hid (show Bx W2 W.heap.size 43 (vc ⟨⟨(at', to'), r'.v.h, y⟩, r'.A, r'.n, r'.c⟩) from hW2 ▸ Bx.new _ _ _)
          have HN2 := Lib.hid (HN.out.keep (w' := W2) (fun a ha => hal.cell (by rw [ha]; exact hbl)))
          have HW2 := Lib.hid hW2
          clear hal hW2
          go_upto_region 18 with fail
          rw [HW2.out]
          clear HW2 b0 b1 b2 b3 b4 b5 b6 b7 b8 c0 c1 c2 c3 c4 c5 c6 c7 c8 hbl hbl' hbd HJ
          have hlb : (ad.add (i * 9)).block < W2.heap.size := Nat.lt_of_lt_of_le HBL.out (Nat.le_of_lt HB2.out.lt)
          have gd : ∀ (p : Ext W2) (z : Rw), z ∈ rs2 → Gd p.W z := fun p z hz => (HJ2.out.next p.b).l.g z hz
          have hne : ¬ (Sc.mk (at', to') r'.v.h y = r.v) := by
            intro e
            have hkl := HKL.out
            obtain ⟨x', hx'⟩ : ∃ x', K[j]? = some x' := ⟨K[j]'(by omega), List.getElem?_eq_getElem (by omega)⟩
            have hv' : r'.v = prc q x' := by
              have h1 : (rs2.map Rw.v)[j]? = some r'.v := by rw [List.getElem?_map, HR'.out]; rfl
              rw [HMAP.out, List.getElem?_map, hx'] at h1
              simpa using h1.symm
            refine HCUT.out.nb j x' x hx' (by rw [← HIJ.out]; exact HXI.out) ?_
            have h1 := congrArg Sc.h e
            rw [hv', HRV.out] at h1
            exact h1
          have C := fun p : Ext W2 => Lib.hid (show Calls Tryz.prog 15 #[vg ⟨⟨(at', to'), r'.v.h, y⟩, r'.A, r'.n, r'.c⟩, vg r] p.W (Yes p.W false) by
            have h1 := gd p r' (List.mem_of_getElem? HR'.out)
            have := same_ ⟨⟨(at', to'), r'.v.h, y⟩, r'.A, r'.n, r'.c⟩ r p.W ⟨h1.c, h1.n⟩ (gd p r (List.mem_of_getElem? HR.out))
            rwa [decide_eq_false hne] at this)
          have N : ∀ p : Ext W2, Nin p.W (ad.add (i * 9)) r := fun p => HN2.out.keep (fun a ha => p.b.cell (by rw [ha]; exact hlb))
          have n0 : ∀ p : Ext W2, p.W.cell? (ad.add (i * 9)) = _ := fun p => (N p).c0
          have n1 : ∀ p : Ext W2, p.W.cell? ⟨(ad.add (i * 9)).block, (ad.add (i * 9)).off + 1, none⟩ = _ := fun p => (N p).c1
          have n2' : ∀ p : Ext W2, p.W.cell? ⟨(ad.add (i * 9)).block, (ad.add (i * 9)).off + 2, none⟩ = _ := fun p => (N p).c2
          have n3 : ∀ p : Ext W2, p.W.cell? ⟨(ad.add (i * 9)).block, (ad.add (i * 9)).off + 3, none⟩ = _ := fun p => (N p).c3
          have n4 : ∀ p : Ext W2, p.W.cell? ⟨(ad.add (i * 9)).block, (ad.add (i * 9)).off + 4, none⟩ = _ := fun p => (N p).c4
          have n5 : ∀ p : Ext W2, p.W.cell? ⟨(ad.add (i * 9)).block, (ad.add (i * 9)).off + 5, none⟩ = _ := fun p => (N p).c5
          have n6 : ∀ p : Ext W2, p.W.cell? ⟨(ad.add (i * 9)).block, (ad.add (i * 9)).off + 6, none⟩ = _ := fun p => (N p).c6
          have n7 : ∀ p : Ext W2, p.W.cell? ⟨(ad.add (i * 9)).block, (ad.add (i * 9)).off + 7, none⟩ = _ := fun p => (N p).c7
          have n8 : ∀ p : Ext W2, p.W.cell? ⟨(ad.add (i * 9)).block, (ad.add (i * 9)).off + 8, none⟩ = _ := fun p => (N p).c8
          have x0 : ∀ p : Ext W2, p.W.cell? ⟨W.heap.size, 0, none⟩ = some (.int .i64 at') := fun p => HB2.out.ext p 0
          have x1 : ∀ p : Ext W2, p.W.cell? ⟨W.heap.size, 1, none⟩ = some (.int .i64 to') := fun p => HB2.out.ext p 1
          have x2 : ∀ p : Ext W2, p.W.cell? ⟨W.heap.size, 2, none⟩ = some (.bool r'.v.h.on) := fun p => HB2.out.ext p 2
          have x3 : ∀ p : Ext W2, p.W.cell? ⟨W.heap.size, 3, none⟩ = some (.int .i64 r'.v.h.r.k) := fun p => HB2.out.ext p 3
          have x4 : ∀ p : Ext W2, p.W.cell? ⟨W.heap.size, 4, none⟩ = some (.int .i64 r'.v.h.r.v) := fun p => HB2.out.ext p 4
          have x5 : ∀ p : Ext W2, p.W.cell? ⟨W.heap.size, 5, none⟩ = some (.int .i64 r'.v.h.r.a) := fun p => HB2.out.ext p 5
          have x6 : ∀ p : Ext W2, p.W.cell? ⟨W.heap.size, 6, none⟩ = some (.int .i64 r'.v.h.r.z) := fun p => HB2.out.ext p 6
          have x7 : ∀ p : Ext W2, p.W.cell? ⟨W.heap.size, 7, none⟩ = some (.slice r'.A r'.n r'.c) := fun p => HB2.out.ext p 7
          have x8 : ∀ p : Ext W2, p.W.cell? ⟨W.heap.size, 8, none⟩ = some (.int .i64 y) := fun p => HB2.out.ext p 8
          clear N gd hne
          have ne : Nonempty (Ext W2) := ⟨⟨W2, Below.refl _ _⟩⟩
          refine quietE (by kernel_rfl) (by kernel_rfl) ?_
          repeat (first | go_big_quiet_skip | quiet_step (first
            | (go_at_call 15; with_reducible exact ext_of (C _).out)
            | fail))
          refine wpQuiet_nil ?_
          rintro _ ⟨p, rfl⟩
          have HJ4 := Lib.hid (HJ2.out.next p.b)
          have n1' : p.W.cell? ⟨(ad.add (i * 9)).block, (ad.add (i * 9)).off + 1, none⟩ = some (.int .i64 to') := by rw [← HS1.out.2.1]; exact n1 p
          clear C ne n0 n1 n2' n3 n4 n5 n6 n7 n8 x0 x1 x2 x3 x4 x5 x6 x7 x8 HJ2 HB2
          generalize p.W = w4 at HJ4 n1' ⊢
          go_wp2
          go_roundw
          case rel => exact ⟨i + 1, to', _, by omega, rfl, by go_num, rfl, HJ4, HCH2⟩
          case measure => simp [intOf]; omega
      · obtain rfl : y = 0 := of_decide_eq_true t4
        clear t4
        rw [hon] at c2
        clear hon
        go_upto_region 14 with fail
        clear t2 t3
        by_cases h0 : i = 0
        · have tz' : decide (0 < i) = false := decide_eq_false (by omega)
          have tz : decide ((0 : Int) < (i : Int)) = false := decide_eq_false (by omega)
          clear h0
          go_wp2
          go_roundw
          case rel => exact ⟨i + 1, to', W, by omega, rfl, by go_num, rfl, HJ, HCH2⟩
          case measure => simp [intOf]; omega
        · obtain ⟨j, hij⟩ : ∃ j, i = j + 1 := ⟨i - 1, by omega⟩
          have tpos' : decide (0 < i) = true := decide_eq_true (by omega)
          have tpos : decide ((0 : Int) < (i : Int)) = true := decide_eq_true (by omega)
          have hw : IntKind.i64.wrap ((i : Int) - 1) = (j : Int) := by rw [IntWalk.i64_in _ (by omega)]; omega
          have hw2 : (i : Int) - 1 = (j : Int) := by omega
          have hjlt : j < n2 := by omega
          have hjlt2 : (j : Int) < (n2 : Int) := by omega
          obtain ⟨ad', r', e', hb', hr', N'⟩ := (HJ.out.l.r).get hjlt
          obtain rfl := Option.some.inj e'
          have hbl' : (ad.add (j * 9)).block < W.heap.size := by rw [add_block]; exact hb'
          have HBL := Lib.hid hbl
          have HIJ := Lib.hid hij
          have HR' := Lib.hid hr'
          obtain ⟨b0, b1, b2, b3, b4, b5, b6, b7, b8⟩ := N'
          clear hij hr' hb' e' h0
          obtain ⟨W2, hW2⟩ : ∃ W2, W.alloc (.cells (vc ⟨⟨(at', to'), r'.v.h, 0⟩, r'.A, r'.n, r'.c⟩) 43) = W2 := ⟨_, rfl⟩
          have hal : Below W.heap.size W W2 := hW2 ▸ alloc_ _ _
          have HJ2 := Lib.hid (HJ.out.next hal)
          have HB2 := Lib.hid (show Bx W2 W.heap.size 43 (vc ⟨⟨(at', to'), r'.v.h, 0⟩, r'.A, r'.n, r'.c⟩) from hW2 ▸ Bx.new _ _ _)
          have HN2 := Lib.hid (HN.out.keep (w' := W2) (fun a ha => hal.cell (by rw [ha]; exact hbl)))
          have HW2 := Lib.hid hW2
          clear hal hW2
          go_upto_region 18 with fail
          rw [HW2.out]
          clear HW2 b0 b1 b2 b3 b4 b5 b6 b7 b8 c0 c1 c2 c3 c4 c5 c6 c7 c8 hbl hbl' hbd HJ
          have hlb : (ad.add (i * 9)).block < W2.heap.size := Nat.lt_of_lt_of_le HBL.out (Nat.le_of_lt HB2.out.lt)
          have gd : ∀ (p : Ext W2) (z : Rw), z ∈ rs2 → Gd p.W z := fun p z hz => (HJ2.out.next p.b).l.g z hz
          have hne : ¬ (Sc.mk (at', to') r'.v.h 0 = r.v) := by
            intro e
            have hkl := HKL.out
            obtain ⟨x', hx'⟩ : ∃ x', K[j]? = some x' := ⟨K[j]'(by omega), List.getElem?_eq_getElem (by omega)⟩
            have hv' : r'.v = prc q x' := by
              have h1 : (rs2.map Rw.v)[j]? = some r'.v := by rw [List.getElem?_map, HR'.out]; rfl
              rw [HMAP.out, List.getElem?_map, hx'] at h1
              simpa using h1.symm
            refine HCUT.out.nb j x' x hx' (by rw [← HIJ.out]; exact HXI.out) ?_
            have h1 := congrArg Sc.h e
            rw [hv', HRV.out] at h1
            exact h1
          have C := fun p : Ext W2 => Lib.hid (show Calls Tryz.prog 15 #[vg ⟨⟨(at', to'), r'.v.h, 0⟩, r'.A, r'.n, r'.c⟩, vg r] p.W (Yes p.W false) by
            have h1 := gd p r' (List.mem_of_getElem? HR'.out)
            have := same_ ⟨⟨(at', to'), r'.v.h, 0⟩, r'.A, r'.n, r'.c⟩ r p.W ⟨h1.c, h1.n⟩ (gd p r (List.mem_of_getElem? HR.out))
            rwa [decide_eq_false hne] at this)
          have N : ∀ p : Ext W2, Nin p.W (ad.add (i * 9)) r := fun p => HN2.out.keep (fun a ha => p.b.cell (by rw [ha]; exact hlb))
          have n0 : ∀ p : Ext W2, p.W.cell? (ad.add (i * 9)) = _ := fun p => (N p).c0
          have n1 : ∀ p : Ext W2, p.W.cell? ⟨(ad.add (i * 9)).block, (ad.add (i * 9)).off + 1, none⟩ = _ := fun p => (N p).c1
          have n2' : ∀ p : Ext W2, p.W.cell? ⟨(ad.add (i * 9)).block, (ad.add (i * 9)).off + 2, none⟩ = _ := fun p => (N p).c2
          have n3 : ∀ p : Ext W2, p.W.cell? ⟨(ad.add (i * 9)).block, (ad.add (i * 9)).off + 3, none⟩ = _ := fun p => (N p).c3
          have n4 : ∀ p : Ext W2, p.W.cell? ⟨(ad.add (i * 9)).block, (ad.add (i * 9)).off + 4, none⟩ = _ := fun p => (N p).c4
          have n5 : ∀ p : Ext W2, p.W.cell? ⟨(ad.add (i * 9)).block, (ad.add (i * 9)).off + 5, none⟩ = _ := fun p => (N p).c5
          have n6 : ∀ p : Ext W2, p.W.cell? ⟨(ad.add (i * 9)).block, (ad.add (i * 9)).off + 6, none⟩ = _ := fun p => (N p).c6
          have n7 : ∀ p : Ext W2, p.W.cell? ⟨(ad.add (i * 9)).block, (ad.add (i * 9)).off + 7, none⟩ = _ := fun p => (N p).c7
          have n8 : ∀ p : Ext W2, p.W.cell? ⟨(ad.add (i * 9)).block, (ad.add (i * 9)).off + 8, none⟩ = _ := fun p => (N p).c8
          have x0 : ∀ p : Ext W2, p.W.cell? ⟨W.heap.size, 0, none⟩ = some (.int .i64 at') := fun p => HB2.out.ext p 0
          have x1 : ∀ p : Ext W2, p.W.cell? ⟨W.heap.size, 1, none⟩ = some (.int .i64 to') := fun p => HB2.out.ext p 1
          have x2 : ∀ p : Ext W2, p.W.cell? ⟨W.heap.size, 2, none⟩ = some (.bool r'.v.h.on) := fun p => HB2.out.ext p 2
          have x3 : ∀ p : Ext W2, p.W.cell? ⟨W.heap.size, 3, none⟩ = some (.int .i64 r'.v.h.r.k) := fun p => HB2.out.ext p 3
          have x4 : ∀ p : Ext W2, p.W.cell? ⟨W.heap.size, 4, none⟩ = some (.int .i64 r'.v.h.r.v) := fun p => HB2.out.ext p 4
          have x5 : ∀ p : Ext W2, p.W.cell? ⟨W.heap.size, 5, none⟩ = some (.int .i64 r'.v.h.r.a) := fun p => HB2.out.ext p 5
          have x6 : ∀ p : Ext W2, p.W.cell? ⟨W.heap.size, 6, none⟩ = some (.int .i64 r'.v.h.r.z) := fun p => HB2.out.ext p 6
          have x7 : ∀ p : Ext W2, p.W.cell? ⟨W.heap.size, 7, none⟩ = some (.slice r'.A r'.n r'.c) := fun p => HB2.out.ext p 7
          have x8 : ∀ p : Ext W2, p.W.cell? ⟨W.heap.size, 8, none⟩ = some (.int .i64 0) := fun p => HB2.out.ext p 8
          clear N gd hne
          have ne : Nonempty (Ext W2) := ⟨⟨W2, Below.refl _ _⟩⟩
          refine quietE (by kernel_rfl) (by kernel_rfl) ?_
          repeat (first | go_big_quiet_skip | quiet_step (first
            | (go_at_call 15; with_reducible exact ext_of (C _).out)
            | fail))
          refine wpQuiet_nil ?_
          rintro _ ⟨p, rfl⟩
          have HJ4 := Lib.hid (HJ2.out.next p.b)
          have n1' : p.W.cell? ⟨(ad.add (i * 9)).block, (ad.add (i * 9)).off + 1, none⟩ = some (.int .i64 to') := by rw [← HS1.out.2.1]; exact n1 p
          clear C ne n0 n1 n2' n3 n4 n5 n6 n7 n8 x0 x1 x2 x3 x4 x5 x6 x7 x8 HJ2 HB2
          generalize p.W = w4 at HJ4 n1' ⊢
          go_wp2
          go_roundw
          case rel => exact ⟨i + 1, to', _, by omega, rfl, by go_num, rfl, HJ4, HCH2⟩
          case measure => simp [intOf]; omega
    · obtain rfl : i = n2 := by omega
      have hat : at' = h.s.2 := by
        have := HCH.out
        rw [List.drop_of_length_le (by rw [List.length_map]; exact Nat.le_of_eq HKL.out)] at this
        exact this
      subst hat
      clear HCH
      have x0 := HJ.out.o.x.c 0
      have x1 := HJ.out.o.x.c 1
      have x2 := HJ.out.o.x.c 2
      have x3 := HJ.out.o.x.c 3
      have x4 := HJ.out.o.x.c 4
      have x5 := HJ.out.o.x.c 5
      have x6 := HJ.out.o.x.c 6
      have x7 := HJ.out.o.x.c 7
      have x8 := HJ.out.o.x.c 8
      have x9 := HJ.out.o.x.c 9
      simp at x0 x1 x2 x3 x4 x5 x6 x7 x8 x9
      have y0 := HJ.out.o.y.c 0
      simp at y0
      go_upto_region 22 with fail
      clear x0 x1 x2 x3 x4 x5 x6 x7 x8 x9 y0
      obtain ⟨d, hd⟩ : ∃ d, wrap64 (h.s.1 + day % 1100) = d := ⟨_, rfl⟩
      rw [hd]
      have hdv : d = h.s.1 + day % 1100 := by rw [← hd]; exact IntWalk.wrap64_in _ ⟨by have := HSP.out; omega, by have := HSP.out; omega⟩
      have hdb : h.s.1 ≤ d ∧ d ≤ h.s.1 + 1099 := by omega
      clear hdv
      have HD := Lib.hid hdb
      have CA := Lib.hid (at_ A2 i c2 rs2 d W HJ.out.l (by omega))
      obtain ⟨f, hf⟩ : ∃ f, fnd rs2 d = f := ⟨_, rfl⟩
      rw [hf] at CA
      have HF := Lib.hid (show (K.map (prc q)).find? (fun x => inn x.s d) = f by rw [← hf]; exact (fnd_map HMAP.out d).symm)
      obtain ⟨u, hu⟩ : ∃ u, f.isSome = u := ⟨_, rfl⟩
      have HU := Lib.hid hu
      clear hf hu
      have CI := fun W => Lib.hid (rspan_in h.s d W)
      clear hdb hd
      go_wp2_with fail
      refine CA.out.mono ?_
      rintro e w4 ⟨r, rfl, hv, hg, hb4⟩
      rw [HU.out]
      obtain ⟨W5, hW5⟩ : ∃ W5, w4.alloc (.cells (vc r) 43) = W5 := ⟨_, rfl⟩
      have hal : Below w4.heap.size w4 W5 := hW5 ▸ alloc_ _ _
      have HJ5 := Lib.hid (HJ.out.next (hb4.trans (hal.mono hb4.size)))
      have HB5 := Lib.hid (show Bx W5 w4.heap.size 43 (vc r) from hW5 ▸ Bx.new _ _ _)
      have HV := Lib.hid hv
      have HW5 := Lib.hid hW5
      clear hv hg hb4 hal hW5 CA HJ
      go_upto_region 23 with fail
      rw [HW5.out]
      clear HW5
      by_cases hin : d < h.s.2
      · obtain ⟨y, hy1, hy2, hy3, hy4⟩ := find_in (q := q) HCUT.out HSP.out.1 HSP.out.2.2.1 HD.out.1 hin
        have hi : inn h.s d = true := (inn_iff _ _).2 ⟨HSP.out.1, HSP.out.2.2.1, HD.out.1, hin⟩
        rw [HF.out] at hy1
        have HRV := Lib.hid (show r.v = y by rw [HV.out, hy1]; rfl)
        obtain rfl : u = true := by rw [← HU.out, hy1]; rfl
        rw [hi] at CI
        have hr1 : r.v.s.1 ≤ d := by rw [HRV.out]; exact hy2
        have hr2 : d < r.v.s.2 := by rw [HRV.out]; exact hy3
        obtain ⟨f', hf'⟩ : ∃ f', r.v.s.1 = f' := ⟨_, rfl⟩
        obtain ⟨t', ht'⟩ : ∃ t', r.v.s.2 = t' := ⟨_, rfl⟩
        rw [hf'] at hr1
        rw [ht'] at hr2
        have t1 : decide (f' ≤ d) = true := decide_eq_true hr1
        have t2 : decide (d < t') = true := decide_eq_true hr2
        clear hy1 hy2 hy3 hy4 hi hr1 hr2 hin HV HRV
        have x0 := HJ5.out.o.x.c 0
        have x1 := HJ5.out.o.x.c 1
        have x2 := HJ5.out.o.x.c 2
        have x3 := HJ5.out.o.x.c 3
        have x4 := HJ5.out.o.x.c 4
        have x5 := HJ5.out.o.x.c 5
        have x6 := HJ5.out.o.x.c 6
        have x7 := HJ5.out.o.x.c 7
        have x8 := HJ5.out.o.x.c 8
        have x9 := HJ5.out.o.x.c 9
        simp at x0 x1 x2 x3 x4 x5 x6 x7 x8 x9
        have y0 := HJ5.out.o.y.c 0
        simp at y0
        go_wp2_with fail
        refine (CI _).out.mono ?_
        rintro e w6 ⟨rfl, hb6⟩
        have HJ6 := Lib.hid (HJ5.out.next hb6)
        have HB6 := Lib.hid (HB5.out.keep hb6)
        clear hb6 x0 x1 x2 x3 x4 x5 x6 x7 x8 x9 y0 HJ5 HB5 CI
        have x0 := HJ6.out.o.x.c 0
        have x1 := HJ6.out.o.x.c 1
        have x2 := HJ6.out.o.x.c 2
        have x3 := HJ6.out.o.x.c 3
        have x4 := HJ6.out.o.x.c 4
        have x5 := HJ6.out.o.x.c 5
        have x6 := HJ6.out.o.x.c 6
        have x7 := HJ6.out.o.x.c 7
        have x8 := HJ6.out.o.x.c 8
        have x9 := HJ6.out.o.x.c 9
        simp at x0 x1 x2 x3 x4 x5 x6 x7 x8 x9
        have y0 := HJ6.out.o.y.c 0
        simp at y0
        have b0 := HB6.out.c 0
        have b1 := HB6.out.c 1
        simp at b0 b1
        rw [hf'] at b0
        rw [ht'] at b1
        clear hf' ht'
        go_wp2
        go_ret
        exact ⟨rfl, HJ6.out.o.b⟩
      · have hi : inn h.s d = false := by
          cases hi : inn h.s d
          · rfl
          · exact absurd ((inn_iff _ _).1 hi).2.2.2 hin
        have hno := find_out (q := q) (d := d) HCUT.out (fun hd => hin hd.2)
        rw [HF.out] at hno
        obtain rfl : u = false := by rw [← HU.out, hno]; rfl
        rw [hi] at CI
        clear hno hi hin HV
        have x0 := HJ5.out.o.x.c 0
        have x1 := HJ5.out.o.x.c 1
        have x2 := HJ5.out.o.x.c 2
        have x3 := HJ5.out.o.x.c 3
        have x4 := HJ5.out.o.x.c 4
        have x5 := HJ5.out.o.x.c 5
        have x6 := HJ5.out.o.x.c 6
        have x7 := HJ5.out.o.x.c 7
        have x8 := HJ5.out.o.x.c 8
        have x9 := HJ5.out.o.x.c 9
        simp at x0 x1 x2 x3 x4 x5 x6 x7 x8 x9
        have y0 := HJ5.out.o.y.c 0
        simp at y0
        go_wp2_with fail
        refine (CI _).out.mono ?_
        rintro e w6 ⟨rfl, hb6⟩
        have HJ6 := Lib.hid (HJ5.out.next hb6)
        clear hb6 x0 x1 x2 x3 x4 x5 x6 x7 x8 x9 y0 HJ5 HB5 CI
        have x0 := HJ6.out.o.x.c 0
        have x1 := HJ6.out.o.x.c 1
        have x2 := HJ6.out.o.x.c 2
        have x3 := HJ6.out.o.x.c 3
        have x4 := HJ6.out.o.x.c 4
        have x5 := HJ6.out.o.x.c 5
        have x6 := HJ6.out.o.x.c 6
        have x7 := HJ6.out.o.x.c 7
        have x8 := HJ6.out.o.x.c 8
        have x9 := HJ6.out.o.x.c 9
        simp at x0 x1 x2 x3 x4 x5 x6 x7 x8 x9
        have y0 := HJ6.out.o.y.c 0
        simp at y0
        go_wp2
        go_ret
        exact ⟨rfl, HJ6.out.o.b⟩

end Slc
end Go.Proofs.YtkdhcloaeifbdaaGreat
namespace Go.Proofs.YtkdhcloaeifbdaaGreat.slicesWhole
open Go.ChangeShapes Go.WideShapes Go.ChangeAt Go.RowKit Ba Cv Sp Te Ag Tf Sl Slc
set_option linter.unusedVariables false


set_option maxRecDepth 100000 in
theorem lifted (os : Os) (started : os.Started) (H : Type) (enc : TypeId × Value → H) :
    ReturnsInHanded {} Tryz.checked os 5 .any (Rows.slicesWholeSpec.pre6 enc Tryz.prog Tryz.f5 Rows.slicesWholeRow.domain false) (Rows.slicesWholeSpec.post enc Tryz.prog Tryz.f5 false true false false) := by
  refine returnsInHanded_of_change_sized (C := Tryz.checked) Slc.own started (by kernel_rfl) Tryz.func5
    (ChangeSpec.witness6 (enc := enc) (C := Tryz.checked) false ⟨#[], #[.agg #[.int .i64 0, .int .i64 0, .int .i64 0, .int .i64 0, .int .i64 0, .int .i64 0, .int .i64 0, .int .i64 0, .slice none 0 0, .slice none 0 0], .agg #[.slice none 0 0], .int .u32 0], []⟩ 8 (by kernel_rfl) (by kernel_rfl) (by kernel_rfl) (by kernel_rfl)) ?_
  intro W base args ds gs before hval0 hW hcnd hsz0 _
  have hval : ∀ (j : Nat) t v, Tryz.f5.params[j]? = some t → args[j]? = some v → Value.okWide Tryz.prog W .any base t v := hval0
  have hW' := hW
  have hsz : (DataW.weightsEach Tryz.prog (Tryz.f5.params.toList ++ Rows.slicesWholeSpec.plain.varTypes Tryz.prog) (ds ++ gs)).all (· ≤ reachBytes) = true := hsz0
  obtain ⟨p, q, hA0, hV, rfl, hfz, hnd⟩ := hW
  have hA : DataW.TrodAll enc Tryz.prog W 0 (fun _ => true) true Tryz.f5.params.toList args.toList ds p := hA0
  rw [Tryz.params5] at hA hval hsz
  obtain ⟨v0, vs0, d0, ds0, p0, q0, hargs, rfl, rfl, h0, r0⟩ := trodAll_cons hA
  obtain ⟨v1, vs1, d1, ds1, p1, q1, rfl, rfl, rfl, h1, r1⟩ := trodAll_cons r0
  obtain ⟨v2, vs2, d2, ds2, p2, q2, rfl, rfl, rfl, h2, r2⟩ := trodAll_cons r1
  obtain ⟨rfl, rfl, rfl⟩ := trodAll_nil r2
  obtain rfl : args = #[v0, v1, v2] := by cases args; simp_all
  obtain ⟨rfl, rfl⟩ := trodVars_none hV
  have k0 := h0
  have lt0 : ∀ x ∈ p0, x.block < W.heap.size := by obtain ⟨m, hm⟩ := k0; exact DataW.trod_lt m _ _ _ hm
  obtain ⟨y0, rfl, g0⟩ := Slc.open_history (hval 0 31 v0 rfl rfl) h0 (fun k hk => of_decide_eq_true (List.all_eq_true.1 hsz _ (DataW.weights_mem_each (j := 0) rfl rfl k hk)))
  have k1 := h1
  have lt1 : ∀ x ∈ p1, x.block < W.heap.size := by obtain ⟨m, hm⟩ := k1; exact DataW.trod_lt m _ _ _ hm
  obtain ⟨A1, n1, c1, s1, rfl, g1⟩ := Slc.open_tariff (hval 1 34 v1 rfl rfl) h1 (fun k hk => of_decide_eq_true (List.all_eq_true.1 hsz _ (DataW.weights_mem_each (j := 1) rfl rfl k hk)))
  obtain ⟨a2, rfl, rfl, rfl, w2⟩ := open_int Tryz.underlying48 (hval 2 48 v2 rfl rfl) h2
  clear hA0 hval0 hsz hsz0
  refine (Slc.walk_SlicesWhole y0 g0 A1 n1 c1 s1 g1 a2 (Slc.u32_of w2)).mono fun e W' ⟨he, bel⟩ => ?_
  subst he
  exact ⟨_, rfl, _, _, _, [], _, [], hW', trodAll_mk1 (shut_bool Tryz.underlying4 _), (trodAll_cons_mk (Below.trod Slc.laidOut (by kernel_rfl) (of_decide_eq_true (by kernel_rfl)) k0 bel lt0) (trodAll_cons_mk (Below.trod Slc.laidOut (by kernel_rfl) (of_decide_eq_true (by kernel_rfl)) k1 bel lt1) (trodAll_cons_mk (shut_int Tryz.underlying48 w2) trodAll_mk0))), rfl, bel.frame _, fun h => by cases h⟩

theorem over : Rows.slicesWholeRow.holds Tryz.pinned (OpenSpec.ofChange Rows.slicesWholeSpec) :=
  OpenClaim.holds_of_wide 5 Tryz.f5 rfl rfl rfl rfl rfl rfl rfl ⟨rfl, rfl, rfl, rfl, rfl⟩ rfl rfl rfl rfl rfl (by kernel_rfl) Tryz.func5 (by kernel_rfl)
    (of_decide_eq_true (by kernel_rfl)) (by unfold Func.isWrapper; first | (rw [if_pos (by decide +kernel)]; kernel_rfl) | (rw [if_neg (by decide +kernel)]; exact ⟨rfl, rfl⟩))
    (fun os started H enc _ => lifted os started H enc)

theorem proved : Rows.SlicesWholeSaid := over
end Go.Proofs.YtkdhcloaeifbdaaGreat.slicesWhole
