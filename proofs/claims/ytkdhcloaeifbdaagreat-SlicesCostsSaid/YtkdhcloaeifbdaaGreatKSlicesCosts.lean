/-
  The statement SlicesCosts holds: for every input the call returns true, and each argument reads afterwards as it read before. Conditions: none beside those that the row itself bears.
-/
import Derived.Test.YtkdhcloaeifbdaaGreatKFacts12
import Derived.Test.YtkdhcloaeifbdaaGreatMPu
namespace Go.Proofs.YtkdhcloaeifbdaaGreat
open Go.RowKit Ba Cv Sp Te Ag Tf Sl Tm
namespace Slc
set_option linter.unusedVariables false

theorem put12 (A : Option Addr) (n c : Nat) (rs : List Trf.Rw) (r : Trf.Rw) (w : World) (hS : Trf.Vers w A n rs) (hn : n ≤ 1000) (hM : Trf.Mean w (· < w.heap.size) r) (hSm : Trf.Sm r) (hcap : n ≤ c) (hnil : A = none → n = 0 ∧ c = 0) :
    Calls Tryz.prog 22 #[Trf.tg A n c, Trf.vg r] w (Trf.PutTo w (rs.map Trf.Rw.v) r.v) := by
  by_cases h : Tf.rgt (rs.map Trf.Rw.v) = true ∧ Tf.ver r.v = true
  · cases h3 : Tf.has r.v.fr (rs.map Trf.Rw.v)
    · by_cases h4 : n = 100
      · exact Trf.put_bound A n c rs r w hS hn hM hSm h.1 h.2 h3 h4
      · exact Trf.put_ok A n c rs r w hS hn hM hSm hcap hnil h.1 h.2 h3 h4
    · exact Trf.put_there A n c rs r w hS hn hM hSm h.1 h.2 h3
  · exact Trf.put_arg A n c rs r w hS hn hM hSm h
theorem lst_put {vs : List Ve} {v : Ve} {d : Int} (h : Tf.cd vs v = 0) (hd : d < v.fr) : Tf.lst d (Tf.pt vs v) = Tf.lst d vs := by
  obtain ⟨h1, h2, h3, h4⟩ := Tf.cd_zero h
  rw [Tf.pt_ok h, Tf.lst_ins (Tf.rgt_rise h1).2, if_neg (fun e => by have := e.1; omega)]
  intro x hx e
  have : Tf.has v.fr vs = true := by unfold Tf.has; rw [List.any_eq_true]; exact ⟨x, hx, decide_eq_true e⟩
  rw [h3] at this; cases this
theorem OfIs.put {h : Hi} {vs : List Ve} {v : Ve} {ss : List Sc} (H : OfIs h vs 0 ss) (hc : Tf.cd vs v = 0) (hd : h.s.1 < v.fr) : OfIs h (Tf.pt vs v) 0 ss := by
  obtain ⟨hr, hcod, o, K, hO, hCut, hbad, hmap⟩ := H.ok
  have e := lst_put hc hd
  have e1 : Trf.cod h.s.1 (Tf.pt vs v) = Trf.cod h.s.1 vs := by unfold Trf.cod; rw [e]
  have e2 : Trf.tol h.s.1 (Tf.pt vs v) = Trf.tol h.s.1 vs := by unfold Trf.tol; rw [e]
  exact .some hr (e1.trans hcod) o K hO hCut (by rw [e2]; exact hbad.symm) (by rw [e2, if_pos hbad]; exact hmap)
/-- The boxes of the law. -/
structure P3 (w W : World) (h : Hr) (T : Option Addr) (n c : Nat) (r : Trf.Rw) : Prop where
  b : Below w.heap.size w W
  x : Bx W w.heap.size 31 (hc h)
  y : Bx W (w.heap.size + 1) 34 #[.slice T n c]
  v : Bx W (w.heap.size + 1 + 1) 58 (Trf.vc r)
theorem P3.next {w W W' : World} {h : Hr} {T : Option Addr} {n c : Nat} {r : Trf.Rw} (H : P3 w W h T n c r) (hb : Below W.heap.size W W') : P3 w W' h T n c r := ⟨H.b.trans (hb.mono H.b.size), H.x.keep hb, H.y.keep hb, H.v.keep hb⟩
theorem P3.start (w : World) (h : Hr) (T : Option Addr) (n c : Nat) (r : Trf.Rw) : P3 w (((w.alloc (.cells (hc h) 31)).alloc (.cells #[.slice T n c] 34)).alloc (.cells (Trf.vc r) 58)) h T n c r := by
  have h0 := O2.start w h T n c
  have h2 := Bx.new ((w.alloc (.cells (hc h) 31)).alloc (.cells #[.slice T n c] 34)) 58 (Trf.vc r)
  rw [World.size_alloc, World.size_alloc] at h2
  exact ⟨h0.b.alloc h0.b.size _, h0.x.alloc _, h0.y.alloc _, h2⟩
/-- What holds at the head of each round. -/
structure CJ3 (w W : World) (h : Hr) (T : Option Addr) (n c : Nat) (r : Trf.Rw) (g : Nat) (r7 : Trf.Rw) (A : Option Addr) (m : Nat) (rs : List Rw) : Prop where
  p : P3 w W h T n c r
  g : Bx W g 58 (Trf.vc r7)
  mv : Trf.Mean W (· < W.heap.size) r7
  l : Sls W A m rs
theorem CJ3.next {w W W' : World} {h : Hr} {T A : Option Addr} {n c g m : Nat} {r r7 : Trf.Rw} {rs : List Rw} (H : CJ3 w W h T n c r g r7 A m rs) (hb : Below W.heap.size W W') : CJ3 w W' h T n c r g r7 A m rs := ⟨H.p.next hb, H.g.keep hb, H.mv.below hb, H.l.below hb⟩
set_option maxRecDepth 100000 in
set_option maxHeartbeats 4000000 in
theorem walk_SlicesCosts {w : World} (h : Hr) (G : GivenH w h) (T : Option Addr) (nt ct : Nat) (vs : List Trf.Rw) (GT : Trf.GivenT w T nt ct vs) (z : Trf.Rw) (GV : Trf.GivenV w z) : Calls Tryz.prog 8 #[hg h, Trf.tg T nt ct, Trf.vg z] w (Yes w true) := by
  obtain ⟨W, hW⟩ : ∃ W, (((w.alloc (.cells (hc h) 31)).alloc (.cells #[.slice T nt ct] 34)).alloc (.cells (Trf.vc z) 58)) = W := ⟨_, rfl⟩
  have H0 := Lib.hid (show P3 w W h T nt ct z by rw [← hW]; exact P3.start w h T nt ct z)
  have HW := Lib.hid hW
  have HG := Lib.hid G
  have HGT := Lib.hid GT
  have HGV := Lib.hid GV
  have l1 := GV.l.a
  have l2 := GV.l.z
  have l3 := GV.l.p
  clear hW G GT GV
  go_enter Tryz.func8, Tryz.ntmps8
  go_upto_region 1 with fail
  rw [HW.out]
  clear HW
  go_wp2_with fail
  refine (awake12 _).mono ?_
  rintro e w1 ⟨rfl, hb1⟩
  have H1 := Lib.hid (H0.out.next hb1)
  clear hb1 H0
  have x0 := H1.out.x.c 0
  have x1 := H1.out.x.c 1
  have x2 := H1.out.x.c 2
  have x3 := H1.out.x.c 3
  have x4 := H1.out.x.c 4
  have x5 := H1.out.x.c 5
  have x6 := H1.out.x.c 6
  have x7 := H1.out.x.c 7
  have x8 := H1.out.x.c 8
  have x9 := H1.out.x.c 9
  simp at x0 x1 x2 x3 x4 x5 x6 x7 x8 x9
  have y0 := H1.out.y.c 0
  simp at y0
  have C := Lib.hid (few12 h T nt ct vs w1 (gh_below HG.out H1.out.b) (gt_below HGT.out H1.out.b))
  go_wp2_with fail
  refine C.out.mono ?_
  rintro e w2 ⟨b, rfl, hb2, hs⟩
  have H2 := Lib.hid (H1.out.next hb2)
  have HS0 := Lib.hid hs
  clear hb2 hs C x0 x1 x2 x3 x4 x5 x6 x7 x8 x9 y0 H1
  cases b
  · go_wp2
    go_ret
    exact ⟨rfl, H2.out.b⟩
  have HS := Lib.hid (HS0.out rfl)
  clear HS0
  have v0 := H2.out.v.c 0
  have v1 := H2.out.v.c 1
  have v2 := H2.out.v.c 2
  have v3 := H2.out.v.c 3
  have v4 := H2.out.v.c 4
  have v5 := H2.out.v.c 5
  have v6 := H2.out.v.c 6
  have v7 := H2.out.v.c 7
  have v8 := H2.out.v.c 8
  simp at v0 v1 v2 v3 v4 v5 v6 v7 v8
  by_cases q1 : z.la ≤ 200
  case neg =>
    have u1 : decide ((200 : Int) < (z.la : Int)) = true := decide_eq_true (by omega)
    go_wp2
    go_ret
    exact ⟨rfl, H2.out.b⟩
  have u1 : decide ((200 : Int) < (z.la : Int)) = false := decide_eq_false (by omega)
  by_cases q2 : z.lz ≤ 200
  case neg =>
    have u2 : decide ((200 : Int) < (z.lz : Int)) = true := decide_eq_true (by omega)
    go_wp2
    go_ret
    exact ⟨rfl, H2.out.b⟩
  have u2 : decide ((200 : Int) < (z.lz : Int)) = false := decide_eq_false (by omega)
  by_cases q3 : z.lp ≤ 200
  case neg =>
    have u3 : decide ((200 : Int) < (z.lp : Int)) = true := decide_eq_true (by omega)
    go_wp2
    go_ret
    exact ⟨rfl, H2.out.b⟩
  have u3 : decide ((200 : Int) < (z.lp : Int)) = false := decide_eq_false (by omega)
  have HSM := Lib.hid (show Trf.Sm z from ⟨Nat.le_trans q1 (by omega), Nat.le_trans q2 (by omega), Nat.le_trans q3 (by omega)⟩)
  clear q1 q2 q3
  have x0 := H2.out.x.c 0
  have x1 := H2.out.x.c 1
  have x2 := H2.out.x.c 2
  have x3 := H2.out.x.c 3
  have x4 := H2.out.x.c 4
  have x5 := H2.out.x.c 5
  have x6 := H2.out.x.c 6
  have x7 := H2.out.x.c 7
  have x8 := H2.out.x.c 8
  have x9 := H2.out.x.c 9
  simp at x0 x1 x2 x3 x4 x5 x6 x7 x8 x9
  have y0 := H2.out.y.c 0
  simp at y0
  have C := Lib.hid (of_ h T nt ct vs w2 (HG.out.M.below H2.out.b) (HS.out.hs HG.out) (Nat.le_trans HS.out.m (by omega)) (HS.out.vers (gt_below HGT.out H2.out.b)) (Nat.le_trans HS.out.t (by omega)))
  go_wp2_with fail
  refine C.out.mono ?_
  rintro e w3 ⟨A2, n2, c2, rs2, cd2, rfl, hs2, hn2, hi2, hb3⟩
  have H3 := Lib.hid (H2.out.next hb3)
  have HL2 := Lib.hid hs2
  have HIS2 := Lib.hid hi2
  clear hb3 hs2 hi2 C x0 x1 x2 x3 x4 x5 x6 x7 x8 x9 y0 H2 v0 v1 v2 v3 v4 v5 v6 v7 v8 u1 u2 u3 l1 l2 l3
  by_cases hc0 : cd2 = 0
  case neg =>
    have t1 : decide (cd2 = 0) = false := decide_eq_false hc0
    go_wp2
    go_ret
    exact ⟨rfl, H3.out.b⟩
  subst hc0
  obtain ⟨hr, hcod, o, K, hO, hCut, hbad, hmap⟩ := HIS2.out.ok
  obtain ⟨qq, hq⟩ : ∃ qq, qf (Trf.tol h.v.s.1 (vs.map Trf.Rw.v)) = qq := ⟨_, rfl⟩
  rw [hq] at hmap hbad
  have HQ := Lib.hid hq
  have HBAD := Lib.hid (bad_zero hbad)
  have HMAP := Lib.hid hmap
  have HKL := Lib.hid (show K.length = n2 by
    have h1 := HL2.out.r.1
    have h2 := congrArg List.length hmap
    rw [List.length_map, List.length_map] at h2
    omega)
  have CA := Lib.hid (Trf.at_ T nt ct vs h.s.1 w3 (HS.out.vers (gt_below HGT.out H3.out.b)) (Nat.le_trans HS.out.t (by omega)))
  have HCOD := Lib.hid (show Trf.cod h.s.1 (vs.map Trf.Rw.v) = 0 from hcod)
  have x0 := H3.out.x.c 0
  have x1 := H3.out.x.c 1
  have x2 := H3.out.x.c 2
  have x3 := H3.out.x.c 3
  have x4 := H3.out.x.c 4
  have x5 := H3.out.x.c 5
  have x6 := H3.out.x.c 6
  have x7 := H3.out.x.c 7
  have x8 := H3.out.x.c 8
  have x9 := H3.out.x.c 9
  simp at x0 x1 x2 x3 x4 x5 x6 x7 x8 x9
  have y0 := H3.out.y.c 0
  simp at y0
  clear hr hcod hO hCut hbad hmap hq
  go_wp2_with fail
  refine CA.out.mono ?_
  rintro e w4 ⟨r7, rfl, hrv, hM, hS, hb4⟩
  rw [HCOD.out]
  obtain ⟨W5, hW5⟩ : ∃ W5, w4.alloc (.cells (Trf.vc r7) 58) = W5 := ⟨_, rfl⟩
  have hal : Below w4.heap.size w4 W5 := hW5 ▸ alloc_ _ _
  obtain ⟨g7, hg7⟩ : ∃ g7, w4.heap.size = g7 := ⟨_, rfl⟩
  have HJ0 := Lib.hid (show CJ3 w W5 h T nt ct z g7 r7 A2 n2 rs2 from ⟨H3.out.next (hb4.trans (hal.mono hb4.size)), by rw [← hg7, ← hW5]; exact Bx.new _ _ _, hM.below hal, HL2.out.below (hb4.trans (hal.mono hb4.size))⟩)
  have HQ7 := Lib.hid (show ∀ x cs, Qm.yr (Qm.qd r7.v x) 0 cs = qq x cs from fun x cs => by rw [← HQ.out, hrv]; rfl)
  have HS7 := Lib.hid hS
  have HW5 := Lib.hid hW5
  clear hrv hM hS hb4 hal hW5 CA x0 x1 x2 x3 x4 x5 x6 x7 x8 x9 y0 H3 HL2
  go_upto_region 9 with fail
  rw [HW5.out]
  clear HW5 hg7
  go_wp2
  go_loopw [13] (fun vi w' => ∃ (i : Nat) (W : World), i ≤ n2 ∧ vi = .int .i64 (i : Int) ∧ W = w' ∧ Hid (CJ3 w W h T nt ct z g7 r7 A2 n2 rs2)) (fun vi _ => n2 - (intOf vi).toNat)
  case atStart => exact ⟨0, _, Nat.zero_le _, rfl, rfl, HJ0⟩
  case round =>
    obtain ⟨i, W, hi, rfl, rfl, HJ⟩ := hrel
    clear HJ0
    by_cases hlt : i < n2
    · obtain ⟨ad, r, rfl, hb, hr, N⟩ := (HJ.out.l.r).get hlt
      have hlt2 : (i : Int) < (n2 : Int) := by omega
      have hkl := HKL.out
      obtain ⟨x, hx⟩ : ∃ x, K[i]? = some x := ⟨K[i]'(by omega), List.getElem?_eq_getElem (by omega)⟩
      have hrv : r.v = prc qq x := by
        have h1 : (rs2.map Rw.v)[i]? = some r.v := by rw [List.getElem?_map, hr]; rfl
        rw [HMAP.out, List.getElem?_map, hx] at h1
        simpa using h1.symm
      have GR := Lib.hid (HJ.out.l.g r (List.mem_of_getElem? hr))
      have HN := Lib.hid N
      have HB := Lib.hid (show (ad.add (i * 9)).block < W.heap.size by rw [add_block]; exact hb)
      have CY := fun p : Ext W => Lib.hid (Qo.year (qv r7) r.v.h.r r.A r.n r.c r.v.h.cs p.W (vmean (HJ.out.mv.below p.b)) (vlow HS7.out) (qcvs ((GR.out.below p.b).c)) (Nat.le_trans GR.out.n (by unfold maxLen; omega)))
      rw [HQ7.out] at CY
      obtain ⟨a, hqa⟩ : ∃ a, qq r.v.h.r r.v.h.cs = a := ⟨_, rfl⟩
      rw [hqa] at CY
      obtain ⟨cost, cd⟩ := a
      have HXM := Lib.hid (List.mem_of_getElem? hx)
      have hon : (r.v.h.on = false) ∨ (r.v.h.on = true ∧ cd = 0 ∧ r.v.y = cost) := by
        have e : r.v.h = x.2 := by rw [hrv]; rfl
        cases h1 : r.v.h.on
        · exact .inl rfl
        · have h2 : x.2.on = true := by rw [← e]; exact h1
          have h3 : qq x.2.r x.2.cs = (cost, cd) := by rw [← e]; exact hqa
          refine .inr ⟨rfl, ?_, ?_⟩
          · have := HBAD.out x HXM.out h2
            rw [h3] at this; exact this
          · rw [hrv, prc_on h2, h3]
      have N2 : ∀ p : Ext W, Nin p.W (ad.add (i * 9)) r := fun p => N.keep (fun a ha => p.b.cell (by rw [ha]; exact HB.out))
      have n2q : ∀ p : Ext W, p.W.cell? ⟨(ad.add (i * 9)).block, (ad.add (i * 9)).off + 2, none⟩ = _ := fun p => (N2 p).c2
      have n3 : ∀ p : Ext W, p.W.cell? ⟨(ad.add (i * 9)).block, (ad.add (i * 9)).off + 3, none⟩ = _ := fun p => (N2 p).c3
      have n4 : ∀ p : Ext W, p.W.cell? ⟨(ad.add (i * 9)).block, (ad.add (i * 9)).off + 4, none⟩ = _ := fun p => (N2 p).c4
      have n5 : ∀ p : Ext W, p.W.cell? ⟨(ad.add (i * 9)).block, (ad.add (i * 9)).off + 5, none⟩ = _ := fun p => (N2 p).c5
      have n6 : ∀ p : Ext W, p.W.cell? ⟨(ad.add (i * 9)).block, (ad.add (i * 9)).off + 6, none⟩ = _ := fun p => (N2 p).c6
      have n7 : ∀ p : Ext W, p.W.cell? ⟨(ad.add (i * 9)).block, (ad.add (i * 9)).off + 7, none⟩ = _ := fun p => (N2 p).c7
      have n8 : ∀ p : Ext W, p.W.cell? ⟨(ad.add (i * 9)).block, (ad.add (i * 9)).off + 8, none⟩ = _ := fun p => (N2 p).c8
      have v0 : ∀ p : Ext W, p.W.cell? ⟨g7, 0, none⟩ = some (.int .i64 r7.v.fr) := fun p => HJ.out.g.ext p 0
      have v1 : ∀ p : Ext W, p.W.cell? ⟨g7, 1, none⟩ = some (.int .i64 r7.v.b0) := fun p => HJ.out.g.ext p 1
      have v2 : ∀ p : Ext W, p.W.cell? ⟨g7, 2, none⟩ = some (.int .i64 r7.v.b1) := fun p => HJ.out.g.ext p 2
      have v3 : ∀ p : Ext W, p.W.cell? ⟨g7, 3, none⟩ = some (.int .i64 r7.v.b2) := fun p => HJ.out.g.ext p 3
      have v4 : ∀ p : Ext W, p.W.cell? ⟨g7, 4, none⟩ = some (.int .i64 r7.v.b3) := fun p => HJ.out.g.ext p 4
      have v5 : ∀ p : Ext W, p.W.cell? ⟨g7, 5, none⟩ = some (.slice r7.A r7.la r7.ca) := fun p => HJ.out.g.ext p 5
      have v6 : ∀ p : Ext W, p.W.cell? ⟨g7, 6, none⟩ = some (.slice r7.Z r7.lz r7.cz) := fun p => HJ.out.g.ext p 6
      have v7 : ∀ p : Ext W, p.W.cell? ⟨g7, 7, none⟩ = some (.slice r7.P r7.lp r7.cp) := fun p => HJ.out.g.ext p 7
      have v8 : ∀ p : Ext W, p.W.cell? ⟨g7, 8, none⟩ = some (.int .i64 r7.v.mn) := fun p => HJ.out.g.ext p 8
      clear hr hx hrv hqa N N2 hkl hb
      go_upto_region 14 with fail
      have ne : Nonempty (Ext W) := ⟨⟨W, Below.refl _ _⟩⟩
      refine quietE (by kernel_rfl) (by kernel_rfl) ?_
      repeat (first | go_big_quiet_skip | quiet_step (first
        | (go_at_call 21; with_reducible exact ext_of (CY _).out)
        | fail))
      refine wpQuiet_nil ?_
      rintro _ ⟨p, rfl⟩
      have HJ3 := Lib.hid (HJ.out.next p.b)
      have N3 := HN.out.keep (w' := p.W) (fun a ha => p.b.cell (by rw [ha]; exact HB.out))
      generalize p.W = w3' at HJ3 N3 ⊢
      clear CY ne n2q n3 n4 n5 n6 n7 n8 v0 v1 v2 v3 v4 v5 v6 v7 v8 HJ
      have d2 := N3.c2
      have d8 := N3.c8
      clear N3
      rcases hon with hon | ⟨hon, rfl, hy⟩
      · rw [hon] at d2
        clear hon
        go_wp2
        go_roundw
        case rel => exact ⟨i + 1, _, by omega, by go_num, rfl, HJ3⟩
        case measure => simp [intOf]; omega
      · rw [hon] at d2
        rw [hy] at d8
        have tc : decide (cost = cost) = true := decide_eq_true rfl
        clear hon hy
        go_wp2
        go_roundw
        case rel => exact ⟨i + 1, _, by omega, by go_num, rfl, HJ3⟩
        case measure => simp [intOf]; omega
    · obtain rfl : i = n2 := by omega
      have CP := Lib.hid (put12 T nt ct vs z W (HS.out.vers (gt_below HGT.out HJ.out.p.b)) (Nat.le_trans HS.out.t (by omega)) (HGV.out.m.below HJ.out.p.b) HSM.out HGT.out.cap HGT.out.nil)
      have v0 := HJ.out.p.v.c 0
      have v1 := HJ.out.p.v.c 1
      have v2 := HJ.out.p.v.c 2
      have v3 := HJ.out.p.v.c 3
      have v4 := HJ.out.p.v.c 4
      have v5 := HJ.out.p.v.c 5
      have v6 := HJ.out.p.v.c 6
      have v7 := HJ.out.p.v.c 7
      have v8 := HJ.out.p.v.c 8
      simp at v0 v1 v2 v3 v4 v5 v6 v7 v8
      have y0 := HJ.out.p.y.c 0
      simp at y0
      obtain ⟨pc, hpc⟩ : ∃ pc, Tf.cd (vs.map Trf.Rw.v) z.v = pc := ⟨_, rfl⟩
      have HPC := Lib.hid hpc
      go_wp2_with fail
      refine CP.out.mono ?_
      rintro e w5 ⟨T5, n5, c5, rs5, rfl, hV5, hm5, hf5, hz5, hb5⟩
      rw [HPC.out]
      obtain ⟨W6, hW6⟩ : ∃ W6, w5.alloc (.cells #[.slice T5 n5 c5] 34) = W6 := ⟨_, rfl⟩
      have hal : Below w5.heap.size w5 W6 := hW6 ▸ alloc_ _ _
      have HJ6 := Lib.hid (HJ.out.next (hb5.trans (hal.mono hb5.size)))
      obtain ⟨g6, hg6⟩ : ∃ g6, w5.heap.size = g6 := ⟨_, rfl⟩
      have HB6 := Lib.hid (show Bx W6 g6 34 #[.slice T5 n5 c5] by rw [← hg6, ← hW6]; exact Bx.new _ _ _)
      have HV6 := Lib.hid (hV5.below hal)
      have HM5 := Lib.hid hm5
      have HW6 := Lib.hid hW6
      clear hV5 hm5 hf5 hz5 hb5 hal hW6 CP hpc v0 v1 v2 v3 v4 v5 v6 v7 v8 y0 HJ
      go_upto_region 18 with fail
      rw [HW6.out]
      clear HW6 hg6
      have v0 := HJ6.out.p.v.c 0
      have v1 := HJ6.out.p.v.c 1
      have v2 := HJ6.out.p.v.c 2
      have v3 := HJ6.out.p.v.c 3
      have v4 := HJ6.out.p.v.c 4
      have v5 := HJ6.out.p.v.c 5
      have v6 := HJ6.out.p.v.c 6
      have v7 := HJ6.out.p.v.c 7
      have v8 := HJ6.out.p.v.c 8
      simp at v0 v1 v2 v3 v4 v5 v6 v7 v8
      have x0 := HJ6.out.p.x.c 0
      have x1 := HJ6.out.p.x.c 1
      have x2 := HJ6.out.p.x.c 2
      have x3 := HJ6.out.p.x.c 3
      have x4 := HJ6.out.p.x.c 4
      have x5 := HJ6.out.p.x.c 5
      have x6 := HJ6.out.p.x.c 6
      have x7 := HJ6.out.p.x.c 7
      have x8 := HJ6.out.p.x.c 8
      have x9 := HJ6.out.p.x.c 9
      simp at x0 x1 x2 x3 x4 x5 x6 x7 x8 x9
      have y0 := HJ6.out.p.y.c 0
      simp at y0
      by_cases hp0 : pc = 0
      case neg =>
        have t1 : decide (pc = 0) = false := decide_eq_false hp0
        go_wp2
        go_ret
        exact ⟨rfl, HJ6.out.p.b⟩
      subst hp0
      by_cases hfr : h.s.1 < z.v.fr
      case neg =>
        have t1 : decide (z.v.fr ≤ h.s.1) = true := decide_eq_true (by omega)
        clear hfr
        go_wp2
        go_ret
        exact ⟨rfl, HJ6.out.p.b⟩
      have t1 : decide (z.v.fr ≤ h.s.1) = false := decide_eq_false (by omega)
      have HPT := Lib.hid (show OfIs h.v (rs5.map Trf.Rw.v) 0 (rs2.map Rw.v) by rw [HM5.out]; exact HIS2.out.put HPC.out hfr)
      have hn5 : n5 ≤ 1000 := by
        have h1 := HV6.out.len
        have h2 := (Tf.rgt_rise (show Tf.rgt (rs5.map Trf.Rw.v) = true by rw [HM5.out, Tf.pt_ok HPC.out]; exact Tf.rgt_put HPC.out)).1
        omega
      have C := Lib.hid (of_ h T5 n5 c5 rs5 W6 (HG.out.M.below HJ6.out.p.b) (HS.out.hs HG.out) (Nat.le_trans HS.out.m (by omega)) HV6.out hn5)
      have b0 := HB6.out.c 0
      simp at b0
      clear hfr
      go_wp2_with fail
      refine C.out.mono ?_
      rintro e w7 ⟨A7, n7, c7, rs7, cd7, rfl, hs7, hn7, hi7, hb7⟩
      obtain ⟨rfl, he⟩ := hi7.one HPT.out
      have HJ7 := Lib.hid (HJ6.out.next hb7)
      have CL := Lib.hid (all_ A2 A7 i n7 c2 c7 rs2 rs7 w7 HJ7.out.l hs7 (by omega) (by omega))
      rw [decide_eq_true he.symm] at CL
      clear hs7 hi7 he hb7 C b0 x0 x1 x2 x3 x4 x5 x6 x7 x8 x9 y0 v0 v1 v2 v3 v4 v5 v6 v7 v8 t1 hn5
      go_wp2_with fail
      refine CL.out.mono ?_
      rintro e w8 ⟨rfl, hb8⟩
      have HJ8 := Lib.hid (HJ7.out.next hb8)
      clear hb8 CL
      go_wp2
      go_ret
      exact ⟨rfl, HJ8.out.p.b⟩

end Slc
end Go.Proofs.YtkdhcloaeifbdaaGreat
namespace Go.Proofs.YtkdhcloaeifbdaaGreat.slicesCosts
open Go.ChangeShapes Go.WideShapes Go.ChangeAt Go.RowKit Ba Cv Sp Te Ag Tf Sl Slc
set_option linter.unusedVariables false


set_option maxRecDepth 100000 in
theorem lifted (os : Os) (started : os.Started) (H : Type) (enc : TypeId × Value → H) :
    ReturnsInHanded {} Tryz.checked os 8 .any (Rows.slicesCostsSpec.pre6 enc Tryz.prog Tryz.f8 Rows.slicesCostsRow.domain false) (Rows.slicesCostsSpec.post enc Tryz.prog Tryz.f8 false true false false) := by
  refine returnsInHanded_of_change_sized (C := Tryz.checked) Slc.own started (by kernel_rfl) Tryz.func8
    (ChangeSpec.witness6 (enc := enc) (C := Tryz.checked) false ⟨#[], #[.agg #[.int .i64 0, .int .i64 0, .int .i64 0, .int .i64 0, .int .i64 0, .int .i64 0, .int .i64 0, .int .i64 0, .slice none 0 0, .slice none 0 0], .agg #[.slice none 0 0], .agg #[.int .i64 0, .int .i64 0, .int .i64 0, .int .i64 0, .int .i64 0, .slice none 0 0, .slice none 0 0, .slice none 0 0, .int .i64 0]], []⟩ 8 (by kernel_rfl) (by kernel_rfl) (by kernel_rfl) (by kernel_rfl)) ?_
  intro W base args ds gs before hval0 hW hcnd hsz0 _
  have hval : ∀ (j : Nat) t v, Tryz.f8.params[j]? = some t → args[j]? = some v → Value.okWide Tryz.prog W .any base t v := hval0
  have hW' := hW
  have hsz : (DataW.weightsEach Tryz.prog (Tryz.f8.params.toList ++ Rows.slicesCostsSpec.plain.varTypes Tryz.prog) (ds ++ gs)).all (· ≤ reachBytes) = true := hsz0
  obtain ⟨p, q, hA0, hV, rfl, hfz, hnd⟩ := hW
  have hA : DataW.TrodAll enc Tryz.prog W 0 (fun _ => true) true Tryz.f8.params.toList args.toList ds p := hA0
  rw [Tryz.params8] at hA hval hsz
  obtain ⟨v0, vs0, d0, ds0, p0, q0, hargs, rfl, rfl, h0, r0⟩ := trodAll_cons hA
  obtain ⟨v1, vs1, d1, ds1, p1, q1, rfl, rfl, rfl, h1, r1⟩ := trodAll_cons r0
  obtain ⟨v2, vs2, d2, ds2, p2, q2, rfl, rfl, rfl, h2, r2⟩ := trodAll_cons r1
  obtain ⟨rfl, rfl, rfl⟩ := trodAll_nil r2
  obtain rfl : args = #[v0, v1, v2] := by cases args; simp_all
  obtain ⟨rfl, rfl⟩ := trodVars_none hV
  have k0 := h0
  have lt0 : ∀ x ∈ p0, x.block < W.heap.size := by obtain ⟨m, hm⟩ := k0; exact DataW.trod_lt m _ _ _ hm
  obtain ⟨y0, rfl, g0⟩ := Slc.open_history (hval 0 31 v0 rfl rfl) h0 (fun k hk => of_decide_eq_true (List.all_eq_true.1 hsz _ (DataW.weights_mem_each (j := 0) rfl rfl k hk)))
  have k1 := h1
  have lt1 : ∀ x ∈ p1, x.block < W.heap.size := by obtain ⟨m, hm⟩ := k1; exact DataW.trod_lt m _ _ _ hm
  obtain ⟨A1, n1, c1, s1, rfl, g1⟩ := Slc.open_tariff (hval 1 34 v1 rfl rfl) h1 (fun k hk => of_decide_eq_true (List.all_eq_true.1 hsz _ (DataW.weights_mem_each (j := 1) rfl rfl k hk)))
  have k2 := h2
  have lt2 : ∀ x ∈ p2, x.block < W.heap.size := by obtain ⟨m, hm⟩ := k2; exact DataW.trod_lt m _ _ _ hm
  obtain ⟨z2, rfl, g2⟩ := Slc.open_version (hval 2 58 v2 rfl rfl) h2 (fun k hk => of_decide_eq_true (List.all_eq_true.1 hsz _ (DataW.weights_mem_each (j := 2) rfl rfl k hk)))
  clear hA0 hval0 hsz hsz0
  refine (Slc.walk_SlicesCosts y0 g0 A1 n1 c1 s1 g1 z2 g2).mono fun e W' ⟨he, bel⟩ => ?_
  subst he
  exact ⟨_, rfl, _, _, _, [], _, [], hW', trodAll_mk1 (shut_bool Tryz.underlying4 _), (trodAll_cons_mk (Below.trod Slc.laidOut (by kernel_rfl) (of_decide_eq_true (by kernel_rfl)) k0 bel lt0) (trodAll_cons_mk (Below.trod Slc.laidOut (by kernel_rfl) (of_decide_eq_true (by kernel_rfl)) k1 bel lt1) (trodAll_cons_mk (Below.trod Slc.laidOut (by kernel_rfl) (of_decide_eq_true (by kernel_rfl)) k2 bel lt2) trodAll_mk0))), rfl, bel.frame _, fun h => by cases h⟩

theorem over : Rows.slicesCostsRow.holds Tryz.pinned (OpenSpec.ofChange Rows.slicesCostsSpec) :=
  OpenClaim.holds_of_wide 8 Tryz.f8 rfl rfl rfl rfl rfl rfl rfl ⟨rfl, rfl, rfl, rfl, rfl⟩ rfl rfl rfl rfl rfl (by kernel_rfl) Tryz.func8 (by kernel_rfl)
    (of_decide_eq_true (by kernel_rfl)) (by unfold Func.isWrapper; first | (rw [if_pos (by decide +kernel)]; kernel_rfl) | (rw [if_neg (by decide +kernel)]; exact ⟨rfl, rfl⟩))
    (fun os started H enc _ => lifted os started H enc)

theorem proved : Rows.SlicesCostsSaid := over
end Go.Proofs.YtkdhcloaeifbdaaGreat.slicesCosts
