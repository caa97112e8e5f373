/-
  The law's own alive: it answers true. Conditions: the version's lists read as lists, and are short.
-/
import Derived.Test.YthjlhjbblnoldaaPlain
namespace Go.Proofs.Ythjlhjbblnoldaa
open Go.RowKit Ba Tf
namespace Trf
set_option linter.unusedVariables false

theorem add_spot (a : Addr) (j : Nat) (hj : 0 < j) : (a.add j).spot = none := by
  unfold Addr.add
  rw [if_neg (by omega)]
theorem Nin.spot {w : World} {a : Addr} {r : Rw} {g : Nat} {A : Option Addr} {n c : Nat} (h : Nin w a r) (hx : Bx w g 29 #[.slice A n c]) : a.block ≠ g := box_apart (p := ⟨a.block, a.off + 1, none⟩) hx h.c1 rfl
/-- A block's cells are those that its object holds, whatever the spot. -/
theorem block_apart {W : World} {g : Nat} {A : Option Addr} {n c : Nat} (hx : Bx W g 29 #[.slice A n c]) {p : Addr} {z : Int} (h : W.cell? p = some (.int .i64 z)) : p.block ≠ g := by
  obtain ⟨b, o, s⟩ := p
  rintro rfl
  unfold Bx at hx
  unfold World.cell? at h
  simp only [hx] at h
  split at h
  · cases h
  · match o, h with
    | 0, h => simp at h
    | o + 1, h => simp at h
/-- The tariff in its box. -/
structure AL (w W : World) (g : Nat) (A : Option Addr) (n c : Nat) (rs : List Rw) : Prop where
  b : Below w.heap.size w W
  x : Bx W g 29 #[.slice A n c]
  e : Vers W A n rs
  cp : n ≤ c
  nl : A = none → n = 0 ∧ c = 0
  lo : w.heap.size ≤ g
section
variable {w W W' : World} {g : Nat} {A A' : Option Addr} {n c n' c' : Nat} {rs rs' : List Rw}
theorem AL.next (h : AL w W g A n c rs) (hb : Below W.heap.size W W') : AL w W' g A n c rs := ⟨h.b.trans (hb.mono h.b.size), h.x.keep hb, h.e.below hb, h.cp, h.nl, h.lo⟩
end
theorem vers_set {W : World} {g : Nat} {A A' : Option Addr} {n c n' : Nat} {rs : List Rw} (hx : Bx W g 29 #[.slice A n c]) (h : Vers W A' n' rs) (u : Value) : Vers (W.setCell ⟨g, 0, none⟩ u) A' n' rs := by
  have far : ∀ p : Addr, p.block ≠ g → (W.setCell ⟨g, 0, none⟩ u).cell? p = W.cell? p := fun p hp => World.cell?_setCell_other _ _ _ _ (fun e => hp (by rw [← e]))
  have hs : (W.setCell ⟨g, 0, none⟩ u).heap.size = W.heap.size := by simp
  refine ⟨⟨h.r.1, fun hn => ?_⟩, fun r hr => ?_, h.s⟩
  · obtain ⟨ad, e, hb, hc⟩ := h.r.2 hn
    refine ⟨ad, e, by rw [hs]; exact hb, fun j r hr => ?_⟩
    have q := hc j r hr
    exact q.keep fun p hp => far p (by rw [hp]; exact q.spot hx)
  · have m := h.m r hr
    have ints : ∀ {L : Option Addr} {k : Nat} {xs : List Int}, Ins W (· < W.heap.size) L k xs → Ins (W.setCell ⟨g, 0, none⟩ u) (· < (W.setCell ⟨g, 0, none⟩ u).heap.size) L k xs := by
      intro L k xs hi
      refine ⟨hi.1, fun hk => ?_⟩
      obtain ⟨ad, e, hb, hc⟩ := hi.2 hk
      have hg : ad.block ≠ g := by
        have h0 : 0 < xs.length := by rw [hi.1]; exact hk
        have q := hc 0 _ (List.getElem?_eq_getElem h0)
        have := block_apart hx q
        rwa [add_block] at this
      exact ⟨ad, e, by rw [hs]; exact hb, fun j x hx => (far _ (by rw [add_block]; exact hg)).trans (hc j x hx)⟩
    refine ⟨⟨m.a.1, fun hk => ?_⟩, ints m.z, ints m.p⟩
    obtain ⟨ad, e, hb, hc⟩ := m.a.2 hk
    have hg : ad.block ≠ g := by
      have h0 : 0 < r.v.ag.length := by rw [m.a.1]; exact hk
      have q := (hc 0 _ (List.getElem?_eq_getElem h0)).2
      have := block_apart hx q
      rwa [add_block] at this
    exact ⟨ad, e, by rw [hs]; exact hb, fun j x hx => ⟨(far _ (by rw [add_block]; exact hg)).trans (hc j x hx).1, (far _ (by rw [add_block]; exact hg)).trans (hc j x hx).2⟩⟩
theorem al_set {w W W' : World} {g : Nat} {A A' : Option Addr} {n c n' c' : Nat} {rs rs' : List Rw} (h : AL w W g A n c rs) (hb : Below W.heap.size W W') (hV : Vers W' A' n' rs') (hc : n' ≤ c') (hz : A' = none → n' = 0 ∧ c' = 0) : AL w (W'.setCell ⟨g, 0, none⟩ (.slice A' n' c')) g A' n' c' rs' :=
  ⟨(h.b.trans (hb.mono h.b.size)).setCell (p := ⟨g, 0, none⟩) h.lo _, (h.x.keep hb).set 0 _, vers_set (h.x.keep hb) hV _, hc, hz, h.lo⟩
def vs1 : List Ve := [plV 20]
def vs2 : List Ve := [plV 10, plV 20]
theorem k0 : cd [] (plV 20) = 0 := by decide +kernel
theorem k1 : cd vs1 (plV 10) = 0 := by decide +kernel
theorem k2 : cd vs2 (plV 20) = 8 := by decide +kernel
theorem k3 : cd vs2 (plV 0) = 1 := by decide +kernel
theorem p0 : pt [] (plV 20) = vs1 := pt_ok k0
theorem p1 : pt vs1 (plV 10) = vs2 := by rw [pt_ok k1]; rfl
theorem p2 : pt vs2 (plV 20) = [] := pt_no (by rw [k2]; omega)
theorem p3 : pt vs2 (plV 0) = [] := pt_no (by rw [k3]; omega)
theorem a1 : tol 19 vs2 = plV 10 ∧ cod 19 vs2 = 0 := tol_some rfl
theorem a2 : tol 20 vs2 = plV 20 ∧ cod 20 vs2 = 0 := tol_some rfl
theorem a3 : tol 9 vs2 = zeroV ∧ cod 9 vs2 = 7 := tol_none rfl
theorem g1 : rgt vs2 = true := by decide +kernel
theorem g2 : ver (plV 1) = true := by decide +kernel
theorem g3 : ver ⟨1, 0, 0, 0, 0, [], [], [], 0⟩ = false := by decide +kernel
def oneR : Rw := ⟨⟨1, 0, 0, 0, 0, [], [], [], 0⟩, none, 0, 0, none, 0, 0, none, 0, 0⟩

theorem undrew {w w' : World} (h : Below w.drew.heap.size w.drew w') : Below w.heap.size w w' := ⟨h.os, h.tape, h.output, h.size, h.block⟩
set_option maxRecDepth 100000 in
set_option maxHeartbeats 4000000 in
theorem alive_ (w : World) : Calls Try.prog 9 #[] w (Yes w true) := by
  have CT := fun (f : Int) (w' : World) => Lib.hid (plain_ f w')
  go_enter Try.func9, Try.ntmps9
  go_wp2_with fail
  refine (CT 20 _).out.mono ?_
  rintro e w1 ⟨r1, rfl, e1, m1, s1, hb1⟩
  have C1 := Lib.hid (put_is none 0 0 [] r1 w1 Vers.nil (by omega) m1 s1 (Nat.le_refl _) (fun _ => ⟨rfl, rfl⟩) [] _ rfl e1 0 k0 _ p0)
  have HB1 := Lib.hid hb1
  clear m1 s1 hb1 e1
  go_wp2_with fail
  refine C1.out.mono ?_
  rintro e w2 ⟨A2, n2, c2, rs2, rfl, hV2, hE2, hn2, hc2, hz2, hb2⟩
  obtain rfl : n2 = 1 := hn2
  have HE2 := Lib.hid hE2
  have HA2 := Lib.hid (show AL w (w2.alloc (.cells #[.slice A2 1 c2] 29)) w2.heap.size A2 1 c2 rs2 from ⟨(HB1.out.trans (hb2.mono HB1.out.size)).alloc (HB1.out.trans (hb2.mono HB1.out.size)).size _, Bx.new _ _ _, hV2.below (alloc_ _ _), hc2, hz2, (HB1.out.trans (hb2.mono HB1.out.size)).size⟩)
  clear hE2 hV2 hz2 hb2 C1 HB1 hc2
  go_wp2
  obtain ⟨W, hW⟩ : ∃ W, w2.alloc (.cells #[.slice A2 1 c2] 29) = W := ⟨_, rfl⟩
  obtain ⟨b, hb⟩ : ∃ b, w2.heap.size = b := ⟨_, rfl⟩
  rw [hW, hb] at HA2 ⊢
  have HW := Lib.hid hW
  clear hW hb
  have x0 := HA2.out.x.c 0
  have xl := HA2.out.x.lt
  simp at x0
  go_cut [3] (fun s3 wx => ∃ (Wz : World) (A4 : Option Addr) (c4 : Nat) (rs4 : List Rw), Wz = wx ∧ s3 = .int .i64 0 ∧ Hid (AL w Wz b A4 2 c4 rs4 ∧ rs4.map Rw.v = vs2))
  case first =>
    go_region_with (first
      | (go_at_call 19; refine (CT 10 _).out.mono ?_; rintro e w3 ⟨r3, rfl, e3, m3, s3, hb3⟩; have HA3 := Lib.hid (HA2.out.next (undrew hb3)); have y0 := HA3.out.x.c 0; have C3 := Lib.hid (put_is A2 1 c2 rs2 r3 w3 HA3.out.e (by omega) m3 s3 HA3.out.cp HA3.out.nl _ _ HE2.out e3 0 k1 _ p1); simp at y0; clear m3 s3 e3 hb3)
      | (go_at_call 17; refine C3.out.mono ?_; rintro e w4 ⟨A4, n4, c4, rs4, rfl, hV4, hE4, hn4, hc4, hz4, hb4⟩; obtain rfl : n4 = 2 := hn4; have HA4 := Lib.hid (al_set HA3.out hb4 hV4 hc4 hz4); have HE4 := Lib.hid hE4; have z0 := (HA3.out.x.keep hb4).c 0; have zf := (HA3.out.x.keep hb4).f 0; simp at z0; clear hE4 hV4 hz4 hc4 hb4 C3)
      | fail)
    all_goals
      go_wp2_with fail
      go_meet
      exact ⟨_, A4, c4, rs4, rfl, rfl, Lib.hid ⟨HA4.out, HE4.out⟩⟩
  case rest =>
    clear x0 xl HW HA2 HE2
    obtain ⟨W2, A4, c4, rs4, rfl, rfl, HAE⟩ := hcut
    have HA4 := Lib.hid HAE.out.1
    have HE4 := Lib.hid HAE.out.2
    clear HAE
    have x0 := HA4.out.x.c 0
    have xl := HA4.out.x.lt
    simp at x0
    go_wp2
    go_cut [4, 5] (fun s4 s5 wx => ∃ (Wz : World), Wz = wx ∧ s5 = .int .i64 8 ∧ Hid (AL w Wz b A4 2 c4 rs4))
    case first =>
      have HBd := Lib.hid (show Below W2.heap.size W2 W2.drew from ⟨rfl, rfl, rfl, Nat.le_refl _, fun _ _ => rfl⟩)
      have HBe := Lib.hid (fun o => show Below W2.heap.size W2 (W2.alloc o).drew from ⟨(alloc_ W2 o).os, (alloc_ W2 o).tape, (alloc_ W2 o).output, (alloc_ W2 o).size, (alloc_ W2 o).block⟩)
      have HSX := Lib.hid (fun (W' : World) (h : Below W2.heap.size W2 W') => show W'.cell? ⟨b, 0, none⟩ = some (.slice A4 2 c4) by have := (HA4.out.next h).x.c 0; simpa using this)
      go_region_held3 (fun w' => w'.cell? ⟨b, 0, none⟩ = some (.slice A4 2 c4))
        (first | exact HSX.out _ HBd.out | exact HSX.out _ (HBd.out.alloc HBd.out.size _) | exact HSX.out _ (HBe.out _) | exact HSX.out _ HB3.out | exact HSX.out _ (HB3.out.alloc HB3.out.size _) | exact HSX.out _ HB5.out | exact HSX.out _ (HB5.out.alloc HB5.out.size _) | exact HSX.out _ (HB5.out.setCell (Nat.le_refl _) _) | exact HSX.out _ (HB5.out.setCell HB3.out.size _) | fail)
        (first
        | (go_at_call 19; ((with_reducible refine (CT 20 W2.drew).out.mono ?_); rintro e w3 ⟨r3, rfl, e3, m3, s3, hb3⟩; have HB3 := Lib.hid (undrew hb3); have C3 := fun (w' : World) (h : Below w3.heap.size w3 w') => Lib.hid (put_is A4 2 c4 rs4 r3 w' (HA4.out.next (HB3.out.trans (h.mono HB3.out.size))).e (by omega) (m3.below h) s3 HA4.out.cp HA4.out.nl _ _ HE4.out e3 8 k2 _ p2); clear m3 s3 e3 hb3))
        | (go_at_call 19; ((with_reducible refine (CT 20 (W2.alloc (.cells #[.slice none 0 0] 29)).drew).out.mono ?_); rintro e w3 ⟨r3, rfl, e3, m3, s3, hb3⟩; have HB3 := Lib.hid (below_alloc (undrew hb3)); have HX3 := Lib.hid ((Bx.new W2 29 #[.slice none 0 0]).keep (undrew hb3)); have C3 := fun (w' : World) (h : Below w3.heap.size w3 w') => Lib.hid (put_is A4 2 c4 rs4 r3 w' (HA4.out.next (HB3.out.trans (h.mono HB3.out.size))).e (by omega) (m3.below h) s3 HA4.out.cp HA4.out.nl _ _ HE4.out e3 8 k2 _ p2); clear m3 s3 e3 hb3))
        | (go_at_call 17; ((with_reducible refine (C3 w3 (Below.refl _ _)).out.mono ?_); rintro e w4 ⟨A5, n5, c5, rs5, rfl, hV5, hE5, hn5, hc5, hz5, hb5⟩; have HX5 := Lib.hid (HX3.out.keep hb5); have z0 := HX5.out.c 0; have zf := HX5.out.f 0; have HB5 := Lib.hid (HB3.out.trans (hb5.mono HB3.out.size)); simp at z0; clear hV5 hE5 hc5 hz5 hb5 hn5 C3))
        | (go_at_call 17; ((with_reducible refine (C3 w3 (Below.refl _ _)).out.mono ?_); rintro e w4 ⟨A5, n5, c5, rs5, rfl, hV5, hE5, hn5, hc5, hz5, hb5⟩; have HB5 := Lib.hid (HB3.out.trans (hb5.mono HB3.out.size)); clear hV5 hE5 hc5 hz5 hb5 hn5 C3))
        | (go_at_call 17; ((with_reducible refine (C3 (w3.alloc (.cells #[.slice none 0 0] 29)) (alloc_ _ _)).out.mono ?_); rintro e w4 ⟨A5, n5, c5, rs5, rfl, hV5, hE5, hn5, hc5, hz5, hb5⟩; have HX5 := Lib.hid ((Bx.new w3 29 #[.slice none 0 0]).keep hb5); have z0 := HX5.out.c 0; have zf := HX5.out.f 0; have HB5 := Lib.hid (HB3.out.trans ((below_alloc hb5).mono HB3.out.size)); simp at z0; clear hV5 hE5 hc5 hz5 hb5 hn5 C3))
        | fail)
      all_goals
        go_wp2_with fail
        go_meet
        refine ⟨_, rfl, rfl, Lib.hid (HA4.out.next ?_)⟩
        first | exact HB5.out.alloc HB5.out.size _ | exact HB5.out.setCell (Nat.le_refl _) _ | exact HB5.out.setCell HB3.out.size _
    case rest =>
      clear x0 xl HA4
      obtain ⟨W3, rfl, rfl, HA⟩ := hcut
      have HA4 := Lib.hid HA.out
      clear HA
      have x0 := HA4.out.x.c 0
      have xl := HA4.out.x.lt
      simp at x0
      go_wp2
      go_cut [6, 7] (fun s4 s5 wx => ∃ (Wz : World), Wz = wx ∧ s5 = .int .i64 1 ∧ Hid (AL w Wz b A4 2 c4 rs4))
      case first =>
        have HBd := Lib.hid (show Below W3.heap.size W3 W3.drew from ⟨rfl, rfl, rfl, Nat.le_refl _, fun _ _ => rfl⟩)
        have HBe := Lib.hid (fun o => show Below W3.heap.size W3 (W3.alloc o).drew from ⟨(alloc_ W3 o).os, (alloc_ W3 o).tape, (alloc_ W3 o).output, (alloc_ W3 o).size, (alloc_ W3 o).block⟩)
        have HSX := Lib.hid (fun (W' : World) (h : Below W3.heap.size W3 W') => show W'.cell? ⟨b, 0, none⟩ = some (.slice A4 2 c4) by have := (HA4.out.next h).x.c 0; simpa using this)
        go_region_held3 (fun w' => w'.cell? ⟨b, 0, none⟩ = some (.slice A4 2 c4))
          (first | exact HSX.out _ HBd.out | exact HSX.out _ (HBd.out.alloc HBd.out.size _) | exact HSX.out _ (HBe.out _) | exact HSX.out _ HB3.out | exact HSX.out _ (HB3.out.alloc HB3.out.size _) | exact HSX.out _ HB5.out | exact HSX.out _ (HB5.out.alloc HB5.out.size _) | exact HSX.out _ (HB5.out.setCell (Nat.le_refl _) _) | exact HSX.out _ (HB5.out.setCell HB3.out.size _) | fail)
          (first
          | (go_at_call 19; ((with_reducible refine (CT 0 W3.drew).out.mono ?_); rintro e w3 ⟨r3, rfl, e3, m3, s3, hb3⟩; have HB3 := Lib.hid (undrew hb3); have C3 := fun (w' : World) (h : Below w3.heap.size w3 w') => Lib.hid (put_is A4 2 c4 rs4 r3 w' (HA4.out.next (HB3.out.trans (h.mono HB3.out.size))).e (by omega) (m3.below h) s3 HA4.out.cp HA4.out.nl _ _ HE4.out e3 1 k3 _ p3); clear m3 s3 e3 hb3))
          | (go_at_call 19; ((with_reducible refine (CT 0 (W3.alloc (.cells #[.slice none 0 0] 29)).drew).out.mono ?_); rintro e w3 ⟨r3, rfl, e3, m3, s3, hb3⟩; have HB3 := Lib.hid (below_alloc (undrew hb3)); have HX3 := Lib.hid ((Bx.new W3 29 #[.slice none 0 0]).keep (undrew hb3)); have C3 := fun (w' : World) (h : Below w3.heap.size w3 w') => Lib.hid (put_is A4 2 c4 rs4 r3 w' (HA4.out.next (HB3.out.trans (h.mono HB3.out.size))).e (by omega) (m3.below h) s3 HA4.out.cp HA4.out.nl _ _ HE4.out e3 1 k3 _ p3); clear m3 s3 e3 hb3))
          | (go_at_call 17; ((with_reducible refine (C3 w3 (Below.refl _ _)).out.mono ?_); rintro e w4 ⟨A5, n5, c5, rs5, rfl, hV5, hE5, hn5, hc5, hz5, hb5⟩; have HX5 := Lib.hid (HX3.out.keep hb5); have z0 := HX5.out.c 0; have zf := HX5.out.f 0; have HB5 := Lib.hid (HB3.out.trans (hb5.mono HB3.out.size)); simp at z0; clear hV5 hE5 hc5 hz5 hb5 hn5 C3))
          | (go_at_call 17; ((with_reducible refine (C3 w3 (Below.refl _ _)).out.mono ?_); rintro e w4 ⟨A5, n5, c5, rs5, rfl, hV5, hE5, hn5, hc5, hz5, hb5⟩; have HB5 := Lib.hid (HB3.out.trans (hb5.mono HB3.out.size)); clear hV5 hE5 hc5 hz5 hb5 hn5 C3))
          | (go_at_call 17; ((with_reducible refine (C3 (w3.alloc (.cells #[.slice none 0 0] 29)) (alloc_ _ _)).out.mono ?_); rintro e w4 ⟨A5, n5, c5, rs5, rfl, hV5, hE5, hn5, hc5, hz5, hb5⟩; have HX5 := Lib.hid ((Bx.new w3 29 #[.slice none 0 0]).keep hb5); have z0 := HX5.out.c 0; have zf := HX5.out.f 0; have HB5 := Lib.hid (HB3.out.trans ((below_alloc hb5).mono HB3.out.size)); simp at z0; clear hV5 hE5 hc5 hz5 hb5 hn5 C3))
          | fail)
        all_goals
          go_wp2_with fail
          go_meet
          refine ⟨_, rfl, rfl, Lib.hid (HA4.out.next ?_)⟩
          first | exact HB5.out.alloc HB5.out.size _ | exact HB5.out.setCell (Nat.le_refl _) _ | exact HB5.out.setCell HB3.out.size _
      case rest =>
        clear x0 xl HA4
        obtain ⟨W4, rfl, rfl, HA⟩ := hcut
        have HN := Lib.hid (show (rs4.map Rw.v) = vs2 from HE4.out)
        have C5 := fun (d : Int) w' (h : Below W4.heap.size W4 w') => Lib.hid (at_ A4 2 c4 rs4 d w' (HA.out.next h).e (by omega))
        rw [HE4.out] at C5
        have x0 := HA.out.x.c 0
        simp at x0
        go_wp2_with fail
        refine (C5 19 _ (Below.refl _ _)).out.mono ?_
        rintro e w5 ⟨r5, rfl, e5, m5, s5, hb5⟩
        have HQ5 := Lib.hid (show r5.v.fr = 10 by rw [e5, a1.1]; rfl)
        rw [a1.2]
        have HB5 := Lib.hid (hb5.alloc hb5.size (.cells (vc r5) 26))
        have HX5 := Lib.hid (Bx.new w5 26 (vc r5))
        have HS5 := Lib.hid (show w5.heap.size < (w5.alloc (.cells (vc r5) 26)).heap.size by simp)
        clear x0 e5 m5 s5
        have x0 := ((HA.out.next hb5).x).c 0
        have x0' := ((HA.out.next hb5).x).lt
        simp at x0
        clear hb5
        go_wp2_with fail
        refine (C5 20 _ HB5.out).out.mono ?_
        rintro e w6 ⟨r6, rfl, e6, m6, s6, hb6⟩
        have HQ6 := Lib.hid (show r6.v.fr = 20 by rw [e6, a2.1]; rfl)
        rw [a2.2]
        have HB6 := Lib.hid ((HB5.out.trans (hb6.mono HB5.out.size)).alloc (HB5.out.trans (hb6.mono HB5.out.size)).size (.cells (vc r6) 26))
        have HX5b := Lib.hid ((HX5.out.keep hb6).alloc (.cells (vc r6) 26))
        have HX6 := Lib.hid (Bx.new w6 26 (vc r6))
        clear x0 x0' e6 m6 s6
        have x0 := ((HA.out.next (HB5.out.trans (hb6.mono HB5.out.size))).x).c 0
        have x0' := ((HA.out.next (HB5.out.trans (hb6.mono HB5.out.size))).x).lt
        simp at x0
        clear hb6 HX5 HS5 HB5
        go_wp2_with fail
        refine (C5 9 _ HB6.out).out.mono ?_
        rintro e w7 ⟨r7, rfl, e7, m7, s7, hb7⟩
        rw [a3.2]
        have HB7 := Lib.hid ((HB6.out.trans (hb7.mono HB6.out.size)).alloc (HB6.out.trans (hb7.mono HB6.out.size)).size (.cells (vc r7) 26))
        have HX5c := Lib.hid (HX5b.out.keep hb7)
        have HX6c := Lib.hid (HX6.out.keep hb7)
        have y5 := HX5c.out.c 0
        have y5' := HX5c.out.lt
        have y6 := HX6c.out.c 0
        have y6' := HX6c.out.lt
        simp [HQ5.out] at y5
        simp [HQ6.out] at y6
        clear x0 x0' e7 m7 s7
        have x0 := ((HA.out.next (HB6.out.trans (hb7.mono HB6.out.size))).x).c 0
        have x0' := ((HA.out.next (HB6.out.trans (hb7.mono HB6.out.size))).x).lt
        simp at x0
        clear hb7 HX5b HX6 HB6 HQ5 HQ6 HX5c HX6c
        have CR := Lib.hid (right_ A4 2 c4 rs4 _ (HA.out.next HB7.out).e (by omega))
        rw [HE4.out, g1] at CR
        go_wp2_with fail
        refine CR.out.mono ?_
        rintro e w8 ⟨rfl, hb8⟩
        have HB8 := Lib.hid (HB7.out.trans (hb8.mono HB7.out.size))
        clear x0 x0' y5 y5' y6 y6' CR
        have x0 := ((HA.out.next HB8.out).x).c 0
        simp at x0
        clear hb8 HB7
        go_wp2_with fail
        refine (CT 1 _).out.mono ?_
        rintro e w9 ⟨r9, rfl, e9, m9, s9, hb9⟩
        have HB9 := Lib.hid (HB8.out.trans (hb9.mono HB8.out.size))
        have C9 := Lib.hid (version_ r9 w9 m9 s9)
        rw [e9, g2] at C9
        clear hb9 m9 s9 e9 HB8 x0
        go_wp2_with fail
        refine C9.out.mono ?_
        rintro e w10 ⟨rfl, hb10⟩
        have HB10 := Lib.hid (HB9.out.trans (hb10.mono HB9.out.size))
        have C10 := Lib.hid (version_ oneR w10 ⟨Lns.nil, Ins.nil, Ins.nil⟩ ⟨Nat.zero_le _, Nat.zero_le _, Nat.zero_le _⟩)
        rw [show ver oneR.v = false from g3] at C10
        clear hb10 C9 HB9
        go_wp2_with fail
        refine C10.out.mono ?_
        rintro e w11 ⟨rfl, hb11⟩
        have HB11 := Lib.hid (HB10.out.trans (hb11.mono HB10.out.size))
        clear hb11 C10 HB10
        go_wp2
        go_ret
        exact ⟨rfl, HA.out.b.trans (HB11.out.mono HA.out.b.size)⟩
