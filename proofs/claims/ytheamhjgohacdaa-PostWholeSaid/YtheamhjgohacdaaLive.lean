/-
  The law's own alive: it answers true. Conditions: none.
-/
import Derived.Test.YtheamhjgohacdaaMk
import Derived.Test.YtheamhjgohacdaaEq
namespace Go.Proofs.Ytheamhjgohacdaa
open Go.RowKit Bk
namespace Pst
set_option linter.unusedVariables false

def e1 : En := ⟨3, 0, [(1, 5), (2, -5)]⟩
def e2 : En := ⟨7, 0, [(1, -2), (5, 2)]⟩
def PutIs (w : World) (es : List En) (code : Int) (x : Ending) (w' : World) : Prop := ∃ A n c, x = .returned (.tuple #[bg A n c, .int .i64 code]) ∧ EntsP w' (fun b => w.heap.size ≤ b ∧ b < w'.heap.size) A n es ∧ n ≤ c ∧ n = es.length ∧ Below w.heap.size w w'
theorem put_is (A : Option Addr) (n c : Nat) (es : List En) (d f : Int) (L : Option Addr) (m k : Nat) (ls : List Pr) (w : World) (hS : Ents w A n es) (hcap : n ≤ c) (hsm : ∀ e ∈ es, e.ls.length ≤ 1000) (hl : Lns w (· < w.heap.size) L m ls) (code : Int) (h : cde es ⟨d, f, ls⟩ = code) (es' : List En) (h' : ptL es ⟨d, f, ls⟩ = es') :
    Calls Try.prog 21 #[bg A n c, eg d f L m k] w (PutIs w es' code) := by
  refine (put A n c es d f L m k ls w hS hcap hsm hl).mono ?_
  rintro e w' ⟨A', n', c', rfl, hE, hc, hb⟩
  rw [h'] at hE
  rw [h]
  exact ⟨A', n', c', rfl, hE, hc, by obtain ⟨rs, a, b⟩ := hE; rw [← b.1, a.1], hb⟩
theorem put_good {es : List En} {e : En} (h : cde es e = 0) : ptL es e = es ++ [e] := by unfold ptL; rw [if_pos h]
theorem put_bad {es : List En} {e : En} {x : Int} (h : cde es e = x) (h0 : x ≠ 0) : ptL es e = [] := by unfold ptL; rw [if_neg (by omega)]

theorem sm1 : ∀ e ∈ [e1], e.ls.length ≤ 1000 := by intro e he; simp at he; subst he; decide
theorem sm2 : ∀ e ∈ [e1, e2], e.ls.length ≤ 1000 := by intro e he; simp at he; rcases he with rfl | rfl <;> decide
theorem k0 : cde [] e1 = 0 := by decide +kernel
theorem k1 : cde [e1] e2 = 0 := by decide +kernel
theorem k2 : cde [e1, e2] ⟨6, 0, [(1, 5), (2, -5)]⟩ = 4 := by decide +kernel
theorem k3 : cde [e1, e2] ⟨9, 0, []⟩ = 1 := by decide +kernel
theorem k4 : cde [e1, e2] ⟨9, 0, [(1, 1), (2, 1)]⟩ = 13 := by decide +kernel
theorem few2 : Few [e1, e2] := by intro e he; simp at he; rcases he with rfl | rfl <;> decide
theorem v1 : wrap64 (bal (upto 6) 1 [e1, e2]) = 5 := by rw [show bal (upto 6) 1 [e1, e2] = 5 by decide +kernel]; exact wr_in (by decide) (by decide)
theorem v2 : wrap64 (bal (upto 7) 1 [e1, e2]) = 3 := by rw [show bal (upto 7) 1 [e1, e2] = 3 by decide +kernel]; exact wr_in (by decide) (by decide)
theorem v3 : wrap64 (bal (Sp.inn (4, 9)) 1 [e1, e2]) = -2 := by rw [show bal (Sp.inn (4, 9)) 1 [e1, e2] = -2 by decide +kernel]; exact wr_in (by decide) (by decide)
theorem tri_at {p : Int → Bool} {es : List En} {i : Nat} {x : Int} (h1 : 1 ≤ i) (h2 : i ≤ 9) (h : bal p (i : Int) es = x) (h3 : -1000 ≤ x) (h4 : x ≤ 1000) : tri p es i = x := by
  unfold tri trk
  rw [if_pos ⟨h1, h2⟩, h]
  exact wr_in (by omega) (by omega)
theorem v4 : ar (tri (upto 9) [e1, e2]) = #[.int .i64 0, .int .i64 3, .int .i64 (-5), .int .i64 0, .int .i64 0, .int .i64 2, .int .i64 0, .int .i64 0, .int .i64 0, .int .i64 0] := by
  unfold ar
  rw [tri_at (i := 1) (x := 3) (by decide) (by decide) (by decide +kernel) (by decide) (by decide), tri_at (i := 2) (x := -5) (by decide) (by decide) (by decide +kernel) (by decide) (by decide), tri_at (i := 3) (x := 0) (by decide) (by decide) (by decide +kernel) (by decide) (by decide), tri_at (i := 4) (x := 0) (by decide) (by decide) (by decide +kernel) (by decide) (by decide), tri_at (i := 5) (x := 2) (by decide) (by decide) (by decide +kernel) (by decide) (by decide), tri_at (i := 6) (x := 0) (by decide) (by decide) (by decide +kernel) (by decide) (by decide), tri_at (i := 7) (x := 0) (by decide) (by decide) (by decide +kernel) (by decide) (by decide), tri_at (i := 8) (x := 0) (by decide) (by decide) (by decide +kernel) (by decide) (by decide), tri_at (i := 9) (x := 0) (by decide) (by decide) (by decide +kernel) (by decide) (by decide)]
  rfl
theorem v5 : rgt ⟨1, 0, [(1, 1), (2, -1)]⟩ = true := by decide +kernel
theorem v6 : rgt ⟨1, 0, [(2, 1), (1, -1)]⟩ = false := by decide +kernel

/-- The book in its box. -/
structure AL (w W : World) (g : Nat) (A : Option Addr) (n c : Nat) (es : List En) : Prop where
  b : Below w.heap.size w W
  x : Bx W g 29 #[.slice A n c]
  e : Ents W A n es
  cp : n ≤ c
  lo : w.heap.size ≤ g
theorem AL.next {w W W' : World} {b : Nat} {A : Option Addr} {n c : Nat} {es : List En} (h : AL w W b A n c es) (hb : Below W.heap.size W W') : AL w W' b A n c es := ⟨h.b.trans (hb.mono h.b.size), h.x.keep hb, h.e.below hb, h.cp, h.lo⟩

theorem al_set {w W W' : World} {g : Nat} {A A' : Option Addr} {n c n' c' : Nat} {es es' : List En} (h : AL w W g A n c es) (hb : Below W.heap.size W W') (hE : EntsP W' (fun x => W.heap.size ≤ x ∧ x < W'.heap.size) A' n' es') (hc : n' ≤ c') : AL w (W'.setCell ⟨g, 0, none⟩ (.slice A' n' c')) g A' n' c' es' := by
  have hl := h.x.lt
  refine ⟨(h.b.trans (hb.mono h.b.size)).setCell (p := ⟨g, 0, none⟩) h.lo _, (h.x.keep hb).set 0 _, ?_, hc, h.lo⟩
  refine (hE.keep (ok' := fun x => x < W'.heap.size) (fun p hp => World.cell?_setCell_other _ _ _ _ (fun e => ?_)) fun b hb => hb.2).ents fun b hb => by simpa using hb
  have h1 := hp.1
  rw [← e] at h1
  simp only at h1
  omega

set_option maxRecDepth 100000 in
set_option maxHeartbeats 4000000 in
theorem alive_ (w : World) : Calls Try.prog 10 #[] w (Yes w true) := by
  have CT := fun (day a b amt : Int) (w' : World) (h1 : -1000 ≤ amt) (h2 : amt ≤ 1000) => Lib.hid (two_ day a b amt w' h1 h2)
  go_enter Try.func10, Try.ntmps10
  go_wp2_with fail
  refine (CT 3 1 2 5 _ (by decide) (by decide)).out.mono ?_
  rintro e w1 ⟨L1, l1, rfl, hL1, hb1⟩
  have C1 := Lib.hid (put_is none 0 0 [] 3 0 L1 2 l1 [(1, 5), (2, -5)] w1 Ents.nil (Nat.le_refl _) (fun e he => by cases he) hL1 0 k0 [e1] (put_good k0))
  have HB1 := Lib.hid hb1
  clear hL1 hb1
  go_wp2_with fail
  refine C1.out.mono ?_
  rintro e w2 ⟨A2, n2, c2, rfl, hE2, hc2, hn2, hb2⟩
  obtain rfl : n2 = 1 := hn2
  have HA2 := Lib.hid (show AL w (w2.alloc (.cells #[.slice A2 1 c2] 29)) w2.heap.size A2 1 c2 [e1] from ⟨(HB1.out.trans (hb2.mono HB1.out.size)).alloc (HB1.out.trans (hb2.mono HB1.out.size)).size _, Bx.new _ _ _, (hE2.ents fun b hb => hb.2).below (alloc_ _ _), hc2, (HB1.out.trans (hb2.mono HB1.out.size)).size⟩)
  clear hE2 hc2 hb2 C1 HB1
  go_wp2
  obtain ⟨W, hW⟩ : ∃ W, w2.alloc (.cells #[.slice A2 1 c2] 29) = W := ⟨_, rfl⟩
  obtain ⟨b, hb⟩ : ∃ b, w2.heap.size = b := ⟨_, rfl⟩
  rw [hW, hb] at HA2 ⊢
  have HW := Lib.hid hW
  clear hW hb
  have x0 := HA2.out.x.c 0
  have xl := HA2.out.x.lt
  simp at x0
  go_cut [3] (fun s3 wx => ∃ (Wz : World) (A4 : Option Addr) (c4 : Nat), Wz = wx ∧ s3 = .int .i64 0 ∧ Hid (AL w Wz b A4 2 c4 [e1, e2]))
  case first =>
    go_region_with (first
      | (go_at_call 24; refine (CT 7 1 5 (-2) _ (by decide) (by decide)).out.mono ?_; rintro e w3 ⟨L3, l3, rfl, hL3, hb3⟩; have HA3 := Lib.hid (HA2.out.next (undrew hb3)); have y0 := HA3.out.x.c 0; have C3 := Lib.hid (put_is A2 1 c2 [e1] 7 0 L3 2 l3 [(1, -2), (5, 2)] w3 HA3.out.e HA3.out.cp sm1 hL3 0 k1 [e1, e2] (put_good k1)); simp at y0; clear hL3 hb3)
      | (go_at_call 21; refine C3.out.mono ?_; rintro e w4 ⟨A4, n4, c4, rfl, hE4, hc4, hn4, hb4⟩; obtain rfl : n4 = 2 := hn4; have HA4 := Lib.hid (al_set HA3.out hb4 hE4 hc4); have z0 := (HA3.out.x.keep hb4).c 0; have zf := (HA3.out.x.keep hb4).f 0; simp at z0; clear hE4 hc4 hb4 C3)
      | fail)
    all_goals
      go_wp2_with fail
      go_meet
      exact ⟨_, A4, c4, rfl, rfl, HA4⟩
  case rest =>
    clear x0 xl HW HA2
    obtain ⟨W2, A4, c4, rfl, rfl, HA4⟩ := hcut
    have x0 := HA4.out.x.c 0
    have xl := HA4.out.x.lt
    simp at x0
    go_wp2
    go_cut [4, 5] (fun s4 s5 wx => ∃ (Wz : World), Wz = wx ∧ s5 = .int .i64 4 ∧ Hid (AL w Wz b A4 2 c4 [e1, e2]))
    case first =>
      have HBd := Lib.hid (show Below W2.heap.size W2 W2.drew from ⟨rfl, rfl, rfl, Nat.le_refl _, fun _ _ => rfl⟩)
      have HBe := Lib.hid (fun o => show Below W2.heap.size W2 (W2.alloc o).drew from ⟨(alloc_ W2 o).os, (alloc_ W2 o).tape, (alloc_ W2 o).output, (alloc_ W2 o).size, (alloc_ W2 o).block⟩)
      have HSX := Lib.hid (fun (W' : World) (h : Below W2.heap.size W2 W') => show W'.cell? ⟨b, 0, none⟩ = some (.slice A4 2 c4) by have := (HA4.out.next h).x.c 0; simpa using this)
      go_region_held3 (fun w' => w'.cell? ⟨b, 0, none⟩ = some (.slice A4 2 c4))
        (first | exact HSX.out _ HBd.out | exact HSX.out _ (HBd.out.alloc HBd.out.size _) | exact HSX.out _ (HBe.out _) | exact HSX.out _ HB3.out | exact HSX.out _ (HB3.out.alloc HB3.out.size _) | exact HSX.out _ HB5.out | exact HSX.out _ (HB5.out.alloc HB5.out.size _) | exact HSX.out _ (HB5.out.setCell (Nat.le_refl _) _) | exact HSX.out _ (HB5.out.setCell HB3.out.size _) | fail)
        (first
        | (go_at_call 24; ((with_reducible refine (CT 6 1 2 5 W2.drew (by decide) (by decide)).out.mono ?_); rintro e w3 ⟨L3, l3, rfl, hL3, hb3⟩; have HB3 := Lib.hid (undrew hb3); have C3 := fun (w' : World) (h : Below w3.heap.size w3 w') => Lib.hid (put_is A4 2 c4 [e1, e2] 6 0 L3 2 l3 [(1, 5), (2, -5)] w' (HA4.out.next (HB3.out.trans (h.mono HB3.out.size))).e HA4.out.cp sm2 (hL3.below h) 4 k2 [] (put_bad k2 (by decide))); clear hL3 hb3))
        | (go_at_call 24; ((with_reducible refine (CT 6 1 2 5 (W2.alloc (.cells #[.slice none 0 0] 29)).drew (by decide) (by decide)).out.mono ?_); rintro e w3 ⟨L3, l3, rfl, hL3, hb3⟩; have HB3 := Lib.hid (below_alloc (undrew hb3)); have HX3 := Lib.hid ((Bx.new W2 29 #[.slice none 0 0]).keep (undrew hb3)); have C3 := fun (w' : World) (h : Below w3.heap.size w3 w') => Lib.hid (put_is A4 2 c4 [e1, e2] 6 0 L3 2 l3 [(1, 5), (2, -5)] w' (HA4.out.next (HB3.out.trans (h.mono HB3.out.size))).e HA4.out.cp sm2 (hL3.below h) 4 k2 [] (put_bad k2 (by decide))); clear hL3 hb3))
        | (go_at_call 21; ((with_reducible refine (C3 w3 (Below.refl _ _)).out.mono ?_); rintro e w4 ⟨A5, n5, c5, rfl, hE5, hc5, hn5, hb5⟩; have HX5 := Lib.hid (HX3.out.keep hb5); have z0 := HX5.out.c 0; have zf := HX5.out.f 0; have HB5 := Lib.hid (HB3.out.trans (hb5.mono HB3.out.size)); simp at z0; clear hE5 hc5 hb5 hn5 C3))
        | (go_at_call 21; ((with_reducible refine (C3 w3 (Below.refl _ _)).out.mono ?_); rintro e w4 ⟨A5, n5, c5, rfl, hE5, hc5, hn5, hb5⟩; have HB5 := Lib.hid (HB3.out.trans (hb5.mono HB3.out.size)); clear hE5 hc5 hb5 hn5 C3))
        | (go_at_call 21; ((with_reducible refine (C3 (w3.alloc (.cells #[.slice none 0 0] 29)) (alloc_ _ _)).out.mono ?_); rintro e w4 ⟨A5, n5, c5, rfl, hE5, hc5, hn5, hb5⟩; have HX5 := Lib.hid ((Bx.new w3 29 #[.slice none 0 0]).keep hb5); have z0 := HX5.out.c 0; have zf := HX5.out.f 0; have HB5 := Lib.hid (HB3.out.trans ((below_alloc hb5).mono HB3.out.size)); simp at z0; clear hE5 hc5 hb5 hn5 C3))
        | fail)
      all_goals
        go_wp2_with fail
        go_meet
        refine ⟨_, rfl, rfl, Lib.hid (HA4.out.next ?_)⟩
        first | exact HB5.out.alloc HB5.out.size _ | exact HB5.out.setCell (Nat.le_refl _) _ | exact HB5.out.setCell HB3.out.size _
    case rest =>
      clear x0 xl HA4
      obtain ⟨W3, rfl, rfl, HA⟩ := hcut
      have x0 := HA.out.x.c 0
      have xl := HA.out.x.lt
      simp at x0
      have C3 := Lib.hid (put_is A4 2 c4 [e1, e2] 9 0 none 0 0 [] W3 HA.out.e HA.out.cp sm2 Lns.nil 1 k3 [] (put_bad k3 (by decide)))
      go_wp2_with fail
      refine C3.out.mono ?_
      rintro e w4 ⟨A5, n5, c5, rfl, hE5, hc5, hn5, hb5⟩
      have HA5 := Lib.hid (HA.out.next hb5)
      clear hE5 hc5 hb5 hn5 C3 x0 xl
      have x0 := HA5.out.x.c 0
      have xl := HA5.out.x.lt
      simp at x0
      have hL6 : Lns ((w4.alloc (.cells #[.slice A5 n5 c5] 29)).alloc (.cells #[.int .i64 1, .int .i64 1, .int .i64 2, .int .i64 1] 52)) (· < ((w4.alloc (.cells #[.slice A5 n5 c5] 29)).alloc (.cells #[.int .i64 1, .int .i64 1, .int .i64 2, .int .i64 1] 52)).heap.size) (some ⟨w4.heap.size + 1, 0, none⟩) 2 [(1, 1), (2, 1)] := by
        have hX := Bx.new (w4.alloc (.cells #[.slice A5 n5 c5] 29)) 52 #[.int .i64 1, .int .i64 1, .int .i64 2, .int .i64 1]
        rw [World.size_alloc] at hX
        exact lns_new hX
      have HA6 := Lib.hid (HA5.out.next (W' := (w4.alloc (.cells #[.slice A5 n5 c5] 29)).alloc (.cells #[.int .i64 1, .int .i64 1, .int .i64 2, .int .i64 1] 52)) ((alloc_ _ _).alloc (by simp) _))
      have C6 := Lib.hid (put_is A4 2 c4 [e1, e2] 9 0 (some ⟨w4.heap.size + 1, 0, none⟩) 2 2 [(1, 1), (2, 1)] _ HA6.out.e HA6.out.cp sm2 hL6 13 k4 [] (put_bad k4 (by decide)))
      clear hL6
      go_wp2_with fail
      refine C6.out.mono ?_
      rintro e w6 ⟨A7, n7, c7, rfl, hE7, hc7, hn7, hb7⟩
      have HA7 := Lib.hid (HA6.out.next hb7)
      clear hE7 hc7 hb7 hn7 C6 x0 xl HA5 HA6
      have HA8 := Lib.hid (HA7.out.next (alloc_ w6 (.cells #[.slice A7 n7 c7] 29)))
      have x0 := HA7.out.x.c 0
      have xl := HA7.out.x.lt
      simp at x0
      go_wp2_with fail
      have C8 := Lib.hid (balance A4 2 c4 [e1, e2] 1 6 _ HA8.out.e (by decide) few2)
      rw [v1] at C8
      refine C8.out.mono ?_
      rintro e w9 ⟨rfl, hb9⟩
      have HA9 := Lib.hid (HA8.out.next hb9)
      clear hb9 C8 x0 xl HA7
      have x0 := HA9.out.x.c 0
      simp at x0
      go_wp2_with fail
      have C10 := Lib.hid (balance A4 2 c4 [e1, e2] 1 7 _ HA9.out.e (by decide) few2)
      rw [v2] at C10
      refine C10.out.mono ?_
      rintro e w10 ⟨rfl, hb10⟩
      have HA10 := Lib.hid (HA9.out.next hb10)
      clear hb10 C10 x0
      have x0 := HA10.out.x.c 0
      simp at x0
      go_wp2_with fail
      have C11 := Lib.hid (turn A4 2 c4 [e1, e2] 1 (4, 9) _ HA10.out.e (by decide) few2)
      rw [v3] at C11
      refine C11.out.mono ?_
      rintro e w11 ⟨rfl, hb11⟩
      have HA11 := Lib.hid (HA10.out.next hb11)
      clear hb11 C11 x0
      have x0 := HA11.out.x.c 0
      simp at x0
      go_wp2_with fail
      refine (trial A4 2 c4 [e1, e2] 9 _ HA11.out.e (by decide) few2).mono ?_
      rintro e w12 ⟨rfl, hb12⟩
      rw [v4]
      have HA12 := Lib.hid (HA11.out.next hb12)
      clear hb12 x0
      have qe := ten_same
      go_wp2_with fail
      refine (CT 1 1 2 1 _ (by decide) (by decide)).out.mono ?_
      rintro e w13 ⟨L13, l13, rfl, hL13, hb13⟩
      have HB13 := Lib.hid (HA12.out.b.trans (hb13.mono HA12.out.b.size))
      have C13 := Lib.hid (right_ 1 0 L13 2 l13 [(1, 1), (2, -1)] w13 hL13 (by decide))
      rw [v5] at C13
      clear hL13 hb13
      go_wp2_with fail
      refine C13.out.mono ?_
      rintro e w14 ⟨rfl, hb14⟩
      have HB14 := Lib.hid (HB13.out.trans (hb14.mono HB13.out.size))
      clear hb14 C13
      go_wp2_with fail
      refine (CT 1 2 1 1 _ (by decide) (by decide)).out.mono ?_
      rintro e w15 ⟨L15, l15, rfl, hL15, hb15⟩
      have HB15 := Lib.hid (HB14.out.trans (hb15.mono HB14.out.size))
      have C15 := Lib.hid (right_ 1 0 L15 2 l15 [(2, 1), (1, -1)] w15 hL15 (by decide))
      rw [v6] at C15
      clear hL15 hb15
      go_wp2_with fail
      refine C15.out.mono ?_
      rintro e w16 ⟨rfl, hb16⟩
      have HB16 := Lib.hid (HB15.out.trans (hb16.mono HB15.out.size))
      clear hb16 C15
      go_wp2
      go_ret
      exact ⟨rfl, HB16.out⟩

end Pst
end Go.Proofs.Ytheamhjgohacdaa
