/-
  binds and Bind of package change. Conditions: the covers read as a list, that is short.
-/
import Derived.Test.YtcnlllamldlnmaaOwn
namespace Go.Proofs.Ytcnlllamldlnmaa
open Go.RowKit Ba Cv Sp Te Ag
namespace Tm
set_option linter.unusedVariables false

/-- The terms' box. -/
structure TX (w W : World) (s : Sp) (r : Ri) (A : Option Addr) (n c : Nat) : Prop where
  b : Below w.heap.size w W
  x : Bx W w.heap.size 30 (tc s r A n c)
theorem TX.next {w W W' : World} {s : Sp} {r : Ri} {A : Option Addr} {n c : Nat} (h : TX w W s r A n c) (hb : Below W.heap.size W W') : TX w W' s r A n c := ⟨h.b.trans (hb.mono h.b.size), h.x.keep hb⟩
theorem TX.start (w : World) (s : Sp) (r : Ri) (A : Option Addr) (n c : Nat) : TX w (w.alloc (.cells (tc s r A n c) 30)) s r A n c := ⟨alloc_ _ _, Bx.new _ _ _⟩

set_option maxRecDepth 100000 in
set_option maxHeartbeats 2000000 in
theorem binds_ (id bk : Int) (s : Sp) (r : Ri) (A : Option Addr) (n c : Nat) (cs : List Co) (w : World) (hS : Cvs w (· < w.heap.size) A n cs) (hm : n ≤ maxLen) : Calls Try.prog 33 #[.int .i64 id, .int .i64 bk, tg s r A n c] w (Yes w (bnd id bk s r cs)) := by
  obtain ⟨W, hW⟩ : ∃ W, w.alloc (.cells (tc s r A n c) 30) = W := ⟨_, rfl⟩
  have H0 := Lib.hid (show TX w W s r A n c by rw [← hW]; exact TX.start w s r A n c)
  have HW := Lib.hid hW
  clear hW
  have CD := fun n w => Lib.hid (isDay n w)
  have CT := Lib.hid (right_ s r A n c cs W (hS.below H0.out.b) hm)
  unfold bnd
  generalize te s r cs = q at CT ⊢
  clear hS hm
  have hx := H0.out.x
  have x0 := hx.c 0
  have x1 := hx.c 1
  have x2 := hx.c 2
  have x3 := hx.c 3
  have x4 := hx.c 4
  have x5 := hx.c 5
  have x6 := hx.c 6
  simp at x0 x1 x2 x3 x4 x5 x6
  clear hx
  by_cases h1 : 1 ≤ id
  · have t1 : decide (1 ≤ id) = true := decide_eq_true h1
    by_cases h2 : id ≤ 1000000000
    · have t2 : decide (id ≤ 1000000000) = true := decide_eq_true h2
      rw [wi_iff.2 ⟨h1, h2⟩]
      clear h1 h2
      cases hd : day bk
      · go_enter Try.func33, Try.ntmps33
        go_wp2_with (go_at_call 27; refine (CD _ _).out.mono ?_; rintro e w' ⟨rfl, rfl⟩)
        go_ret
        exact ⟨rfl, alloc_ _ _⟩
      · rw [Bool.true_and, Bool.true_and]
        go_enter Try.func33, Try.ntmps33
        go_wp2_with (first
          | (go_at_call 27; rw [HW.out]; refine (CD _ _).out.mono ?_; rintro e w' ⟨rfl, rfl⟩)
          | (go_at_call 49; refine CT.out.mono ?_; rintro e w1 ⟨rfl, hb1⟩; have H1 := Lib.hid (H0.out.next hb1); clear hb1))
        go_ret
        exact ⟨rfl, H1.out.b⟩
    · have t2 : decide (id ≤ 1000000000) = false := decide_eq_false h2
      rw [wi_no (by omega)]
      clear h1 h2
      go_enter Try.func33, Try.ntmps33
      go_wp2_with fail
      go_ret
      exact ⟨rfl, alloc_ _ _⟩
  · have t1 : decide (1 ≤ id) = false := decide_eq_false h1
    rw [wi_no (by omega)]
    clear h1
    go_enter Try.func33, Try.ntmps33
    go_wp2_with fail
    go_ret
    exact ⟨rfl, alloc_ _ _⟩

/-- A history told, in memory of the call's own, and a code. -/
structure Res (w : World) (v : Hi) (w' : World) (h : Hr) : Prop where
  v : h.v = v
  m : HM w' (fun b => w.heap.size ≤ b ∧ b < w'.heap.size) h
  s : HS h
  b : Below w.heap.size w w'
def Gives (w : World) (v : Hi) (code : Int) (e : Ending) (w' : World) : Prop := ∃ h, e = .returned (.tuple #[hg h, .int .i64 code]) ∧ Res w v w' h
theorem Res.zero {w W : World} {p : Nat} (hb : Below w.heap.size w W) (hp : w.heap.size ≤ p) (l : List Value) : Res w zhi (sets p 0 l W) zhr := ⟨rfl, zhr_mean _ _, zhr_sm, sets_below l hp 0 W hb⟩
theorem Ows.smalls {w w' : World} {h h' : Hr} (H : Ows w h w' h') (S : HS h) : HS h' :=
  ⟨by rw [H.n]; exact S.n, by rw [H.m]; exact S.m, H.kn, H.r.fits.2, H.r.fits.1⟩
/-- What own gave, stored into a box that was there. -/
theorem Res.own {w W w1 : World} {p : Nat} {h h' : Hr} {v : Hi} (hb : Below w.heap.size w W) (hp : w.heap.size ≤ p) (hlt : p < W.heap.size) (H : Ows W h w1 h') (S : HS h) (hv : h.v = v) (l : List Value) : Res w v (sets p 0 l w1) h' := by
  have hs := hb.size
  have keep : ∀ (q : Addr), W.heap.size ≤ q.block → (sets p 0 l w1).cell? q = w1.cell? q := fun q hq => sets_other l (by omega) 0 w1
  have hsz := sets_size (b := p) l 0 w1
  have kk : ∀ {A : Option Addr} {n : Nat} {cs : List Co} {f : Nat → Prop}, Cvs w1 (fun b => W.heap.size ≤ b ∧ b < w1.heap.size ∧ f b) A n cs → Cvs (sets p 0 l w1) (fun b => w.heap.size ≤ b ∧ b < (sets p 0 l w1).heap.size) A n cs := fun C =>
    C.keep (fun q hq => keep q hq.1) fun b hb => ⟨by omega, by rw [hsz]; exact hb.2.1⟩
  refine ⟨H.v.trans hv, ⟨kk H.t, ?_, fun r hr => kk (H.k r hr)⟩, H.smalls S, sets_below l hp 0 w1 (hb.trans (H.b.mono hs))⟩
  exact H.r.raws.keep (fun q hq => keep q hq.1) fun b hb => ⟨by omega, by rw [hsz]; exact hb.2⟩

/-- The terms' box, and the result's. -/
structure BX (w W : World) (s : Sp) (r : Ri) (A : Option Addr) (n c : Nat) : Prop where
  t : TX w W s r A n c
  y : Bx W (w.heap.size + 1) 33 zhc
theorem BX.next {w W W' : World} {s : Sp} {r : Ri} {A : Option Addr} {n c : Nat} (h : BX w W s r A n c) (hb : Below W.heap.size W W') : BX w W' s r A n c := ⟨h.t.next hb, h.y.keep hb⟩
theorem BX.start (w : World) (s : Sp) (r : Ri) (A : Option Addr) (n c : Nat) : BX w ((w.alloc (.cells (tc s r A n c) 30)).alloc (.cells zhc 33)) s r A n c := by
  refine ⟨(TX.start w s r A n c).next (alloc_ _ _), ?_⟩
  have := Bx.new (w.alloc (.cells (tc s r A n c) 30)) 33 zhc
  rw [World.size_alloc] at this
  exact this
/-- What Bind tells. -/
def bco (id bk : Int) (s : Sp) (r : Ri) (cs : List Co) : Int := if bnd id bk s r cs = true then 0 else 1
def bhi (id bk : Int) (s : Sp) (r : Ri) (cs : List Co) : Hi := if bnd id bk s r cs = true then ⟨id, bk, s, r, cs, []⟩ else zhi

set_option maxRecDepth 100000 in
set_option maxHeartbeats 4000000 in
theorem bind_ (id bk : Int) (s : Sp) (r : Ri) (A : Option Addr) (n c : Nat) (cs : List Co) (w : World) (hS : Cvs w (· < w.heap.size) A n cs) (hm : n ≤ 3000) : Calls Try.prog 16 #[.int .i64 id, .int .i64 bk, tg s r A n c] w (Gives w (bhi id bk s r cs) (bco id bk s r cs)) := by
  obtain ⟨W, hW⟩ : ∃ W, (w.alloc (.cells (tc s r A n c) 30)).alloc (.cells zhc 33) = W := ⟨_, rfl⟩
  have H0 := Lib.hid (show BX w W s r A n c by rw [← hW]; exact BX.start w s r A n c)
  have HW := Lib.hid hW
  clear hW
  have CB := Lib.hid (binds_ id bk s r A n c cs W (hS.below H0.out.t.b) (by unfold maxLen; omega))
  have HS0 := Lib.hid (And.intro hS hm)
  have hx := H0.out.t.x
  have x0 := hx.c 0
  have x1 := hx.c 1
  have x2 := hx.c 2
  have x3 := hx.c 3
  have x4 := hx.c 4
  have x5 := hx.c 5
  have x6 := hx.c 6
  simp at x0 x1 x2 x3 x4 x5 x6
  clear hx
  clear hS hm
  cases hbn : bnd id bk s r cs
  · rw [hbn] at CB
    rw [show bhi id bk s r cs = zhi by unfold bhi; rw [hbn]; rfl, show bco id bk s r cs = 1 by unfold bco; rw [hbn]; rfl]
    clear hbn
    go_enter Try.func16, Try.ntmps16
    go_wp2_with fail
    rw [HW.out]
    clear HW
    refine CB.out.mono ?_
    rintro e w1 ⟨rfl, hb1⟩
    have H1 := Lib.hid (H0.out.next hb1)
    have hy := H1.out.y
    have y0 := hy.c 0
    have y1 := hy.c 1
    have y2 := hy.c 2
    have y3 := hy.c 3
    have y4 := hy.c 4
    have y5 := hy.c 5
    have y6 := hy.c 6
    have y7 := hy.c 7
    have y8 := hy.c 8
    have y9 := hy.c 9
    simp at y0 y1 y2 y3 y4 y5 y6 y7 y8 y9
    have fy0 := hy.f 0
    have fy1 := hy.f 1
    have fy2 := hy.f 2
    have fy3 := hy.f 3
    have fy4 := hy.f 4
    have fy5 := hy.f 5
    have fy6 := hy.f 6
    have fy7 := hy.f 7
    have fy8 := hy.f 8
    have fy9 := hy.f 9
    have hly := hy.lt
    clear hb1 hy
    go_wp2
    change bodyPost _ _ _ _ _ (puth (w.heap.size + 1) zhr w1)
    have hz := (show Bx w1 (w.heap.size + 1) 33 (hc zhr) from H1.out.y).puth zhr
    have z0 := hz.c 0
    have z1 := hz.c 1
    have z2 := hz.c 2
    have z3 := hz.c 3
    have z4 := hz.c 4
    have z5 := hz.c 5
    have z6 := hz.c 6
    have z7 := hz.c 7
    have z8 := hz.c 8
    have z9 := hz.c 9
    simp at z0 z1 z2 z3 z4 z5 z6 z7 z8 z9
    exact bodyPost_ret (v := .tuple #[hg zhr, .int .i64 1]) (by simp [results, Try.results16, go_sem, z0, z1, z2, z3, z4, z5, z6, z7, z8, z9]) rfl ⟨zhr, rfl, Res.zero H1.out.t.b (by omega) _⟩
  · rw [hbn] at CB
    rw [show bhi id bk s r cs = ⟨id, bk, s, r, cs, []⟩ by unfold bhi; rw [hbn]; rfl, show bco id bk s r cs = 0 by unfold bco; rw [hbn]; rfl]
    clear hbn
    obtain ⟨h0, hh0⟩ : ∃ h0 : Hr, h0 = ⟨id, bk, s, r, A, n, c, cs, none, 0, 0, []⟩ := ⟨_, rfl⟩
    have HSM := Lib.hid (show HS h0 from by subst hh0; exact ⟨HS0.out.2, Nat.zero_le _, (fun r h => by cases h), fun _ => ⟨rfl, rfl⟩, Nat.le_refl _⟩)
    have HV := Lib.hid (show h0.v = ⟨id, bk, s, r, cs, []⟩ from by subst hh0; rfl)
    have HG := Lib.hid (show (.agg #[.int .i64 id, .int .i64 bk, .int .i64 s.1, .int .i64 s.2, .int .i64 r.k, .int .i64 r.v, .int .i64 r.a, .int .i64 r.z, .slice A n c, .slice none 0 0] : Value) = hg h0 from by subst hh0; rfl)
    go_enter Try.func16, Try.ntmps16
    go_wp2_with fail
    rw [HW.out]
    clear HW
    refine CB.out.mono ?_
    rintro e w1 ⟨rfl, hb1⟩
    have H1 := Lib.hid (H0.out.next hb1)
    have hx := H1.out.t.x
    have u0 := hx.c 0
    have u1 := hx.c 1
    have u2 := hx.c 2
    have u3 := hx.c 3
    have u4 := hx.c 4
    have u5 := hx.c 5
    have u6 := hx.c 6
    simp at u0 u1 u2 u3 u4 u5 u6
    clear hb1 hx H0 x0 x1 x2 x3 x4 x5 x6
    go_wp2_with fail
    rw [HG.out]
    refine (own_ h0 w1 (by subst hh0; exact ⟨HS0.out.1.below H1.out.t.b, Raws.nil, fun r h => by cases h⟩) HSM.out).mono ?_
    rintro e w2 ⟨k, rfl, hk⟩
    have HO := Lib.hid hk
    have H2 := Lib.hid (H1.out.next hk.b)
    have hy := H2.out.y
    have y0 := hy.c 0
    have y1 := hy.c 1
    have y2 := hy.c 2
    have y3 := hy.c 3
    have y4 := hy.c 4
    have y5 := hy.c 5
    have y6 := hy.c 6
    have y7 := hy.c 7
    have y8 := hy.c 8
    have y9 := hy.c 9
    simp at y0 y1 y2 y3 y4 y5 y6 y7 y8 y9
    have fy0 := hy.f 0
    have fy1 := hy.f 1
    have fy2 := hy.f 2
    have fy3 := hy.f 3
    have fy4 := hy.f 4
    have fy5 := hy.f 5
    have fy6 := hy.f 6
    have fy7 := hy.f 7
    have fy8 := hy.f 8
    have fy9 := hy.f 9
    have hly := hy.lt
    clear hk hy hh0
    go_wp2
    change bodyPost _ _ _ _ _ (puth (w.heap.size + 1) k w2)
    have hz := (show Bx w2 (w.heap.size + 1) 33 (hc zhr) from H2.out.y).puth k
    have z0 := hz.c 0
    have z1 := hz.c 1
    have z2 := hz.c 2
    have z3 := hz.c 3
    have z4 := hz.c 4
    have z5 := hz.c 5
    have z6 := hz.c 6
    have z7 := hz.c 7
    have z8 := hz.c 8
    have z9 := hz.c 9
    simp at z0 z1 z2 z3 z4 z5 z6 z7 z8 z9
    exact bodyPost_ret (v := .tuple #[hg k, .int .i64 0]) (by simp [results, Try.results16, go_sem, z0, z1, z2, z3, z4, z5, z6, z7, z8, z9]) rfl ⟨k, rfl, Res.own H1.out.t.b (by omega) H1.out.y.lt HO.out HSM.out HV.out _⟩

end Tm
end Go.Proofs.Ytcnlllamldlnmaa
