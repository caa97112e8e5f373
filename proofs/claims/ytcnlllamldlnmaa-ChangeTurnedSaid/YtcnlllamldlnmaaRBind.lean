/-
  The document's Bind. Conditions: the covers read as a list, that is short.
-/
import Derived.Test.YtcnlllamldlnmaaBind
import Derived.Test.YtcnlllamldlnmaaRRight11
namespace Go.Proofs.Ytcnlllamldlnmaa
open Go.RowKit Ba Cv Sp Te Ag
namespace Tm
set_option linter.unusedVariables false

/-- A history told, and a code. -/
structure Re0 (w : World) (v : Hi) (w' : World) (h : Hr) : Prop where
  v : h.v = v
  m : HM w' (· < w'.heap.size) h
  s : HS h
  b : Below w.heap.size w w'
def Give0 (w : World) (v : Hi) (code : Int) (e : Ending) (w' : World) : Prop := ∃ h, e = .returned (.tuple #[hg h, .int .i64 code]) ∧ Re0 w v w' h
theorem Res.re0 {w w' : World} {v : Hi} {h : Hr} (H : Res w v w' h) : Re0 w v w' h := ⟨H.v, H.m.keep (fun _ _ => rfl) fun b hb => hb.2, H.s, H.b⟩
theorem Gives.give0 {w w' : World} {v : Hi} {code : Int} {e : Ending} (H : Gives w v code e w') : Give0 w v code e w' := by
  obtain ⟨h, e, r⟩ := H
  exact ⟨h, e, r.re0⟩
theorem Re0.old {w W : World} {p : Nat} {h : Hr} {v : Hi} (hb : Below w.heap.size w W) (hp : w.heap.size ≤ p) (M : HM w (· < w.heap.size) h) (S : HS h) (hv : h.v = v) (l : List Value) : Re0 w v (sets p 0 l W) h :=
  ⟨hv, M.below (sets_below l hp 0 W hb), S, sets_below l hp 0 W hb⟩

set_option maxRecDepth 100000 in
set_option maxHeartbeats 4000000 in
theorem rbind_ (id bk : Int) (s : Sp) (r : Ri) (A : Option Addr) (n c : Nat) (cs : List Co) (w : World) (hS : Cvs w (· < w.heap.size) A n cs) (hm : n ≤ 3000) : Calls Try.prog 17 #[.int .i64 id, .int .i64 bk, tg s r A n c] w (Give0 w (bhi id bk s r cs) (bco id bk s r cs)) := by
  obtain ⟨W, hW⟩ : ∃ W, (w.alloc (.cells (tc s r A n c) 30)).alloc (.cells zhc 33) = W := ⟨_, rfl⟩
  have H0 := Lib.hid (show BX w W s r A n c by rw [← hW]; exact BX.start w s r A n c)
  have HW := Lib.hid hW
  clear hW
  have CT := Lib.hid (rright_ s r A n c cs W (hS.below H0.out.t.b) (by unfold maxLen; omega))
  have HS0 := Lib.hid (And.intro hS hm)
  have hx := H0.out.t.x
  have x0 := hx.c 0
  have x1 := hx.c 1
  have x2 := hx.c 2
  have x3 := hx.c 3
  have x4 := hx.c 4
  have x5 := hx.c 5
  have x6 := hx.c 6
  simp at x0 x1 x2 x3 x4 x5 x6
  clear hx
  have ZZ : Hid (Re0 w zhi W zhr) := Lib.hid ⟨rfl, zhr_mean _ _, zhr_sm, H0.out.t.b⟩
  have hz := (show Bx W (w.heap.size + 1) 33 (hc zhr) from H0.out.y)
  have z0 := hz.c 0
  have z1 := hz.c 1
  have z2 := hz.c 2
  have z3 := hz.c 3
  have z4 := hz.c 4
  have z5 := hz.c 5
  have z6 := hz.c 6
  have z7 := hz.c 7
  have z8 := hz.c 8
  have z9 := hz.c 9
  simp at z0 z1 z2 z3 z4 z5 z6 z7 z8 z9
  have HZ := Lib.hid (And.intro z0 (And.intro z1 (And.intro z2 (And.intro z3 (And.intro z4 (And.intro z5 (And.intro z6 (And.intro z7 (And.intro z8 z9)))))))))
  clear z0 z1 z2 z3 z4 z5 z6 z7 z8 z9 hz hS hm
  have no : bnd id bk s r cs = false → Hid (bhi id bk s r cs = zhi ∧ bco id bk s r cs = 1) := fun h => Lib.hid ⟨by unfold bhi; rw [h]; rfl, by unfold bco; rw [h]; rfl⟩
  have HNO := Lib.hid no
  clear no
  by_cases h1 : id < 1
  · have t1 : decide (id < 1) = true := decide_eq_true h1
    obtain ⟨n1, n2⟩ := (HNO.out (by unfold bnd; rw [wi_no (by omega)]; rfl)).out
    rw [n1, n2]
    clear n1 n2 h1 
    go_enter Try.func17, Try.ntmps17
    go_wp2_with fail
    rw [HW.out]
    obtain ⟨z0, z1, z2, z3, z4, z5, z6, z7, z8, z9⟩ := HZ.out
    exact bodyPost_ret (v := .tuple #[hg zhr, .int .i64 1]) (by simp [results, Try.results17, go_sem, z0, z1, z2, z3, z4, z5, z6, z7, z8, z9]) rfl ⟨zhr, rfl, ZZ.out⟩
  have t1 : decide (id < 1) = false := decide_eq_false h1
  by_cases h2 : 1000000000 < id
  · have t2 : decide (1000000000 < id) = true := decide_eq_true h2
    obtain ⟨n1, n2⟩ := (HNO.out (by unfold bnd; rw [wi_no (by omega)]; rfl)).out
    rw [n1, n2]
    clear n1 n2 h2 h1
    go_enter Try.func17, Try.ntmps17
    go_wp2_with fail
    rw [HW.out]
    obtain ⟨z0, z1, z2, z3, z4, z5, z6, z7, z8, z9⟩ := HZ.out
    exact bodyPost_ret (v := .tuple #[hg zhr, .int .i64 1]) (by simp [results, Try.results17, go_sem, z0, z1, z2, z3, z4, z5, z6, z7, z8, z9]) rfl ⟨zhr, rfl, ZZ.out⟩
  have t2 : decide (1000000000 < id) = false := decide_eq_false h2
  by_cases h3 : bk < 1
  · have t3 : decide (bk < 1) = true := decide_eq_true h3
    obtain ⟨n1, n2⟩ := (HNO.out (by unfold bnd; rw [show day bk = false from wi_no (by omega)]; simp)).out
    rw [n1, n2]
    clear n1 n2 h3 h1 h2
    go_enter Try.func17, Try.ntmps17
    go_wp2_with fail
    rw [HW.out]
    obtain ⟨z0, z1, z2, z3, z4, z5, z6, z7, z8, z9⟩ := HZ.out
    exact bodyPost_ret (v := .tuple #[hg zhr, .int .i64 1]) (by simp [results, Try.results17, go_sem, z0, z1, z2, z3, z4, z5, z6, z7, z8, z9]) rfl ⟨zhr, rfl, ZZ.out⟩
  have t3 : decide (bk < 1) = false := decide_eq_false h3
  by_cases h4 : 292194 < bk
  · have t4 : decide (292194 < bk) = true := decide_eq_true h4
    obtain ⟨n1, n2⟩ := (HNO.out (by unfold bnd; rw [show day bk = false from wi_no (by omega)]; simp)).out
    rw [n1, n2]
    clear n1 n2 h4 h1 h2 h3
    go_enter Try.func17, Try.ntmps17
    go_wp2_with fail
    rw [HW.out]
    obtain ⟨z0, z1, z2, z3, z4, z5, z6, z7, z8, z9⟩ := HZ.out
    exact bodyPost_ret (v := .tuple #[hg zhr, .int .i64 1]) (by simp [results, Try.results17, go_sem, z0, z1, z2, z3, z4, z5, z6, z7, z8, z9]) rfl ⟨zhr, rfl, ZZ.out⟩
  have t4 : decide (292194 < bk) = false := decide_eq_false h4
  have hbn : bnd id bk s r cs = te s r cs := by unfold bnd; rw [wi_iff.2 ⟨by omega, by omega⟩, show day bk = true from wi_iff.2 ⟨by omega, by omega⟩]; rfl
  clear h1 h2 h3 h4
  cases hte : te s r cs
  · rw [hte] at CT hbn
    obtain ⟨n1, n2⟩ := (HNO.out hbn).out
    rw [n1, n2]
    clear n1 n2 hbn hte
    go_enter Try.func17, Try.ntmps17
    go_wp2_with fail
    rw [HW.out]
    clear HW
    refine CT.out.mono ?_
    rintro e w1 ⟨rfl, hb1⟩
    have H1 := Lib.hid (H0.out.next hb1)
    have hy := H1.out.y
    have y0 := hy.c 0
    have y1 := hy.c 1
    have y2 := hy.c 2
    have y3 := hy.c 3
    have y4 := hy.c 4
    have y5 := hy.c 5
    have y6 := hy.c 6
    have y7 := hy.c 7
    have y8 := hy.c 8
    have y9 := hy.c 9
    simp at y0 y1 y2 y3 y4 y5 y6 y7 y8 y9
    have fy0 := hy.f 0
    have fy1 := hy.f 1
    have fy2 := hy.f 2
    have fy3 := hy.f 3
    have fy4 := hy.f 4
    have fy5 := hy.f 5
    have fy6 := hy.f 6
    have fy7 := hy.f 7
    have fy8 := hy.f 8
    have fy9 := hy.f 9
    have hly := hy.lt
    clear hb1 hy
    go_wp2
    change bodyPost _ _ _ _ _ (puth (w.heap.size + 1) zhr w1)
    have hz := (show Bx w1 (w.heap.size + 1) 33 (hc zhr) from H1.out.y).puth zhr
    have z0 := hz.c 0
    have z1 := hz.c 1
    have z2 := hz.c 2
    have z3 := hz.c 3
    have z4 := hz.c 4
    have z5 := hz.c 5
    have z6 := hz.c 6
    have z7 := hz.c 7
    have z8 := hz.c 8
    have z9 := hz.c 9
    simp at z0 z1 z2 z3 z4 z5 z6 z7 z8 z9
    exact bodyPost_ret (v := .tuple #[hg zhr, .int .i64 1]) (by simp [results, Try.results17, go_sem, z0, z1, z2, z3, z4, z5, z6, z7, z8, z9]) rfl ⟨zhr, rfl, (Res.zero H1.out.t.b (by omega) _).re0⟩
  · rw [hte] at CT hbn
    rw [show bhi id bk s r cs = ⟨id, bk, s, r, cs, []⟩ by unfold bhi; rw [hbn]; rfl, show bco id bk s r cs = 0 by unfold bco; rw [hbn]; rfl]
    clear hbn hte
    obtain ⟨h0, hh0⟩ : ∃ h0 : Hr, h0 = ⟨id, bk, s, r, A, n, c, cs, none, 0, 0, []⟩ := ⟨_, rfl⟩
    have HSM := Lib.hid (show HS h0 from by subst hh0; exact ⟨HS0.out.2, Nat.zero_le _, (fun r h => by cases h), fun _ => ⟨rfl, rfl⟩, Nat.le_refl _⟩)
    have HV := Lib.hid (show h0.v = ⟨id, bk, s, r, cs, []⟩ from by subst hh0; rfl)
    go_enter Try.func17, Try.ntmps17
    go_wp2_with fail
    rw [HW.out]
    clear HW
    refine CT.out.mono ?_
    rintro e w1 ⟨rfl, hb1⟩
    have H1 := Lib.hid (H0.out.next hb1)
    have hx := H1.out.t.x
    have u0 := hx.c 0
    have u1 := hx.c 1
    have u2 := hx.c 2
    have u3 := hx.c 3
    have u4 := hx.c 4
    have u5 := hx.c 5
    have u6 := hx.c 6
    simp at u0 u1 u2 u3 u4 u5 u6
    have hy := H1.out.y
    have y0 := hy.c 0
    have y1 := hy.c 1
    have y2 := hy.c 2
    have y3 := hy.c 3
    have y4 := hy.c 4
    have y5 := hy.c 5
    have y6 := hy.c 6
    have y7 := hy.c 7
    have y8 := hy.c 8
    have y9 := hy.c 9
    simp at y0 y1 y2 y3 y4 y5 y6 y7 y8 y9
    have fy0 := hy.f 0
    have fy1 := hy.f 1
    have fy2 := hy.f 2
    have fy3 := hy.f 3
    have fy4 := hy.f 4
    have fy5 := hy.f 5
    have fy6 := hy.f 6
    have fy7 := hy.f 7
    have fy8 := hy.f 8
    have fy9 := hy.f 9
    have hly := hy.lt
    clear hb1 hy hx H0 x0 x1 x2 x3 x4 x5 x6
    go_wp2
    subst hh0
    change bodyPost _ _ _ _ _ (puth (w.heap.size + 1) ⟨id, bk, s, r, A, n, c, cs, none, 0, 0, []⟩ w1)
    have hz := (show Bx w1 (w.heap.size + 1) 33 (hc zhr) from H1.out.y).puth ⟨id, bk, s, r, A, n, c, cs, none, 0, 0, []⟩
    have z0 := hz.c 0
    have z1 := hz.c 1
    have z2 := hz.c 2
    have z3 := hz.c 3
    have z4 := hz.c 4
    have z5 := hz.c 5
    have z6 := hz.c 6
    have z7 := hz.c 7
    have z8 := hz.c 8
    have z9 := hz.c 9
    simp at z0 z1 z2 z3 z4 z5 z6 z7 z8 z9
    exact bodyPost_ret (v := .tuple #[hg ⟨id, bk, s, r, A, n, c, cs, none, 0, 0, []⟩, .int .i64 0]) (by simp [results, Try.results17, go_sem, z0, z1, z2, z3, z4, z5, z6, z7, z8, z9]) rfl ⟨_, rfl, Re0.old H1.out.t.b (by omega) ⟨HS0.out.1, Raws.nil, fun r h => by cases h⟩ HSM.out HV.out _⟩

end Tm
end Go.Proofs.Ytcnlllamldlnmaa
