/-
  plain and alive of the laws: alive answers true. Conditions: none.
-/
import Derived.Test.YtcnlllamldlnmaaOrder
import Derived.Test.YtcnlllamldlnmaaHist
namespace Go.Proofs.Ytcnlllamldlnmaa
open Go.RowKit Ba Cv Sp Te Ag
namespace Tm
set_option linter.unusedVariables false

abbrev co1 : Co := ⟨1, 10, 10, 0, 10000⟩
abbrev ri1 : Ri := ⟨0, 5, 0, 0⟩
def PlainTo (w : World) (e : Ending) (w' : World) : Prop := ∃ A, e = .returned (tg (10, 30) ri1 A 1 1) ∧ Cvs w' (fun b => w.heap.size ≤ b ∧ b < w'.heap.size) A 1 [co1] ∧ Below w.heap.size w w'
theorem cvs_one {w : World} {b : Nat} {c : Co} (h : Bx w b 68 (cc c)) (ok : Nat → Prop) (hb : ok b) : Cvs w ok (some ⟨b, 0, none⟩) 1 [c] := by
  refine ⟨rfl, fun _ => ⟨_, rfl, hb, fun j x hj => ?_⟩⟩
  match j, hj with
  | 0, hj => simp at hj; subst hj; rw [Addr.add_lit]; exact ⟨h.c 0, h.c 1, h.c 2, h.c 3, h.c 4⟩
set_option maxRecDepth 100000 in
set_option maxHeartbeats 2000000 in
theorem plain11 (w : World) : Calls Try.prog 25 #[] w (PlainTo w) := by
  obtain ⟨W, hW⟩ : ∃ W, (w.alloc (.cells (tc (10, 30) ri1 (some ⟨w.heap.size + 1, 0, none⟩) 1 1) 30)).alloc (.cells (cc co1) 68) = W := ⟨_, rfl⟩
  have hb : Below w.heap.size w W := hW ▸ (alloc_ _ _).alloc (by simp) _
  have hx : Bx W w.heap.size 30 (tc (10, 30) ri1 (some ⟨w.heap.size + 1, 0, none⟩) 1 1) := hW ▸ (Bx.new _ _ _).alloc _
  have hy : Bx W (w.heap.size + 1) 68 (cc co1) := by
    have := Bx.new (w.alloc (.cells (tc (10, 30) ri1 (some ⟨w.heap.size + 1, 0, none⟩) 1 1) 30)) 68 (cc co1)
    rw [World.size_alloc] at this
    rw [← hW]; exact this
  have HR := Lib.hid (show PlainTo w (.returned (tg (10, 30) ri1 (some ⟨w.heap.size + 1, 0, none⟩) 1 1)) W from ⟨_, rfl, cvs_one hy _ ⟨by omega, hy.lt⟩, hb⟩)
  have x0 := hx.c 0
  have x1 := hx.c 1
  have x2 := hx.c 2
  have x3 := hx.c 3
  have x4 := hx.c 4
  have x5 := hx.c 5
  have x6 := hx.c 6
  simp at x0 x1 x2 x3 x4 x5 x6
  have HX := Lib.hid (And.intro x0 (And.intro x1 (And.intro x2 (And.intro x3 (And.intro x4 (And.intro x5 x6))))))
  have HW := Lib.hid hW
  clear hx hy hb hW x0 x1 x2 x3 x4 x5 x6
  go_enter Try.func25, Try.ntmps25
  go_wp2
  change bodyPost _ _ _ _ _ ((w.alloc (.cells (tc (10, 30) ri1 (some ⟨w.heap.size + 1, 0, none⟩) 1 1) 30)).alloc (.cells (cc co1) 68))
  rw [HW.out]
  obtain ⟨x0, x1, x2, x3, x4, x5, x6⟩ := HX.out
  exact bodyPost_ret (v := tg (10, 30) ri1 (some ⟨w.heap.size + 1, 0, none⟩) 1 1) (by simp [results, Try.results25, go_sem, x0, x1, x2, x3, x4, x5, x6]) rfl HR.out

abbrev chA : Ch := ⟨6, 20, 3, zri, [], 0⟩
abbrev chB : Ch := ⟨8, 12, 4, zri, [], 0⟩
abbrev chC : Ch := ⟨7, 12, 4, zri, [], 0⟩
abbrev chD : Ch := ⟨9, 30, 4, zri, [], 0⟩
abbrev chE : Ch := ⟨1, 1, 1, zri, [], 0⟩
abbrev rwO (c : Ch) : Rw := ⟨c, none, 0, 0⟩
abbrev hiV (hs : List Ch) : Hi := ⟨7, 5, (10, 30), ri1, [co1], hs⟩
theorem kb1 : bhi 7 5 (10, 30) ri1 [co1] = hiV [] ∧ bco 7 5 (10, 30) ri1 [co1] = 0 := by
  have h : bnd 7 5 (10, 30) ri1 [co1] = true := by decide +kernel
  exact ⟨by unfold bhi; rw [h]; rfl, by unfold bco; rw [h]; rfl⟩
theorem kb2 : bhi 0 5 (10, 30) ri1 [co1] = zhi ∧ bco 0 5 (10, 30) ri1 [co1] = 1 := by
  have h : bnd 0 5 (10, 30) ri1 [co1] = false := by decide +kernel
  exact ⟨by unfold bhi; rw [h]; rfl, by unfold bco; rw [h]; rfl⟩
theorem kc1 : code (10, 30) 5 [] chA = 0 := by decide +kernel
theorem kc2 : code (10, 30) 5 [chA] chB = 0 := by decide +kernel
theorem kc3 : code (10, 30) 5 [chA, chB] chC = 4 := by decide +kernel
theorem kc4 : code (10, 30) 5 [chA, chB] chD = 1 := by decide +kernel
theorem kh1 : hst (hiV [chA, chB]) = true := by decide +kernel
theorem kh2 : hst zhi = false := by decide +kernel
theorem kr1 : rch chE = false := by decide +kernel
theorem ko {o : List Int} (h : Ag.Ord [chA, chB] o) : o = [1, 0] := by
  refine St.Good.one h ⟨?_, ?_⟩
  · show List.Perm [1, 0] [0, 1]
    exact List.Perm.swap 0 1 []
  · show List.Pairwise _ [1, 0]
    rw [List.pairwise_cons]
    refine ⟨fun y hy => ?_, List.pairwise_singleton _ _⟩
    simp at hy
    subst hy
    exact .inl (by decide +kernel)
/-- Put of a known history. -/
theorem put_is {h : Hr} {w : World} (M : HM w (· < w.heap.size) h) (S : HS h) {hs : List Ch} (hv : h.v = hiV hs) (c : Ch) (hc : c.cs = []) (cd : Int) (hcd : code (10, 30) 5 hs c = cd) (v : Hi) (hph : (if cd = 0 then hiV (hs ++ [c]) else zhi) = v) :
    Calls Try.prog 19 #[hg h, vg (rwO c)] w (Gives w v cd) := by
  have := put_ h (rwO c) w M S (by show Cvs _ _ none 0 c.cs; rw [hc]; exact Cvs.nil) (Nat.zero_le _)
  have e1 : phi h.v c = v := by
    rw [hv]; unfold phi
    show (if code (10, 30) 5 hs c = 0 then _ else _) = v
    rw [hcd]; exact hph
  have e2 : code h.s h.bk h.v.hs c = cd := by
    show code h.v.s h.v.bk h.v.hs c = cd
    rw [hv]; exact hcd
  rwa [show phi h.v (rwO c).v = v from e1, show code h.s h.bk h.v.hs (rwO c).v = cd from e2] at this
/-- The history in its box. -/
structure AB (w W : World) (p : Nat) (h : Hr) (hs : List Ch) : Prop where
  b : Below w.heap.size w W
  x : Bx W p 33 (hc h)
  m : HM W (fun b => b < W.heap.size ∧ b ≠ p) h
  s : HS h
  lo : w.heap.size ≤ p
  v : h.v = hiV hs
section
variable {w W W' : World} {p : Nat} {h h' : Hr} {hs hs' : List Ch}
theorem AB.next (H : AB w W p h hs) (hb : Below W.heap.size W W') : AB w W' p h hs :=
  ⟨H.b.trans (hb.mono H.b.size), H.x.keep hb, H.m.keep (fun q hq => hb.cell hq.1) fun b hb' => ⟨Nat.lt_of_lt_of_le hb'.1 hb.size, hb'.2⟩, H.s, H.lo, H.v⟩
theorem AB.mm (H : AB w W p h hs) : HM W (· < W.heap.size) h := H.m.keep (fun _ _ => rfl) fun b hb => hb.1
theorem AB.start {v : Hi} (hb : Below w.heap.size w W) (R : Res W (hiV hs) W' h) : AB w (W'.alloc (.cells (hc h) 33)) W'.heap.size h hs :=
  ⟨(hb.trans (R.b.mono hb.size)).alloc (Nat.le_trans hb.size R.b.size) _, Bx.new _ _ _, R.m.keep (fun q hq => (alloc_ W' (.cells (hc h) 33)).cell hq.2) fun b hb' => ⟨by simp; omega, by omega⟩, R.s, Nat.le_trans hb.size R.b.size, R.v⟩
theorem AB.put (H : AB w W p h hs) (R : Res W (hiV hs') W' h') : AB w (puth p h' W') p h' hs' := by
  have hlt := H.x.lt
  have H' := H.next R.b
  have hsz : (puth p h' W').heap.size = W'.heap.size := sets_size _ 0 W'
  exact ⟨sets_below _ H.lo 0 W' H'.b, H'.x.puth h', R.m.keep (fun q hq => sets_other _ (by omega) 0 W') fun b hb => ⟨by rw [hsz]; exact hb.2, by omega⟩, R.s, H.lo, R.v⟩
end

set_option maxRecDepth 100000 in
set_option maxHeartbeats 8000000 in
theorem alive11 (w : World) : Calls Try.prog 11 #[] w (Yes w true) := by
  go_enter Try.func11, Try.ntmps11
  go_wp2_with fail
  refine (plain11 w).mono ?_
  rintro e w1 ⟨A1, rfl, hc1, hb1⟩
  have HB1 := Lib.hid hb1
  have HC1 := Lib.hid hc1
  clear hb1 hc1
  go_wp2_with fail
  refine (bind_ 7 5 (10, 30) ri1 A1 1 1 [co1] w1 (HC1.out.keep (fun _ _ => rfl) fun b hb => hb.2) (by decide)).mono ?_
  rw [kb1.1, kb1.2]
  rintro e w2 ⟨h1, rfl, hr1⟩
  have H1 := Lib.hid (AB.start (v := zhi) HB1.out hr1)
  clear hr1 HC1 HB1
  go_upto_region 2 with (fail)
  obtain ⟨W2, hW2⟩ : ∃ W2, w2.alloc (.cells (hc h1) 33) = W2 := ⟨_, rfl⟩
  obtain ⟨p, hp⟩ : ∃ p, w2.heap.size = p := ⟨_, rfl⟩
  rw [hW2] at H1 ⊢
  rw [hp] at H1 ⊢
  clear hW2 hp
  have hx := H1.out.x
  have x0 := hx.c 0
  have x1 := hx.c 1
  have x2 := hx.c 2
  have x3 := hx.c 3
  have x4 := hx.c 4
  have x5 := hx.c 5
  have x6 := hx.c 6
  have x7 := hx.c 7
  have x8 := hx.c 8
  have x9 := hx.c 9
  simp at x0 x1 x2 x3 x4 x5 x6 x7 x8 x9
  have hlx := hx.lt
  clear hx
  go_wp2_with fail
  refine (put_is H1.out.mm H1.out.s H1.out.v chA rfl 0 kc1 (hiV [chA]) rfl).mono ?_
  rintro e w3 ⟨h2, rfl, hr2⟩
  have H2' := Lib.hid (H1.out.next hr2.b)
  have H2 := Lib.hid (H1.out.put hr2)
  clear hr2 H1
  clear x0 x1 x2 x3 x4 x5 x6 x7 x8 x9 hlx
  have hx := H2'.out.x
  have x0 := hx.c 0
  have x1 := hx.c 1
  have x2 := hx.c 2
  have x3 := hx.c 3
  have x4 := hx.c 4
  have x5 := hx.c 5
  have x6 := hx.c 6
  have x7 := hx.c 7
  have x8 := hx.c 8
  have x9 := hx.c 9
  simp at x0 x1 x2 x3 x4 x5 x6 x7 x8 x9
  have fx0 := hx.f 0
  have fx1 := hx.f 1
  have fx2 := hx.f 2
  have fx3 := hx.f 3
  have fx4 := hx.f 4
  have fx5 := hx.f 5
  have fx6 := hx.f 6
  have fx7 := hx.f 7
  have fx8 := hx.f 8
  have fx9 := hx.f 9
  have hlx := hx.lt
  clear hx
  go_upto_region 3 with (fail)
  change Code.wp _ _ _ _ (puth p h2 w3)
  obtain ⟨W3, hW3⟩ : ∃ W3, puth p h2 w3 = W3 := ⟨_, rfl⟩
  rw [hW3] at H2 ⊢
  clear x0 x1 x2 x3 x4 x5 x6 x7 x8 x9 fx0 fx1 fx2 fx3 fx4 fx5 fx6 fx7 fx8 fx9 hlx
  clear H2' hW3
  have hx := H2.out.x
  have x0 := hx.c 0
  have x1 := hx.c 1
  have x2 := hx.c 2
  have x3 := hx.c 3
  have x4 := hx.c 4
  have x5 := hx.c 5
  have x6 := hx.c 6
  have x7 := hx.c 7
  have x8 := hx.c 8
  have x9 := hx.c 9
  simp at x0 x1 x2 x3 x4 x5 x6 x7 x8 x9
  have hlx := hx.lt
  clear hx
  go_wp2_with fail
  refine (put_is H2.out.mm H2.out.s H2.out.v chB rfl 0 kc2 (hiV [chA, chB]) rfl).mono ?_
  rintro e w4 ⟨h3, rfl, hr3⟩
  have H3' := Lib.hid (H2.out.next hr3.b)
  have H3 := Lib.hid (H2.out.put hr3)
  clear hr3 H2
  clear x0 x1 x2 x3 x4 x5 x6 x7 x8 x9 hlx
  have hx := H3'.out.x
  have x0 := hx.c 0
  have x1 := hx.c 1
  have x2 := hx.c 2
  have x3 := hx.c 3
  have x4 := hx.c 4
  have x5 := hx.c 5
  have x6 := hx.c 6
  have x7 := hx.c 7
  have x8 := hx.c 8
  have x9 := hx.c 9
  simp at x0 x1 x2 x3 x4 x5 x6 x7 x8 x9
  have fx0 := hx.f 0
  have fx1 := hx.f 1
  have fx2 := hx.f 2
  have fx3 := hx.f 3
  have fx4 := hx.f 4
  have fx5 := hx.f 5
  have fx6 := hx.f 6
  have fx7 := hx.f 7
  have fx8 := hx.f 8
  have fx9 := hx.f 9
  have hlx := hx.lt
  clear hx
  go_upto_region 4 with (fail)
  change Code.wp _ _ _ _ (puth p h3 w4)
  obtain ⟨W4, hW4⟩ : ∃ W4, puth p h3 w4 = W4 := ⟨_, rfl⟩
  rw [hW4] at H3 ⊢
  clear x0 x1 x2 x3 x4 x5 x6 x7 x8 x9 fx0 fx1 fx2 fx3 fx4 fx5 fx6 fx7 fx8 fx9 hlx
  clear H3' hW4
  have hx := H3.out.x
  have x0 := hx.c 0
  have x1 := hx.c 1
  have x2 := hx.c 2
  have x3 := hx.c 3
  have x4 := hx.c 4
  have x5 := hx.c 5
  have x6 := hx.c 6
  have x7 := hx.c 7
  have x8 := hx.c 8
  have x9 := hx.c 9
  simp at x0 x1 x2 x3 x4 x5 x6 x7 x8 x9
  have hlx := hx.lt
  clear hx
  go_wp2_with fail
  refine (put_is H3.out.mm H3.out.s H3.out.v chC rfl 4 kc3 zhi rfl).mono ?_
  rintro e w5 ⟨h4, rfl, hr4⟩
  have H5 := Lib.hid ((H3.out.next hr4.b).next (alloc_ w5 (.cells (hc h4) 33)))
  clear hr4 H3
  clear x0 x1 x2 x3 x4 x5 x6 x7 x8 x9 hlx
  have hx := H5.out.x
  have x0 := hx.c 0
  have x1 := hx.c 1
  have x2 := hx.c 2
  have x3 := hx.c 3
  have x4 := hx.c 4
  have x5 := hx.c 5
  have x6 := hx.c 6
  have x7 := hx.c 7
  have x8 := hx.c 8
  have x9 := hx.c 9
  simp at x0 x1 x2 x3 x4 x5 x6 x7 x8 x9
  have hlx := hx.lt
  clear hx
  go_wp2_with fail
  refine (put_is H5.out.mm H5.out.s H5.out.v chD rfl 1 kc4 zhi rfl).mono ?_
  rintro e w6 ⟨h5, rfl, hr5⟩
  have H6 := Lib.hid ((H5.out.next hr5.b).next (alloc_ w6 (.cells (hc h5) 33)))
  clear hr5 H5
  clear x0 x1 x2 x3 x4 x5 x6 x7 x8 x9 hlx
  go_wp2_with fail
  refine (plain11 _).mono ?_
  rintro e w7 ⟨A2, rfl, hc7, hb7⟩
  have H7 := Lib.hid (H6.out.next hb7)
  have HC7 := Lib.hid hc7
  clear hb7 hc7 H6
  go_wp2_with fail
  refine (bind_ 0 5 (10, 30) ri1 A2 1 1 [co1] w7 (HC7.out.keep (fun _ _ => rfl) fun b hb => hb.2) (by decide)).mono ?_
  rw [kb2.1, kb2.2]
  rintro e w8 ⟨h6, rfl, hr6⟩
  have H8 := Lib.hid ((H7.out.next hr6.b).next (alloc_ w8 (.cells (hc h6) 33)))
  clear hr6 H7 HC7
  have hx := H8.out.x
  have x0 := hx.c 0
  have x1 := hx.c 1
  have x2 := hx.c 2
  have x3 := hx.c 3
  have x4 := hx.c 4
  have x5 := hx.c 5
  have x6 := hx.c 6
  have x7 := hx.c 7
  have x8 := hx.c 8
  have x9 := hx.c 9
  simp at x0 x1 x2 x3 x4 x5 x6 x7 x8 x9
  have hlx := hx.lt
  clear hx
  have hm8 := (show h3.m = 2 from by have := H8.out.mm.len; rw [H8.out.v] at this; exact this.symm)
  have HM8 := Lib.hid hm8
  clear hm8
  go_wp2_with fail
  refine (order_ h3 _ H8.out.mm (by rw [HM8.out]; decide)).mono ?_
  rintro e w9 ⟨A3, c3, o, rfl, hi9, ho9, hb9⟩
  have H9 := Lib.hid (H8.out.next hb9)
  have ho := ko (by have := ho9; rw [H8.out.v] at this; exact this)
  subst ho
  obtain ⟨ad, z, hA3, hbk, hz, hc0⟩ := hi9.get (k := 0) (by rw [HM8.out]; decide)
  simp at hz
  subst hz
  subst hA3
  clear hi9 ho9 hb9 H8
  clear x0 x1 x2 x3 x4 x5 x6 x7 x8 x9 hlx
  have hm2 : (h3.m : Int) = 2 := by rw [HM8.out]; rfl
  have hx := H9.out.x
  have x0 := hx.c 0
  have x1 := hx.c 1
  have x2 := hx.c 2
  have x3 := hx.c 3
  have x4 := hx.c 4
  have x5 := hx.c 5
  have x6 := hx.c 6
  have x7 := hx.c 7
  have x8 := hx.c 8
  have x9 := hx.c 9
  simp at x0 x1 x2 x3 x4 x5 x6 x7 x8 x9
  have hlx := hx.lt
  clear hx
  have hc0' : w9.cell? ad = some (.int .i64 1) := by simpa [Addr.add] using hc0
  have hz0 : (0 : Int) < (h3.m : Int) := by rw [hm2]; decide
  clear hc0
  go_wp2_with fail
  refine (history_ h3 w9 H9.out.mm H9.out.s).mono ?_
  rw [H9.out.v, kh1]
  rintro e w10 ⟨rfl, hb10⟩
  have H10 := Lib.hid (H9.out.next hb10)
  clear hb10 H9
  go_wp2_with fail
  refine (history_ zhr w10 (zhr_mean _ _) zhr_sm).mono ?_
  rw [zhr_v, kh2]
  rintro e w11 ⟨rfl, hb11⟩
  have H11 := Lib.hid (H10.out.next hb11)
  clear hb11 H10
  go_wp2_with fail
  refine (right0 (rwO chE) w11 Cvs.nil (Nat.zero_le _)).mono ?_
  rw [show rch (rwO chE).v = false from kr1]
  rintro e w12 ⟨rfl, hb12⟩
  have H12 := Lib.hid (H11.out.next hb12)
  clear hb12 H11
  go_wp2
  go_ret
  exact ⟨rfl, H12.out.b⟩

end Tm
end Go.Proofs.Ytcnlllamldlnmaa
