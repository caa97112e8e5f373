/-
  The statement ChangeMade holds: for every input the call returns true, and each argument reads afterwards as it read before. Conditions: none beside those that the row itself bears.
-/
import Derived.Test.YtcnlllamldlnmaaLaws
namespace Go.Proofs.Ytcnlllamldlnmaa.changeMade
open Go.ChangeShapes Go.WideShapes Go.ChangeAt Go.RowKit Ba Cv Sp Te St Ag Tm
set_option linter.unusedVariables false

theorem steps_take {s : Sp} : ∀ (hs : List Ch) (b : Int) (k : Nat), steps s b hs = true → steps s b (hs.take k) = true := by
  intro hs
  induction hs with
  | nil => intro b k h; simp [steps]
  | cons c l ih =>
    intro b k h
    match k with
    | 0 => simp [steps]
    | k + 1 =>
      rw [List.take_succ_cons]
      simp only [steps, Bool.and_eq_true] at h ⊢
      exact ⟨h.1, h.2.1, ih _ _ h.2.2⟩
/-- A history in a box that is stored into. -/
structure AV (w W : World) (p : Nat) (a : Hr) (v : Hi) : Prop where
  b : Below w.heap.size w W
  x : Bx W p 33 (hc a)
  m : HM W (fun b => b < W.heap.size ∧ b ≠ p) a
  s : HS a
  lo : w.heap.size ≤ p
  v : a.v = v
section
variable {w W W' : World} {p : Nat} {a a' : Hr} {v v' : Hi}
theorem AV.next (H : AV w W p a v) (hb : Below W.heap.size W W') : AV w W' p a v :=
  ⟨H.b.trans (hb.mono H.b.size), H.x.keep hb, H.m.keep (fun q hq => hb.cell hq.1) fun b hb' => ⟨Nat.lt_of_lt_of_le hb'.1 hb.size, hb'.2⟩, H.s, H.lo, H.v⟩
theorem AV.mm (H : AV w W p a v) : HM W (· < W.heap.size) a := H.m.keep (fun _ _ => rfl) fun b hb => hb.1
theorem AV.start (hb : Below w.heap.size w W) (R : Res W v W' a) : AV w (W'.alloc (.cells (hc a) 33)) W'.heap.size a v :=
  ⟨(hb.trans (R.b.mono hb.size)).alloc (Nat.le_trans hb.size R.b.size) _, Bx.new _ _ _, R.m.keep (fun q hq => (alloc_ W' (.cells (hc a) 33)).cell hq.2) fun b hb' => ⟨by simp; omega, by omega⟩, R.s, Nat.le_trans hb.size R.b.size, R.v⟩
theorem AV.put (H : AV w W p a v) (R : Res W v' W' a') : AV w (puth p a' W') p a' v' := by
  have hlt := H.x.lt
  have H' := H.next R.b
  have hsz : (puth p a' W').heap.size = W'.heap.size := sets_size _ 0 W'
  exact ⟨sets_below _ H.lo 0 W' H'.b, H'.x.puth a', R.m.keep (fun q hq => sets_other _ (by omega) 0 W') fun b hb => ⟨by rw [hsz]; exact hb.2, by omega⟩, R.s, H.lo, R.v⟩
end
theorem hx_sets {w W : World} {h : Hr} {p : Nat} (H : HX w W h) (hp : w.heap.size < p) (l : List Value) : HX w (sets p 0 l W) h := ⟨sets_below l (by omega) 0 W H.b, H.x.sets_far (by omega) l 0⟩
/-- Of a history that may be, what stands so far. -/
def sofar (h : Hr) (i : Nat) : Hi := ⟨h.id, h.bk, h.s, h.r, h.cs, h.v.hs.take i⟩
theorem sofar_hst {h : Hr} (H : hst h.v = true) (i : Nat) : hst (sofar h i) = true := by
  unfold hst at H
  rw [Bool.and_eq_true] at H
  show (bnd h.id h.bk h.s h.r h.cs && steps h.s h.bk (h.v.hs.take i)) = true
  rw [Bool.and_eq_true]
  exact ⟨H.1, steps_take _ _ _ H.2⟩
theorem sofar_all {h : Hr} {i : Nat} (hi : h.v.hs.length ≤ i) : sofar h i = h.v := by unfold sofar; rw [List.take_of_length_le hi]; rfl
theorem sofar_zero {h : Hr} (H : hst h.v = true) : bhi h.id h.bk h.s h.r h.cs = sofar h 0 ∧ bco h.id h.bk h.s h.r h.cs = 0 := by
  unfold hst at H
  rw [Bool.and_eq_true] at H
  have hb : bnd h.id h.bk h.s h.r h.cs = true := H.1
  exact ⟨by unfold bhi; rw [hb]; rfl, by unfold bco; rw [hb]; rfl⟩
theorem sofar_next {h : Hr} {i : Nat} {c : Ch} (hc : h.v.hs[i]? = some c) (hi : i < 2000) {v : Hi} (hv : v = sofar h i) (H : steps h.s (last h.bk (h.v.hs.take i)) (h.v.hs.drop i) = true) :
    phi v c = sofar h (i + 1) ∧ code v.s v.bk v.hs c = 0 ∧ steps h.s (last h.bk (h.v.hs.take (i + 1))) (h.v.hs.drop (i + 1)) = true := by
  subst hv
  rw [steps_code hc hi, Bool.and_eq_true] at H
  have hz : code h.s h.bk (h.v.hs.take i) c = 0 := of_decide_eq_true H.1
  refine ⟨?_, hz, ?_⟩
  · unfold phi
    show (if code h.s h.bk (h.v.hs.take i) c = 0 then _ else _) = _
    rw [if_pos hz]
    show (⟨h.id, h.bk, h.s, h.r, h.cs, h.v.hs.take i ++ [c]⟩ : Hi) = _
    unfold sofar
    rw [take_get hc]
  · exact H.2
/-- Within the loop. -/
structure LM (w W : World) (h : Hr) (p : Nat) (a : Hr) (i : Nat) : Prop where
  x : HX w W h
  a : AV w W p a (sofar h i)
  lo : w.heap.size < p
  st : steps h.s (last h.bk (h.v.hs.take i)) (h.v.hs.drop i) = true
theorem LM.next {w W W' : World} {h : Hr} {p : Nat} {a : Hr} {i : Nat} (H : LM w W h p a i) (hb : Below W.heap.size W W') : LM w W' h p a i := ⟨H.x.next hb, H.a.next hb, H.lo, H.st⟩
set_option maxRecDepth 100000 in
set_option maxHeartbeats 8000000 in
theorem walk {w : World} (h : Hr) (g : GivenH w h) : Calls Try.prog 6 #[hg h] w (Yes w true) := by
  obtain ⟨W, hW⟩ : ∃ W, w.alloc (.cells (hc h) 33) = W := ⟨_, rfl⟩
  have H0 := Lib.hid (show HX w W h by rw [← hW]; exact HX.start w h)
  have HW := Lib.hid hW
  have G := Lib.hid g
  obtain ⟨Bv, hBv⟩ : ∃ Bv, h.B = Bv := ⟨_, rfl⟩
  have HBv := Lib.hid hBv
  clear hW g hBv
  go_enter Try.func6, Try.ntmps6
  go_wp2_with fail
  rw [HW.out]
  clear HW
  refine (few_ h W (G.out.below H0.out.b)).mono ?_
  rintro e w1 ⟨q, rfl, hq, hb1⟩
  have H1 := Lib.hid (H0.out.next hb1)
  clear hb1 H0
  cases q
  · clear hq G HBv
    go_wp2_with fail
    refine (alive11 _).mono ?_
    rintro e w2 ⟨rfl, hb2⟩
    have H2 := Lib.hid (H1.out.next hb2)
    clear hb2
    go_wp2
    go_ret
    exact ⟨rfl, H2.out.b⟩
  obtain ⟨hm, hn, hk⟩ := hq rfl
  have HSm := Lib.hid (G.out.small (by omega) (by omega) fun r hr => Nat.le_trans (hk r hr) (by omega))
  clear hq hk hn
  have x0 := H1.out.x.c 0
  have x1 := H1.out.x.c 1
  have x2 := H1.out.x.c 2
  have x3 := H1.out.x.c 3
  have x4 := H1.out.x.c 4
  have x5 := H1.out.x.c 5
  have x6 := H1.out.x.c 6
  have x7 := H1.out.x.c 7
  have x8 := H1.out.x.c 8
  have x9 := H1.out.x.c 9
  simp at x0 x1 x2 x3 x4 x5 x6 x7 x8 x9
  have CHI := Lib.hid (history_ h w1 (G.out.M.below H1.out.b) HSm.out)
  obtain ⟨u, hu⟩ : ∃ u, hst h.v = u := ⟨_, rfl⟩
  rw [hu] at CHI
  have HU := Lib.hid hu
  clear hu
  go_wp2_with fail
  refine CHI.out.mono ?_
  rintro e w2 ⟨rfl, hb2⟩
  have H2 := Lib.hid (H1.out.next hb2)
  clear hb2 H1 CHI x0 x1 x2 x3 x4 x5 x6 x7 x8 x9
  cases u
  · clear G HBv HSm
    go_wp2_with fail
    refine (alive11 _).mono ?_
    rintro e w3 ⟨rfl, hb3⟩
    have H3 := Lib.hid (H2.out.next hb3)
    clear hb3
    go_wp2
    go_ret
    exact ⟨rfl, H3.out.b⟩
  have x0 := H2.out.x.c 0
  have x1 := H2.out.x.c 1
  have x2 := H2.out.x.c 2
  have x3 := H2.out.x.c 3
  have x4 := H2.out.x.c 4
  have x5 := H2.out.x.c 5
  have x6 := H2.out.x.c 6
  have x7 := H2.out.x.c 7
  have x8 := H2.out.x.c 8
  have x9 := H2.out.x.c 9
  simp at x0 x1 x2 x3 x4 x5 x6 x7 x8 x9
  have CB := Lib.hid (bind_ h.id h.bk h.s h.r h.A h.n h.c h.cs w2 (G.out.M.t.below H2.out.b) HSm.out.n)
  rw [(sofar_zero HU.out).1, (sofar_zero HU.out).2] at CB
  go_wp2_with fail
  refine CB.out.mono ?_
  rintro e w3 ⟨a, rfl, R⟩
  have H3 := Lib.hid (show LM w (w3.alloc (.cells (hc a) 33)) h w3.heap.size a 0 from
    ⟨H2.out.next (R.b.alloc R.b.size _), AV.start H2.out.b R, Nat.lt_of_lt_of_le H2.out.x.lt R.b.size, by
      have := HU.out
      unfold hst at this
      rw [Bool.and_eq_true] at this
      exact this.2⟩)
  clear R H2 CB x0 x1 x2 x3 x4 x5 x6 x7 x8 x9
  go_upto_region 4 with (fail)
  obtain ⟨W4, hW4⟩ : ∃ W4, w3.alloc (.cells (hc a) 33) = W4 := ⟨_, rfl⟩
  obtain ⟨p, hp⟩ : ∃ p, w3.heap.size = p := ⟨_, rfl⟩
  rw [hW4] at H3 ⊢
  rw [hp] at H3 ⊢
  clear hW4 hp
  have x0 := H3.out.x.x.c 0
  have x1 := H3.out.x.x.c 1
  have x2 := H3.out.x.x.c 2
  have x3 := H3.out.x.x.c 3
  have x4 := H3.out.x.x.c 4
  have x5 := H3.out.x.x.c 5
  have x6 := H3.out.x.x.c 6
  have x7 := H3.out.x.x.c 7
  have x8 := H3.out.x.x.c 8
  have x9 := H3.out.x.x.c 9
  simp at x0 x1 x2 x3 x4 x5 x6 x7 x8 x9
  rw [HBv.out] at x9
  go_wp2
  clear x0 x1 x2 x3 x4 x5 x6 x7 x8 x9
  go_loopw [4, 6, 29] (fun ve v6 vi w' => ∃ (i : Nat) (a : Hr) (W : World), i ≤ h.m ∧ ve = .int .i64 0 ∧ vi = .int .i64 (i : Int) ∧ W = w' ∧ Hid (LM w W h p a i)) (fun _ _ vi _ => h.m - (intOf vi).toNat)
  case atStart => exact ⟨0, a, W4, Nat.zero_le _, rfl, rfl, rfl, H3⟩
  case round =>
    clear H3
    obtain ⟨i, a, W1, him, rfl, rfl, rfl, HK⟩ := hrel
    by_cases hlt : i < h.m
    · obtain ⟨ad, r, hB, hb, hr, hn, hcv, hv⟩ := (G.out.M.below HK.out.x.b).get hlt
      have eB := HBv.out
      rw [hB] at eB
      subst eB
      obtain ⟨W2, hW2⟩ : ∃ W2, W1.alloc (.cells (vc r) 26) = W2 := ⟨_, rfl⟩
      have hb2 : Below W1.heap.size W1 W2 := hW2 ▸ alloc_ _ _
      have H2 := Lib.hid (HK.out.next hb2)
      have HY := Lib.hid (show Bx W2 W1.heap.size 26 (vc r) from hW2 ▸ Bx.new W1 26 (vc r))
      have HC2 := Lib.hid (hcv.below hb2)
      have HNX := Lib.hid (sofar_next hv (by omega) HK.out.a.v HK.out.st)
      have HRN := Lib.hid (HSm.out.k r (List.mem_of_getElem? hr))
      have HLT := Lib.hid hlt
      obtain ⟨c0, c1', c2', c3', c4', c5', c6', c7', c8'⟩ := hn
      have hlt2 : (i : Int) < (h.m : Int) := by omega
      have HW2 := Lib.hid hW2
      have CH2 := Lib.hid (history_ a W2 H2.out.a.mm H2.out.a.s)
      rw [H2.out.a.v, sofar_hst HU.out] at CH2
      have x0 := HK.out.a.x.c 0
      have x1 := HK.out.a.x.c 1
      have x2 := HK.out.a.x.c 2
      have x3 := HK.out.a.x.c 3
      have x4 := HK.out.a.x.c 4
      have x5 := HK.out.a.x.c 5
      have x6 := HK.out.a.x.c 6
      have x7 := HK.out.a.x.c 7
      have x8 := HK.out.a.x.c 8
      have x9 := HK.out.a.x.c 9
      simp at x0 x1 x2 x3 x4 x5 x6 x7 x8 x9
      have hlx := HK.out.a.x.lt
      clear hr hv hcv HK hb2 hW2 hB hlt hb
      go_upto_region 7 with (fail)
      rw [HW2.out]
      clear HW2 x0 x1 x2 x3 x4 x5 x6 x7 x8 x9 hlx c0 c1' c2' c3' c4' c5' c6' c7' c8'
      have x0 := H2.out.a.x.c 0
      have x1 := H2.out.a.x.c 1
      have x2 := H2.out.a.x.c 2
      have x3 := H2.out.a.x.c 3
      have x4 := H2.out.a.x.c 4
      have x5 := H2.out.a.x.c 5
      have x6 := H2.out.a.x.c 6
      have x7 := H2.out.a.x.c 7
      have x8 := H2.out.a.x.c 8
      have x9 := H2.out.a.x.c 9
      simp at x0 x1 x2 x3 x4 x5 x6 x7 x8 x9
      go_wp2_with fail
      refine CH2.out.mono ?_
      rintro e w5 ⟨rfl, hb5⟩
      have H5 := Lib.hid (H2.out.next hb5)
      have HY5 := Lib.hid (HY.out.keep hb5)
      have HC5 := Lib.hid (HC2.out.below hb5)
      clear hb5 CH2 H2 HY HC2 x0 x1 x2 x3 x4 x5 x6 x7 x8 x9
      have x0 := H5.out.a.x.c 0
      have x1 := H5.out.a.x.c 1
      have x2 := H5.out.a.x.c 2
      have x3 := H5.out.a.x.c 3
      have x4 := H5.out.a.x.c 4
      have x5 := H5.out.a.x.c 5
      have x6 := H5.out.a.x.c 6
      have x7 := H5.out.a.x.c 7
      have x8 := H5.out.a.x.c 8
      have x9 := H5.out.a.x.c 9
      simp at x0 x1 x2 x3 x4 x5 x6 x7 x8 x9
      have q0 := HY5.out.c 0
      have q1 := HY5.out.c 1
      have q2 := HY5.out.c 2
      have q3 := HY5.out.c 3
      have q4 := HY5.out.c 4
      have q5 := HY5.out.c 5
      have q6 := HY5.out.c 6
      have q7 := HY5.out.c 7
      have q8 := HY5.out.c 8
      simp at q0 q1 q2 q3 q4 q5 q6 q7 q8
      go_wp2_with fail
      have CP := put_ a r w5 H5.out.a.mm H5.out.a.s HC5.out HRN.out
      rw [HNX.out.1, show code a.s a.bk a.v.hs r.v = 0 from HNX.out.2.1] at CP
      refine CP.mono ?_
      rintro e w6 ⟨a', rfl, R⟩
      have H6 := Lib.hid (H5.out.next R.b)
      have H7 := Lib.hid (show LM w (puth p a' w6) h p a' (i + 1) from ⟨hx_sets H6.out.x H6.out.lo _, H5.out.a.put R, H5.out.lo, HNX.out.2.2⟩)
      clear R CP H5 HY5 HC5 HNX x0 x1 x2 x3 x4 x5 x6 x7 x8 x9 q0 q1 q2 q3 q4 q5 q6 q7 q8
      have x0 := H6.out.a.x.c 0
      have x1 := H6.out.a.x.c 1
      have x2 := H6.out.a.x.c 2
      have x3 := H6.out.a.x.c 3
      have x4 := H6.out.a.x.c 4
      have x5 := H6.out.a.x.c 5
      have x6 := H6.out.a.x.c 6
      have x7 := H6.out.a.x.c 7
      have x8 := H6.out.a.x.c 8
      have x9 := H6.out.a.x.c 9
      simp at x0 x1 x2 x3 x4 x5 x6 x7 x8 x9
      have fx0 := H6.out.a.x.f 0
      have fx1 := H6.out.a.x.f 1
      have fx2 := H6.out.a.x.f 2
      have fx3 := H6.out.a.x.f 3
      have fx4 := H6.out.a.x.f 4
      have fx5 := H6.out.a.x.f 5
      have fx6 := H6.out.a.x.f 6
      have fx7 := H6.out.a.x.f 7
      have fx8 := H6.out.a.x.f 8
      have fx9 := H6.out.a.x.f 9
      have hlx := H6.out.a.x.lt
      go_upto_region 10 with (fail)
      change Code.wp _ _ _ _ (puth p a' w6)
      obtain ⟨W7, hW7⟩ : ∃ W7, puth p a' w6 = W7 := ⟨_, rfl⟩
      rw [hW7] at H7 ⊢
      clear hW7 H6 x0 x1 x2 x3 x4 x5 x6 x7 x8 x9 fx0 fx1 fx2 fx3 fx4 fx5 fx6 fx7 fx8 fx9 hlx
      go_wp2
      go_roundw
      case rel => exact ⟨i + 1, a', _, by have := HLT.out; omega, rfl, by go_num, rfl, H7⟩
      case measure => have := HLT.out; simp [intOf]; omega
    · have HE := Lib.hid HK.out
      have HV := Lib.hid (show a.v = h.v from HK.out.a.v.trans (sofar_all (by rw [G.out.M.len]; omega)))
      clear HK
      go_wp2_with fail
      refine (alive11 _).mono ?_
      rintro e w3 ⟨rfl, hb3⟩
      have H3 := Lib.hid (HE.out.next hb3)
      clear hb3
      have x0 := H3.out.a.x.c 0
      have x1 := H3.out.a.x.c 1
      have x2 := H3.out.a.x.c 2
      have x3 := H3.out.a.x.c 3
      have x4 := H3.out.a.x.c 4
      have x5 := H3.out.a.x.c 5
      have x6 := H3.out.a.x.c 6
      have x7 := H3.out.a.x.c 7
      have x8 := H3.out.a.x.c 8
      have x9 := H3.out.a.x.c 9
      simp at x0 x1 x2 x3 x4 x5 x6 x7 x8 x9
      have y0 := H3.out.x.x.c 0
      have y1 := H3.out.x.x.c 1
      have y2 := H3.out.x.x.c 2
      have y3 := H3.out.x.x.c 3
      have y4 := H3.out.x.x.c 4
      have y5 := H3.out.x.x.c 5
      have y6 := H3.out.x.x.c 6
      have y7 := H3.out.x.x.c 7
      have y8 := H3.out.x.x.c 8
      have y9 := H3.out.x.x.c 9
      simp at y0 y1 y2 y3 y4 y5 y6 y7 y8 y9
      go_wp2_with fail
      refine (same_ a h w3 HV.out.symm H3.out.a.mm (G.out.M.below H3.out.x.b) H3.out.a.s.lens.1 H3.out.a.s.lens.2.1 H3.out.a.s.lens.2.2).mono ?_
      rintro e w4 ⟨rfl, hb4⟩
      have H4 := Lib.hid (H3.out.next hb4)
      clear hb4 H3 x0 x1 x2 x3 x4 x5 x6 x7 x8 x9 y0 y1 y2 y3 y4 y5 y6 y7 y8 y9
      go_wp2
      go_ret
      exact ⟨rfl, H4.out.x.b⟩

set_option maxRecDepth 100000 in
theorem lifted (os : Os) (started : os.Started) (H : Type) (enc : TypeId × Value → H) :
    ReturnsInHanded {} Try.checked os 6 .any (Rows.changeMadeSpec.pre6 enc Try.prog Try.f6 Rows.changeMadeRow.domain false) (Rows.changeMadeSpec.post enc Try.prog Try.f6 false true false false) := by
  refine returnsInHanded_of_change_sized (C := Try.checked) Tm.own started (by kernel_rfl) Try.func6
    (ChangeSpec.witness6 (enc := enc) (C := Try.checked) false ⟨#[], #[.agg #[.int .i64 0, .int .i64 0, .int .i64 0, .int .i64 0, .int .i64 0, .int .i64 0, .int .i64 0, .int .i64 0, .slice none 0 0, .slice none 0 0]], []⟩ 8 (by kernel_rfl) (by kernel_rfl) (by kernel_rfl) (by kernel_rfl)) ?_
  intro W base args ds gs before hval0 hW hcnd hsz0 _
  have hval : ∀ (j : Nat) t v, Try.f6.params[j]? = some t → args[j]? = some v → Value.okWide Try.prog W .any base t v := hval0
  have hW' := hW
  have hsz : (DataW.weightsEach Try.prog (Try.f6.params.toList ++ Rows.changeMadeSpec.plain.varTypes Try.prog) (ds ++ gs)).all (· ≤ reachBytes) = true := hsz0
  obtain ⟨p, q, hA0, hV, rfl, hfz, hnd⟩ := hW
  have hA : DataW.TrodAll enc Try.prog W 0 (fun _ => true) true Try.f6.params.toList args.toList ds p := hA0
  rw [Try.params6] at hA hval hsz
  obtain ⟨v0, vs0, d0, ds0, p0, q0, hargs, rfl, rfl, h0, r0⟩ := trodAll_cons hA
  obtain ⟨rfl, rfl, rfl⟩ := trodAll_nil r0
  obtain rfl : args = #[v0] := by cases args; simp_all
  obtain ⟨rfl, rfl⟩ := trodVars_none hV
  have k0 := h0
  have lt0 : ∀ x ∈ p0, x.block < W.heap.size := by obtain ⟨m, hm⟩ := k0; exact DataW.trod_lt m _ _ _ hm
  obtain ⟨y0, rfl, g0⟩ := Tm.open_history (hval 0 33 v0 rfl rfl) h0 (fun k hk => of_decide_eq_true (List.all_eq_true.1 hsz _ (DataW.weights_mem_each (j := 0) rfl rfl k hk)))
  clear hA0 hval0 hsz hsz0
  refine (walk y0 g0).mono fun e W' ⟨he, bel⟩ => ?_
  subst he
  exact ⟨_, rfl, _, _, _, [], _, [], hW', trodAll_mk1 (shut_bool Try.underlying4 _), (trodAll_cons_mk (Below.trod Tm.laidOut (by kernel_rfl) (of_decide_eq_true (by kernel_rfl)) k0 bel lt0) trodAll_mk0), rfl, bel.frame _, fun h => by cases h⟩

theorem over : Rows.changeMadeRow.holds Try.pinned (OpenSpec.ofChange Rows.changeMadeSpec) :=
  OpenClaim.holds_of_wide 6 Try.f6 rfl rfl rfl rfl rfl rfl rfl ⟨rfl, rfl, rfl, rfl, rfl⟩ rfl rfl rfl rfl rfl (by kernel_rfl) Try.func6 (by kernel_rfl)
    (of_decide_eq_true (by kernel_rfl)) (by unfold Func.isWrapper; first | (rw [if_pos (by decide +kernel)]; kernel_rfl) | (rw [if_neg (by decide +kernel)]; exact ⟨rfl, rfl⟩))
    (fun os started H enc _ => lifted os started H enc)

theorem proved : Rows.ChangeMadeSaid := over
end Go.Proofs.Ytcnlllamldlnmaa.changeMade
