/-
  The document's History. Conditions: the history reads as meant, its lists are short.
-/
import Derived.Test.YtcnlllamldlnmaaHist
namespace Go.Proofs.Ytcnlllamldlnmaa
open Go.RowKit Ba Cv Sp Te Ag
namespace Tm
set_option linter.unusedVariables false

set_option maxRecDepth 100000 in
set_option maxHeartbeats 8000000 in
theorem rhistory_ (h : Hr) (w : World) (M : HM w (· < w.heap.size) h) (S : HS h) : Calls Try.prog 15 #[hg h] w (Yes w (hst h.v)) := by
  obtain ⟨W, hW⟩ : ∃ W, w.alloc (.cells (hc h) 33) = W := ⟨_, rfl⟩
  have H0 := Lib.hid (show HX w W h by rw [← hW]; exact HX.start w h)
  have HW := Lib.hid hW
  have HM0 := Lib.hid M
  have HSS := Lib.hid S
  have CB := Lib.hid (rbind_ h.id h.bk h.s h.r h.A h.n h.c h.cs W (M.t.below H0.out.b) S.n)
  obtain ⟨R, hR⟩ : ∃ R, hst h.v = R := ⟨_, rfl⟩
  rw [hR]
  have HR := Lib.hid (show (bnd h.id h.bk h.s h.r h.cs && steps h.s h.bk h.v.hs) = R from hR)
  have hmm := S.m
  clear hW M S hR
  have hx := H0.out.x
  have x0 := hx.c 0
  have x1 := hx.c 1
  have x2 := hx.c 2
  have x3 := hx.c 3
  have x4 := hx.c 4
  have x5 := hx.c 5
  have x6 := hx.c 6
  have x7 := hx.c 7
  have x8 := hx.c 8
  have x9 := hx.c 9
  simp at x0 x1 x2 x3 x4 x5 x6 x7 x8 x9
  have hlx := hx.lt
  clear hx
  obtain ⟨bc, hbc⟩ : ∃ bc, bco h.id h.bk h.s h.r h.cs = bc := ⟨_, rfl⟩
  rw [hbc] at CB
  by_cases hb0 : bnd h.id h.bk h.s h.r h.cs = true
  · have hbc0 : bc = 0 := by rw [← hbc]; unfold bco; rw [if_pos hb0]
    subst hbc0
    have HR2 := Lib.hid (show steps h.s h.bk h.v.hs = R by rw [← HR.out, hb0]; rfl)
    have t0 : decide (2000 < (h.m : Int)) = false := decide_eq_false (by omega)
    have t0n : decide (2000 < h.m) = false := decide_eq_false (by omega)
    clear hb0 hbc HR
    go_enter Try.func15, Try.ntmps15
    go_wp2_with fail
    rw [HW.out]
    clear HW
    refine CB.out.mono ?_
    rintro e w1 ⟨k, rfl, hk⟩
    have H1 := Lib.hid ((H0.out.next hk.b).next (alloc_ w1 (.cells (hc k) 33)))
    clear hk H0 x0 x1 x2 x3 x4 x5 x6 x7 x8 x9 CB hlx
    have x9 := H1.out.x.c 9
    have x1 := H1.out.x.c 1
    simp at x9 x1
    go_wp2
    obtain ⟨w2, hw2⟩ : ∃ w2, w1.alloc (.cells (hc k) 33) = w2 := ⟨_, rfl⟩
    rw [hw2] at H1 ⊢
    clear hw2 x9 x1
    go_loopw [5, 6] (fun vl vi w' => ∃ (i : Nat) (l : Int) (W : World), i ≤ h.m ∧ vl = .int .i64 l ∧ vi = .int .i64 (i : Int) ∧ W = w' ∧ Hid (HX w W h ∧ steps h.s l (h.v.hs.drop i) = R)) (fun _ vi _ => h.m - (intOf vi).toNat)
    case atStart => exact ⟨0, h.bk, w2, Nat.zero_le _, rfl, rfl, rfl, Lib.hid ⟨H1.out, HR2.out⟩⟩
    case round =>
      obtain ⟨i, l, W1, him, rfl, rfl, rfl, HK⟩ := hrel
      clear H1 HR2
      have hx := HK.out.1.x
      have x0 := hx.c 0
      have x1 := hx.c 1
      have x2 := hx.c 2
      have x3 := hx.c 3
      have x4 := hx.c 4
      have x5 := hx.c 5
      have x6 := hx.c 6
      have x7 := hx.c 7
      have x8 := hx.c 8
      have x9 := hx.c 9
      simp at x0 x1 x2 x3 x4 x5 x6 x7 x8 x9
      have hlx := hx.lt
      clear hx
      by_cases hlt : i < h.m
      · obtain ⟨hH, hst⟩ := HK.out
        have hMW := HM0.out.below hH.b
        obtain ⟨ad, r, hB, hb, hr, hn, hcv, hv⟩ := hMW.get hlt
        rw [hB] at x9
        obtain ⟨W2, hW2⟩ : ∃ W2, W1.alloc (.cells (vc r) 26) = W2 := ⟨_, rfl⟩
        have hb2 : Below W1.heap.size W1 W2 := hW2 ▸ alloc_ _ _
        have H2 := Lib.hid (hH.next hb2)
        have HY := Lib.hid (show Bx W2 W1.heap.size 26 (vc r) from hW2 ▸ Bx.new W1 26 (vc r))
        have C1 := Lib.hid (rright11 r W2 (hcv.below hb2) (by have := HSS.out.k r (List.mem_of_getElem? hr); unfold maxLen; omega))
        have C2 := fun w => Lib.hid (rspan_in h.s r.v.dy w)
        have HST := Lib.hid (show ((rch r.v && inn h.s r.v.dy) && (decide (l ≤ r.v.bk) && steps h.s r.v.bk (h.v.hs.drop (i + 1)))) = R by rw [← steps_get hv]; exact hst)
        have HLT := Lib.hid hlt
        obtain ⟨c0, c1', c2', c3', c4', c5', c6', c7', c8'⟩ := hn
        have hlt2 : (i : Int) < (h.m : Int) := by omega
        have HW2 := Lib.hid hW2
        have hq := HY.out
        have q0 := hq.c 0
        have q1 := hq.c 1
        have q2 := hq.c 2
        have q3 := hq.c 3
        have q4 := hq.c 4
        have q5 := hq.c 5
        have q6 := hq.c 6
        have q7 := hq.c 7
        have q8 := hq.c 8
        simp at q0 q1 q2 q3 q4 q5 q6 q7 q8
        have hlq := hq.lt
        clear hr hv hcv hMW hst hH HK hb2 hW2 hB hlt hq
        cases hq1 : rch r.v
        · rw [hq1] at C1
          have HQ := Lib.hid (show R = false by rw [← HST.out, hq1]; rfl)
          clear hq1
          go_wp2_with fail
          rw [HW2.out]
          refine C1.out.mono ?_
          rintro e w3 ⟨rfl, hb3⟩
          have H3 := Lib.hid (H2.out.next hb3)
          clear hb3
          go_wp2
          go_ret
          exact ⟨by rw [HQ.out]; rfl, H3.out.b⟩
        rw [hq1] at C1
        cases hq2 : inn h.s r.v.dy
        · have HQ := Lib.hid (show R = false by rw [← HST.out, hq2]; simp)
          rw [hq2] at C2
          clear hq1 hq2
          go_wp2_with fail
          rw [HW2.out]
          refine C1.out.mono ?_
          rintro e w3 ⟨rfl, hb3⟩
          have H3 := Lib.hid (H2.out.next hb3)
          have HY3 := Lib.hid (HY.out.keep hb3)
          have hx3 := H3.out.x
          have x2' := hx3.c 2
          have x3' := hx3.c 3
          have q1' := HY3.out.c 1
          simp at x2' x3' q1'
          clear hb3 hx3 C1
          go_wp2_with fail
          refine (C2 _).out.mono ?_
          rintro e w4 ⟨rfl, hb4⟩
          have H4 := Lib.hid (H3.out.next hb4)
          clear x2' x3' q1'
          clear hb4
          go_wp2
          go_ret
          exact ⟨by rw [HQ.out]; rfl, H4.out.b⟩
        rw [hq2] at C2
        by_cases hq3 : r.v.bk < l
        · have t1 : decide (r.v.bk < l) = true := decide_eq_true hq3
          have HQ := Lib.hid (show R = false by rw [← HST.out, decide_eq_false (by omega : ¬ l ≤ r.v.bk)]; simp)
          clear hq1 hq2 hq3
          go_wp2_with fail
          rw [HW2.out]
          refine C1.out.mono ?_
          rintro e w3 ⟨rfl, hb3⟩
          have H3 := Lib.hid (H2.out.next hb3)
          have HY3 := Lib.hid (HY.out.keep hb3)
          have hx3 := H3.out.x
          have x2' := hx3.c 2
          have x3' := hx3.c 3
          have q1' := HY3.out.c 1
          simp at x2' x3' q1'
          clear hb3 hx3 C1
          go_wp2_with fail
          refine (C2 _).out.mono ?_
          rintro e w4 ⟨rfl, hb4⟩
          have H4 := Lib.hid (H3.out.next hb4)
          clear x2' x3' q1'
          have q0 := (HY3.out.keep hb4).c 0
          simp at q0
          clear hb4
          go_wp2
          go_ret
          exact ⟨by rw [HQ.out]; rfl, H4.out.b⟩
        · have t1 : decide (r.v.bk < l) = false := decide_eq_false hq3
          have HS4 := Lib.hid (show steps h.s r.v.bk (h.v.hs.drop (i + 1)) = R by rw [← HST.out, hq1, hq2, decide_eq_true (by omega : l ≤ r.v.bk)]; rfl)
          clear hq1 hq2 hq3
          go_wp2_with fail
          rw [HW2.out]
          refine C1.out.mono ?_
          rintro e w3 ⟨rfl, hb3⟩
          have H3 := Lib.hid (H2.out.next hb3)
          have HY3 := Lib.hid (HY.out.keep hb3)
          have hx3 := H3.out.x
          have x2' := hx3.c 2
          have x3' := hx3.c 3
          have q1' := HY3.out.c 1
          simp at x2' x3' q1'
          clear hb3 hx3 C1
          go_wp2_with fail
          refine (C2 _).out.mono ?_
          rintro e w4 ⟨rfl, hb4⟩
          have H4 := Lib.hid (H3.out.next hb4)
          clear x2' x3' q1'
          have q0 := (HY3.out.keep hb4).c 0
          simp at q0
          clear hb4
          go_wp2
          go_roundw
          case rel => exact ⟨i + 1, r.v.bk, w4, by have := HLT.out; omega, rfl, by go_num, rfl, Lib.hid ⟨H4.out, HS4.out⟩⟩
          case measure => have := HLT.out; simp [intOf]; omega
      · obtain rfl : i = h.m := by omega
        have HQ := Lib.hid (show R = true by rw [← HK.out.2]; exact steps_end (by rw [HM0.out.len]; exact Nat.le_refl _))
        have hge : ¬ ((h.m : Nat) : Int) < (h.m : Int) := by omega
        clear hlt
        go_wp2
        go_ret
        exact ⟨by rw [HQ.out]; rfl, HK.out.1.b⟩
  · have hbc0 : bc = 1 := by rw [← hbc]; unfold bco; rw [if_neg hb0]
    subst hbc0
    have HQ := Lib.hid (show R = false by rw [← HR.out, eq_false_of_ne_true hb0]; rfl)
    clear hb0 hbc HR
    go_enter Try.func15, Try.ntmps15
    go_wp2_with fail
    rw [HW.out]
    clear HW
    refine CB.out.mono ?_
    rintro e w1 ⟨k, rfl, hk⟩
    have H1 := Lib.hid ((H0.out.next hk.b).next (alloc_ w1 (.cells (hc k) 33)))
    clear hk H0 x0 x1 x2 x3 x4 x5 x6 x7 x8 x9 CB hlx
    go_wp2
    go_ret
    exact ⟨by rw [HQ.out]; rfl, H1.out.b⟩

end Tm
end Go.Proofs.Ytcnlllamldlnmaa
