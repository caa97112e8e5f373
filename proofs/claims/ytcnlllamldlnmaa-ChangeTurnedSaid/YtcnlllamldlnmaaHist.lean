/-
  History of package change. Conditions: the history reads as meant, its lists are short.
-/
import Derived.Test.YtcnlllamldlnmaaPut
namespace Go.Proofs.Ytcnlllamldlnmaa
open Go.RowKit Ba Cv Sp Te Ag
namespace Tm
set_option linter.unusedVariables false

def Hr.upto (h : Hr) (i : Nat) : Hr := ⟨h.id, h.bk, h.s, h.r, h.A, h.n, h.c, h.cs, h.B, i, h.d, h.rs.take i⟩
theorem HM.upto {w : World} {ok : Nat → Prop} {h : Hr} (M : HM w ok h) {i : Nat} (hi : i ≤ h.m) : HM w ok (h.upto i) := by
  refine ⟨M.t, ⟨by show (h.rs.take i).length = i; rw [List.length_take, M.r.1]; omega, fun hn => ?_⟩, fun r hr => M.k r (List.mem_of_mem_take hr)⟩
  obtain ⟨ad, e, hb, hc⟩ := M.r.2 (by have : 0 < i := hn; omega)
  refine ⟨ad, e, hb, fun j r hj => hc j r ?_⟩
  have hj' : (h.rs.take i)[j]? = some r := hj
  rw [List.getElem?_take] at hj'
  split at hj'
  · exact hj'
  · cases hj'
theorem upto_hs (h : Hr) (i : Nat) : (h.upto i).v.hs = h.v.hs.take i := by simp [Hr.v, Hr.upto]
/-- A change of the row, in a box of its own. -/
theorem nine_cells {w w' : World} {a : Addr} {r : Rw} (hn : Nin w a r) (hb : Below w.heap.size w w') (ha : a.block < w.heap.size) : Nin w' a r := hn.keep fun p hp => hb.cell (by rw [hp]; exact ha)

set_option maxRecDepth 100000 in
set_option maxHeartbeats 8000000 in
theorem history_ (h : Hr) (w : World) (M : HM w (· < w.heap.size) h) (S : HS h) : Calls Try.prog 14 #[hg h] w (Yes w (hst h.v)) := by
  obtain ⟨W, hW⟩ : ∃ W, w.alloc (.cells (hc h) 33) = W := ⟨_, rfl⟩
  have H0 := Lib.hid (show HX w W h by rw [← hW]; exact HX.start w h)
  have HW := Lib.hid hW
  have HM0 := Lib.hid M
  have HSS := Lib.hid S
  have CB := Lib.hid (binds_ h.id h.bk h.s h.r h.A h.n h.c h.cs W (M.t.below H0.out.b) (by have := S.n; unfold maxLen; omega))
  obtain ⟨R, hR⟩ : ∃ R, hst h.v = R := ⟨_, rfl⟩
  rw [hR]
  have HR := Lib.hid (show (bnd h.id h.bk h.s h.r h.cs && steps h.s h.bk h.v.hs) = R from hR)
  have hmm := S.m
  obtain ⟨Bv, hBv⟩ : ∃ Bv, h.B = Bv := ⟨_, rfl⟩
  have HBv := Lib.hid hBv
  clear hW M S hR hBv
  have hx := H0.out.x
  have x0 := hx.c 0
  have x1 := hx.c 1
  have x2 := hx.c 2
  have x3 := hx.c 3
  have x4 := hx.c 4
  have x5 := hx.c 5
  have x6 := hx.c 6
  have x7 := hx.c 7
  have x8 := hx.c 8
  have x9 := hx.c 9
  simp at x0 x1 x2 x3 x4 x5 x6 x7 x8 x9
  have hlx := hx.lt
  clear hx
  cases hbn : bnd h.id h.bk h.s h.r h.cs
  · have HQ := Lib.hid (show R = false by rw [← HR.out, hbn]; rfl)
    rw [hbn] at CB
    clear hbn
    go_enter Try.func14, Try.ntmps14
    go_wp2_with fail
    rw [HW.out]
    refine CB.out.mono ?_
    rintro e w1 ⟨rfl, hb1⟩
    have H1 := Lib.hid (H0.out.next hb1)
    clear hb1
    go_wp2
    go_ret
    exact ⟨by rw [HQ.out]; rfl, H1.out.b⟩
  · rw [hbn] at CB
    have HR2 := Lib.hid (show steps h.s h.bk h.v.hs = R by rw [← HR.out, hbn]; rfl)
    clear hbn HR
    go_enter Try.func14, Try.ntmps14
    go_wp2_with fail
    rw [HW.out]
    clear HW
    refine CB.out.mono ?_
    rintro e w1 ⟨rfl, hb1⟩
    have H1 := Lib.hid (H0.out.next hb1)
    clear hb1 H0 x0 x1 x2 x3 x4 x5 x6 x7 x8 x9 CB hlx
    have x9 := H1.out.x.c 9
    simp at x9
    rw [HBv.out] at x9
    go_wp2
    go_loopw [17] (fun vi w' => ∃ (i : Nat) (W : World), i ≤ h.m ∧ vi = .int .i64 (i : Int) ∧ W = w' ∧ Hid (HX w W h ∧ steps h.s (last h.bk (h.v.hs.take i)) (h.v.hs.drop i) = R)) (fun vi _ => h.m - (intOf vi).toNat)
    case atStart => exact ⟨0, w1, Nat.zero_le _, rfl, rfl, Lib.hid ⟨H1.out, HR2.out⟩⟩
    case round =>
      obtain ⟨i, W1, him, rfl, rfl, HK⟩ := hrel
      clear H1 x9 HR2
      by_cases hlt : i < h.m
      · obtain ⟨hH, hst⟩ := HK.out
        have hMW := HM0.out.below hH.b
        obtain ⟨ad, r, hB, hb, hr, hn, hcv, hv⟩ := hMW.get hlt
        obtain ⟨W2, hW2⟩ : ∃ W2, (W1.alloc (.cells (vc r) 26)).alloc (.cells (hc (h.upto i)) 33) = W2 := ⟨_, rfl⟩
        have hb2 : Below W1.heap.size W1 W2 := hW2 ▸ (alloc_ _ _).alloc (by simp) _
        have H2 := Lib.hid (hH.next hb2)
        have HP := Lib.hid (show Bx W2 (W1.heap.size + 1) 33 (hc (h.upto i)) from by
          have := Bx.new (W1.alloc (.cells (vc r) 26)) 33 (hc (h.upto i))
          rw [World.size_alloc] at this
          rw [← hW2]; exact this)
        have HY := Lib.hid (show Bx W2 W1.heap.size 26 (vc r) from hW2 ▸ (Bx.new W1 26 (vc r)).alloc _)
        obtain ⟨cd, hcd⟩ : ∃ cd, code h.s h.bk (h.v.hs.take i) r.v = cd := ⟨_, rfl⟩
        have C := Lib.hid (refusal (h.upto i) W2 (HM.below (hMW.upto him) hb2) (by show i ≤ 3000; omega) r (hcv.below hb2) (HSS.out.k r (List.mem_of_getElem? hr)))
        rw [upto_hs, show (h.upto i).s = h.s from rfl, show (h.upto i).bk = h.bk from rfl, hcd] at C
        have C := Lib.hid (show Calls Try.prog 34 #[.agg #[.int .i64 h.id, .int .i64 h.bk, .int .i64 h.s.1, .int .i64 h.s.2, .int .i64 h.r.k, .int .i64 h.r.v, .int .i64 h.r.a, .int .i64 h.r.z, .slice h.A h.n h.c, .slice (some ad) i h.d], vg r] W2 (fun e w' => e = .returned (.int .i64 cd) ∧ Below W2.heap.size W2 w') by rw [← hB]; exact C.out)
        have HST := Lib.hid (show (decide (cd = 0) && steps h.s (last h.bk (h.v.hs.take (i + 1))) (h.v.hs.drop (i + 1))) = R by rw [← hcd, ← steps_code hv (by omega)]; exact hst)
        have HLT := Lib.hid hlt
        obtain ⟨c0, c1', c2', c3', c4', c5', c6', c7', c8'⟩ := hn
        have hx := hH.x
        have x0 := hx.c 0
        have x1 := hx.c 1
        have x2 := hx.c 2
        have x3 := hx.c 3
        have x4 := hx.c 4
        have x5 := hx.c 5
        have x6 := hx.c 6
        have x7 := hx.c 7
        have x8 := hx.c 8
        have x9 := hx.c 9
        simp at x0 x1 x2 x3 x4 x5 x6 x7 x8 x9
        have hlx := hx.lt
        rw [hB] at x9
        have eB := HBv.out
        rw [hB] at eB
        subst eB
        have hlt2 : (i : Int) < (h.m : Int) := by omega
        have hle2 : (i : Int) ≤ (h.d : Int) := by have := HSS.out.f; omega
        have hlen : i ≤ h.d := by have := HSS.out.f; omega
        have HW2 := Lib.hid (show (W1.alloc (.cells (vc r) 26)).alloc (.cells #[.int .i64 h.id, .int .i64 h.bk, .int .i64 h.s.1, .int .i64 h.s.2, .int .i64 h.r.k, .int .i64 h.r.v, .int .i64 h.r.a, .int .i64 h.r.z, .slice h.A h.n h.c, .slice (some ad) i h.d] 33) = W2 by rw [← hW2]; show _ = (W1.alloc _).alloc (.cells #[.int .i64 h.id, .int .i64 h.bk, .int .i64 h.s.1, .int .i64 h.s.2, .int .i64 h.r.k, .int .i64 h.r.v, .int .i64 h.r.a, .int .i64 h.r.z, .slice h.A h.n h.c, .slice h.B i h.d] 33); rw [hB])
        have HB := Lib.hid hB
        clear hr hv hcv hMW hst hH HK hb2 hW2 hx hB hcd hlt
        by_cases h0 : cd = 0
        · subst h0
          go_wp2_with fail
          rw [HW2.out]
          refine C.out.mono ?_
          rintro e w3 ⟨rfl, hb3⟩
          have H3 := Lib.hid (H2.out.next hb3)
          have HS3 := Lib.hid (show steps h.s (last h.bk (h.v.hs.take (i + 1))) (h.v.hs.drop (i + 1)) = R by rw [← HST.out]; simp)
          clear hb3 C
          go_wp2
          go_roundw
          case rel => exact ⟨i + 1, w3, by have := HLT.out; omega, by go_num, rfl, Lib.hid ⟨H3.out, HS3.out⟩⟩
          case measure => have := HLT.out; simp [intOf]; omega
        · have t1 : (cd == 0) = false := by rw [beq_eq_false_iff_ne]; exact h0
          have t2 : (cd != 0) = true := by rw [bne_iff_ne]; exact h0
          have HQ := Lib.hid (show R = false by rw [← HST.out, decide_eq_false h0]; rfl)
          clear h0
          go_wp2_with fail
          rw [HW2.out]
          refine C.out.mono ?_
          rintro e w3 ⟨rfl, hb3⟩
          have H3 := Lib.hid (H2.out.next hb3)
          clear hb3 C
          go_wp2
          go_ret
          exact ⟨by rw [HQ.out]; rfl, H3.out.b⟩
      · obtain rfl : i = h.m := by omega
        have HQ := Lib.hid (show R = true by rw [← HK.out.2]; exact steps_end (by rw [HM0.out.len]; exact Nat.le_refl _))
        have hge : ¬ ((h.m : Nat) : Int) < (h.m : Int) := by omega
        clear hlt
        go_wp2
        go_ret
        exact ⟨by rw [HQ.out]; rfl, HK.out.1.b⟩

end Tm
end Go.Proofs.Ytcnlllamldlnmaa
