/-
  The document's Right of a change. Conditions: those of each theorem.
-/
import Derived.Test.YtkdhcloaeifbdaaGreatMRi
import Derived.Test.YtkdhcloaeifbdaaGreatMFns
namespace Go.Proofs.YtkdhcloaeifbdaaGreat
open Go.RowKit Ba Cv Sp Te Ag
namespace Tm
set_option linter.unusedVariables false

set_option maxRecDepth 100000 in
set_option maxHeartbeats 4000000 in
theorem rright11 (r : Rw) (w : World) (hS : Cvs w (· < w.heap.size) r.A r.n r.v.cs) (hm : r.n ≤ maxLen) : Calls Tryz.prog 60 #[vg r] w (Yes w (rch r.v)) := by
  obtain ⟨W, hW⟩ : ∃ W, w.alloc (.cells (vc r) 52) = W := ⟨_, rfl⟩
  have H0 := Lib.hid (show RB w W r by rw [← hW]; exact RB.start w r)
  have HW := Lib.hid hW
  clear hW
  obtain ⟨R, hR⟩ : ∃ R, rch r.v = R := ⟨_, rfl⟩
  rw [hR]
  have HR := Lib.hid hR
  have HS := Lib.hid (And.intro hS hm)
  clear hR hS hm
  have bad : (day r.v.bk = false ∨ day r.v.dy = false) → Hid (R = false) := fun h => Lib.hid (by
    rw [← HR.out]; unfold rch
    rcases h with h | h
    · rw [h]; rfl
    · rw [h]; simp)
  have HBad := Lib.hid bad
  clear bad
  have hx := H0.out.x
  have x0 := hx.c 0
  have x1 := hx.c 1
  have x2 := hx.c 2
  have x3 := hx.c 3
  have x4 := hx.c 4
  have x5 := hx.c 5
  have x6 := hx.c 6
  have x7 := hx.c 7
  have x8 := hx.c 8
  simp at x0 x1 x2 x3 x4 x5 x6 x7 x8
  have hlx := hx.lt
  clear hx
  by_cases h1 : r.v.bk < 1
  · have t1 : decide (r.v.bk < 1) = true := decide_eq_true h1
    have HQ := HBad.out (.inl (wi_no (by omega)))
    clear h1
    go_enter Tryz.func60, Tryz.ntmps60
    go_wp2_with fail
    rw [HW.out]
    go_ret
    exact ⟨by rw [HQ.out]; rfl, H0.out.b⟩
  have t1 : decide (r.v.bk < 1) = false := decide_eq_false h1
  by_cases h2 : 292194 < r.v.bk
  · have t2 : decide (292194 < r.v.bk) = true := decide_eq_true h2
    have HQ := HBad.out (.inl (wi_no (by omega)))
    clear h1 h2
    go_enter Tryz.func60, Tryz.ntmps60
    go_wp2_with fail
    rw [HW.out]
    go_ret
    exact ⟨by rw [HQ.out]; rfl, H0.out.b⟩
  have t2 : decide (292194 < r.v.bk) = false := decide_eq_false h2
  by_cases h3 : r.v.dy < 1
  · have t3 : decide (r.v.dy < 1) = true := decide_eq_true h3
    have HQ := HBad.out (.inr (wi_no (by omega)))
    clear h1 h2 h3
    go_enter Tryz.func60, Tryz.ntmps60
    go_wp2_with fail
    rw [HW.out]
    go_ret
    exact ⟨by rw [HQ.out]; rfl, H0.out.b⟩
  have t3 : decide (r.v.dy < 1) = false := decide_eq_false h3
  by_cases h4 : 292194 < r.v.dy
  · have t4 : decide (292194 < r.v.dy) = true := decide_eq_true h4
    have HQ := HBad.out (.inr (wi_no (by omega)))
    clear h1 h2 h3 h4
    go_enter Tryz.func60, Tryz.ntmps60
    go_wp2_with fail
    rw [HW.out]
    go_ret
    exact ⟨by rw [HQ.out]; rfl, H0.out.b⟩
  have t4 : decide (292194 < r.v.dy) = false := decide_eq_false h4
  have HF := Lib.hid (show R = fits r.v (pts r.v.kd) by rw [← HR.out]; unfold rch; rw [show day r.v.bk = true from wi_iff.2 ⟨by omega, by omega⟩, show day r.v.dy = true from wi_iff.2 ⟨by omega, by omega⟩]; rfl)
  obtain ⟨bb, hbb⟩ : ∃ bb, bare r.v.r = bb := ⟨_, rfl⟩
  obtain ⟨nb, hnb⟩ : ∃ nb, ((r.n : Int) == 0) = nb := ⟨_, rfl⟩
  have HNB := Lib.hid (show (r.v.cs.length == 0) = nb by
    rw [HS.out.1.1, ← hnb]
    by_cases h : r.n = 0
    · rw [h]; rfl
    · rw [beq_eq_false_iff_ne.2 h, beq_eq_false_iff_ne.2 (by omega)])
  have HNN := Lib.hid hnb
  have HBB := Lib.hid hbb
  clear h1 h2 h3 h4 hnb hbb
  go_enter Tryz.func60, Tryz.ntmps60
  go_upto_region 3 with (fail)
  rw [HW.out]
  go_cut [3] (fun s3 wx => ∃ (Wz : World), Wz = wx ∧ s3 = .bool bb ∧ Wz = W)
  case first =>
    have HB' := HBB.out
    unfold bare at HB'
    go_wp2_with fail
    all_goals (go_meet; refine ⟨_, rfl, ?_, rfl⟩; rw [← HB']; clear HB'; simp [*])
  case rest =>
    obtain ⟨W1, rfl, rfl, rfl⟩ := hcut
    clear HW
    have tn := HNN.out
    clear HNN
    by_cases k1 : r.v.kd = 1
    · have z1 : (r.v.kd == 1) = true := by rw [beq_iff_eq]; exact k1
      have hf : R = (rfit r.v.r true && (cfit r.v.cs false && wfit r.v.wy false)) := by rw [HF.out]; rw [pts, if_pos k1]; rfl
      simp only [rfit, cfit, wfit, if_true, Bool.false_eq_true, if_false] at hf
      rw [HNB.out] at hf
      obtain ⟨wb, hwb⟩ : ∃ wb, (r.v.wy == 0) = wb := ⟨_, rfl⟩
      rw [hwb] at hf
      clear k1
      have C := Lib.hid (rrisk_right r.v.r.k r.v.r.v r.v.r.a r.v.r.z W1)
      generalize rk r.v.r.k r.v.r.v r.v.r.a r.v.r.z = q at C hf
      have HQ := Lib.hid hf
      clear hf
      have c5 := hwb
      cases q
      · go_wp2_with fail
        refine C.out.mono ?_
        rintro e w2 ⟨rfl, hb2⟩
        have HB2 := Lib.hid (H0.out.next hb2).b
        have x8' := (H0.out.next hb2).x.c 8
        simp at x8'
        clear hb2
        go_wp2
        go_ret
        exact ⟨by rw [HQ.out]; rfl, HB2.out⟩
      cases nb
      · go_wp2_with fail
        refine C.out.mono ?_
        rintro e w2 ⟨rfl, hb2⟩
        have HB2 := Lib.hid (H0.out.next hb2).b
        have x8' := (H0.out.next hb2).x.c 8
        simp at x8'
        clear hb2
        go_wp2
        go_ret
        exact ⟨by rw [HQ.out]; rfl, HB2.out⟩
      · go_wp2_with fail
        refine C.out.mono ?_
        rintro e w2 ⟨rfl, hb2⟩
        have HB2 := Lib.hid (H0.out.next hb2).b
        have x8' := (H0.out.next hb2).x.c 8
        simp at x8'
        clear hb2
        go_wp2
        go_ret
        exact ⟨by rw [HQ.out]; simp, HB2.out⟩
    by_cases k2 : r.v.kd = 2
    · have z1 : (r.v.kd == 1) = false := by rw [beq_eq_false_iff_ne]; exact k1
      have z2 : (r.v.kd == 2) = true := by rw [beq_iff_eq]; exact k2
      have hf : R = (rfit r.v.r false && (cfit r.v.cs true && wfit r.v.wy false)) := by rw [HF.out]; rw [pts, if_neg k1, if_pos k2]; rfl
      simp only [rfit, cfit, wfit, if_true, Bool.false_eq_true, if_false] at hf
      rw [HBB.out] at hf
      obtain ⟨wb, hwb⟩ : ∃ wb, (r.v.wy == 0) = wb := ⟨_, rfl⟩
      rw [hwb] at hf
      clear k1 k2
      have C := Lib.hid (rcovers_ r.A r.n r.c r.v.cs W1 (HS.out.1.below H0.out.b) HS.out.2)
      generalize cvr r.v.cs = q at C hf
      have HQ := Lib.hid hf
      clear hf
      cases q
      · go_wp2_with fail
        refine C.out.mono ?_
        rintro e w2 ⟨rfl, hb2⟩
        have HB2 := Lib.hid (H0.out.next hb2).b
        have x8' := (H0.out.next hb2).x.c 8
        simp at x8'
        clear hb2
        go_wp2
        go_ret
        exact ⟨by rw [HQ.out]; simp, HB2.out⟩
      cases bb
      · go_wp2_with fail
        refine C.out.mono ?_
        rintro e w2 ⟨rfl, hb2⟩
        have HB2 := Lib.hid (H0.out.next hb2).b
        have x8' := (H0.out.next hb2).x.c 8
        simp at x8'
        clear hb2
        go_wp2
        go_ret
        exact ⟨by rw [HQ.out]; rfl, HB2.out⟩
      · go_wp2_with fail
        refine C.out.mono ?_
        rintro e w2 ⟨rfl, hb2⟩
        have HB2 := Lib.hid (H0.out.next hb2).b
        have x8' := (H0.out.next hb2).x.c 8
        simp at x8'
        clear hb2
        go_wp2
        go_ret
        exact ⟨by rw [HQ.out]; simp, HB2.out⟩
    by_cases k3 : r.v.kd = 3
    · have z1 : (r.v.kd == 1) = false := by rw [beq_eq_false_iff_ne]; exact k1
      have z2 : (r.v.kd == 2) = false := by rw [beq_eq_false_iff_ne]; exact k2
      have z3 : (r.v.kd == 3) = true := by rw [beq_iff_eq]; exact k3
      have hf : R = (rfit r.v.r false && (cfit r.v.cs false && wfit r.v.wy true)) := by rw [HF.out]; rw [pts, if_neg k1, if_neg k2, if_pos k3]; rfl
      simp only [rfit, cfit, wfit, if_true, Bool.false_eq_true, if_false] at hf
      rw [HNB.out, HBB.out] at hf
      obtain ⟨wb, hwb⟩ : ∃ wb, (r.v.wy == 0) = wb := ⟨_, rfl⟩
      rw [hwb] at hf
      clear k1 k2 k3
      have HB2 := Lib.hid H0.out.b
      obtain ⟨wc, hwc⟩ : ∃ wc, (r.v.wy == 1) = wc := ⟨_, rfl⟩
      rw [hwc] at hf
      have HQ := Lib.hid hf
      clear hf
      cases bb
      · go_wp2
        go_ret
        exact ⟨by rw [HQ.out]; rfl, HB2.out⟩
      cases nb
      · go_wp2
        go_ret
        exact ⟨by rw [HQ.out]; rfl, HB2.out⟩
      cases wb
      · go_wp2
        go_ret
        exact ⟨by rw [HQ.out]; simp, HB2.out⟩
      · go_wp2
        go_ret
        exact ⟨by rw [HQ.out]; rfl, HB2.out⟩
    by_cases k4 : r.v.kd = 4
    · have z1 : (r.v.kd == 1) = false := by rw [beq_eq_false_iff_ne]; exact k1
      have z2 : (r.v.kd == 2) = false := by rw [beq_eq_false_iff_ne]; exact k2
      have z3 : (r.v.kd == 3) = false := by rw [beq_eq_false_iff_ne]; exact k3
      have z4 : (r.v.kd == 4) = true := by rw [beq_iff_eq]; exact k4
      have hf : R = (rfit r.v.r false && (cfit r.v.cs false && wfit r.v.wy false)) := by rw [HF.out]; rw [pts, if_neg k1, if_neg k2, if_neg k3, if_pos k4]; rfl
      simp only [rfit, cfit, wfit, if_true, Bool.false_eq_true, if_false] at hf
      rw [HNB.out, HBB.out] at hf
      obtain ⟨wb, hwb⟩ : ∃ wb, (r.v.wy == 0) = wb := ⟨_, rfl⟩
      rw [hwb] at hf
      clear k1 k2 k3 k4
      have HB2 := Lib.hid H0.out.b
      have HQ := Lib.hid hf
      clear hf
      cases bb
      · go_wp2
        go_ret
        exact ⟨by rw [HQ.out]; rfl, HB2.out⟩
      cases nb
      · go_wp2
        go_ret
        exact ⟨by rw [HQ.out]; rfl, HB2.out⟩
      · go_wp2
        go_ret
        exact ⟨by rw [HQ.out]; simp, HB2.out⟩
    · have z1 : (r.v.kd == 1) = false := by rw [beq_eq_false_iff_ne]; exact k1
      have z2 : (r.v.kd == 2) = false := by rw [beq_eq_false_iff_ne]; exact k2
      have z3 : (r.v.kd == 3) = false := by rw [beq_eq_false_iff_ne]; exact k3
      have z4 : (r.v.kd == 4) = false := by rw [beq_eq_false_iff_ne]; exact k4
      have HQ := Lib.hid (show R = false by rw [HF.out, pts, if_neg k1, if_neg k2, if_neg k3, if_neg k4]; rfl)
      have HB2 := Lib.hid H0.out.b
      clear k1 k2 k3 k4
      go_wp2
      go_ret
      exact ⟨by rw [HQ.out]; rfl, HB2.out⟩

end Tm
end Go.Proofs.YtkdhcloaeifbdaaGreat
