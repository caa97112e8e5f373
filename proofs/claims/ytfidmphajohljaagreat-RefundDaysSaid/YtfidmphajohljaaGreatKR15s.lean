/-
  The laws' steady. Conditions: the history reads as meant, its changes are few.
-/
import Derived.Test.YtfidmphajohljaaGreatMRdb
namespace Go.Proofs.YtfidmphajohljaaGreat
open Go.RowKit Ba Cv Sp Te Ag Tf Sl Tm Slc
namespace Rfd
set_option linter.unusedVariables false
theorem tk_no {c : Ch} (h3 : c.kd ≠ 3) (h4 : c.kd ≠ 4) : tk c = false := decide_eq_false (by omega)
set_option maxRecDepth 100000 in
set_option maxHeartbeats 4000000 in
theorem steady_ (h : Hr) (w : World) (M : HM w (· < w.heap.size) h) (hm : h.m ≤ 2000) : Calls Tryz.prog 18 #[hg h] w fun e w' => ∃ b, e = .returned (.bool b) ∧ (b = true → stdy h.v.hs) ∧ Below w.heap.size w w' := by
 obtain ⟨W, hW⟩ : ∃ W, w.alloc (.cells (hc h) 31) = W := ⟨_, rfl⟩; have H0 := Lib.hid (show HX w W h by rw [← hW]; exact HX.start w h); have HW := Lib.hid hW; have HMM := Lib.hid M; have HL := Lib.hid hm; obtain ⟨Bv, hBv⟩ : ∃ Bv, h.B = Bv := ⟨_, rfl⟩; have HBv := Lib.hid hBv; have x9 := H0.out.x.c 9; simp at x9; rw [hBv] at x9; clear hW M hm hBv; go_enter Tryz.func18, Tryz.ntmps18
 go_upto_region 1 with fail
 rw [HW.out]; clear HW; go_wp2; clear x9
 go_loopw [8] (fun i w' => ∃ (k : Nat) (V : World), k ≤ h.m ∧ i = .int .i64 (k : Int) ∧ V = w' ∧ Hid (HX w V h) ∧ Hid (∀ c ∈ h.v.hs.take k, tk c = false)) (fun i _ => h.m - (intOf i).toNat)
 case atStart => exact ⟨0, _, Nat.zero_le _, rfl, rfl, H0, Lib.hid (fun c hc => by simp at hc)⟩
 case round =>
  clear H0; obtain ⟨k, V, hk, rfl, rfl, H1, HF⟩ := hrel; have hkw : h.m ≤ 2000 := HL.out; by_cases hlt : k < h.m
  ·obtain ⟨ad, r, hB, hb, hr, N, _, hv⟩ := (HMM.out.below H1.out.b).get hlt; have hlt2 : (k : Int) < (h.m : Int) := by omega
   have HNX := Lib.hid (fun (h3 : r.v.kd ≠ 3) (h4 : r.v.kd ≠ 4) (c : Ch) (hc : c ∈ h.v.hs.take (k + 1)) => show tk c = false by
    rw [take_get hv] at hc; rcases List.mem_append.1 hc with hc | hc
    ·exact HF.out c hc
    ·obtain rfl := List.mem_singleton.1 hc; exact tk_no h3 h4)
   rw [HBv.out] at hB; subst hB; obtain ⟨c0, c1, c2, c3, c4, c5, c6, c7, c8⟩ := N; obtain ⟨V2, hV2⟩ : ∃ V2, V.alloc (.cells (vc r) 41) = V2 := ⟨_, rfl⟩; have hb2 : Below V.heap.size V V2 := hV2 ▸ alloc_ _ _; have HX2 := Lib.hid (show Bx V2 V.heap.size 41 (vc r) from hV2 ▸ Bx.new V _ _); have H2 := Lib.hid (H1.out.next hb2); have HV2 := Lib.hid hV2; clear hr hv hb hb2 hV2
   go_upto_region 4 with fail
   rw [HV2.out]; clear c0 c1 c2 c3 c4 c5 c6 c7 c8 HV2; have d2 := HX2.out.c 2; simp at d2; clear H1; by_cases e3 : r.v.kd = 3
   ·have t1 : (r.v.kd == 3) = true := beq_iff_eq.2 e3; have t2 : decide (r.v.kd = 3) = true := decide_eq_true e3; clear e3; go_wp2; go_ret
    first | exact ⟨false, rfl, (fun h => by cases h), H2.out.b⟩ | exact .inl ⟨rfl, H2.out.b⟩
   have t1 : (r.v.kd == 3) = false := beq_eq_false_iff_ne.2 e3; have t2 : decide (r.v.kd = 3) = false := decide_eq_false e3; by_cases e4 : r.v.kd = 4
   ·have t3 : (r.v.kd == 4) = true := beq_iff_eq.2 e4; have t4 : decide (r.v.kd = 4) = true := decide_eq_true e4; clear e3 e4; go_wp2; go_ret
    first | exact ⟨false, rfl, (fun h => by cases h), H2.out.b⟩ | exact .inl ⟨rfl, H2.out.b⟩
   have t3 : (r.v.kd == 4) = false := beq_eq_false_iff_ne.2 e4; have t4 : decide (r.v.kd = 4) = false := decide_eq_false e4; have HF2 := Lib.hid (HNX.out e3 e4); clear e3 e4 HNX; go_wp2; go_roundw
   case rel => exact ⟨k + 1, _, by omega, by go_num, rfl, H2, HF2⟩
   case measure => simp [intOf]; omega
  ·have hlt2 : ¬ ((k : Int) < (h.m : Int)) := by omega
   have HE := Lib.hid (show stdy h.v.hs from fun c hc => HF.out c (by rw [List.take_of_length_le (by rw [HMM.out.len]; omega)]; exact hc)); go_wp2; go_ret
   first | exact .inr ⟨rfl, HE.out, H1.out.b⟩ | exact ⟨true, rfl, fun _ => HE.out, H1.out.b⟩
end Rfd
end Go.Proofs.YtfidmphajohljaaGreat
