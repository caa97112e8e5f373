/-
  The parts Few12, Laws12, Facts12, Kn of this proof. Conditions: those of each theorem.
-/
import Derived.Test.YtfidmphajohljaaGreatHq
import Derived.Test.YtfidmphajohljaaGreatMOb
import Derived.Test.YtfidmphajohljaaGreatMGi
import Derived.Lib.Hide
set_option maxRecDepth 100000
set_option maxHeartbeats 4000000
set_option linter.unusedVariables false
namespace Go.Proofs.YtfidmphajohljaaGreat
open Go.RowKit Ba Cv Sp Te Ag Tf Sl Tm
namespace Slc
structure Small (h : Hr) (nt : Nat) (vs : List Trf.Rw) : Prop where
 m : h.m ≤ 60
 t : nt ≤ 100
 n : h.n ≤ 50
 k : ∀ r ∈ h.rs, r.n ≤ 50
 v : ∀ r ∈ vs, r.la ≤ 200 ∧ r.lz ≤ 200 ∧ r.lp ≤ 200
def FewTo (w : World) (h : Hr) (nt : Nat) (vs : List Trf.Rw) (e : Ending) (w' : World) : Prop := ∃ b : Bool, e = .returned (.bool b) ∧ Below w.heap.size w w' ∧ (b = true → Small h nt vs)
section
variable {w : World} {h : Hr} {nt : Nat} {vs : List Trf.Rw} {T : Option Addr} {ct : Nat} {W : World} {A : Option Addr} {n c : Nat} {rs : List Trf.Rw}
theorem Small.hs (s : Small h nt vs) (g : GivenH w h) : HS h := g.small (Nat.le_trans s.n (by omega)) (Nat.le_trans s.m (by omega)) (fun r hr => Nat.le_trans (s.k r hr) (by omega))
theorem Small.vers (s : Small h nt vs) (g : Trf.GivenT w T nt ct vs) : Trf.Vers w T nt vs := ⟨g.r, g.m, fun r hr => ⟨Nat.le_trans (s.v r hr).1 (by omega), Nat.le_trans (s.v r hr).2.1 (by omega), Nat.le_trans (s.v r hr).2.2 (by omega)⟩⟩
theorem Small.cov (s : Small h nt vs) : h.n ≤ 1000 ∧ ∀ r ∈ h.rs, r.n ≤ 1000 := ⟨Nat.le_trans s.n (by omega), fun r hr => Nat.le_trans (s.k r hr) (by omega)⟩
theorem few12 (h : Hr) (T : Option Addr) (nt ct : Nat) (vs : List Trf.Rw) (w : World) (G : GivenH w h) (GT : Trf.GivenT w T nt ct vs) : Calls Tryz.prog 10 #[hg h, Trf.tg T nt ct] w (FewTo w h nt vs) := by
 obtain ⟨W, hW⟩ : ∃ W, (w.alloc (.cells (hc h) 31)).alloc (.cells #[.slice T nt ct] 34) = W := ⟨_, rfl⟩; have H0 := qh (show O2 w W h T nt ct by rw [← hW]; exact O2.start w h T nt ct); have HW := qh hW; have HG := qh G; have HGT := qh GT; have bm := G.m; have bn := G.n; have bt := GT.big; obtain ⟨Bv, hBv⟩ : ∃ Bv, h.B = Bv := ⟨_, rfl⟩; have HBv := qh hBv; obtain ⟨x0, x1, x2, x3, x4, x5, x6, x7, x8, x9⟩ := qc10 H0.out.x; have y0 := H0.out.y.c 0; simp at y0; rw [hBv] at x9; clear hW G GT hBv; by_cases h1 : h.m ≤ 60
 case neg =>
  have t1 : decide ((60 : Int) < (h.m : Int)) = true := decide_eq_true (by omega); go_enter Tryz.func10, Tryz.ntmps10
  go_upto_region 1 with fail
  rw [HW.out]; go_wp2; go_ret; exact ⟨false, rfl, H0.out.b, fun e => by cases e⟩
 have t1 : decide ((60 : Int) < (h.m : Int)) = false := decide_eq_false (by omega); by_cases h2 : nt ≤ 100
 case neg =>
  have t2 : decide ((100 : Int) < (nt : Int)) = true := decide_eq_true (by omega); go_enter Tryz.func10, Tryz.ntmps10
  go_upto_region 1 with fail
  rw [HW.out]; go_wp2; go_ret; exact ⟨false, rfl, H0.out.b, fun e => by cases e⟩
 have t2 : decide ((100 : Int) < (nt : Int)) = false := decide_eq_false (by omega); by_cases h3 : h.n ≤ 50
 case neg =>
  have t3 : decide ((50 : Int) < (h.n : Int)) = true := decide_eq_true (by omega); go_enter Tryz.func10, Tryz.ntmps10
  go_upto_region 1 with fail
  rw [HW.out]; go_wp2; go_ret; exact ⟨false, rfl, H0.out.b, fun e => by cases e⟩
 have t3 : decide ((50 : Int) < (h.n : Int)) = false := decide_eq_false (by omega); have HS := qh (And.intro h1 (And.intro h2 h3)); go_enter Tryz.func10, Tryz.ntmps10
 go_upto_region 1 with fail
 rw [HW.out]; clear h1 h2 h3 HW; go_wp2; clear x0 x1 x2 x3 x4 x5 x6 x7 x8 x9 y0
 go_loopw [5] (fun vi w' => ∃ (k : Nat) (W : World), k ≤ h.m ∧ vi = .int .i64 (k : Int) ∧ W = w' ∧ Hid (O2 w W h T nt ct) ∧ Hid (∀ r ∈ h.rs.take k, r.n ≤ 50)) (fun vi _ => h.m - (intOf vi).toNat)
 case atStart => exact ⟨0, _, Nat.zero_le _, rfl, rfl, H0, qh (fun r hr => by simp at hr)⟩
 case round =>
  obtain ⟨k, W, hk, rfl, rfl, H, HK⟩ := hrel; clear H0; have x9 := H.out.x.c 9; have y0 := H.out.y.c 0; simp at x9 y0; rw [HBv.out] at x9; by_cases hlt : k < h.m
  ·obtain ⟨ad, r, hB, hb, hr, N, hcv, hv⟩ := (HG.out.M.below H.out.b).get hlt; rw [HBv.out] at hB; subst hB; have hlt2 : (k : Int) < (h.m : Int) := by omega
   obtain ⟨c0, c1, c2, c3, c4, c5, c6, c7, c8⟩ := N; have bk := HG.out.k r (List.mem_of_getElem? hr); by_cases hr5 : r.n ≤ 50
   ·have t5 : decide ((50 : Int) < (r.n : Int)) = false := decide_eq_false (by omega)
    have HK2 := qh (show ∀ r ∈ h.rs.take (k + 1), r.n ≤ 50 from fun q hq => by
     rw [take_get hr] at hq; rcases List.mem_append.1 hq with hq | hq
     ·exact HK.out q hq
     ·rw [List.mem_singleton] at hq; subst hq; exact hr5)
    clear hr hcv hv hb; go_wp2; go_roundw
    case rel => exact ⟨k + 1, W, by omega, by go_num, rfl, H, HK2⟩
    case measure => simp [intOf]; omega
   ·have t5 : decide ((50 : Int) < (r.n : Int)) = true := decide_eq_true (by omega); clear hr hcv hv hb; go_wp2; go_ret; exact ⟨false, rfl, H.out.b, fun e => by cases e⟩
  ·obtain rfl : k = h.m := by omega
   have HKK := qh (show ∀ r ∈ h.rs, r.n ≤ 50 from fun r hr => HK.out r (by rw [List.take_of_length_le (Nat.le_of_eq HG.out.M.r.1)]; exact hr)); clear HK; go_wp2; clear x9 y0
   go_loopw [6] (fun vi w' => ∃ (k : Nat) (W : World), k ≤ nt ∧ vi = .int .i64 (k : Int) ∧ W = w' ∧ Hid (O2 w W h T nt ct) ∧ Hid (∀ r ∈ vs.take k, r.la ≤ 200 ∧ r.lz ≤ 200 ∧ r.lp ≤ 200)) (fun vi _ => nt - (intOf vi).toNat)
   case atStart => exact ⟨0, _, Nat.zero_le _, rfl, rfl, H, qh (fun r hr => by simp at hr)⟩
   case round =>
    obtain ⟨k, W, hk, rfl, rfl, H2, HK⟩ := hrel; clear H; have y0 := H2.out.y.c 0; simp at y0; by_cases hlt : k < nt
    ·obtain ⟨ad, r, rfl, hb, hr, N⟩ := (HGT.out.r.below H2.out.b).get hlt; have hlt2 : (k : Int) < (nt : Int) := by omega
     obtain ⟨c0, c1, c2, c3, c4, c5, c6, c7, c8⟩ := N; have lo := HGT.out.l r (List.mem_of_getElem? hr); have l1 := lo.a; have l2 := lo.z; have l3 := lo.p; have HR := qh hr; have HB3 := qh (show O2 w (W.alloc (.cells (Trf.vc r) 65)) h (some ad) nt ct from H2.out.next (alloc_ _ _)); clear hr hb lo; by_cases q1 : r.la ≤ 200
     case neg =>
      have u1 : decide ((200 : Int) < (r.la : Int)) = true := decide_eq_true (by omega); go_wp2; go_ret; exact ⟨false, rfl, HB3.out.b, fun e => by cases e⟩
     have u1 : decide ((200 : Int) < (r.la : Int)) = false := decide_eq_false (by omega); by_cases q2 : r.lz ≤ 200
     case neg =>
      have u2 : decide ((200 : Int) < (r.lz : Int)) = true := decide_eq_true (by omega); go_wp2; go_ret; exact ⟨false, rfl, HB3.out.b, fun e => by cases e⟩
     have u2 : decide ((200 : Int) < (r.lz : Int)) = false := decide_eq_false (by omega); by_cases q3 : r.lp ≤ 200
     case neg =>
      have u3 : decide ((200 : Int) < (r.lp : Int)) = true := decide_eq_true (by omega); go_wp2; go_ret; exact ⟨false, rfl, HB3.out.b, fun e => by cases e⟩
     have u3 : decide ((200 : Int) < (r.lp : Int)) = false := decide_eq_false (by omega)
     have HK2 := qh (show ∀ r ∈ vs.take (k + 1), r.la ≤ 200 ∧ r.lz ≤ 200 ∧ r.lp ≤ 200 from fun q hq => by
      rw [take_get HR.out] at hq; rcases List.mem_append.1 hq with hq | hq
      ·exact HK.out q hq
      ·rw [List.mem_singleton] at hq; subst hq; exact ⟨q1, q2, q3⟩)
     clear q1 q2 q3; go_wp2; go_roundw
     case rel => exact ⟨k + 1, _, by omega, by go_num, rfl, HB3, HK2⟩
     case measure => simp [intOf]; omega
    ·obtain rfl : k = nt := by omega
     go_wp2; go_ret; exact ⟨true, rfl, H2.out.b, fun _ => ⟨HS.out.1, HS.out.2.1, HS.out.2.2, HKK.out, fun r hr => HK.out r (by rw [List.take_of_length_le (Nat.le_of_eq HGT.out.r.1)]; exact hr)⟩⟩
theorem gh_below (g : GivenH w h) (hb : Below w.heap.size w W) : GivenH W h := ⟨g.M.below hb, g.n, g.k, g.m, g.f, g.z⟩
theorem gt_below (g : Trf.GivenT w A n c rs) (hb : Below w.heap.size w W) : Trf.GivenT W A n c rs := ⟨g.r.below hb, fun r hr => (g.m r hr).below hb, g.l, g.big, g.cap, g.nil⟩
end
section
variable {h : Hi} {vs : List Ve} {code : Int} {ss : List Sc}
theorem OfIs.ok (H : OfIs h vs 0 ss) : hrt h = true ∧ Trf.cod h.s.1 vs = 0 ∧ ∃ o L, Ag.Ord h.hs o ∧ Cutd (hld (ini h) (ordl h.hs o)) h.s.1 h.s.2 L ∧ bad (qf (Trf.tol h.s.1 vs)) L = 0 ∧ ss = L.map (prc (qf (Trf.tol h.s.1 vs))) := by
 cases H with
 | wrong h0 h1 h2 => omega
 | none h0 h1 h2 h3 => exact absurd h2.symm h1
 | some h0 h1 o L h2 h3 h4 h5 => exact ⟨h0, h1, o, L, h2, h3, h4.symm, by rw [h5, if_pos h4.symm]⟩
end
theorem hrt_span {h : Hi} (hr : hrt h = true) : 1 ≤ h.s.1 ∧ h.s.1 < h.s.2 ∧ h.s.2 ≤ 292195 ∧ h.s.2 - h.s.1 ≤ 1100 := (te_iff.1 (hrt_iff.1 hr).1).1
section
variable {g : Int → Hd} {s : Sp} {L : List (Sp × Hd)} {q : Ri → List Co → Int × Int}
end
end Slc
end Go.Proofs.YtfidmphajohljaaGreat
