/-
  The parts Of1, Of2 of this proof. Conditions: those of each theorem.
-/
import Derived.Test.YtplenoaajokpjaaGreatMAt
import Derived.Test.YtplenoaajokpjaaGreatMPl
namespace Go.Proofs.YtplenoaajokpjaaGreat
open Go.RowKit Ba Cv Sp Te Ag Sl Tm
namespace Slc
set_option linter.unusedVariables false
def dn (s : Rw) (c : Tm.Rw) : Rw := if c.v.kd = 2 then ⟨⟨s.v.s, don s.v.h c.v, s.v.y⟩, c.A, c.n, c.c⟩ else ⟨⟨s.v.s, don s.v.h c.v, s.v.y⟩, s.A, s.n, s.c⟩
theorem alloc3 (w : World) (a b c : Obj) : Below w.heap.size w (((w.alloc a).alloc b).alloc c) := ((alloc_ _ _).alloc (by simp) _).alloc (by simp; omega) _
theorem dn_v (s : Rw) (c : Tm.Rw) : (dn s c).v = ⟨s.v.s, don s.v.h c.v, s.v.y⟩ := by unfold dn; split <;> rfl
theorem dn_good {w : World} {ok : Nat → Prop} {s : Rw} {c : Tm.Rw} (hs : Cvs w ok s.A s.n s.v.h.cs) (hc : Cvs w ok c.A c.n c.v.cs) : Cvs w ok (dn s c).A (dn s c).n (dn s c).v.h.cs := by
 unfold dn; by_cases h : c.v.kd = 2
 ·rw [if_pos h]; have e : (don s.v.h c.v).cs = c.v.cs := by unfold don; rw [if_neg (by omega), if_pos h]
  show Cvs w ok c.A c.n (don s.v.h c.v).cs
  rw [e]; exact hc
 ·rw [if_neg h]
  have e : (don s.v.h c.v).cs = s.v.h.cs := by
   unfold don
   repeat' split
   all_goals first | rfl | contradiction
  show Cvs w ok s.A s.n (don s.v.h c.v).cs
  rw [e]; exact hs
theorem dn_n {s : Rw} {c : Tm.Rw} {m : Nat} (h1 : s.n ≤ m) (h2 : c.n ≤ m) : (dn s c).n ≤ m := by unfold dn; split <;> assumption
set_option maxRecDepth 100000 in
set_option maxHeartbeats 4000000 in
theorem done_ (s : Rw) (c : Tm.Rw) (w : World) : Calls Tryz.prog 71 #[vg s, Tm.vg c] w fun e w' => e = .returned (vg (dn s c)) ∧ Below w.heap.size w w' := by
 obtain ⟨⟨s, ⟨o, r, cs⟩, y⟩, A, n, d⟩ := s; obtain ⟨⟨bk, dy, kd, r2, cs2, wy⟩, A2, n2, d2⟩ := c; by_cases h1 : kd = 1
 ·subst h1; go_enter Tryz.func71, Tryz.ntmps71; go_wp2; refine bodyPost_ret (v := vg ⟨⟨s, ⟨o, r2, cs⟩, y⟩, A, n, d⟩) ?res rfl ⟨rfl, alloc3 _ _ _ _⟩
  case res => simp [results, Tryz.results71, go_sem]
 by_cases h2 : kd = 2
 ·subst h2; go_enter Tryz.func71, Tryz.ntmps71; go_wp2; refine bodyPost_ret (v := vg ⟨⟨s, ⟨o, r, cs2⟩, y⟩, A2, n2, d2⟩) ?res rfl ⟨rfl, alloc3 _ _ _ _⟩
  case res => simp [results, Tryz.results71, go_sem]
 by_cases h3 : kd = 3
 ·subst h3; go_enter Tryz.func71, Tryz.ntmps71; go_wp2; refine bodyPost_ret (v := vg ⟨⟨s, ⟨false, r, cs⟩, y⟩, A, n, d⟩) ?res rfl ⟨rfl, alloc3 _ _ _ _⟩
  case res => simp [results, Tryz.results71, go_sem]
 by_cases h4 : kd = 4
 ·subst h4; go_enter Tryz.func71, Tryz.ntmps71; go_wp2; refine bodyPost_ret (v := vg ⟨⟨s, ⟨true, r, cs⟩, y⟩, A, n, d⟩) ?res rfl ⟨rfl, alloc3 _ _ _ _⟩
  case res => simp [results, Tryz.results71, go_sem]
 ·have t1 : decide (kd = 1) = false := decide_eq_false h1; have t2 : decide (kd = 2) = false := decide_eq_false h2; have t3 : decide (kd = 3) = false := decide_eq_false h3; have t4 : decide (kd = 4) = false := decide_eq_false h4; go_enter Tryz.func71, Tryz.ntmps71; go_wp2; refine bodyPost_ret (v := vg ⟨⟨s, ⟨o, r, cs⟩, y⟩, A, n, d⟩) ?res rfl ⟨by simp [dn, don, h1, h2, h3, h4], alloc3 _ _ _ _⟩
  case res => simp [results, Tryz.results71, go_sem]
theorem hs_lens {h : Hr} (S : HS h) : h.n ≤ maxLen ∧ h.m ≤ maxLen ∧ ∀ r ∈ h.rs, r.n ≤ maxLen := by
 have h1 := S.n; have h2 := S.m; refine ⟨by unfold maxLen; omega, by unfold maxLen; omega, fun r hr => ?_⟩; have h3 := S.k r hr; unfold maxLen; omega
theorem IOwn.ints {w : World} {base n c : Nat} {A : Option Addr} {xs : List Int} (h : IOwn w base A n c xs) : Ins w (· < w.heap.size) A n xs := h.row.keep (fun _ _ => rfl) fun b hb => hb.2
def DaysTo (w : World) (m : Nat) (ds : List Int) (e : Ending) (w' : World) : Prop := ∃ A c, e = .returned (.slice A m c) ∧ Ins w' (· < w'.heap.size) A m ds ∧ (A = none → m = 0 ∧ c = 0) ∧ Below w.heap.size w w'
structure DI (w W : World) (h : Hr) (k : Nat) (A : Option Addr) (c : Nat) : Prop where
 x : HX w W h
 o : IOwn W (w.heap.size + 1) A k c ((h.v.hs.map Ch.dy).take k)
set_option maxRecDepth 100000 in
set_option maxHeartbeats 4000000 in
theorem changeDays_ (h : Hr) (w : World) (M : HM w (· < w.heap.size) h) (hm : h.m ≤ 3000) : Calls Tryz.prog 70 #[hg h] w (DaysTo w h.m (h.v.hs.map Ch.dy)) := by
 obtain ⟨W, hW⟩ : ∃ W, w.alloc (.cells (hc h) 35) = W := ⟨_, rfl⟩; have H0 := Lib.hid (show HX w W h by rw [← hW]; exact HX.start w h); have HW := Lib.hid hW; have HMM := Lib.hid M; have HS := Lib.hid (show w.heap.size + 1 ≤ W.heap.size from H0.out.x.lt); obtain ⟨Bv, hBv⟩ : ∃ Bv, h.B = Bv := ⟨_, rfl⟩; have x9 := H0.out.x.c 9; simp at x9; rw [hBv] at x9; have HBv := Lib.hid hBv; clear hW M hBv; go_enter Tryz.func70, Tryz.ntmps70
 go_upto_region 1 with fail
 rw [HW.out]; go_wp2
 go_loopw [3, 9] (fun l i w' => ∃ (k : Nat) (W1 : World) (A1 : Option Addr) (c1 : Nat), k ≤ h.m ∧ l = .slice A1 k c1 ∧ i = .int .i64 (k : Int) ∧ W1 = w' ∧ Hid (DI w W1 h k A1 c1)) (fun _ i _ => h.m - (intOf i).toNat)
 case atStart => exact ⟨0, W, none, 0, Nat.zero_le _, rfl, rfl, rfl, Lib.hid ⟨H0.out, IOwn.nil⟩⟩
 case round =>
  obtain ⟨k, W1, A1, c1, hk, rfl, rfl, rfl, HK⟩ := hrel; by_cases hlt : k < h.m
  ·obtain ⟨ad, r, hB, hb, hr, N, hcv, hv⟩ := (HMM.out.below HK.out.x.b).get hlt; rw [HBv.out] at hB; subst hB; have hlt2 : (k : Int) < (h.m : Int) := by omega
   have HV := Lib.hid (show ((h.v.hs.map Ch.dy).take k) ++ [r.v.dy] = (h.v.hs.map Ch.dy).take (k + 1) by rw [take_get (show (h.v.hs.map Ch.dy)[k]? = some r.v.dy by rw [List.getElem?_map, hv]; rfl)]); obtain ⟨c0, c1', c2, c3, c4, c5, c6, c7, c8⟩ := N; obtain ⟨W2, hW2⟩ : ∃ W2, W1.alloc (.cells (Tm.vc r) 52) = W2 := ⟨_, rfl⟩; have hb2 : Below W1.heap.size W1 W2 := hW2 ▸ alloc_ _ _; have HY := Lib.hid (show Bx W2 W1.heap.size 52 (Tm.vc r) from hW2 ▸ Bx.new W1 52 (Tm.vc r)); have H2 := Lib.hid (show DI w W2 h k A1 c1 from ⟨HK.out.x.next hb2, HK.out.o.below hb2⟩); have HW2 := Lib.hid hW2; have hsz := H2.out.x.b.size; have hsz2 := Nat.le_trans (H2.out.x.x.lt) (Nat.le_refl _); have y1 := HY.out.c 1; simp at y1; clear hr hv hcv hb hW2 hb2
   go_upto_region 5 with fail
   rw [HW2.out]; clear c0 c1' c2 c3 c4 c5 c6 c7 c8
   go_wp2_with (at_builtin; refine wpList_app_i _ rfl _ _ rfl (w.heap.size + 1) A1 k c1 ((h.v.hs.map Ch.dy).take k) rfl (H2.out.o.below (alloc_ _ _)) (· = W2.heap.size) (some ⟨W2.heap.size, 0, none⟩) 1 1 [r.v.dy] rfl (ins_one (Bx.new W2 3 #[.int .i64 r.v.dy])) (fun e => by cases e) (k + 1) rfl (by omega) (by simp; omega) ?_; intro A4 c4 w4 hO4 hg4; have HO4 := Lib.hid hO4; have HG4 := Lib.hid hg4; clear hO4 hg4)
   go_wp2; go_roundw
   case rel =>
    refine ⟨k + 1, _, A4, c4, by omega, rfl, by go_num, rfl, Lib.hid ⟨?_, by rw [← HV.out]; exact HO4.out⟩⟩; have hbw : Below (w.heap.size + 1) W2 w4 := IOwn.grown (H2.out.o.below (alloc_ W2 (.cells #[.int .i64 r.v.dy] 3))) ((Below.refl _ _).alloc (by omega) _) (by simp; omega) HG4.out; exact ⟨H2.out.x.b.trans (hbw.mono (by omega)), H2.out.x.x.below hbw (by omega)⟩
   case measure => simp [intOf]; omega
  ·obtain rfl : h.m = k := by omega
   have e : (h.v.hs.map Ch.dy).take h.m = h.v.hs.map Ch.dy := List.take_of_length_le (by rw [List.length_map]; show (h.rs.map Tm.Rw.v).length ≤ _; rw [List.length_map]; exact Nat.le_of_eq HMM.out.r.1); have HO := Lib.hid HK.out.o; rw [e] at HO; clear e; go_wp2; go_ret; exact ⟨A1, c1, rfl, IOwn.ints HO.out, (IOwn.fits HO.out).2, HK.out.x.b⟩
theorem all_drop {hs : List Ch} {k : Nat} {c : Ch} {p : Ch → Bool} (h : hs[k]? = some c) : (hs.drop k).all p = (p c && (hs.drop (k + 1)).all p) := by rw [drop_get h, List.all_cons]
set_option maxRecDepth 100000 in
set_option maxHeartbeats 4000000 in
theorem rightS (h : Hr) (w : World) (M : HM w (· < w.heap.size) h) (S : HS h) : Calls Tryz.prog 46 #[hg h] w (Yes w (hrt h.v)) := by
 obtain ⟨W, hW⟩ : ∃ W, w.alloc (.cells (hc h) 35) = W := ⟨_, rfl⟩; have H0 := Lib.hid (show HX w W h by rw [← hW]; exact HX.start w h); have HW := Lib.hid hW; have HMM := Lib.hid M; have HSS := Lib.hid S; have hmm := S.m; have hlen : h.v.hs.length = h.m := by show (h.rs.map Tm.Rw.v).length = _; rw [List.length_map]; exact M.r.1
 have CT := Lib.hid (Tm.right_ h.s h.r h.A h.n h.c h.cs W (M.t.below H0.out.b) (hs_lens S).1); obtain ⟨R, hR⟩ : ∃ R, hrt h.v = R := ⟨_, rfl⟩; rw [hR]
 have HR := Lib.hid (show (te h.s h.r h.cs && h.v.hs.all fun c => rch c && inn h.s c.dy) = R by
  rw [← hR]; unfold hrt; rw [decide_eq_true (by omega : h.v.hs.length ≤ 2000), Bool.true_and]; rfl)
 obtain ⟨Bv, hBv⟩ : ∃ Bv, h.B = Bv := ⟨_, rfl⟩; have x0 := H0.out.x.c 0; have x1 := H0.out.x.c 1; have x2 := H0.out.x.c 2; have x3 := H0.out.x.c 3; have x4 := H0.out.x.c 4; have x5 := H0.out.x.c 5; have x6 := H0.out.x.c 6; have x7 := H0.out.x.c 7; have x8 := H0.out.x.c 8; have x9 := H0.out.x.c 9; simp at x0 x1 x2 x3 x4 x5 x6 x7 x8 x9; rw [hBv] at x9; have HBv := Lib.hid hBv; clear hW M S hR hBv hlen; cases ht : te h.s h.r h.cs
 ·have HQ := Lib.hid (show R = false by rw [← HR.out, ht]; rfl); rw [ht] at CT; clear ht; go_enter Tryz.func46, Tryz.ntmps46
  go_wp2_with fail
  rw [HW.out]
  go_wp2_with fail
  refine CT.out.mono ?_; rintro e w1 ⟨rfl, hb1⟩; have H1 := Lib.hid (H0.out.next hb1); clear hb1 CT x0 x1 x2 x3 x4 x5 x6 x7 x8 x9; go_wp2; go_ret; exact ⟨congrArg (fun b => Ending.returned (.bool b)) HQ.out.symm, H1.out.b⟩
 ·have HR2 := Lib.hid (show ((h.v.hs.drop 0).all fun c => rch c && inn h.s c.dy) = R by rw [← HR.out, ht]; rfl); rw [ht] at CT; clear ht HR; have tm : decide (2000 < h.m) = false := decide_eq_false (by omega); have tm' : decide (2000 < (h.m : Int)) = false := decide_eq_false (by omega); go_enter Tryz.func46, Tryz.ntmps46
  go_wp2_with fail
  rw [HW.out]
  go_wp2_with fail
  refine CT.out.mono ?_; rintro e w1 ⟨rfl, hb1⟩; have H1 := Lib.hid (H0.out.next hb1); clear hb1 CT x0 x1 x2 x3 x4 x5 x6 x7 x8 x9 H0 HW; have x9 := H1.out.x.c 9; simp at x9; rw [HBv.out] at x9; go_wp2
  go_loopw [18] (fun vi w' => ∃ (i : Nat) (W : World), i ≤ h.m ∧ vi = .int .i64 (i : Int) ∧ W = w' ∧ Hid (HX w W h) ∧ Hid (((h.v.hs.drop i).all fun c => rch c && inn h.s c.dy) = R)) (fun vi _ => h.m - (intOf vi).toNat)
  case atStart => exact ⟨0, w1, Nat.zero_le _, rfl, rfl, H1, HR2⟩
  case round =>
   obtain ⟨i, W1, him, rfl, rfl, HK, HA⟩ := hrel; clear H1 x9 HR2; by_cases hlt : i < h.m
   ·have hMW := HMM.out.below HK.out.b; obtain ⟨ad, r, hB, hb, hr, N, hcv, hv⟩ := hMW.get hlt; rw [HBv.out] at hB; subst hB; have hlt2 : (i : Int) < (h.m : Int) := by omega
    have HA2 := Lib.hid (all_drop (p := fun c => rch c && inn h.s c.dy) hv); obtain ⟨W2, hW2⟩ : ∃ W2, W1.alloc (.cells (Tm.vc r) 52) = W2 := ⟨_, rfl⟩; have hb2 : Below W1.heap.size W1 W2 := hW2 ▸ alloc_ _ _; have HY := Lib.hid (show Bx W2 W1.heap.size 52 (Tm.vc r) from hW2 ▸ Bx.new W1 52 (Tm.vc r)); have H2 := Lib.hid (HK.out.next hb2); have HW2 := Lib.hid hW2; have CC := Lib.hid (right0 r W2 (hcv.below hb2) ((hs_lens HSS.out).2.2 r (List.mem_of_getElem? hr))); have CI := fun W => Lib.hid (span_in h.s r.v.dy W)
    obtain ⟨c0, c1, c2, c3, c4, c5, c6, c7, c8⟩ := N; have y0 := HY.out.c 0; have y1 := HY.out.c 1; have y2 := HY.out.c 2; have y3 := HY.out.c 3; have y4 := HY.out.c 4; have y5 := HY.out.c 5; have y6 := HY.out.c 6; have y7 := HY.out.c 7; have y8 := HY.out.c 8; simp at y0 y1 y2 y3 y4 y5 y6 y7 y8; clear hr hv hcv hb hW2 hb2 hMW
    go_wp2_with fail
    rw [HW2.out]; clear c0 c1 c2 c3 c4 c5 c6 c7 c8; cases hq : rch r.v
    ·have HQ := Lib.hid (show R = false by rw [← HA.out, HA2.out, hq]; rfl); rw [hq] at CC; clear hq
     go_wp2_with fail
     refine CC.out.mono ?_; rintro e w3 ⟨rfl, hb3⟩; have H3 := Lib.hid (H2.out.next hb3); clear hb3 CC CI y0 y1 y2 y3 y4 y5 y6 y7 y8; go_wp2; go_ret; exact ⟨congrArg (fun b => Ending.returned (.bool b)) HQ.out.symm, H3.out.b⟩
    ·rw [hq] at CC
     go_wp2_with fail
     refine CC.out.mono ?_; rintro e w3 ⟨rfl, hb3⟩; have H3 := Lib.hid (H2.out.next hb3); have HY3 := Lib.hid (HY.out.keep hb3); clear hb3 CC y0 y1 y2 y3 y4 y5 y6 y7 y8; have y1 := HY3.out.c 1; simp at y1; have x2 := H3.out.x.c 2; have x3 := H3.out.x.c 3; simp at x2 x3; cases hi : inn h.s r.v.dy
     ·have HQ := Lib.hid (show R = false by rw [← HA.out, HA2.out, hq, hi]; rfl); rw [hi] at CI; clear hi hq
      go_wp2_with fail
      refine (CI _).out.mono ?_; rintro e w4 ⟨rfl, hb4⟩; have H4 := Lib.hid (H3.out.next hb4); clear hb4 CI y1 x2 x3; go_wp2; go_ret; exact ⟨congrArg (fun b => Ending.returned (.bool b)) HQ.out.symm, H4.out.b⟩
     ·have HA3 := Lib.hid (show ((h.v.hs.drop (i + 1)).all fun c => rch c && inn h.s c.dy) = R by rw [← HA.out, HA2.out, hq, hi]; rfl); rw [hi] at CI; clear hi hq
      go_wp2_with fail
      refine (CI _).out.mono ?_; rintro e w4 ⟨rfl, hb4⟩; have H4 := Lib.hid (H3.out.next hb4); clear hb4 CI y1 x2 x3; go_wp2; go_roundw
      case rel => exact ⟨i + 1, _, by omega, by go_num, rfl, H4, HA3⟩
      case measure => simp [intOf]; omega
   ·have HQ := Lib.hid (show R = true by rw [← HA.out, List.drop_of_length_le (by show (h.rs.map Tm.Rw.v).length ≤ i; rw [List.length_map, HMM.out.r.1]; omega)]; rfl); go_wp2; go_ret; exact ⟨congrArg (fun b => Ending.returned (.bool b)) HQ.out.symm, HK.out.b⟩
end Slc
end Go.Proofs.YtplenoaajokpjaaGreat

namespace Go.Proofs.YtplenoaajokpjaaGreat
open Go.RowKit Ba Cv Sp Te Ag Sl Tm
namespace Slc
set_option linter.unusedVariables false
theorem own_type {w : World} {base n c g : Nat} {rs : List Rw} (h : Own w base (some ⟨g, 0, none⟩) n c rs) : ∃ xs q, w.heap[g]? = some (.cells xs 60 q) := by
 rcases h.2 with ⟨e, _⟩ | ⟨g', cap, cur, e, _, hh, _⟩
 ·cases e
 ·injection e with e; injection e with e; injection e with e
  subst e; exact ⟨_, _, hh⟩
theorem cov_not {w : World} {base n c b : Nat} {A : Option Addr} {rs : List Rw} (h : Own w base A n c rs) (hc : cov w b) : some b ≠ (Value.slice A n c).ownBlock := by
 intro e; rcases h.2 with ⟨e', _⟩ | ⟨g, cap, cur, e', _, hh, _⟩
 ·rw [e'] at e; simp [Value.ownBlock] at e
 ·rw [e'] at e; simp [Value.ownBlock] at e; subst e; obtain ⟨xs, q, hx⟩ := hc; rw [hh] at hx; injection hx with hx
  injection hx with _ hx _
  exact absurd hx (by decide)
structure OwnL (w : World) (base : Nat) (A : Option Addr) (n c : Nat) (rs : List Rw) : Prop where
 o : Own w base A n c rs
 k : ∀ r ∈ rs, Cvs w (fun b => (base ≤ b ∧ b < w.heap.size) ∧ cov w b) r.A r.n r.v.h.cs
 m : ∀ r ∈ rs, r.n ≤ 3000
 z : ∀ r ∈ rs, r.v.y = 0
theorem OwnL.nil {w : World} {base : Nat} : OwnL w base none 0 0 [] := ⟨Own.nil, (fun r h => by cases h), (fun r h => by cases h), (fun r h => by cases h)⟩
theorem cvs_kept {w w' : World} {base : Nat} {row : Option Nat} {A : Option Addr} {n : Nat} {cs : List Co} (h : Cvs w (fun b => (base ≤ b ∧ b < w.heap.size) ∧ cov w b) A n cs) (hg : w.grownBy w' row) (hr : ∀ b, cov w b → some b ≠ row) : Cvs w' (fun b => (base ≤ b ∧ b < w'.heap.size) ∧ cov w' b) A n cs :=
 h.keep (fun p hp => World.cell?_of_block (hg.block p.block hp.1.2 (hr _ hp.2))) fun b hb => ⟨⟨hb.1.1, Nat.lt_of_lt_of_le hb.1.2 hg.size⟩, cov_keep hb.2 (hg.block b hb.1.2 (hr _ hb.2))⟩
theorem cvs_below {w w' : World} {base : Nat} {A : Option Addr} {n : Nat} {cs : List Co} (h : Cvs w (fun b => (base ≤ b ∧ b < w.heap.size) ∧ cov w b) A n cs) (hb : Below w.heap.size w w') : Cvs w' (fun b => (base ≤ b ∧ b < w'.heap.size) ∧ cov w' b) A n cs :=
 cvs_kept h (Tm.grown_of_below hb) fun _ _ e => by cases e
theorem OwnL.below {w w' : World} {base n c : Nat} {A : Option Addr} {rs : List Rw} (h : OwnL w base A n c rs) (hb : Below w.heap.size w w') : OwnL w' base A n c rs := ⟨h.o.below hb, fun r hr => cvs_below (h.k r hr) hb, h.m, h.z⟩
def pr (r : Rw) : Sp × Hd := (r.v.s, r.v.h)
theorem grown_below {w w1 w2 : World} {row : Option Nat} (hb : Below w.heap.size w w1) (hg : w1.grownBy w2 row) : w.grownBy w2 row := ⟨hg.os.trans hb.os, hg.tape.trans hb.tape, hg.output.trans hb.output, Nat.le_trans hb.size hg.size, fun k hk hne => (hg.block k (Nat.lt_of_lt_of_le hk hb.size) hne).trans (hb.block k hk)⟩
def LngTo (w : World) (base : Nat) (A : Option Addr) (n c : Nat) (rs : List Rw) (s : Rw) (e : Ending) (w' : World) : Prop := ∃ A' n' c' rs', e = .returned (.slice A' n' c') ∧ OwnL w' base A' n' c' rs' ∧ rs'.map pr = lng (rs.map pr) s.v.s s.v.h ∧ n' ≤ n + 1 ∧ w.grownBy w' (Value.slice A n c).ownBlock
theorem last_split {rs : List Rw} {m : Nat} {r : Rw} (hl : rs.length = m + 1) (hr : rs[m]? = some r) : rs = rs.take m ++ [r] := by
 conv => lhs; rw [← List.take_append_drop m rs, drop_get hr, List.drop_of_length_le (by omega)]
theorem map_last {rs : List Rw} {m : Nat} {r : Rw} (hl : rs.length = m + 1) (hr : rs[m]? = some r) (t : Int) : (rs.set m (r.setT t)).map pr = (rs.take m).map pr ++ [((r.v.s.1, t), r.v.h)] := by
 have e : rs.set m (r.setT t) = rs.take m ++ [r.setT t] := by
  conv => lhs; rw [last_split hl hr]
  rw [List.set_append_right _ _ (by rw [List.length_take]; omega), List.length_take, Nat.min_eq_left (by omega), Nat.sub_self]; rfl
 rw [e, List.map_append]; rfl
theorem lng_set {rs : List Rw} {m : Nat} {r s : Rw} (hl : rs.length = m + 1) (hr : rs[m]? = some r) (h : r.v.h = s.v.h) : (rs.set m (r.setT s.v.s.2)).map pr = lng (rs.map pr) s.v.s s.v.h := by
 rw [map_last hl hr, ← h]
 conv => rhs; rw [last_split hl hr, List.map_append]
 exact (lng_same (L := (rs.take m).map pr) (x := pr r) (z := s.v.s)).symm
theorem lng_add {rs : List Rw} {m : Nat} {r s q : Rw} (hl : rs.length = m + 1) (hr : rs[m]? = some r) (h : r.v.h ≠ s.v.h) (hq : q.v = s.v) : (rs ++ [q]).map pr = lng (rs.map pr) s.v.s s.v.h := by
 have e : rs.map pr = (rs.take m).map pr ++ [pr r] := by
  have := congrArg (List.map pr) (last_split hl hr); rw [List.map_append] at this; exact this
 rw [List.map_append, e, lng_more (x := pr r) h]; show _ ++ [pr q] = _
 rw [show pr q = (s.v.s, s.v.h) by unfold pr; rw [hq]]
theorem lng_first {s q : Rw} (hq : q.v = s.v) : ([] ++ [q] : List Rw).map pr = lng (([] : List Rw).map pr) s.v.s s.v.h := by
 show [pr q] = [(s.v.s, s.v.h)]
 rw [show pr q = (s.v.s, s.v.h) by unfold pr; rw [hq]]
theorem raws_one (w : World) (r : Rw) : Raws (w.alloc (.cells (vc r) 60)) (fun b => w.heap.size ≤ b ∧ b < (w.alloc (.cells (vc r) 60)).heap.size) (some ⟨w.heap.size, 0, none⟩) 1 [r] := (Own.one w r).raws
theorem OwnL.more {w w' : World} {base n c : Nat} {A : Option Addr} {rs : List Rw} {q : Rw} {N c' : Nat} {A' : Option Addr} (h : OwnL w base A n c rs) (ho : Own w' base A' N c' (rs ++ [q])) (hg : w.grownBy w' (Value.slice A n c).ownBlock) (hk : Cvs w (fun b => (base ≤ b ∧ b < w.heap.size) ∧ cov w b) q.A q.n q.v.h.cs) (hm : q.n ≤ 3000) (hz : q.v.y = 0) : OwnL w' base A' N c' (rs ++ [q]) := by
 have hr : ∀ b, cov w b → some b ≠ (Value.slice A n c).ownBlock := fun b hb => cov_not h.o hb
 refine ⟨ho, fun r hr' => ?_, fun r hr' => ?_, fun r hr' => ?_⟩
 all_goals rcases List.mem_append.1 hr' with h' | h'
 ·exact cvs_kept (h.k r h') hg hr
 ·rw [List.mem_singleton] at h'; subst h'; exact cvs_kept hk hg hr
 ·exact h.m r h'
 ·rw [List.mem_singleton] at h'; subst h'; exact hm
 ·exact h.z r h'
 ·rw [List.mem_singleton] at h'; subst h'; exact hz
theorem OwnL.set {w : World} {base n c g i : Nat} {rs : List Rw} {r : Rw} (h : OwnL w base (some ⟨g, 0, none⟩) n c rs) (hr : rs[i]? = some r) (t : Int) : OwnL (w.setCell ⟨g, i * 9 + 1, none⟩ (.int .i64 t)) base (some ⟨g, 0, none⟩) n c (rs.set i (r.setT t)) := by
 have hc : ∀ b, cov w b → some b ≠ (Value.slice (some ⟨g, 0, none⟩) n c).ownBlock := fun b hb => cov_not h.o hb
 have hg := grown_set (w := w) (g := g) (i * 9 + 1) (.int .i64 t) n c; have hmem := List.mem_of_getElem? hr; refine ⟨h.o.putT hr t, fun q hq => ?_, fun q hq => ?_, fun q hq => ?_⟩
 all_goals rcases List.mem_or_eq_of_mem_set hq with h' | h'
 ·exact cvs_kept (h.k q h') hg hc
 ·subst h'; exact cvs_kept (h.k r hmem) hg hc
 ·exact h.m q h'
 ·subst h'; exact h.m r hmem
 ·exact h.z q h'
 ·subst h'; exact h.z r hmem
set_option maxRecDepth 100000 in
set_option maxHeartbeats 4000000 in
theorem lengthened_ (A : Option Addr) (n c : Nat) (rs : List Rw) (s : Rw) (base : Nat) (w : World) (L : OwnL w base A n c rs) (hs : Cvs w (· < w.heap.size) s.A s.n s.v.h.cs) (hns : s.n ≤ 3000) (hy : s.v.y = 0) (hb : base ≤ w.heap.size) (hlen : n ≤ 3000) : Calls Tryz.prog 72 #[.slice A n c, vg s] w (LngTo w base A n c rs s) := by
 obtain ⟨W, hW⟩ : ∃ W, w.alloc (.cells (vc s) 60) = W := ⟨_, rfl⟩; have HB := Lib.hid (show Below w.heap.size w W by rw [← hW]; exact alloc_ _ _); have HX := Lib.hid (show Bx W w.heap.size 60 (vc s) by rw [← hW]; exact Bx.new _ _ _); have HW := Lib.hid hW; have HL := Lib.hid L; have HC := Lib.hid hs; have HY := Lib.hid hy; have hlr := L.o.len; clear hW L hs hy; have x0 := HX.out.c 0; have x1 := HX.out.c 1; have x2 := HX.out.c 2; have x3 := HX.out.c 3; have x4 := HX.out.c 4; have x5 := HX.out.c 5; have x6 := HX.out.c 6; have x7 := HX.out.c 7; have x8 := HX.out.c 8; simp at x0 x1 x2 x3 x4 x5 x6 x7 x8; rcases Nat.eq_zero_or_pos n with h0 | h0
 ·subst h0; have hnil : rs = [] := List.eq_nil_of_length_eq_zero hlr; subst hnil; have O := fun w2 (hb2 : Below w.heap.size w w2) => Lib.hid (own_ s w2 _ (HC.out.keep (fun p hp => hb2.cell hp) (fun _ h => h)) (fun b hb => Nat.lt_of_lt_of_le hb hb2.size) hns)
  go_enter Tryz.func72, Tryz.ntmps72
  go_upto_region 1 with fail
  rw [HW.out]
  go_upto_region 2 with fail
  have ne : Nonempty (Ext W) := ⟨⟨W, Below.refl _ _⟩⟩; refine quietE (by kernel_rfl) (by kernel_rfl) ?_
  repeat (first | go_big_quiet_skip | quiet_step (fail))
  refine wpQuiet_nil ?_; rintro _ ⟨p, rfl⟩; have HB2 := Lib.hid (HB.out.trans (p.b.mono HB.out.size)); have HX2 := Lib.hid (HX.out.keep p.b); generalize p.W = w2 at HB2 HX2 ⊢; clear x0 x1 x2 x3 x4 x5 x6 x7 x8 HX ne; have O2 := O w2 HB2.out; have x0 := HX2.out.c 0; have x1 := HX2.out.c 1; have x2 := HX2.out.c 2; have x3 := HX2.out.c 3; have x4 := HX2.out.c 4; have x5 := HX2.out.c 5; have x6 := HX2.out.c 6; have x7 := HX2.out.c 7; have x8 := HX2.out.c 8; simp at x0 x1 x2 x3 x4 x5 x6 x7 x8; clear O
  go_wp2_with fail
  refine O2.out.mono ?_; rintro e w3 ⟨A3, c3, rfl, hc3, hb3⟩; have HB3 := Lib.hid (HB2.out.trans (hb3.mono HB2.out.size)); have HC3 := Lib.hid hc3; have HL3 := Lib.hid (HL.out.below HB3.out); have hs2 := HB2.out.size; clear hc3 hb3 O2 x0 x1 x2 x3 x4 x5 x6 x7 x8
  go_wp2_with (at_builtin; refine wpList_app _ rfl _ _ rfl base A 0 c [] rfl (HL3.out.o.below (alloc_ _ _)) (fun b => w3.heap.size ≤ b ∧ b < (w3.alloc (.cells (vc ⟨s.v, A3, s.n, c3⟩) 60)).heap.size) (some ⟨w3.heap.size, 0, none⟩) 1 1 [⟨s.v, A3, s.n, c3⟩] rfl (raws_one w3 ⟨s.v, A3, s.n, c3⟩) (fun e => by cases e) 1 rfl (by omega) (by have := HB3.out.size; simp; omega) ?_; intro A5 c5 w5 hO5 hg5; have HO5 := Lib.hid hO5; have HG5 := Lib.hid hg5; clear hO5 hg5)
  go_wp2; go_ret; have hal := alloc_ w3 (.cells (vc ⟨s.v, A3, s.n, c3⟩) 60); have hb3s := HB3.out.size; exact ⟨A5, 1, c5, [] ++ [⟨s.v, A3, s.n, c3⟩], rfl, (HL3.out.below hal).more HO5.out HG5.out (cvs_below (HC3.out.keep (fun _ _ => rfl) fun b hb => ⟨⟨by omega, hb.1.2⟩, hb.2⟩) hal) hns HY.out, lng_first rfl, by omega, grown_below (HB3.out.trans (hal.mono HB3.out.size)) HG5.out⟩
 ·obtain ⟨m, hnm⟩ : ∃ m, n = m + 1 := ⟨n - 1, by omega⟩; have HN := Lib.hid hnm; have hlr := hlr.trans hnm; have hlt : m < n := by omega
  have hlt2 : (m : Int) < (n : Int) := by omega
  have hw : IntKind.i64.wrap ((n : Int) - 1) = (m : Int) := by rw [IntWalk.i64_in _ (by omega)]; omega
  have hw2 : (n : Int) - 1 = (m : Int) := by omega
  obtain ⟨g, rfl, hg1, hg2⟩ := HL.out.o.form (by omega); obtain ⟨r, hr⟩ : ∃ r, rs[m]? = some r := ⟨rs[m]'(by omega), List.getElem?_eq_getElem (by omega)⟩; have HR := Lib.hid hr; have HLR := Lib.hid hlr; have CA := fun p : Ext W => Lib.hid (alike_h r s p.W ⟨(HL.out.k r (List.mem_of_getElem? hr)).keep (fun q hq => (HB.out.trans (p.b.mono HB.out.size)).cell hq.1.2) (fun b hb => Nat.lt_of_lt_of_le hb.1.2 (Nat.le_trans HB.out.size p.b.size)), HL.out.m r (List.mem_of_getElem? hr)⟩ ⟨HC.out.keep (fun q hq => (HB.out.trans (p.b.mono HB.out.size)).cell hq) (fun b hb => Nat.lt_of_lt_of_le hb (Nat.le_trans HB.out.size p.b.size)), hns⟩)
  obtain ⟨u, hu⟩ : ∃ u, decide (r.v.h = s.v.h) = u := ⟨_, rfl⟩; rw [hu] at CA; have HU := Lib.hid hu; have N : ∀ p : Ext W, Nin p.W ⟨g, m * 9, none⟩ r := fun p => ((HL.out.o.below (HB.out.trans (p.b.mono HB.out.size))).raws).at HR.out
  have n0 : ∀ p : Ext W, p.W.cell? ⟨g, m * 9, none⟩ = _ := fun p => (N p).c0
  have n1 : ∀ p : Ext W, p.W.cell? ⟨g, m * 9 + 1, none⟩ = _ := fun p => (N p).c1
  have n2 : ∀ p : Ext W, p.W.cell? ⟨g, m * 9 + 2, none⟩ = _ := fun p => (N p).c2
  have n3 : ∀ p : Ext W, p.W.cell? ⟨g, m * 9 + 3, none⟩ = _ := fun p => (N p).c3
  have n4 : ∀ p : Ext W, p.W.cell? ⟨g, m * 9 + 4, none⟩ = _ := fun p => (N p).c4
  have n5 : ∀ p : Ext W, p.W.cell? ⟨g, m * 9 + 5, none⟩ = _ := fun p => (N p).c5
  have n6 : ∀ p : Ext W, p.W.cell? ⟨g, m * 9 + 6, none⟩ = _ := fun p => (N p).c6
  have n7 : ∀ p : Ext W, p.W.cell? ⟨g, m * 9 + 7, none⟩ = _ := fun p => (N p).c7
  have n8 : ∀ p : Ext W, p.W.cell? ⟨g, m * 9 + 8, none⟩ = _ := fun p => (N p).c8
  have hm0 : decide (0 ≤ (m : Int)) = true := decide_eq_true (by omega); clear hr hlr hu N hnm x0 x1 x2 x3 x4 x5 x6 x7 x8; have x0 : ∀ p : Ext W, p.W.cell? ⟨w.heap.size, 0, none⟩ = some (.int .i64 s.v.s.1) := fun p => HX.out.ext p 0
  have x1 : ∀ p : Ext W, p.W.cell? ⟨w.heap.size, 1, none⟩ = some (.int .i64 s.v.s.2) := fun p => HX.out.ext p 1
  have x2 : ∀ p : Ext W, p.W.cell? ⟨w.heap.size, 2, none⟩ = some (.bool s.v.h.on) := fun p => HX.out.ext p 2
  have x3 : ∀ p : Ext W, p.W.cell? ⟨w.heap.size, 3, none⟩ = some (.int .i64 s.v.h.r.k) := fun p => HX.out.ext p 3
  have x4 : ∀ p : Ext W, p.W.cell? ⟨w.heap.size, 4, none⟩ = some (.int .i64 s.v.h.r.v) := fun p => HX.out.ext p 4
  have x5 : ∀ p : Ext W, p.W.cell? ⟨w.heap.size, 5, none⟩ = some (.int .i64 s.v.h.r.a) := fun p => HX.out.ext p 5
  have x6 : ∀ p : Ext W, p.W.cell? ⟨w.heap.size, 6, none⟩ = some (.int .i64 s.v.h.r.z) := fun p => HX.out.ext p 6
  have x7 : ∀ p : Ext W, p.W.cell? ⟨w.heap.size, 7, none⟩ = some (.slice s.A s.n s.c) := fun p => HX.out.ext p 7
  have x8 : ∀ p : Ext W, p.W.cell? ⟨w.heap.size, 8, none⟩ = some (.int .i64 s.v.y) := fun p => HX.out.ext p 8
  go_enter Tryz.func72, Tryz.ntmps72
  go_upto_region 1 with fail
  rw [HW.out]
  go_upto_region 2 with fail
  have ne : Nonempty (Ext W) := ⟨⟨W, Below.refl _ _⟩⟩; refine quietE (by kernel_rfl) (by kernel_rfl) ?_
  repeat (first | go_big_quiet_skip | quiet_step (first
   | (go_at_call 97; with_reducible exact ext_of (CA _).out)
   | fail))
  refine wpQuiet_nil ?_; rintro _ ⟨p, rfl⟩; have HB2 := Lib.hid (HB.out.trans (p.b.mono HB.out.size)); have HX2 := Lib.hid (HX.out.keep p.b); generalize p.W = w2 at HB2 HX2 ⊢; clear CA ne x0 x1 x2 x3 x4 x5 x6 x7 x8 n0 n1 n2 n3 n4 n5 n6 n7 n8 HX HW; have HL2 := Lib.hid (HL.out.below HB2.out); cases u
  ·have O2 := Lib.hid (own_ s w2 _ (HC.out.keep (fun p hp => HB2.out.cell hp) (fun _ h => h)) (fun b hb => Nat.lt_of_lt_of_le hb HB2.out.size) hns); have x0 := HX2.out.c 0; have x1 := HX2.out.c 1; have x2 := HX2.out.c 2; have x3 := HX2.out.c 3; have x4 := HX2.out.c 4; have x5 := HX2.out.c 5; have x6 := HX2.out.c 6; have x7 := HX2.out.c 7; have x8 := HX2.out.c 8; simp at x0 x1 x2 x3 x4 x5 x6 x7 x8
   go_wp2_with fail
   refine O2.out.mono ?_; rintro e w3 ⟨A3, c3, rfl, hc3, hb3⟩; have HB3 := Lib.hid (HB2.out.trans (hb3.mono HB2.out.size)); have HC3 := Lib.hid hc3; have HL3 := Lib.hid (HL.out.below HB3.out); have hs2 := HB2.out.size; clear hc3 hb3 O2 x0 x1 x2 x3 x4 x5 x6 x7 x8
   go_wp2_with (at_builtin; refine wpList_app _ rfl _ _ rfl base (some ⟨g, 0, none⟩) n c rs rfl (HL3.out.o.below (alloc_ _ _)) (fun b => w3.heap.size ≤ b ∧ b < (w3.alloc (.cells (vc ⟨s.v, A3, s.n, c3⟩) 60)).heap.size) (some ⟨w3.heap.size, 0, none⟩) 1 1 [⟨s.v, A3, s.n, c3⟩] rfl (raws_one w3 ⟨s.v, A3, s.n, c3⟩) (fun e => by cases e) (n + 1) rfl (by omega) (by have := HB3.out.size; simp; omega) ?_; intro A5 c5 w5 hO5 hg5; have HO5 := Lib.hid hO5; have HG5 := Lib.hid hg5; clear hO5 hg5)
   go_wp2; go_ret; have hal := alloc_ w3 (.cells (vc ⟨s.v, A3, s.n, c3⟩) 60); have hb3s := HB3.out.size; exact ⟨A5, n + 1, c5, rs ++ [⟨s.v, A3, s.n, c3⟩], rfl, (HL3.out.below hal).more HO5.out HG5.out (cvs_below (HC3.out.keep (fun _ _ => rfl) fun b hb => ⟨⟨by omega, hb.1.2⟩, hb.2⟩) hal) hns HY.out, lng_add HLR.out HR.out (of_decide_eq_false HU.out) rfl, by omega, grown_below (HB3.out.trans (hal.mono HB3.out.size)) HG5.out⟩
  ·have N := (HL2.out.o.raws).at HR.out; have n1 := N.c1; simp only at n1; have fg := HL2.out.o.frozen; have x1 := HX2.out.c 1; simp at x1; clear N; go_wp2; go_ret; exact ⟨some ⟨g, 0, none⟩, n, c, rs.set m (r.setT s.v.s.2), rfl, HL2.out.set HR.out _, lng_set HLR.out HR.out (of_decide_eq_true HU.out), by omega, grown_below HB2.out (grown_set _ _ _ _)⟩
end Slc
end Go.Proofs.YtplenoaajokpjaaGreat
