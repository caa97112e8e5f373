/-
  The parts Few12, Laws12, Facts12, Kn of this proof. Conditions: those of each theorem.
-/
import Derived.Test.YtfidmphajohljaaGreatMOb
import Derived.Test.YtfidmphajohljaaGreatMGi
import Derived.Lib.Hide
namespace Go.Proofs.YtfidmphajohljaaGreat
open Go.RowKit Ba Cv Sp Te Ag Tf Sl Tm
namespace Slc
set_option linter.unusedVariables false
structure Small (h : Hr) (nt : Nat) (vs : List Trf.Rw) : Prop where
 m : h.m ≤ 60
 t : nt ≤ 100
 n : h.n ≤ 50
 k : ∀ r ∈ h.rs, r.n ≤ 50
 v : ∀ r ∈ vs, r.la ≤ 200 ∧ r.lz ≤ 200 ∧ r.lp ≤ 200
def FewTo (w : World) (h : Hr) (nt : Nat) (vs : List Trf.Rw) (e : Ending) (w' : World) : Prop := ∃ b : Bool, e = .returned (.bool b) ∧ Below w.heap.size w w' ∧ (b = true → Small h nt vs)
theorem Small.hs {w : World} {h : Hr} {nt : Nat} {vs : List Trf.Rw} (s : Small h nt vs) (g : GivenH w h) : HS h := g.small (Nat.le_trans s.n (by omega)) (Nat.le_trans s.m (by omega)) (fun r hr => Nat.le_trans (s.k r hr) (by omega))
theorem Small.vers {w : World} {T : Option Addr} {ct : Nat} {h : Hr} {nt : Nat} {vs : List Trf.Rw} (s : Small h nt vs) (g : Trf.GivenT w T nt ct vs) : Trf.Vers w T nt vs := ⟨g.r, g.m, fun r hr => ⟨Nat.le_trans (s.v r hr).1 (by omega), Nat.le_trans (s.v r hr).2.1 (by omega), Nat.le_trans (s.v r hr).2.2 (by omega)⟩⟩
theorem Small.cov {h : Hr} {nt : Nat} {vs : List Trf.Rw} (s : Small h nt vs) : h.n ≤ 1000 ∧ ∀ r ∈ h.rs, r.n ≤ 1000 := ⟨Nat.le_trans s.n (by omega), fun r hr => Nat.le_trans (s.k r hr) (by omega)⟩
set_option maxRecDepth 100000 in
set_option maxHeartbeats 4000000 in
theorem few12 (h : Hr) (T : Option Addr) (nt ct : Nat) (vs : List Trf.Rw) (w : World) (G : GivenH w h) (GT : Trf.GivenT w T nt ct vs) : Calls Tryz.prog 10 #[hg h, Trf.tg T nt ct] w (FewTo w h nt vs) := by
 obtain ⟨W, hW⟩ : ∃ W, (w.alloc (.cells (hc h) 31)).alloc (.cells #[.slice T nt ct] 34) = W := ⟨_, rfl⟩; have H0 := Lib.hid (show O2 w W h T nt ct by rw [← hW]; exact O2.start w h T nt ct); have HW := Lib.hid hW; have HG := Lib.hid G; have HGT := Lib.hid GT; have bm := G.m; have bn := G.n; have bt := GT.big; obtain ⟨Bv, hBv⟩ : ∃ Bv, h.B = Bv := ⟨_, rfl⟩; have HBv := Lib.hid hBv; have x0 := H0.out.x.c 0; have x1 := H0.out.x.c 1; have x2 := H0.out.x.c 2; have x3 := H0.out.x.c 3; have x4 := H0.out.x.c 4; have x5 := H0.out.x.c 5; have x6 := H0.out.x.c 6; have x7 := H0.out.x.c 7; have x8 := H0.out.x.c 8; have x9 := H0.out.x.c 9; simp at x0 x1 x2 x3 x4 x5 x6 x7 x8 x9; have y0 := H0.out.y.c 0; simp at y0; rw [hBv] at x9; clear hW G GT hBv; by_cases h1 : h.m ≤ 60
 case neg =>
  have t1 : decide ((60 : Int) < (h.m : Int)) = true := decide_eq_true (by omega); go_enter Tryz.func10, Tryz.ntmps10
  go_upto_region 1 with fail
  rw [HW.out]; go_wp2; go_ret; exact ⟨false, rfl, H0.out.b, fun e => by cases e⟩
 have t1 : decide ((60 : Int) < (h.m : Int)) = false := decide_eq_false (by omega); by_cases h2 : nt ≤ 100
 case neg =>
  have t2 : decide ((100 : Int) < (nt : Int)) = true := decide_eq_true (by omega); go_enter Tryz.func10, Tryz.ntmps10
  go_upto_region 1 with fail
  rw [HW.out]; go_wp2; go_ret; exact ⟨false, rfl, H0.out.b, fun e => by cases e⟩
 have t2 : decide ((100 : Int) < (nt : Int)) = false := decide_eq_false (by omega); by_cases h3 : h.n ≤ 50
 case neg =>
  have t3 : decide ((50 : Int) < (h.n : Int)) = true := decide_eq_true (by omega); go_enter Tryz.func10, Tryz.ntmps10
  go_upto_region 1 with fail
  rw [HW.out]; go_wp2; go_ret; exact ⟨false, rfl, H0.out.b, fun e => by cases e⟩
 have t3 : decide ((50 : Int) < (h.n : Int)) = false := decide_eq_false (by omega); have HS := Lib.hid (And.intro h1 (And.intro h2 h3)); go_enter Tryz.func10, Tryz.ntmps10
 go_upto_region 1 with fail
 rw [HW.out]; clear h1 h2 h3 HW; go_wp2; clear x0 x1 x2 x3 x4 x5 x6 x7 x8 x9 y0
 go_loopw [5] (fun vi w' => ∃ (k : Nat) (W : World), k ≤ h.m ∧ vi = .int .i64 (k : Int) ∧ W = w' ∧ Hid (O2 w W h T nt ct) ∧ Hid (∀ r ∈ h.rs.take k, r.n ≤ 50)) (fun vi _ => h.m - (intOf vi).toNat)
 case atStart => exact ⟨0, _, Nat.zero_le _, rfl, rfl, H0, Lib.hid (fun r hr => by simp at hr)⟩
 case round =>
  obtain ⟨k, W, hk, rfl, rfl, H, HK⟩ := hrel; clear H0; have x9 := H.out.x.c 9; have y0 := H.out.y.c 0; simp at x9 y0; rw [HBv.out] at x9; by_cases hlt : k < h.m
  ·obtain ⟨ad, r, hB, hb, hr, N, hcv, hv⟩ := (HG.out.M.below H.out.b).get hlt; rw [HBv.out] at hB; subst hB; have hlt2 : (k : Int) < (h.m : Int) := by omega
   obtain ⟨c0, c1, c2, c3, c4, c5, c6, c7, c8⟩ := N; have bk := HG.out.k r (List.mem_of_getElem? hr); by_cases hr5 : r.n ≤ 50
   ·have t5 : decide ((50 : Int) < (r.n : Int)) = false := decide_eq_false (by omega)
    have HK2 := Lib.hid (show ∀ r ∈ h.rs.take (k + 1), r.n ≤ 50 from fun q hq => by
     rw [take_get hr] at hq; rcases List.mem_append.1 hq with hq | hq
     ·exact HK.out q hq
     ·rw [List.mem_singleton] at hq; subst hq; exact hr5)
    clear hr hcv hv hb; go_wp2; go_roundw
    case rel => exact ⟨k + 1, W, by omega, by go_num, rfl, H, HK2⟩
    case measure => simp [intOf]; omega
   ·have t5 : decide ((50 : Int) < (r.n : Int)) = true := decide_eq_true (by omega); clear hr hcv hv hb; go_wp2; go_ret; exact ⟨false, rfl, H.out.b, fun e => by cases e⟩
  ·obtain rfl : k = h.m := by omega
   have HKK := Lib.hid (show ∀ r ∈ h.rs, r.n ≤ 50 from fun r hr => HK.out r (by rw [List.take_of_length_le (Nat.le_of_eq HG.out.M.r.1)]; exact hr)); clear HK; go_wp2; clear x9 y0
   go_loopw [6] (fun vi w' => ∃ (k : Nat) (W : World), k ≤ nt ∧ vi = .int .i64 (k : Int) ∧ W = w' ∧ Hid (O2 w W h T nt ct) ∧ Hid (∀ r ∈ vs.take k, r.la ≤ 200 ∧ r.lz ≤ 200 ∧ r.lp ≤ 200)) (fun vi _ => nt - (intOf vi).toNat)
   case atStart => exact ⟨0, _, Nat.zero_le _, rfl, rfl, H, Lib.hid (fun r hr => by simp at hr)⟩
   case round =>
    obtain ⟨k, W, hk, rfl, rfl, H2, HK⟩ := hrel; clear H; have y0 := H2.out.y.c 0; simp at y0; by_cases hlt : k < nt
    ·obtain ⟨ad, r, rfl, hb, hr, N⟩ := (HGT.out.r.below H2.out.b).get hlt; have hlt2 : (k : Int) < (nt : Int) := by omega
     obtain ⟨c0, c1, c2, c3, c4, c5, c6, c7, c8⟩ := N; have lo := HGT.out.l r (List.mem_of_getElem? hr); have l1 := lo.a; have l2 := lo.z; have l3 := lo.p; have HR := Lib.hid hr; have HB3 := Lib.hid (show O2 w (W.alloc (.cells (Trf.vc r) 65)) h (some ad) nt ct from H2.out.next (alloc_ _ _)); clear hr hb lo; by_cases q1 : r.la ≤ 200
     case neg =>
      have u1 : decide ((200 : Int) < (r.la : Int)) = true := decide_eq_true (by omega); go_wp2; go_ret; exact ⟨false, rfl, HB3.out.b, fun e => by cases e⟩
     have u1 : decide ((200 : Int) < (r.la : Int)) = false := decide_eq_false (by omega); by_cases q2 : r.lz ≤ 200
     case neg =>
      have u2 : decide ((200 : Int) < (r.lz : Int)) = true := decide_eq_true (by omega); go_wp2; go_ret; exact ⟨false, rfl, HB3.out.b, fun e => by cases e⟩
     have u2 : decide ((200 : Int) < (r.lz : Int)) = false := decide_eq_false (by omega); by_cases q3 : r.lp ≤ 200
     case neg =>
      have u3 : decide ((200 : Int) < (r.lp : Int)) = true := decide_eq_true (by omega); go_wp2; go_ret; exact ⟨false, rfl, HB3.out.b, fun e => by cases e⟩
     have u3 : decide ((200 : Int) < (r.lp : Int)) = false := decide_eq_false (by omega)
     have HK2 := Lib.hid (show ∀ r ∈ vs.take (k + 1), r.la ≤ 200 ∧ r.lz ≤ 200 ∧ r.lp ≤ 200 from fun q hq => by
      rw [take_get HR.out] at hq; rcases List.mem_append.1 hq with hq | hq
      ·exact HK.out q hq
      ·rw [List.mem_singleton] at hq; subst hq; exact ⟨q1, q2, q3⟩)
     clear q1 q2 q3; go_wp2; go_roundw
     case rel => exact ⟨k + 1, _, by omega, by go_num, rfl, HB3, HK2⟩
     case measure => simp [intOf]; omega
    ·obtain rfl : k = nt := by omega
     go_wp2; go_ret; exact ⟨true, rfl, H2.out.b, fun _ => ⟨HS.out.1, HS.out.2.1, HS.out.2.2, HKK.out, fun r hr => HK.out r (by rw [List.take_of_length_le (Nat.le_of_eq HGT.out.r.1)]; exact hr)⟩⟩
end Slc
end Go.Proofs.YtfidmphajohljaaGreat

namespace Go.Proofs.YtfidmphajohljaaGreat
open Go.RowKit Ba Cv Sp Te Ag Tf Sl Tm
namespace Slc
set_option linter.unusedVariables false
theorem gh_below {w W : World} {h : Hr} (g : GivenH w h) (hb : Below w.heap.size w W) : GivenH W h := ⟨g.M.below hb, g.n, g.k, g.m, g.f, g.z⟩
theorem gt_below {w W : World} {A : Option Addr} {n c : Nat} {rs : List Trf.Rw} (g : Trf.GivenT w A n c rs) (hb : Below w.heap.size w W) : Trf.GivenT W A n c rs := ⟨g.r.below hb, fun r hr => (g.m r hr).below hb, g.l, g.big, g.cap, g.nil⟩
theorem cod_le (d : Int) (vs : List Ve) : Trf.cod d vs = 0 ∨ Trf.cod d vs = 7 := by unfold Trf.cod; split <;> simp
end Slc
end Go.Proofs.YtfidmphajohljaaGreat

namespace Go.Proofs.YtfidmphajohljaaGreat
open Go.RowKit Ba Cv Sp Te Ag Tf Sl Tm
namespace Slc
set_option linter.unusedVariables false
theorem qf_nn (v : Ve) (x : Ri) (cs : List Co) : 0 ≤ (qf v x cs).1 := (Qm.yr_bd (fun c => (Qm.qd_bd v x c).1) cs).1
section
variable {h : Hi} {vs : List Ve} {code : Int} {ss : List Sc}
theorem OfIs.nil (H : OfIs h vs code ss) (hc : code ≠ 0) : ss = [] := by
 cases H with
 | wrong h0 h1 h2 => exact h2
 | none h0 h1 h2 h3 => exact h3
 | some h0 h1 o L h2 h3 h4 h5 => rw [h5, if_neg (by rw [← h4]; exact hc)]
theorem OfIs.ok (H : OfIs h vs 0 ss) : hrt h = true ∧ Trf.cod h.s.1 vs = 0 ∧ ∃ o L, Ag.Ord h.hs o ∧ Cutd (hld (ini h) (ordl h.hs o)) h.s.1 h.s.2 L ∧ bad (qf (Trf.tol h.s.1 vs)) L = 0 ∧ ss = L.map (prc (qf (Trf.tol h.s.1 vs))) := by
 cases H with
 | wrong h0 h1 h2 => omega
 | none h0 h1 h2 h3 => exact absurd h2.symm h1
 | some h0 h1 o L h2 h3 h4 h5 => exact ⟨h0, h1, o, L, h2, h3, h4.symm, by rw [h5, if_pos h4.symm]⟩
end
theorem hrt_span {h : Hi} (hr : hrt h = true) : 1 ≤ h.s.1 ∧ h.s.1 < h.s.2 ∧ h.s.2 ≤ 292195 ∧ h.s.2 - h.s.1 ≤ 1100 := (te_iff.1 (hrt_iff.1 hr).1).1
section
variable {g : Int → Hd} {s : Sp} {L : List (Sp × Hd)} {q : Ri → List Co → Int × Int}
theorem find_in (H : Cutd g s.1 s.2 L) (h1 : 1 ≤ s.1) (h2 : s.2 ≤ 292195) {d : Int} (hd1 : s.1 ≤ d) (hd2 : d < s.2) : ∃ y, (L.map (prc q)).find? (fun x => inn x.s d) = some y ∧ y.s.1 ≤ d ∧ d < y.s.2 ∧ y = prc q (y.s, g d) := by
 obtain ⟨x, hx, hx1, hx2, hx3⟩ := H.mem hd1 hd2; have hm := H.ch.mem x.1 (List.mem_map.2 ⟨x, hx, rfl⟩)
 have hs : ((L.map (prc q)).find? (fun x => inn x.s d)).isSome = true := by
  rw [List.find?_isSome]; exact ⟨prc q x, List.mem_map.2 ⟨x, hx, rfl⟩, (inn_iff _ _).2 ⟨by show 1 ≤ x.1.1; omega, by show x.1.2 ≤ 292195; omega, hx1, hx2⟩⟩
 obtain ⟨y, hy⟩ := Option.isSome_iff_exists.1 hs; have hyi : inn y.s d = true := List.find?_some (p := fun x : Sc => inn x.s d) hy; obtain ⟨z, hz, rfl⟩ := List.mem_map.1 (List.mem_of_find?_eq_some hy); have hyi := (inn_iff _ _).1 hyi; refine ⟨_, hy, hyi.2.2.1, hyi.2.2.2, ?_⟩; have e : z = (z.1, g d) := Prod.ext rfl (H.is z hz d hyi.2.2.1 hyi.2.2.2).symm; show prc q z = prc q (z.1, g d)
 rw [← e]
theorem find_out (H : Cutd g s.1 s.2 L) {d : Int} (hd : ¬ (s.1 ≤ d ∧ d < s.2)) : (L.map (prc q)).find? (fun x => inn x.s d) = none := by
 rw [List.find?_eq_none]; intro y hy hi; obtain ⟨z, hz, rfl⟩ := List.mem_map.1 hy; have hm := H.ch.mem z.1 (List.mem_map.2 ⟨z, hz, rfl⟩); have hi := (inn_iff _ _).1 hi; have h1 : z.1.1 ≤ d := hi.2.2.1; have h2 : d < z.1.2 := hi.2.2.2; exact hd ⟨by omega, by omega⟩
theorem prc_s (x : Sp × Hd) : (prc q x).s = x.1 := rfl
theorem prc_h (x : Sp × Hd) : (prc q x).h = x.2 := rfl
theorem prc_y (x : Sp × Hd) (hq : ∀ x cs, 0 ≤ (q x cs).1) : 0 ≤ (prc q x).y ∧ (x.2.on = false → (prc q x).y = 0) := by
 unfold prc; cases h : x.2.on
 ·exact ⟨by show (0 : Int) ≤ 0; omega, fun _ => rfl⟩
 ·exact ⟨hq _ _, fun e => by cases e⟩
end
theorem fnd_map {rs : List Rw} {ss : List Sc} (h : rs.map Rw.v = ss) (d : Int) : fnd rs d = ss.find? fun x => inn x.s d := by unfold fnd; rw [h]
theorem chain_at {t : Int} {xs : List Sp} {i : Nat} {x : Sp} {a : Int} (h : Chain a t (xs.drop i)) (hx : xs[i]? = some x) : x.1 = a ∧ a < x.2 ∧ Chain x.2 t (xs.drop (i + 1)) := by
 rw [drop_get hx] at h; exact ⟨h.1, by have := h.1; have := h.2.1; omega, h.2.2⟩
theorem key_left {hs : List Ch} {c : Ch} {x : Int} (h0 : 0 ≤ x) (h1 : x < hs.length) : key (hs ++ [c]) x = key hs x := by
 unfold key; rw [List.getElem?_append_left (by omega)]
theorem key_new (hs : List Ch) (c : Ch) : key (hs ++ [c]) (hs.length : Int) = c.dy := by
 unfold key; rw [Int.toNat_natCast, List.getElem?_append_right (Nat.le_refl _), Nat.sub_self]; rfl
theorem ord_snoc {hs : List Ch} {c : Ch} {o : List Int} (H : Ag.Ord (hs ++ [c]) o) : ∃ o1 o2, o = o1 ++ (hs.length : Int) :: o2 ∧ Ag.Ord hs (o1 ++ o2) ∧ (∀ z ∈ o2, c.dy < key hs z) ∧ (∀ z ∈ o1, key hs z ≤ c.dy) := by
 have hmem : (hs.length : Int) ∈ o := H.1.mem_iff.2 (plc_mem.2 ⟨by omega, by rw [List.length_append, List.length_singleton]; omega⟩); obtain ⟨o1, o2, rfl⟩ := List.append_of_mem hmem
 have hp : List.Perm (o1 ++ o2) (plc hs.length) := by
  have h1 : List.Perm (o1 ++ (hs.length : Int) :: o2) ((hs.length : Int) :: (o1 ++ o2)) := List.perm_middle
  have h2 : List.Perm (plc (hs ++ [c]).length) ((hs.length : Int) :: plc hs.length) := by
   rw [List.length_append, List.length_singleton, plc_next]; exact List.perm_append_singleton _ _
  exact ((h1.symm.trans H.1).trans h2).cons_inv
 have hin : ∀ z ∈ o1 ++ o2, 0 ≤ z ∧ z < hs.length := fun z hz => plc_mem.1 (hp.mem_iff.1 hz)
 have hs2 := H.2; have hsub : List.Pairwise (St.lt (key (hs ++ [c]))) (o1 ++ o2) := hs2.sublist (List.Sublist.append_left (List.sublist_cons_self _ _) _); refine ⟨o1, o2, rfl, ⟨hp, ?_⟩, fun z hz => ?_, fun z hz => ?_⟩
 ·refine hsub.imp_of_mem fun {a b} ha hb hab => ?_
  unfold St.lt at hab ⊢; have ka := hin a ha; have kb := hin b hb; rwa [key_left ka.1 ka.2, key_left kb.1 kb.2] at hab
 ·have h1 := (List.pairwise_cons.1 (List.pairwise_append.1 hs2).2.1).1 z hz; have hz2 := hin z (List.mem_append_right _ hz); unfold St.lt at h1; rw [key_new, key_left hz2.1 hz2.2] at h1; omega
 ·have h1 := (List.pairwise_append.1 hs2).2.2 z hz (hs.length : Int) List.mem_cons_self; have hz2 := hin z (List.mem_append_left _ hz); unfold St.lt at h1; rw [key_new, key_left hz2.1 hz2.2] at h1; omega
theorem ordl_left {hs : List Ch} {c : Ch} {o : List Int} (h : ∀ z ∈ o, 0 ≤ z ∧ z < hs.length) : ordl (hs ++ [c]) o = ordl hs o := by
 unfold ordl; refine List.map_congr_left fun z hz => ?_
 have := h z hz; rw [List.getElem?_append_left (by omega)]
theorem ordl_snoc {hs : List Ch} {c : Ch} {o1 o2 : List Int} (H : Ag.Ord hs (o1 ++ o2)) : ordl (hs ++ [c]) (o1 ++ (hs.length : Int) :: o2) = ordl hs o1 ++ c :: ordl hs o2 ∧ ordl hs (o1 ++ o2) = ordl hs o1 ++ ordl hs o2 := by
 have hin : ∀ z ∈ o1 ++ o2, 0 ≤ z ∧ z < hs.length := fun z hz => ord_at H hz
 refine ⟨?_, by simp [ordl]⟩; have h1 : ordl (hs ++ [c]) o1 = ordl hs o1 := ordl_left fun z hz => hin z (List.mem_append_left _ hz)
 have h2 : ordl (hs ++ [c]) o2 = ordl hs o2 := ordl_left fun z hz => hin z (List.mem_append_right _ hz)
 have h3 : ((hs ++ [c])[((hs.length : Nat) : Int).toNat]?).getD zch = c := by
  rw [Int.toNat_natCast, List.getElem?_append_right (Nat.le_refl _), Nat.sub_self]; rfl
 rw [← h1, ← h2]; unfold ordl; rw [List.map_append, List.map_cons, h3]
theorem ordl_key {hs : List Ch} {o : List Int} {d : Int} {p : Int → Prop} (h : ∀ z ∈ o, p (key hs z)) : ∀ c ∈ ordl hs o, p c.dy := by
 intro c hc; obtain ⟨z, hz, rfl⟩ := List.mem_map.1 hc; rw [← key_getD]; exact h z hz
theorem hld_ahead {h : Hi} {c : Ch} {o o' : List Int} (H : Ag.Ord h.hs o) (H' : Ag.Ord (h.hs ++ [c]) o') {d : Int} (hd : d < c.dy) (i : Hd) : hld i (ordl (h.hs ++ [c]) o') d = hld i (ordl h.hs o) d := by
 obtain ⟨o1, o2, rfl, K, k2, k1⟩ := ord_snoc H'; obtain rfl : o = o1 ++ o2 := H.one K; obtain ⟨e1, e2⟩ := ordl_snoc (c := c) K; rw [e1, e2]; unfold hld ups; rw [List.filter_append, List.filter_cons_of_neg (by simp; omega), List.filter_append]
theorem hld_last {h : Hi} {c : Ch} {o' : List Int} (H' : Ag.Ord (h.hs ++ [c]) o') (i : Hd) : ∃ s : Hd, hld i (ordl (h.hs ++ [c]) o') c.dy = don s c := by
 obtain ⟨o1, o2, rfl, K, k2, k1⟩ := ord_snoc H'; obtain ⟨e1, e2⟩ := ordl_snoc (c := c) K; rw [e1]; unfold hld ups
 have h2 : List.filter (fun x : Ch => decide (x.dy ≤ c.dy)) (ordl h.hs o2) = [] := by
  rw [List.filter_eq_nil_iff]; intro x hx; have := ordl_key (d := 0) (p := fun k => c.dy < k) k2 x hx; simp; omega
 rw [List.filter_append, List.filter_cons_of_pos (by simp), h2, List.foldl_append]; exact ⟨_, rfl⟩
theorem hld_idle {h : Hi} {c : Ch} {o o' : List Int} (H : Ag.Ord h.hs o) (H' : Ag.Ord (h.hs ++ [c]) o') (i : Hd) (P : Hd → Prop) (hi : P i) (hstep : ∀ s x, x ∈ h.hs → P s → P (don s x)) (hc : ∀ s, P s → don s c = s) (d : Int) : hld i (ordl (h.hs ++ [c]) o') d = hld i (ordl h.hs o) d := by
 obtain ⟨o1, o2, rfl, K, k2, k1⟩ := ord_snoc H'; obtain rfl : o = o1 ++ o2 := H.one K; obtain ⟨e1, e2⟩ := ordl_snoc (c := c) K; have hm : ∀ x ∈ ordl h.hs o1, x ∈ h.hs := fun x hx => (ordl_mem K).1 (by rw [e2]; exact List.mem_append_left _ hx)
 have key : ∀ (l : List Ch) (s : Hd), (∀ x ∈ l, x ∈ h.hs) → P s → P (l.foldl don s) := by
  intro l
  induction l with
  | nil => intro s _ hs; exact hs
  | cons x l ih => intro s hl hs; exact ih _ (fun y hy => hl y (List.mem_cons_of_mem _ hy)) (hstep s x (hl x List.mem_cons_self) hs)
 rw [e1, e2]; unfold hld ups; rw [List.filter_append, List.filter_append]; by_cases hd : c.dy ≤ d
 ·rw [List.filter_cons_of_pos (by simpa using hd), List.foldl_append, List.foldl_append, List.foldl_cons, hc _ (key _ _ (fun x hx => hm x (List.mem_filter.1 hx).1) hi)]
 ·rw [List.filter_cons_of_neg (by simpa using hd)]
theorem hld_keeps {h : Hi} {o : List Int} (H : Ag.Ord h.hs o) (i : Hd) (P : Hd → Prop) (hi : P i) (hstep : ∀ s x, x ∈ h.hs → P s → P (don s x)) (d : Int) : P (hld i (ordl h.hs o) d) := by
 have key : ∀ (l : List Ch) (s : Hd), (∀ x ∈ l, x ∈ h.hs) → P s → P (l.foldl don s) := by
  intro l
  induction l with
  | nil => intro s _ hs; exact hs
  | cons x l ih => intro s hl hs; exact ih _ (fun y hy => hl y (List.mem_cons_of_mem _ hy)) (hstep s x (hl x List.mem_cons_self) hs)
 exact key _ _ (fun x hx => (ordl_mem H).1 (List.mem_filter.1 hx).1) hi
end Slc
end Go.Proofs.YtfidmphajohljaaGreat
