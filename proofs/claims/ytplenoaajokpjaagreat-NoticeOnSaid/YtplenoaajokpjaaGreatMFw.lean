/-
  The parts Few12, Laws12, Facts12, Kn of this proof. Conditions: those of each theorem.
-/
import Derived.Test.YtplenoaajokpjaaGreatMOb
import Derived.Test.YtplenoaajokpjaaGreatMGi
import Derived.Lib.Hide
namespace Go.Proofs.YtplenoaajokpjaaGreat
open Go.RowKit Ba Cv Sp Te Ag Tf Sl Tm
namespace Slc
set_option linter.unusedVariables false
structure Small (h : Hr) (nt : Nat) (vs : List Trf.Rw) : Prop where
 m : h.m ≤ 60
 t : nt ≤ 100
 n : h.n ≤ 50
 k : ∀ r ∈ h.rs, r.n ≤ 50
 v : ∀ r ∈ vs, r.la ≤ 200 ∧ r.lz ≤ 200 ∧ r.lp ≤ 200
def FewTo (w : World) (h : Hr) (nt : Nat) (vs : List Trf.Rw) (e : Ending) (w' : World) : Prop := ∃ b : Bool, e = .returned (.bool b) ∧ Below w.heap.size w w' ∧ (b = true → Small h nt vs)
theorem Small.hs {w : World} {h : Hr} {nt : Nat} {vs : List Trf.Rw} (s : Small h nt vs) (g : GivenH w h) : HS h := g.small (Nat.le_trans s.n (by omega)) (Nat.le_trans s.m (by omega)) (fun r hr => Nat.le_trans (s.k r hr) (by omega))
theorem Small.vers {w : World} {T : Option Addr} {ct : Nat} {h : Hr} {nt : Nat} {vs : List Trf.Rw} (s : Small h nt vs) (g : Trf.GivenT w T nt ct vs) : Trf.Vers w T nt vs := ⟨g.r, g.m, fun r hr => ⟨Nat.le_trans (s.v r hr).1 (by omega), Nat.le_trans (s.v r hr).2.1 (by omega), Nat.le_trans (s.v r hr).2.2 (by omega)⟩⟩
theorem Small.cov {h : Hr} {nt : Nat} {vs : List Trf.Rw} (s : Small h nt vs) : h.n ≤ 1000 ∧ ∀ r ∈ h.rs, r.n ≤ 1000 := ⟨Nat.le_trans s.n (by omega), fun r hr => Nat.le_trans (s.k r hr) (by omega)⟩
set_option maxRecDepth 100000 in
set_option maxHeartbeats 4000000 in
theorem few12 (h : Hr) (T : Option Addr) (nt ct : Nat) (vs : List Trf.Rw) (w : World) (G : GivenH w h) (GT : Trf.GivenT w T nt ct vs) : Calls Tryz.prog 12 #[hg h, Trf.tg T nt ct] w (FewTo w h nt vs) := by
 obtain ⟨W, hW⟩ : ∃ W, (w.alloc (.cells (hc h) 35)).alloc (.cells #[.slice T nt ct] 38) = W := ⟨_, rfl⟩; have H0 := Lib.hid (show O2 w W h T nt ct by rw [← hW]; exact O2.start w h T nt ct); have HW := Lib.hid hW; have HG := Lib.hid G; have HGT := Lib.hid GT; have bm := G.m; have bn := G.n; have bt := GT.big; obtain ⟨Bv, hBv⟩ : ∃ Bv, h.B = Bv := ⟨_, rfl⟩; have HBv := Lib.hid hBv; have x0 := H0.out.x.c 0; have x1 := H0.out.x.c 1; have x2 := H0.out.x.c 2; have x3 := H0.out.x.c 3; have x4 := H0.out.x.c 4; have x5 := H0.out.x.c 5; have x6 := H0.out.x.c 6; have x7 := H0.out.x.c 7; have x8 := H0.out.x.c 8; have x9 := H0.out.x.c 9; simp at x0 x1 x2 x3 x4 x5 x6 x7 x8 x9; have y0 := H0.out.y.c 0; simp at y0; rw [hBv] at x9; clear hW G GT hBv; by_cases h1 : h.m ≤ 60
 case neg =>
  have t1 : decide ((60 : Int) < (h.m : Int)) = true := decide_eq_true (by omega); go_enter Tryz.func12, Tryz.ntmps12
  go_upto_region 1 with fail
  rw [HW.out]; go_wp2; go_ret; exact ⟨false, rfl, H0.out.b, fun e => by cases e⟩
 have t1 : decide ((60 : Int) < (h.m : Int)) = false := decide_eq_false (by omega); by_cases h2 : nt ≤ 100
 case neg =>
  have t2 : decide ((100 : Int) < (nt : Int)) = true := decide_eq_true (by omega); go_enter Tryz.func12, Tryz.ntmps12
  go_upto_region 1 with fail
  rw [HW.out]; go_wp2; go_ret; exact ⟨false, rfl, H0.out.b, fun e => by cases e⟩
 have t2 : decide ((100 : Int) < (nt : Int)) = false := decide_eq_false (by omega); by_cases h3 : h.n ≤ 50
 case neg =>
  have t3 : decide ((50 : Int) < (h.n : Int)) = true := decide_eq_true (by omega); go_enter Tryz.func12, Tryz.ntmps12
  go_upto_region 1 with fail
  rw [HW.out]; go_wp2; go_ret; exact ⟨false, rfl, H0.out.b, fun e => by cases e⟩
 have t3 : decide ((50 : Int) < (h.n : Int)) = false := decide_eq_false (by omega); have HS := Lib.hid (And.intro h1 (And.intro h2 h3)); go_enter Tryz.func12, Tryz.ntmps12
 go_upto_region 1 with fail
 rw [HW.out]; clear h1 h2 h3 HW; go_wp2; clear x0 x1 x2 x3 x4 x5 x6 x7 x8 x9 y0
 go_loopw [5] (fun vi w' => ∃ (k : Nat) (W : World), k ≤ h.m ∧ vi = .int .i64 (k : Int) ∧ W = w' ∧ Hid (O2 w W h T nt ct) ∧ Hid (∀ r ∈ h.rs.take k, r.n ≤ 50)) (fun vi _ => h.m - (intOf vi).toNat)
 case atStart => exact ⟨0, _, Nat.zero_le _, rfl, rfl, H0, Lib.hid (fun r hr => by simp at hr)⟩
 case round =>
  obtain ⟨k, W, hk, rfl, rfl, H, HK⟩ := hrel; clear H0; have x9 := H.out.x.c 9; have y0 := H.out.y.c 0; simp at x9 y0; rw [HBv.out] at x9; by_cases hlt : k < h.m
  ·obtain ⟨ad, r, hB, hb, hr, N, hcv, hv⟩ := (HG.out.M.below H.out.b).get hlt; rw [HBv.out] at hB; subst hB; have hlt2 : (k : Int) < (h.m : Int) := by omega
   obtain ⟨c0, c1, c2, c3, c4, c5, c6, c7, c8⟩ := N; have bk := HG.out.k r (List.mem_of_getElem? hr); by_cases hr5 : r.n ≤ 50
   ·have t5 : decide ((50 : Int) < (r.n : Int)) = false := decide_eq_false (by omega)
    have HK2 := Lib.hid (show ∀ r ∈ h.rs.take (k + 1), r.n ≤ 50 from fun q hq => by
     rw [take_get hr] at hq; rcases List.mem_append.1 hq with hq | hq
     ·exact HK.out q hq
     ·rw [List.mem_singleton] at hq; subst hq; exact hr5)
    clear hr hcv hv hb; go_wp2; go_roundw
    case rel => exact ⟨k + 1, W, by omega, by go_num, rfl, H, HK2⟩
    case measure => simp [intOf]; omega
   ·have t5 : decide ((50 : Int) < (r.n : Int)) = true := decide_eq_true (by omega); clear hr hcv hv hb; go_wp2; go_ret; exact ⟨false, rfl, H.out.b, fun e => by cases e⟩
  ·obtain rfl : k = h.m := by omega
   have HKK := Lib.hid (show ∀ r ∈ h.rs, r.n ≤ 50 from fun r hr => HK.out r (by rw [List.take_of_length_le (Nat.le_of_eq HG.out.M.r.1)]; exact hr)); clear HK; go_wp2; clear x9 y0
   go_loopw [6] (fun vi w' => ∃ (k : Nat) (W : World), k ≤ nt ∧ vi = .int .i64 (k : Int) ∧ W = w' ∧ Hid (O2 w W h T nt ct) ∧ Hid (∀ r ∈ vs.take k, r.la ≤ 200 ∧ r.lz ≤ 200 ∧ r.lp ≤ 200)) (fun vi _ => nt - (intOf vi).toNat)
   case atStart => exact ⟨0, _, Nat.zero_le _, rfl, rfl, H, Lib.hid (fun r hr => by simp at hr)⟩
   case round =>
    obtain ⟨k, W, hk, rfl, rfl, H2, HK⟩ := hrel; clear H; have y0 := H2.out.y.c 0; simp at y0; by_cases hlt : k < nt
    ·obtain ⟨ad, r, rfl, hb, hr, N⟩ := (HGT.out.r.below H2.out.b).get hlt; have hlt2 : (k : Int) < (nt : Int) := by omega
     obtain ⟨c0, c1, c2, c3, c4, c5, c6, c7, c8⟩ := N; have lo := HGT.out.l r (List.mem_of_getElem? hr); have l1 := lo.a; have l2 := lo.z; have l3 := lo.p; have HR := Lib.hid hr; have HB3 := Lib.hid (show O2 w (W.alloc (.cells (Trf.vc r) 70)) h (some ad) nt ct from H2.out.next (alloc_ _ _)); clear hr hb lo; by_cases q1 : r.la ≤ 200
     case neg =>
      have u1 : decide ((200 : Int) < (r.la : Int)) = true := decide_eq_true (by omega); go_wp2; go_ret; exact ⟨false, rfl, HB3.out.b, fun e => by cases e⟩
     have u1 : decide ((200 : Int) < (r.la : Int)) = false := decide_eq_false (by omega); by_cases q2 : r.lz ≤ 200
     case neg =>
      have u2 : decide ((200 : Int) < (r.lz : Int)) = true := decide_eq_true (by omega); go_wp2; go_ret; exact ⟨false, rfl, HB3.out.b, fun e => by cases e⟩
     have u2 : decide ((200 : Int) < (r.lz : Int)) = false := decide_eq_false (by omega); by_cases q3 : r.lp ≤ 200
     case neg =>
      have u3 : decide ((200 : Int) < (r.lp : Int)) = true := decide_eq_true (by omega); go_wp2; go_ret; exact ⟨false, rfl, HB3.out.b, fun e => by cases e⟩
     have u3 : decide ((200 : Int) < (r.lp : Int)) = false := decide_eq_false (by omega)
     have HK2 := Lib.hid (show ∀ r ∈ vs.take (k + 1), r.la ≤ 200 ∧ r.lz ≤ 200 ∧ r.lp ≤ 200 from fun q hq => by
      rw [take_get HR.out] at hq; rcases List.mem_append.1 hq with hq | hq
      ·exact HK.out q hq
      ·rw [List.mem_singleton] at hq; subst hq; exact ⟨q1, q2, q3⟩)
     clear q1 q2 q3; go_wp2; go_roundw
     case rel => exact ⟨k + 1, _, by omega, by go_num, rfl, HB3, HK2⟩
     case measure => simp [intOf]; omega
    ·obtain rfl : k = nt := by omega
     go_wp2; go_ret; exact ⟨true, rfl, H2.out.b, fun _ => ⟨HS.out.1, HS.out.2.1, HS.out.2.2, HKK.out, fun r hr => HK.out r (by rw [List.take_of_length_le (Nat.le_of_eq HGT.out.r.1)]; exact hr)⟩⟩
end Slc
end Go.Proofs.YtplenoaajokpjaaGreat

namespace Go.Proofs.YtplenoaajokpjaaGreat
open Go.RowKit Ba Cv Sp Te Ag Tf Sl Tm
namespace Slc
set_option linter.unusedVariables false
theorem gh_below {w W : World} {h : Hr} (g : GivenH w h) (hb : Below w.heap.size w W) : GivenH W h := ⟨g.M.below hb, g.n, g.k, g.m, g.f, g.z⟩
theorem gt_below {w W : World} {A : Option Addr} {n c : Nat} {rs : List Trf.Rw} (g : Trf.GivenT w A n c rs) (hb : Below w.heap.size w W) : Trf.GivenT W A n c rs := ⟨g.r.below hb, fun r hr => (g.m r hr).below hb, g.l, g.big, g.cap, g.nil⟩
theorem cod_le (d : Int) (vs : List Ve) : Trf.cod d vs = 0 ∨ Trf.cod d vs = 7 := by unfold Trf.cod; split <;> simp
end Slc
end Go.Proofs.YtplenoaajokpjaaGreat

namespace Go.Proofs.YtplenoaajokpjaaGreat
open Go.RowKit Ba Cv Sp Te Ag Tf Sl Tm
namespace Slc
set_option linter.unusedVariables false
theorem qf_nn (v : Ve) (x : Ri) (cs : List Co) : 0 ≤ (qf v x cs).1 := (Qm.yr_bd (fun c => (Qm.qd_bd v x c).1) cs).1
section
variable {h : Hi} {vs : List Ve} {code : Int} {ss : List Sc}
theorem OfIs.nil (H : OfIs h vs code ss) (hc : code ≠ 0) : ss = [] := by
 cases H with
 | wrong h0 h1 h2 => exact h2
 | none h0 h1 h2 h3 => exact h3
 | some h0 h1 o L h2 h3 h4 h5 => rw [h5, if_neg (by rw [← h4]; exact hc)]
theorem OfIs.ok (H : OfIs h vs 0 ss) : hrt h = true ∧ Trf.cod h.s.1 vs = 0 ∧ ∃ o L, Ag.Ord h.hs o ∧ Cutd (hld (ini h) (ordl h.hs o)) h.s.1 h.s.2 L ∧ bad (qf (Trf.tol h.s.1 vs)) L = 0 ∧ ss = L.map (prc (qf (Trf.tol h.s.1 vs))) := by
 cases H with
 | wrong h0 h1 h2 => omega
 | none h0 h1 h2 h3 => exact absurd h2.symm h1
 | some h0 h1 o L h2 h3 h4 h5 => exact ⟨h0, h1, o, L, h2, h3, h4.symm, by rw [h5, if_pos h4.symm]⟩
end
theorem hrt_span {h : Hi} (hr : hrt h = true) : 1 ≤ h.s.1 ∧ h.s.1 < h.s.2 ∧ h.s.2 ≤ 292195 ∧ h.s.2 - h.s.1 ≤ 1100 := (te_iff.1 (hrt_iff.1 hr).1).1
section
variable {g : Int → Hd} {s : Sp} {L : List (Sp × Hd)} {q : Ri → List Co → Int × Int}
theorem find_in (H : Cutd g s.1 s.2 L) (h1 : 1 ≤ s.1) (h2 : s.2 ≤ 292195) {d : Int} (hd1 : s.1 ≤ d) (hd2 : d < s.2) : ∃ y, (L.map (prc q)).find? (fun x => inn x.s d) = some y ∧ y.s.1 ≤ d ∧ d < y.s.2 ∧ y = prc q (y.s, g d) := by
 obtain ⟨x, hx, hx1, hx2, hx3⟩ := H.mem hd1 hd2; have hm := H.ch.mem x.1 (List.mem_map.2 ⟨x, hx, rfl⟩)
 have hs : ((L.map (prc q)).find? (fun x => inn x.s d)).isSome = true := by
  rw [List.find?_isSome]; exact ⟨prc q x, List.mem_map.2 ⟨x, hx, rfl⟩, (inn_iff _ _).2 ⟨by show 1 ≤ x.1.1; omega, by show x.1.2 ≤ 292195; omega, hx1, hx2⟩⟩
 obtain ⟨y, hy⟩ := Option.isSome_iff_exists.1 hs; have hyi : inn y.s d = true := List.find?_some (p := fun x : Sc => inn x.s d) hy; obtain ⟨z, hz, rfl⟩ := List.mem_map.1 (List.mem_of_find?_eq_some hy); have hyi := (inn_iff _ _).1 hyi; refine ⟨_, hy, hyi.2.2.1, hyi.2.2.2, ?_⟩; have e : z = (z.1, g d) := Prod.ext rfl (H.is z hz d hyi.2.2.1 hyi.2.2.2).symm; show prc q z = prc q (z.1, g d)
 rw [← e]
theorem find_out (H : Cutd g s.1 s.2 L) {d : Int} (hd : ¬ (s.1 ≤ d ∧ d < s.2)) : (L.map (prc q)).find? (fun x => inn x.s d) = none := by
 rw [List.find?_eq_none]; intro y hy hi; obtain ⟨z, hz, rfl⟩ := List.mem_map.1 hy; have hm := H.ch.mem z.1 (List.mem_map.2 ⟨z, hz, rfl⟩); have hi := (inn_iff _ _).1 hi; have h1 : z.1.1 ≤ d := hi.2.2.1; have h2 : d < z.1.2 := hi.2.2.2; exact hd ⟨by omega, by omega⟩
theorem prc_s (x : Sp × Hd) : (prc q x).s = x.1 := rfl
theorem prc_h (x : Sp × Hd) : (prc q x).h = x.2 := rfl
theorem prc_y (x : Sp × Hd) (hq : ∀ x cs, 0 ≤ (q x cs).1) : 0 ≤ (prc q x).y ∧ (x.2.on = false → (prc q x).y = 0) := by
 unfold prc; cases h : x.2.on
 ·exact ⟨by show (0 : Int) ≤ 0; omega, fun _ => rfl⟩
 ·exact ⟨hq _ _, fun e => by cases e⟩
end
theorem fnd_map {rs : List Rw} {ss : List Sc} (h : rs.map Rw.v = ss) (d : Int) : fnd rs d = ss.find? fun x => inn x.s d := by unfold fnd; rw [h]
theorem chain_at {t : Int} {xs : List Sp} {i : Nat} {x : Sp} {a : Int} (h : Chain a t (xs.drop i)) (hx : xs[i]? = some x) : x.1 = a ∧ a < x.2 ∧ Chain x.2 t (xs.drop (i + 1)) := by
 rw [drop_get hx] at h; exact ⟨h.1, by have := h.1; have := h.2.1; omega, h.2.2⟩
theorem key_left {hs : List Ch} {c : Ch} {x : Int} (h0 : 0 ≤ x) (h1 : x < hs.length) : key (hs ++ [c]) x = key hs x := by
 unfold key; rw [List.getElem?_append_left (by omega)]
theorem key_new (hs : List Ch) (c : Ch) : key (hs ++ [c]) (hs.length : Int) = c.dy := by
 unfold key; rw [Int.toNat_natCast, List.getElem?_append_right (Nat.le_refl _), Nat.sub_self]; rfl
theorem ord_snoc {hs : List Ch} {c : Ch} {o : List Int} (H : Ag.Ord (hs ++ [c]) o) : ∃ o1 o2, o = o1 ++ (hs.length : Int) :: o2 ∧ Ag.Ord hs (o1 ++ o2) ∧ (∀ z ∈ o2, c.dy < key hs z) ∧ (∀ z ∈ o1, key hs z ≤ c.dy) := by
 have hmem : (hs.length : Int) ∈ o := H.1.mem_iff.2 (plc_mem.2 ⟨by omega, by rw [List.length_append, List.length_singleton]; omega⟩); obtain ⟨o1, o2, rfl⟩ := List.append_of_mem hmem
 have hp : List.Perm (o1 ++ o2) (plc hs.length) := by
  have h1 : List.Perm (o1 ++ (hs.length : Int) :: o2) ((hs.length : Int) :: (o1 ++ o2)) := List.perm_middle
  have h2 : List.Perm (plc (hs ++ [c]).length) ((hs.length : Int) :: plc hs.length) := by
   rw [List.length_append, List.length_singleton, plc_next]; exact List.perm_append_singleton _ _
  exact ((h1.symm.trans H.1).trans h2).cons_inv
 have hin : ∀ z ∈ o1 ++ o2, 0 ≤ z ∧ z < hs.length := fun z hz => plc_mem.1 (hp.mem_iff.1 hz)
 have hs2 := H.2; have hsub : List.Pairwise (St.lt (key (hs ++ [c]))) (o1 ++ o2) := hs2.sublist (List.Sublist.append_left (List.sublist_cons_self _ _) _); refine ⟨o1, o2, rfl, ⟨hp, ?_⟩, fun z hz => ?_, fun z hz => ?_⟩
 ·refine hsub.imp_of_mem fun {a b} ha hb hab => ?_
  unfold St.lt at hab ⊢; have ka := hin a ha; have kb := hin b hb; rwa [key_left ka.1 ka.2, key_left kb.1 kb.2] at hab
 ·have h1 := (List.pairwise_cons.1 (List.pairwise_append.1 hs2).2.1).1 z hz; have hz2 := hin z (List.mem_append_right _ hz); unfold St.lt at h1; rw [key_new, key_left hz2.1 hz2.2] at h1; omega
 ·have h1 := (List.pairwise_append.1 hs2).2.2 z hz (hs.length : Int) List.mem_cons_self; have hz2 := hin z (List.mem_append_left _ hz); unfold St.lt at h1; rw [key_new, key_left hz2.1 hz2.2] at h1; omega
theorem ordl_left {hs : List Ch} {c : Ch} {o : List Int} (h : ∀ z ∈ o, 0 ≤ z ∧ z < hs.length) : ordl (hs ++ [c]) o = ordl hs o := by
 unfold ordl; refine List.map_congr_left fun z hz => ?_
 have := h z hz; rw [List.getElem?_append_left (by omega)]
theorem ordl_snoc {hs : List Ch} {c : Ch} {o1 o2 : List Int} (H : Ag.Ord hs (o1 ++ o2)) : ordl (hs ++ [c]) (o1 ++ (hs.length : Int) :: o2) = ordl hs o1 ++ c :: ordl hs o2 ∧ ordl hs (o1 ++ o2) = ordl hs o1 ++ ordl hs o2 := by
 have hin : ∀ z ∈ o1 ++ o2, 0 ≤ z ∧ z < hs.length := fun z hz => ord_at H hz
 refine ⟨?_, by simp [ordl]⟩; have h1 : ordl (hs ++ [c]) o1 = ordl hs o1 := ordl_left fun z hz => hin z (List.mem_append_left _ hz)
 have h2 : ordl (hs ++ [c]) o2 = ordl hs o2 := ordl_left fun z hz => hin z (List.mem_append_right _ hz)
 have h3 : ((hs ++ [c])[((hs.length : Nat) : Int).toNat]?).getD zch = c := by
  rw [Int.toNat_natCast, List.getElem?_append_right (Nat.le_refl _), Nat.sub_self]; rfl
 rw [← h1, ← h2]; unfold ordl; rw [List.map_append, List.map_cons, h3]
theorem ordl_key {hs : List Ch} {o : List Int} {d : Int} {p : Int → Prop} (h : ∀ z ∈ o, p (key hs z)) : ∀ c ∈ ordl hs o, p c.dy := by
 intro c hc; obtain ⟨z, hz, rfl⟩ := List.mem_map.1 hc; rw [← key_getD]; exact h z hz
theorem hld_ahead {h : Hi} {c : Ch} {o o' : List Int} (H : Ag.Ord h.hs o) (H' : Ag.Ord (h.hs ++ [c]) o') {d : Int} (hd : d < c.dy) (i : Hd) : hld i (ordl (h.hs ++ [c]) o') d = hld i (ordl h.hs o) d := by
 obtain ⟨o1, o2, rfl, K, k2, k1⟩ := ord_snoc H'; obtain rfl : o = o1 ++ o2 := H.one K; obtain ⟨e1, e2⟩ := ordl_snoc (c := c) K; rw [e1, e2]; unfold hld ups; rw [List.filter_append, List.filter_cons_of_neg (by simp; omega), List.filter_append]
theorem hld_last {h : Hi} {c : Ch} {o' : List Int} (H' : Ag.Ord (h.hs ++ [c]) o') (i : Hd) : ∃ s : Hd, hld i (ordl (h.hs ++ [c]) o') c.dy = don s c := by
 obtain ⟨o1, o2, rfl, K, k2, k1⟩ := ord_snoc H'; obtain ⟨e1, e2⟩ := ordl_snoc (c := c) K; rw [e1]; unfold hld ups
 have h2 : List.filter (fun x : Ch => decide (x.dy ≤ c.dy)) (ordl h.hs o2) = [] := by
  rw [List.filter_eq_nil_iff]; intro x hx; have := ordl_key (d := 0) (p := fun k => c.dy < k) k2 x hx; simp; omega
 rw [List.filter_append, List.filter_cons_of_pos (by simp), h2, List.foldl_append]; exact ⟨_, rfl⟩
theorem hld_idle {h : Hi} {c : Ch} {o o' : List Int} (H : Ag.Ord h.hs o) (H' : Ag.Ord (h.hs ++ [c]) o') (i : Hd) (P : Hd → Prop) (hi : P i) (hstep : ∀ s x, x ∈ h.hs → P s → P (don s x)) (hc : ∀ s, P s → don s c = s) (d : Int) : hld i (ordl (h.hs ++ [c]) o') d = hld i (ordl h.hs o) d := by
 obtain ⟨o1, o2, rfl, K, k2, k1⟩ := ord_snoc H'; obtain rfl : o = o1 ++ o2 := H.one K; obtain ⟨e1, e2⟩ := ordl_snoc (c := c) K; have hm : ∀ x ∈ ordl h.hs o1, x ∈ h.hs := fun x hx => (ordl_mem K).1 (by rw [e2]; exact List.mem_append_left _ hx)
 have key : ∀ (l : List Ch) (s : Hd), (∀ x ∈ l, x ∈ h.hs) → P s → P (l.foldl don s) := by
  intro l
  induction l with
  | nil => intro s _ hs; exact hs
  | cons x l ih => intro s hl hs; exact ih _ (fun y hy => hl y (List.mem_cons_of_mem _ hy)) (hstep s x (hl x List.mem_cons_self) hs)
 rw [e1, e2]; unfold hld ups; rw [List.filter_append, List.filter_append]; by_cases hd : c.dy ≤ d
 ·rw [List.filter_cons_of_pos (by simpa using hd), List.foldl_append, List.foldl_append, List.foldl_cons, hc _ (key _ _ (fun x hx => hm x (List.mem_filter.1 hx).1) hi)]
 ·rw [List.filter_cons_of_neg (by simpa using hd)]
theorem hld_keeps {h : Hi} {o : List Int} (H : Ag.Ord h.hs o) (i : Hd) (P : Hd → Prop) (hi : P i) (hstep : ∀ s x, x ∈ h.hs → P s → P (don s x)) (d : Int) : P (hld i (ordl h.hs o) d) := by
 have key : ∀ (l : List Ch) (s : Hd), (∀ x ∈ l, x ∈ h.hs) → P s → P (l.foldl don s) := by
  intro l
  induction l with
  | nil => intro s _ hs; exact hs
  | cons x l ih => intro s hl hs; exact ih _ (fun y hy => hl y (List.mem_cons_of_mem _ hy)) (hstep s x (hl x List.mem_cons_self) hs)
 exact key _ _ (fun x hx => (ordl_mem H).1 (List.mem_filter.1 hx).1) hi
end Slc
end Go.Proofs.YtplenoaajokpjaaGreat

namespace Go.Proofs.YtplenoaajokpjaaGreat
open Go.RowKit Ba Cv Sp Te Ag Tf Sl Tm
namespace Slc
set_option linter.unusedVariables false

/-- A history as it was known on a day. -/
def kn (h : Hi) (b : Int) : Hi := ⟨h.id, h.bk, h.s, h.r, h.cs, h.hs.filter fun c => decide (c.bk ≤ b)⟩
theorem kn_all {h : Hi} {b : Int} (H : ∀ c ∈ h.hs, c.bk ≤ b) : kn h b = h := by
  unfold kn
  rw [List.filter_eq_self.2 fun c hc => decide_eq_true (H c hc)]
/-- What Slices tells. -/
inductive SlIs (h : Hi) (vs : List Ve) (b : Int) (code : Int) (ss : List Sc) : Prop where
  | none (h0 : b < h.bk) (h1 : code = 7) (h2 : ss = [])
  | known (h0 : h.bk ≤ b) (h1 : OfIs (kn h b) vs code ss)
section
variable {h : Hi} {vs : List Ve} {a b c code c2 : Int} {ss s2 s3 : List Sc}
theorem SlIs.one (H : SlIs h vs b code ss) (K : SlIs h vs b c2 s2) : code = c2 ∧ ss = s2 := by
  cases H with
  | none h0 h1 h2 =>
    cases K with
    | none k0 k1 k2 => exact ⟨h1.trans k1.symm, h2.trans k2.symm⟩
    | known k0 k1 => omega
  | known h0 h1 =>
    cases K with
    | none k0 k1 k2 => omega
    | known k0 k1 => exact h1.one k1
theorem SlIs.nil (H : SlIs h vs b code ss) (hc : code ≠ 0) : ss = [] := by
  cases H with
  | none h0 h1 h2 => exact h2
  | known h0 h1 => exact h1.nil hc
/-- What holds on a day, and what a year of it costs. -/
def lk (ss : List Sc) (d : Int) : Option (Hd × Int) := (ss.find? fun x => inn x.s d).map fun x => (x.h, x.y)
theorem SlIs.ok (H : SlIs h vs b 0 ss) : h.bk ≤ b ∧ hrt (kn h b) = true ∧ ∃ o L, Ag.Ord (kn h b).hs o ∧ Cutd (hld (ini h) (ordl (kn h b).hs o)) h.s.1 h.s.2 L ∧ ss = L.map (prc (qf (Trf.tol h.s.1 vs))) := by
  cases H with
  | none h0 h1 h2 => omega
  | known h0 h1 =>
    obtain ⟨k0, k1, o, L, k2, k3, k4, k5⟩ := h1.ok
    exact ⟨h0, k0, o, L, k2, k3, k5⟩
/-- The slices of one history lie on end, over the same days. -/
structure Row (f t : Int) (ss : List Sc) : Prop where
  ch : Chain f t (ss.map Sc.s)
  f : 1 ≤ f
  t : t ≤ 292195
theorem SlIs.row (H : SlIs h vs b 0 ss) : Row h.s.1 h.s.2 ss := by
  obtain ⟨h0, h1, o, L, h2, h3, rfl⟩ := H.ok
  have hs := hrt_span h1
  refine ⟨?_, hs.1, hs.2.2.1⟩
  rw [List.map_map]
  exact h3.ch
/-- Where a day stands. -/
theorem Row.find {t : Int} : ∀ {ss : List Sc} {f : Int}, Row f t ss → ∀ {i : Nat} {x : Sc} {d : Int}, ss[i]? = some x → x.s.1 ≤ d → d < x.s.2 → ss.find? (fun x => inn x.s d) = some x
  | [], f, R, i, x, d, hx, _, _ => by simp at hx
  | y :: ss, f, R, i, x, d, hx, h1, h2 => by
    have hc := R.ch
    have c1 : y.s.1 = f := hc.1
    have c2 : y.s.1 < y.s.2 := hc.2.1
    have c3 : Chain y.s.2 t (ss.map Sc.s) := hc.2.2
    have hf := R.f
    have ht := R.t
    have hle := c3.le
    cases i with
    | zero =>
      simp at hx; subst hx
      exact List.find?_cons_of_pos ((inn_iff _ _).2 ⟨by omega, by omega, h1, h2⟩)
    | succ i =>
      have hx' : ss[i]? = some x := by simpa using hx
      have hm := c3.mem x.s (List.mem_map.2 ⟨x, List.mem_of_getElem? hx', rfl⟩)
      rw [List.find?_cons_of_neg (by rw [inn_iff]; omega)]
      exact Row.find ⟨c3, by omega, ht⟩ hx' h1 h2
theorem Row.lk {f t : Int} (R : Row f t ss) {i : Nat} {x : Sc} {d : Int} (hx : ss[i]? = some x) (h1 : x.s.1 ≤ d) (h2 : d < x.s.2) : lk ss d = some (x.h, x.y) := by
  unfold Slc.lk; rw [R.find hx h1 h2]; rfl
theorem Row.out {f t : Int} (R : Row f t ss) {d : Int} (hd : ¬ (f ≤ d ∧ d < t)) : Slc.lk ss d = none := by
  unfold Slc.lk
  rw [List.find?_eq_none.2]; · rfl
  intro y hy hi
  have hm := R.ch.mem y.s (List.mem_map.2 ⟨y, hy, rfl⟩)
  have hi := (inn_iff _ _).1 hi
  exact hd ⟨by omega, by omega⟩
theorem Row.in_ {f t : Int} (R : Row f t ss) {d : Int} (h1 : f ≤ d) (h2 : d < t) : ∃ (i : Nat) (x : Sc), ss[i]? = some x ∧ x.s.1 ≤ d ∧ d < x.s.2 := by
  have key : ∀ {ss : List Sc} {f : Int}, Row f t ss → f ≤ d → ∃ (i : Nat) (x : Sc), ss[i]? = some x ∧ x.s.1 ≤ d ∧ d < x.s.2 := by
    intro ss
    induction ss with
    | nil => intro f R h1; have h : f = t := R.ch; omega
    | cons y ss ih =>
      intro f R h1
      have c1 : y.s.1 = f := R.ch.1
      have c2 : y.s.1 < y.s.2 := R.ch.2.1
      have c3 : Chain y.s.2 t (ss.map Sc.s) := R.ch.2.2
      by_cases hd : d < y.s.2
      · exact ⟨0, y, rfl, by omega, hd⟩
      · obtain ⟨i, x, hx, r⟩ := ih ⟨c3, by have := R.f; omega, R.t⟩ (by omega)
        exact ⟨i + 1, x, by simpa using hx, r⟩
  exact key R h1
theorem Row.at {f t : Int} (R : Row f t ss) {i : Nat} {x : Sc} (hx : ss[i]? = some x) : f ≤ x.s.1 ∧ x.s.1 < x.s.2 ∧ x.s.2 ≤ t := R.ch.mem x.s (List.mem_map.2 ⟨x, List.mem_of_getElem? hx, rfl⟩)
theorem Row.next {t : Int} : ∀ {ss : List Sc} {f : Int}, Row f t ss → ∀ {i : Nat} {x : Sc}, ss[i]? = some x → (∃ y, ss[i + 1]? = some y ∧ y.s.1 = x.s.2) ∨ (ss.length = i + 1 ∧ x.s.2 = t)
  | [], f, R, i, x, hx => by simp at hx
  | y :: ss, f, R, i, x, hx => by
    have c3 : Chain y.s.2 t (ss.map Sc.s) := R.ch.2.2
    have c2 : y.s.1 < y.s.2 := R.ch.2.1
    have c1 : y.s.1 = f := R.ch.1
    have R' : Row y.s.2 t ss := ⟨c3, by have := R.f; omega, R.t⟩
    cases i with
    | zero =>
      simp at hx; subst hx
      cases ss with
      | nil => exact .inr ⟨rfl, c3⟩
      | cons z ss => exact .inl ⟨z, rfl, c3.1⟩
    | succ i =>
      rcases Row.next R' (i := i) (x := x) (by simpa using hx) with ⟨y, hy, r⟩ | ⟨hl, r⟩
      · exact .inl ⟨y, by simpa using hy, r⟩
      · exact .inr ⟨by simp [hl], r⟩

/-- What Moved tells. -/
inductive MvIs (h : Hi) (vs : List Ve) (a b : Int) (code : Int) (zs : List Sp) : Prop where
  | first (s1 : List Sc) (h1 : SlIs h vs a code s1) (h2 : code ≠ 0) (h3 : zs = [])
  | second (s1 s2 : List Sc) (h1 : SlIs h vs a 0 s1) (h2 : SlIs h vs b code s2) (h3 : code ≠ 0) (h4 : zs = [])
  | told (s1 s2 : List Sc) (h1 : SlIs h vs a 0 s1) (h2 : SlIs h vs b 0 s2) (h3 : code = 0) (h4 : Apart zs) (h5 : ∀ d, hit zs d ↔ lk s1 d ≠ lk s2 d)
theorem MvIs.one {zs ws : List Sp} (H : MvIs h vs a b code zs) (K : MvIs h vs a b c2 ws) : code = c2 ∧ zs = ws := by
  cases H with
  | first s1 h1 h2 h3 =>
    cases K with
    | first t1 k1 k2 k3 => exact ⟨(h1.one k1).1, by rw [h3, k3]⟩
    | second t1 t2 k1 k2 k3 k4 => exact absurd (h1.one k1).1 h2
    | told t1 t2 k1 k2 k3 k4 k5 => exact absurd (h1.one k1).1 h2
  | second s1 s2 h1 h2 h3 h4 =>
    cases K with
    | first t1 k1 k2 k3 => exact absurd (k1.one h1).1 k2
    | second t1 t2 k1 k2 k3 k4 => exact ⟨(h2.one k2).1, by rw [h4, k4]⟩
    | told t1 t2 k1 k2 k3 k4 k5 => exact absurd (h2.one k2).1 h3
  | told s1 s2 h1 h2 h3 h4 h5 =>
    cases K with
    | first t1 k1 k2 k3 => exact absurd (k1.one h1).1 k2
    | second t1 t2 k1 k2 k3 k4 => exact absurd (k2.one h2).1 k3
    | told t1 t2 k1 k2 k3 k4 k5 =>
      obtain ⟨_, rfl⟩ := h1.one k1
      obtain ⟨_, rfl⟩ := h2.one k2
      exact ⟨h3.trans k3.symm, h4.unique k4 fun d => (h5 d).trans (k5 d).symm⟩
theorem MvIs.nil {zs : List Sp} (H : MvIs h vs a b code zs) (hc : code ≠ 0) : zs = [] := by
  cases H with
  | first _ _ _ h3 => exact h3
  | second _ _ _ _ _ h4 => exact h4
  | told _ _ _ _ h3 _ _ => exact absurd h3 hc
theorem MvIs.ok {zs : List Sp} (H : MvIs h vs a b 0 zs) : ∃ s1 s2, SlIs h vs a 0 s1 ∧ SlIs h vs b 0 s2 ∧ Apart zs ∧ ∀ d, hit zs d ↔ lk s1 d ≠ lk s2 d := by
  cases H with
  | first _ _ h2 _ => exact absurd rfl h2
  | second _ _ _ _ h3 _ => exact absurd rfl h3
  | told s1 s2 h1 h2 h3 h4 h5 => exact ⟨s1, s2, h1, h2, h4, h5⟩
theorem MvIs.codes {zs : List Sp} {ca cb : Int} {s1 s2 : List Sc} (H : MvIs h vs a b code zs) (A : SlIs h vs a ca s1) (B : SlIs h vs b cb s2) : code = if ca ≠ 0 then ca else cb := by
  cases H with
  | first t1 k1 k2 k3 =>
    obtain ⟨rfl, _⟩ := A.one k1
    rw [if_pos k2]
  | second t1 t2 k1 k2 k3 k4 =>
    obtain ⟨rfl, _⟩ := A.one k1
    obtain ⟨rfl, _⟩ := B.one k2
    simp
  | told t1 t2 k1 k2 k3 k4 k5 =>
    obtain ⟨rfl, _⟩ := A.one k1
    obtain ⟨rfl, _⟩ := B.one k2
    simp [k3]
end

/-- How far apart has come: both rows are told up to the day e. -/
structure Went (f t : Int) (s1 s2 : List Sc) (i j : Nat) (e : Int) (zs : List Sp) : Prop where
  lo : f ≤ e
  z : ∀ d, hit zs d ↔ (f ≤ d ∧ d < e) ∧ lk s1 d ≠ lk s2 d
  a : (∃ x, s1[i]? = some x ∧ x.s.1 ≤ e ∧ e < x.s.2) ∨ (s1.length = i ∧ e = t)
  b : (∃ y, s2[j]? = some y ∧ y.s.1 ≤ e ∧ e < y.s.2) ∨ (s2.length = j ∧ e = t)
  n : zs.length ≤ i + j
theorem Went.start {f t : Int} {s1 s2 : List Sc} (R1 : Row f t s1) (R2 : Row f t s2) : Went f t s1 s2 0 0 f [] := by
  have key : ∀ {ss : List Sc}, Row f t ss → (∃ x, ss[0]? = some x ∧ x.s.1 ≤ f ∧ f < x.s.2) ∨ (ss.length = 0 ∧ f = t) := by
    intro ss R
    cases ss with
    | nil => exact .inr ⟨rfl, R.ch⟩
    | cons y ss =>
      have c1 : y.s.1 = f := R.ch.1
      have c2 : y.s.1 < y.s.2 := R.ch.2.1
      exact .inl ⟨y, rfl, by omega, by omega⟩
  refine ⟨Int.le_refl _, fun d => ⟨fun h => absurd h (hit_nil d), fun h => by omega⟩, key R1, key R2, Nat.le_refl _⟩
theorem Went.both {f t : Int} {s1 s2 : List Sc} {i j : Nat} {e : Int} {zs : List Sp} (W : Went f t s1 s2 i j e zs) {x y : Sc} (hx : s1[i]? = some x) (hy : s2[j]? = some y) : x.s.1 ≤ e ∧ e < x.s.2 ∧ y.s.1 ≤ e ∧ e < y.s.2 := by
  have li := (List.getElem?_eq_some_iff.1 hx).1
  have lj := (List.getElem?_eq_some_iff.1 hy).1
  rcases W.a with ⟨x', hx', r⟩ | ⟨h, _⟩
  · rcases W.b with ⟨y', hy', q⟩ | ⟨h, _⟩
    · rw [hx] at hx'; rw [hy] at hy'
      injection hx' with hx'; injection hy' with hy'; subst hx' hy'
      exact ⟨r.1, r.2, q.1, q.2⟩
    · omega
  · omega
theorem Went.step {f t : Int} {s1 s2 : List Sc} {i j : Nat} {e : Int} {zs : List Sp} (W : Went f t s1 s2 i j e zs) (R1 : Row f t s1) (R2 : Row f t s2) {x y : Sc} (hx : s1[i]? = some x) (hy : s2[j]? = some y)
    {ws : List Sp} (hws : ws = if (x.h, x.y) ≠ (y.h, y.y) then zs ++ [ct x.s y.s] else zs) {i' j' : Nat} (hi : i' = if x.s.2 ≤ min x.s.2 y.s.2 then i + 1 else i) (hj : j' = if y.s.2 ≤ min x.s.2 y.s.2 then j + 1 else j) :
    Went f t s1 s2 i' j' (min x.s.2 y.s.2) ws ∧ i + j < i' + j' := by
  obtain ⟨e1, e2, e3, e4⟩ := W.both hx hy
  have m1 := R1.at hx
  have m2 := R2.at hy
  have hf := R1.f
  have ht := R1.t
  have hlo := W.lo
  have hct : ∀ d, inn (ct x.s y.s) d = true ↔ max x.s.1 y.s.1 ≤ d ∧ d < min x.s.2 y.s.2 := by
    intro d
    rw [ct_inn, inn_iff, inn_iff]
    omega
  have side : ∀ {ss : List Sc} {k k' : Nat} {z : Sc} {m : Int}, Row f t ss → ss[k]? = some z → z.s.1 ≤ e → e < z.s.2 → m ≤ z.s.2 → e < m → k' = (if z.s.2 ≤ m then k + 1 else k) → (∃ x, ss[k']? = some x ∧ x.s.1 ≤ m ∧ m < x.s.2) ∨ (ss.length = k' ∧ m = t) := by
    intro ss k k' z m R hz g1 g2 g3 g4 hk
    subst hk
    by_cases hm : z.s.2 ≤ m
    · rw [if_pos hm]
      rcases R.next hz with ⟨y, hy, r⟩ | ⟨hl, r⟩
      · have := R.at hy
        exact .inl ⟨y, hy, by omega, by omega⟩
      · exact .inr ⟨hl, by omega⟩
    · rw [if_neg hm]
      exact .inl ⟨z, hz, by omega, by omega⟩
  refine ⟨⟨by omega, ?_, side R1 hx e1 e2 (by omega) (by omega) hi, side R2 hy e3 e4 (by omega) (by omega) hj, ?_⟩, ?_⟩
  · intro d
    have hin : e ≤ d → d < min x.s.2 y.s.2 → (Slc.lk s1 d ≠ Slc.lk s2 d ↔ (x.h, x.y) ≠ (y.h, y.y)) := by
      intro g1 g2
      rw [R1.lk hx (by omega) (by omega), R2.lk hy (by omega) (by omega)]
      simp
    have hback : max x.s.1 y.s.1 ≤ d → d < e → (Slc.lk s1 d ≠ Slc.lk s2 d ↔ (x.h, x.y) ≠ (y.h, y.y)) := by
      intro g1 g2
      rw [R1.lk hx (by omega) (by omega), R2.lk hy (by omega) (by omega)]
      simp
    by_cases hu : (x.h, x.y) ≠ (y.h, y.y)
    · rw [if_pos hu] at hws
      subst hws
      rw [hit_append, W.z d, hit_cons, hct d]
      constructor
      · rintro (⟨h1, h2⟩ | h | h)
        · exact ⟨⟨h1.1, by omega⟩, h2⟩
        · refine ⟨⟨by omega, h.2⟩, ?_⟩
          by_cases hd : d < e
          · exact (hback h.1 hd).2 hu
          · exact (hin (by omega) h.2).2 hu
        · exact absurd h (hit_nil d)
      · rintro ⟨h1, h2⟩
        by_cases hd : d < e
        · exact .inl ⟨⟨h1.1, hd⟩, h2⟩
        · exact .inr (.inl ⟨by omega, h1.2⟩)
    · rw [if_neg hu] at hws
      subst hws
      rw [W.z d]
      constructor
      · rintro ⟨h1, h2⟩; exact ⟨⟨h1.1, by omega⟩, h2⟩
      · rintro ⟨h1, h2⟩
        by_cases hd : d < e
        · exact ⟨⟨h1.1, hd⟩, h2⟩
        · exact absurd ((hin (by omega) h1.2).1 h2) hu
  · have hn := W.n
    have : ws.length ≤ zs.length + 1 := by rw [hws]; split <;> simp
    have : i + j < i' + j' := by
      rw [hi, hj]
      split <;> split <;> omega
    omega
  · rw [hi, hj]
    split <;> split <;> omega
theorem Went.end_ {f t : Int} {s1 s2 : List Sc} {i j : Nat} {e : Int} {zs : List Sp} (W : Went f t s1 s2 i j e zs) (R1 : Row f t s1) (R2 : Row f t s2) (h : s1.length ≤ i ∨ s2.length ≤ j) (d : Int) : hit zs d ↔ lk s1 d ≠ lk s2 d := by
  have he : e = t := by
    rcases h with h | h
    · rcases W.a with ⟨x, hx, _⟩ | ⟨_, h⟩
      · have := (List.getElem?_eq_some_iff.1 hx).1; omega
      · exact h
    · rcases W.b with ⟨x, hx, _⟩ | ⟨_, h⟩
      · have := (List.getElem?_eq_some_iff.1 hx).1; omega
      · exact h
  subst he
  rw [W.z d]
  constructor
  · exact fun h => h.2
  · intro h
    refine ⟨?_, h⟩
    by_cases hd : f ≤ d ∧ d < e
    · exact hd
    · rw [R1.out hd, R2.out hd] at h; exact absurd rfl h

/-- A history's changes by their days, the later ones last. -/
def insl (c : Ch) (l : List Ch) : List Ch := l.filter (fun x => decide (x.dy ≤ c.dy)) ++ c :: l.filter (fun x => decide (c.dy < x.dy))
def isr : List Ch → List Ch := fun l => l.foldl (fun a c => insl c a) []
theorem isr_snoc (l : List Ch) (c : Ch) : isr (l ++ [c]) = insl c (isr l) := by simp [isr]
theorem ordl_isr : ∀ (n : Nat) (hs : List Ch) (o : List Int), hs.length = n → Ag.Ord hs o → ordl hs o = isr hs := by
  intro n
  induction n with
  | zero =>
    intro hs o hn H
    obtain rfl := List.eq_nil_of_length_eq_zero hn
    have h : o = [] := by have := H.1.length_eq; rw [plc_len] at this; exact List.eq_nil_of_length_eq_zero this
    subst h; rfl
  | succ n ih =>
    intro hs o hn H
    obtain ⟨l, c, rfl⟩ : ∃ l c, hs = l ++ [c] := by
      rcases List.eq_nil_or_concat hs with rfl | ⟨l, c, e⟩
      · cases hn
      · exact ⟨l, c, by rw [e, List.concat_eq_append]⟩
    obtain ⟨o1, o2, rfl, K, k2, k1⟩ := ord_snoc H
    obtain ⟨e1, e2⟩ := ordl_snoc (c := c) K
    rw [e1, isr_snoc, ← ih l _ (by simpa using hn) K, e2]
    have a1 : ∀ x ∈ ordl l o1, x.dy ≤ c.dy := ordl_key (d := 0) (p := fun k => k ≤ c.dy) k1
    have a2 : ∀ x ∈ ordl l o2, c.dy < x.dy := ordl_key (d := 0) (p := fun k => c.dy < k) k2
    unfold insl
    rw [List.filter_append, List.filter_append, List.filter_eq_self.2 (fun x hx => decide_eq_true (a1 x hx)), List.filter_eq_nil_iff.2 (fun x hx => by have := a2 x hx; simp; omega), List.filter_eq_nil_iff.2 (fun x hx => by have := a1 x hx; simp; omega), List.filter_eq_self.2 (fun x hx => decide_eq_true (a2 x hx))]
    simp
theorem insl_rise {c : Ch} {l : List Ch} (h : l.Pairwise fun a b => a.dy ≤ b.dy) : (insl c l).Pairwise fun a b => a.dy ≤ b.dy := by
  unfold insl
  rw [List.pairwise_append, List.pairwise_cons]
  refine ⟨h.sublist List.filter_sublist, ⟨fun x hx => ?_, h.sublist List.filter_sublist⟩, fun x hx y hy => ?_⟩
  · have := of_decide_eq_true (List.mem_filter.1 hx).2; omega
  · have h1 := of_decide_eq_true (List.mem_filter.1 hx).2
    rcases List.mem_cons.1 hy with rfl | hy
    · exact h1
    · have := of_decide_eq_true (List.mem_filter.1 hy).2; omega
theorem isr_rise : ∀ (n : Nat) (l : List Ch), l.length = n → (isr l).Pairwise fun a b => a.dy ≤ b.dy := by
  intro n
  induction n with
  | zero => intro l hn; obtain rfl := List.eq_nil_of_length_eq_zero hn; exact List.Pairwise.nil
  | succ n ih =>
    intro hs hn
    rcases List.eq_nil_or_concat hs with rfl | ⟨l, c, e⟩
    · cases hn
    · rw [List.concat_eq_append] at e; subst e
      rw [isr_snoc]
      exact insl_rise (ih l (by simpa using hn))
theorem rise_split {k : Int} : ∀ {l : List Ch}, (l.Pairwise fun a b => a.dy ≤ b.dy) → l.filter (fun x => decide (x.dy ≤ k)) ++ l.filter (fun x => decide (k < x.dy)) = l
  | [], _ => rfl
  | x :: l, h => by
    have h0 := List.pairwise_cons.1 h
    have ih := rise_split (k := k) h0.2
    by_cases hx : x.dy ≤ k
    · rw [List.filter_cons_of_pos (by simpa using hx), List.filter_cons_of_neg (by simp; omega), List.cons_append, ih]
    · rw [List.filter_cons_of_neg (by simpa using hx), List.filter_cons_of_pos (by simp; omega)]
      have e : l.filter (fun x => decide (x.dy ≤ k)) = [] := List.filter_eq_nil_iff.2 fun y hy => by have := h0.1 y hy; simp; omega
      rw [e, List.nil_append] at ih ⊢
      rw [ih]
theorem isr_filter (p : Ch → Bool) : ∀ (n : Nat) (l : List Ch), l.length = n → (isr l).filter p = isr (l.filter p) := by
  intro n
  induction n with
  | zero => intro l hn; obtain rfl := List.eq_nil_of_length_eq_zero hn; rfl
  | succ n ih =>
    intro hs hn
    rcases List.eq_nil_or_concat hs with rfl | ⟨l, c, e⟩
    · cases hn
    · rw [List.concat_eq_append] at e; subst e
      have hl : l.length = n := by simpa using hn
      rw [isr_snoc, List.filter_append]
      have h1 : (insl c (isr l)).filter p = (isr (l.filter p)).filter (fun x => decide (x.dy ≤ c.dy)) ++ ([c].filter p ++ (isr (l.filter p)).filter (fun x => decide (c.dy < x.dy))) := by
        unfold insl
        rw [List.filter_append, ← List.singleton_append, List.filter_append, ← ih l hl, List.filter_filter, List.filter_filter, List.filter_filter, List.filter_filter]
        congr 1
        · exact List.filter_congr fun x _ => Bool.and_comm _ _
        · congr 1
          exact List.filter_congr fun x _ => Bool.and_comm _ _
      rw [h1]
      cases hc : p c
      · rw [List.filter_cons_of_neg (by simp [hc]), List.filter_nil, List.nil_append, List.append_nil, rise_split (isr_rise _ _ rfl)]
      · rw [List.filter_cons_of_pos hc, List.filter_nil, isr_snoc]; rfl
/-- What holds on a day hangs on the changes up to it alone. -/
theorem hld_up {h k : List Ch} {o p : List Int} (H : Ag.Ord h o) (K : Ag.Ord k p) {d : Int} (e : h.filter (fun c => decide (c.dy ≤ d)) = k.filter (fun c => decide (c.dy ≤ d))) (i : Hd) : hld i (ordl h o) d = hld i (ordl k p) d := by
  unfold hld ups
  rw [ordl_isr _ h o rfl H, ordl_isr _ k p rfl K, isr_filter _ _ h rfl, isr_filter _ _ k rfl, e]
theorem SlIs.lk {h : Hi} {vs : List Ve} {b : Int} {ss : List Sc} (H : SlIs h vs b 0 ss) : ∃ o, Ag.Ord (kn h b).hs o ∧ ∀ d, lk ss d = if h.s.1 ≤ d ∧ d < h.s.2 then some (hld (ini h) (ordl (kn h b).hs o) d, (prc (qf (Trf.tol h.s.1 vs)) (h.s, hld (ini h) (ordl (kn h b).hs o) d)).y) else Option.none := by
  have R := H.row
  obtain ⟨h0, h1, o, L, h2, h3, rfl⟩ := H.ok
  have hs := hrt_span h1
  refine ⟨o, h2, fun d => ?_⟩
  by_cases hd : h.s.1 ≤ d ∧ d < h.s.2
  · rw [if_pos hd]
    obtain ⟨y, hy, y1, y2, e⟩ := find_in (q := qf (Trf.tol h.s.1 vs)) h3 hs.1 hs.2.2.1 hd.1 hd.2
    unfold Slc.lk
    rw [hy, e]
    rfl
  · rw [if_neg hd, R.out hd]
/-- Ahead of the first day of what was booked between, the same holds. -/
theorem lk_ahead {h : Hi} {vs : List Ve} {a b : Int} {s1 s2 : List Sc} (H : SlIs h vs a 0 s1) (K : SlIs h vs b 0 s2) (hab : a ≤ b) {d : Int} (hd : ∀ c ∈ h.hs, a < c.bk → c.bk ≤ b → d < c.dy) : lk s1 d = lk s2 d := by
  obtain ⟨o, ho, h1⟩ := H.lk
  obtain ⟨p, hp, k1⟩ := K.lk
  rw [h1, k1]
  have e : hld (ini h) (ordl (kn h a).hs o) d = hld (ini h) (ordl (kn h b).hs p) d := by
    refine hld_up ho hp ?_ _
    unfold kn
    rw [List.filter_filter, List.filter_filter]
    refine List.filter_congr fun c hc => ?_
    have := hd c hc
    by_cases h1 : c.dy ≤ d
    · by_cases h2 : c.bk ≤ a
      · simp [h1, h2, show c.bk ≤ b by omega]
      · simp [h1, h2]; omega
    · simp [h1]
  rw [e]

end Slc
end Go.Proofs.YtplenoaajokpjaaGreat
