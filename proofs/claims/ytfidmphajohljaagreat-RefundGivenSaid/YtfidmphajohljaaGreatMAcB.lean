/-
  The parts AcL, AcC, AcD, AcE, AcU of this proof. Conditions: those of each theorem.
-/
import Derived.Test.YtfidmphajohljaaGreatMSw
import Derived.Test.YtfidmphajohljaaGreatMZa
import Derived.Test.YtfidmphajohljaaGreatMAcA
import Derived.Test.YtfidmphajohljaaGreatMZc
import Derived.Test.YtfidmphajohljaaGreatKInv
namespace Go.Proofs.YtfidmphajohljaaGreat
open Go.RowKit Ba Cv Sp Te Ag Sl Slc
open Tm hiding Nin Own Raws Rw cel cel_append cel_cell cel_get cel_length cel_one cl nin_back nin_of own_of_row raws_own run_app step_app vc vg wpList_app zc
namespace Acr
set_option linter.unusedVariables false
def UpTo (w : World) (l : List Sc) (d : Int) (e : Ending) (w' : World) : Prop := e = .returned (.tuple #[.int .i64 (upv l d), .int .i64 (upc l d)]) ∧ Below w.heap.size w w'
def BtTo (w : World) (l : List Sc) (s : Sp) (e : Ending) (w' : World) : Prop := e = .returned (.tuple #[.int .i64 (btv l s), .int .i64 (btc l s)]) ∧ Below w.heap.size w w'
def UpC : Prop := ∀ (A : Option Addr) (n c : Nat) (rs : List Rw) (d : Int) (w : World), Raws w (· < w.heap.size) A n rs → n ≤ 1100 → n ≤ c → (-9223372036854775808 ≤ d ∧ d ≤ 9223372036854775807) → Calls Tryz.prog 50 #[.slice A n c, .int .i64 d] w (UpTo w (rs.map Slc.Rw.v) d)
def WrC : Prop := ∀ (A : Option Addr) (n c : Nat) (rs : List Rw) (w : World), Raws w (· < w.heap.size) A n rs → n ≤ 1100 → n ≤ c → Calls Tryz.prog 24 #[.slice A n c] w (UpTo w (rs.map Slc.Rw.v) 292195)
def BtC : Prop := ∀ (A : Option Addr) (n c : Nat) (rs : List Rw) (s : Sp) (w : World), Raws w (· < w.heap.size) A n rs → n ≤ 1100 → n ≤ c → (-9223372036854775808 ≤ s.1 ∧ s.1 ≤ 9223372036854775807) → (-9223372036854775808 ≤ s.2 ∧ s.2 ≤ 9223372036854775807) → Calls Tryz.prog 21 #[.slice A n c, sg s] w (BtTo w (rs.map Slc.Rw.v) s)
end Acr
end Go.Proofs.YtfidmphajohljaaGreat

namespace Go.Proofs.YtfidmphajohljaaGreat
open Go.RowKit Ba Cv Sp Te Ag Sl Slc
open Tm hiding Nin Own Raws Rw cel cel_append cel_cell cel_get cel_length cel_one cl nin_back nin_of own_of_row raws_own run_app step_app vc vg wpList_app zc
namespace Acr
set_option linter.unusedVariables false
abbrev fst (ps : List Stm.Pr) : List Int := ps.map (·.1)
abbrev snd (ps : List Stm.Pr) : List Int := ps.map (·.2)
def CvYes (w : World) (l : List Sc) (e : Ending) (w' : World) : Prop := ∃ A c V d ps, e = .returned (Stp.sg A ps.length c V ps.length d) ∧ Stp.OwnS w' w.heap.size A ps.length c V ps.length d (fst ps) (snd ps) ∧ Crv l ps ∧ ps.length ≤ 10000 ∧ Below w.heap.size w w'
def CvNo (w : World) (e : Ending) (w' : World) : Prop := e = pnc 1 ∧ Below w.heap.size w w'
def CvTo (w : World) (l : List Sc) (e : Ending) (w' : World) : Prop := (may l = true ∧ CvYes w l e w') ∨ (may l = false ∧ CvNo w e w')
structure Lay (w W : World) (A : Option Addr) (n c : Nat) (V : Option Addr) (d : Nat) (ps : List Stm.Pr) : Prop where
 b : Below w.heap.size w W
 r : Stp.Bx W w.heap.size 77 (.slice none 0 0) (.slice none 0 0)
 f : Stp.Bx W (w.heap.size + 1) 77 (.slice A n c) (.slice V n d)
 own : Stp.OwnS W (w.heap.size + 2) A n c V n d (fst ps) (snd ps)
section
variable {w W W2 : World} {A V A2 V2 : Option Addr} {n c d n2 c2 d2 : Nat} {ps ps2 : List Stm.Pr}
theorem Lay.size (h : Lay w W A n c V d ps) : w.heap.size + 2 ≤ W.heap.size := by have := h.f.lt; omega
theorem Lay.len (h : Lay w W A n c V d ps) : ps.length = n := by have := h.own.a.len; simpa using this
theorem Lay.next (h : Lay w W A n c V d ps) (hb : Below W.heap.size W W2) : Lay w W2 A n c V d ps :=
 ⟨h.b.trans (hb.mono h.b.size), h.r.keep hb, h.f.keep hb, h.own.below hb⟩
theorem Lay.new (w : World) : Lay w ((w.alloc (.cells #[.slice none 0 0, .slice none 0 0] 77)).alloc (.cells #[.slice none 0 0, .slice none 0 0] 77)) none 0 0 none 0 [] := by
 have := Stp.Bx.new (w.alloc (.cells #[.slice none 0 0, .slice none 0 0] 77)) 77 (.slice none 0 0) (.slice none 0 0); rw [World.size_alloc] at this; exact ⟨((Below.refl _ w).alloc (Nat.le_refl _) _).alloc (by simp) _, (Stp.Bx.new w _ _ _).alloc _, this, Stp.OwnS.nil⟩
theorem Lay.turn (h : Lay w W A n c V d ps) (hO : Stp.OwnS W2 (w.heap.size + 2) A2 n2 c2 V2 n2 d2 (fst ps2) (snd ps2)) (hb : Below (w.heap.size + 2) W W2) :
  Lay w ((W2.setCell ⟨w.heap.size + 1, 0, none⟩ (.slice A2 n2 c2)).setCell ⟨w.heap.size + 1, 1, none⟩ (.slice V2 n2 d2)) A2 n2 c2 V2 d2 ps2 := by
 have f1 := (h.f.below hb (by omega)).set0 (.slice A2 n2 c2); have f2 := f1.set1 (.slice V2 n2 d2); have r1 := ((h.r.below hb (by omega)).far (a := ⟨w.heap.size + 1, 0, none⟩) (by simp) (.slice A2 n2 c2)).far (a := ⟨w.heap.size + 1, 1, none⟩) (by simp) (.slice V2 n2 d2); have O1 := hO.far (p := ⟨w.heap.size + 1, 0, none⟩) (Stp.low_ne hO.a (by simp)) (Stp.low_ne hO.v (by simp)) (.slice A2 n2 c2); have O2 := O1.far (p := ⟨w.heap.size + 1, 1, none⟩) (Stp.low_ne O1.a (by simp)) (Stp.low_ne O1.v (by simp)) (.slice V2 n2 d2); exact ⟨((h.b.trans (hb.mono (by omega))).setCell (by simp) _).setCell (by simp) _, r1, f2, O2⟩
theorem Lay.done {l : List Sc} (h : Lay w W A n c V d ps) (hO : Stp.OwnS W2 (w.heap.size + 2) A2 ps2.length c2 V2 ps2.length d2 (fst ps2) (snd ps2)) (hb : Below (w.heap.size + 2) W W2) (hC : Crv l ps2) (hl : ps2.length ≤ 10000) (x y : Value) :
  CvYes w l (.returned (Stp.sg A2 ps2.length c2 V2 ps2.length d2)) ((W2.setCell ⟨w.heap.size, 0, none⟩ x).setCell ⟨w.heap.size, 1, none⟩ y) := by
 have O1 := hO.far (p := ⟨w.heap.size, 0, none⟩) (Stp.low_ne hO.a (by simp)) (Stp.low_ne hO.v (by simp)) x; have O2 := O1.far (p := ⟨w.heap.size, 1, none⟩) (Stp.low_ne O1.a (by simp)) (Stp.low_ne O1.v (by simp)) y; exact ⟨A2, c2, V2, d2, ps2, rfl, O2.low (by omega), hC, hl, ((h.b.trans (hb.mono (by omega))).setCell (by simp) _).setCell (by simp) _⟩
end
theorem drop_get' {rs : List Rw} {k : Nat} {r : Rw} (h : rs[k]? = some r) : rs.drop k = r :: rs.drop (k + 1) := by
 obtain ⟨hl, e⟩ := List.getElem?_eq_some_iff.1 h; rw [List.drop_eq_getElem_cons hl, e]
theorem one_false {x : Sc} {l : List Sc} {L : List Sc} {e : Int} (h : rr 1 L = rr e (x :: l)) (h2 : one x e = false) : may L = false := by
 rw [may, h, rr_cons, h2]; simp
set_option maxRecDepth 100000 in
set_option maxHeartbeats 4000000 in
theorem curve_ (A : Option Addr) (n c : Nat) (rs : List Rw) (w : World) (S : Raws w (· < w.heap.size) A n rs) (hn : n ≤ 1100) : Calls Tryz.prog 42 #[.slice A n c] w (CvTo w (rs.map Slc.Rw.v)) := by
 have HS := Lib.hid S; have HN := Lib.hid hn; have t0 : decide ((n : Int) ≤ 2000) = true := decide_eq_true (by omega); have CN := fun w => Lib.hid (need_yes 1 w)
 have CE := fun w => Lib.hid (need_no 1 w)
 have HL0 := Lib.hid (Lay.new w); have HLe := Lib.hid S.1; clear S hn; go_enter Tryz.func42, Tryz.ntmps42
 go_wp2_with (go_at_call 43; refine (CN _).out.mono ?_; rintro e w' ⟨rfl, rfl⟩)
 go_loopw [4, 13] (fun z i w' => ∃ (k : Nat) (e : Int) (ps : List Stm.Pr) (A1 : Option Addr) (m c1 : Nat) (V1 : Option Addr) (d1 : Nat) (W1 : World), k ≤ n ∧ z = .int .i64 e ∧ i = .int .i64 (k : Int) ∧ 1 ≤ e ∧ e ≤ 292195 ∧ W1 = w' ∧ Hid (Lay w W1 A1 m c1 V1 d1 ps) ∧ Hid (Pre ((rs.take k).map Slc.Rw.v) ps e) ∧ Hid (rr 1 (rs.map Slc.Rw.v) = rr e ((rs.drop k).map Slc.Rw.v)) ∧ Hid (m ≤ 2 * k)) (fun _ i _ => n - (intOf i).toNat)
 case atStart => exact ⟨0, 1, [], _, _, _, _, _, _, Nat.zero_le _, rfl, rfl, by omega, by omega, rfl, HL0, Lib.hid Pre.nil, Lib.hid rfl, Lib.hid (Nat.le_refl _)⟩
 case round =>
  obtain ⟨k, e, ps, A1, m, c1, V1, d1, W1, hk, rfl, rfl, he1, he2, rfl, HL, HP, HR, HM⟩ := hrel; by_cases hlt : k < n
  ·obtain ⟨ad, r, rfl, hb, hr, N⟩ := (HS.out.below HL.out.b).get hlt; have hlt2 : (k : Int) < (n : Int) := by omega
   have HR2 := Lib.hid (HR.out.trans (by rw [drop_get' hr, List.map_cons])); have HT := Lib.hid (show (rs.take (k + 1)).map Slc.Rw.v = (rs.take k).map Slc.Rw.v ++ [r.v] by rw [Stm.take_more hr, List.map_append]; rfl); obtain ⟨⟨⟨s1, s2⟩, hh, y⟩, rA, rn, rc⟩ := r; obtain ⟨c0, c1', c2, c3, c4, c5, c6, c7, c8⟩ := N; simp only at c0 c1' c2 c3 c4 c5 c6 c7 c8; have CF := fun w => Lib.hid (full_ (s1, s2) w)
   clear hr hb
   go_wp2_with fail
   refine (CF _).out.mono ?_; rintro e' w2 ⟨rfl, hb2⟩; have HL2 := Lib.hid ((HL.out.next (alloc_ _ _)).next hb2); have HX := Lib.hid (Bx.keep (Bx.new W1 93 #[.int .i64 s1, .int .i64 s2, .bool hh.on, .int .i64 hh.r.k, .int .i64 hh.r.v, .int .i64 hh.r.a, .int .i64 hh.r.z, .slice rA rn rc, .int .i64 y]) hb2); have x0 := HX.out.c 0; have x1 := HX.out.c 1; have x8 := HX.out.c 8; simp at x0 x1 x8; clear hb2 c0 c1' c2 c3 c4 c5 c6 c7 c8 CF; cases hq : fll (s1, s2)
   ·have HO := Lib.hid (show one ⟨(s1, s2), hh, y⟩ e = false from decide_eq_false (fun h => of_decide_eq_false hq ⟨Int.le_trans he1 h.1, h.2.1, h.2.2.1⟩))
    go_wp2_with fail
    refine (CE _).out.mono ?_; rintro e' w' ⟨rfl, rfl⟩; go_wp2; exact ⟨rfl, .inr ⟨one_false HR2.out HO.out, rfl, HL2.out.b⟩⟩
   have hqs := of_decide_eq_true hq; simp only at hqs; by_cases hq2 : e ≤ s1
   case neg =>
    have t2 : decide (e ≤ s1) = false := decide_eq_false hq2; have HO := Lib.hid (show one ⟨(s1, s2), hh, y⟩ e = false from decide_eq_false (fun h => hq2 h.1)); clear hqs hq2
    go_wp2_with fail
    refine (CE _).out.mono ?_; rintro e' w' ⟨rfl, rfl⟩; go_wp2; exact ⟨rfl, .inr ⟨one_false HR2.out HO.out, rfl, HL2.out.b⟩⟩
   have t2 : decide (e ≤ s1) = true := decide_eq_true hq2; by_cases hy : 0 ≤ y
   case neg =>
    have t3 : decide (0 ≤ y) = false := decide_eq_false hy; have HO := Lib.hid (show one ⟨(s1, s2), hh, y⟩ e = false from decide_eq_false (fun h => hy h.2.2.2.1)); clear hqs hq2 hy
    go_wp2_with (go_at_call 43; refine (CN _).out.mono ?_; rintro e w' ⟨rfl, rfl⟩)
    refine (CE _).out.mono ?_; rintro e' w' ⟨rfl, rfl⟩; go_wp2; exact ⟨rfl, .inr ⟨one_false HR2.out HO.out, rfl, HL2.out.b⟩⟩
   have t3 : decide (0 ≤ y) = true := decide_eq_true hy; by_cases hy2 : y ≤ 4000000000000000000
   case neg =>
    have t4 : decide (y ≤ 4000000000000000000) = false := decide_eq_false hy2; have HO := Lib.hid (show one ⟨(s1, s2), hh, y⟩ e = false from decide_eq_false (fun h => hy2 h.2.2.2.2)); clear hqs hq2 hy hy2
    go_wp2_with (go_at_call 43; refine (CN _).out.mono ?_; rintro e w' ⟨rfl, rfl⟩)
    refine (CE _).out.mono ?_; rintro e' w' ⟨rfl, rfl⟩; go_wp2; exact ⟨rfl, .inr ⟨one_false HR2.out HO.out, rfl, HL2.out.b⟩⟩
   have t4 : decide (y ≤ 4000000000000000000) = true := decide_eq_true hy2
   have HR3 := Lib.hid (show rr 1 (rs.map Slc.Rw.v) = rr s2 ((rs.drop (k + 1)).map Slc.Rw.v) by
    rw [HR2.out, rr_cons, show one ⟨(s1, s2), hh, y⟩ e = true from decide_eq_true ⟨hq2, hqs.2.1, hqs.2.2, hy, hy2⟩, Bool.true_and])
   have HQ := Lib.hid (show e ≤ s1 ∧ s1 < s2 ∧ s2 ≤ 292195 ∧ 0 ≤ y ∧ y ≤ 4000000000000000000 from ⟨hq2, hqs.2.1, hqs.2.2, hy, hy2⟩); clear hqs hq2 hy hy2 HR HR2
   go_upto_region 9 with (go_at_call 43; refine (CN _).out.mono ?_; rintro e w' ⟨rfl, rfl⟩)
   clear x0 x1 x8; have HS1 := Lib.hid (show w.heap.size + 1 < W1.heap.size by have := HL.out.size; omega); have HM1 := Lib.hid (show m ≤ 2 * k + 1 by have := HM.out; omega); by_cases hg : e < s1
   ·have t5 : decide (e < s1) = true := decide_eq_true hg; have HG := Lib.hid hg; clear hg; have x0 := HX.out.c 0; have x8 := HX.out.c 8; simp at x0 x8; have CT := Lib.hid (Stp.turn_ w2 (w.heap.size + 2) _ _ _ _ _ _ e 0 HL2.out.own HL2.out.size (by have := HM.out; have := HN.out; omega)); have f0 := HL2.out.f.c0; have f1 := HL2.out.f.c1
    go_wp2_with fail
    refine CT.out.mono ?_; rintro e' w5 ⟨A5, c5, V5, d5, rfl, hO, hb, hk⟩; have HL5 := Lib.hid (HL2.out.turn hO hb); have hs5 : w.heap.size + 1 < W1.heap.size := HS1.out; have HX5 := Lib.hid (((show Bx w5 W1.heap.size 93 #[.int .i64 s1, .int .i64 s2, .bool hh.on, .int .i64 hh.r.k, .int .i64 hh.r.v, .int .i64 hh.r.a, .int .i64 hh.r.z, .slice rA rn rc, .int .i64 y] from hk _ _ _ (by decide) HX.out).far (a := ⟨w.heap.size + 1, 0, none⟩) (by simp; omega) (.slice A5 (trn ps e 0).length c5)).far (a := ⟨w.heap.size + 1, 1, none⟩) (by simp; omega) (.slice V5 (trn ps e 0).length d5)); have g0 := (Stp.Bx.below HL2.out.f hb (by omega)).c0; have g1 := (Stp.Bx.below HL2.out.f hb (by omega)).c1; have g2 := (Stp.Bx.below HL2.out.f hb (by omega)).f 0; have g3 := (Stp.Bx.below HL2.out.f hb (by omega)).f 1
    have HM5 := Lib.hid (show (trn ps e 0).length ≤ 2 * k + 1 by
     have := trn_len ps e 0; have := HL2.out.len; have := HM.out; omega)
    clear hO hb hk CT f0 f1
    go_upto_region 11 with fail
    clear g0 g1 g2 g3 hs5; obtain ⟨m5, hm5⟩ : ∃ m, (trn ps e 0).length = m := ⟨_, rfl⟩; rw [hm5] at HL5 HX5 HM5 ⊢; obtain ⟨W5, hW5⟩ : ∃ W, (w5.setCell ⟨w.heap.size + 1, 0, none⟩ (.slice A5 m5 c5)).setCell ⟨w.heap.size + 1, 1, none⟩ (.slice V5 m5 d5) = W := ⟨_, rfl⟩; rw [hW5] at HL5 HX5 ⊢; clear hW5 hm5; have HP5 := Lib.hid (HP.out.gap HG.out (by have := HQ.out; omega)); clear x0 x8 t5; have x0 := HX5.out.c 0; have x8 := HX5.out.c 8; simp at x0 x8; have CT := Lib.hid (Stp.turn_ W5 (w.heap.size + 2) _ _ _ _ _ _ s1 y HL5.out.own HL5.out.size (by have := HM5.out; have := HN.out; omega)); have f0 := HL5.out.f.c0; have f1 := HL5.out.f.c1
    go_wp2_with fail
    refine CT.out.mono ?_; rintro e' w9 ⟨A9, c9, V9, d9, rfl, hO, hb, hk⟩; have HL9 := Lib.hid (HL5.out.turn hO hb); have hs9 : w.heap.size + 1 < W1.heap.size := HS1.out; have HX9 := Lib.hid (((show Bx w9 W1.heap.size 93 #[.int .i64 s1, .int .i64 s2, .bool hh.on, .int .i64 hh.r.k, .int .i64 hh.r.v, .int .i64 hh.r.a, .int .i64 hh.r.z, .slice rA rn rc, .int .i64 y] from hk _ _ _ (by decide) HX5.out).far (a := ⟨w.heap.size + 1, 0, none⟩) (by simp; omega) (.slice A9 (trn (trn ps e 0) s1 y).length c9)).far (a := ⟨w.heap.size + 1, 1, none⟩) (by simp; omega) (.slice V9 (trn (trn ps e 0) s1 y).length d9)); have g0 := (Stp.Bx.below HL5.out.f hb (by omega)).c0; have g1 := (Stp.Bx.below HL5.out.f hb (by omega)).c1; have g2 := (Stp.Bx.below HL5.out.f hb (by omega)).f 0; have g3 := (Stp.Bx.below HL5.out.f hb (by omega)).f 1
    have HM9 := Lib.hid (show (trn (trn ps e 0) s1 y).length ≤ 2 * k + 2 by
     have := trn_len (trn ps e 0) s1 y; have := HL5.out.len; have := HM5.out; omega)
    clear hO hb hk CT f0 f1
    go_upto_region 12 with fail
    clear g0 g1 g2 g3 hs9; obtain ⟨m9, hm9⟩ : ∃ m, (trn (trn ps e 0) s1 y).length = m := ⟨_, rfl⟩; rw [hm9] at HL9 HX9 HM9 ⊢; obtain ⟨W9, hW9⟩ : ∃ W, (w9.setCell ⟨w.heap.size + 1, 0, none⟩ (.slice A9 m9 c9)).setCell ⟨w.heap.size + 1, 1, none⟩ (.slice V9 m9 d9) = W := ⟨_, rfl⟩; rw [hW9] at HL9 HX9 ⊢; clear hW9 hm9; clear x0 x8; have x1 := HX9.out.c 1; simp at x1; have q3 : s2 ≤ 292195 := HQ.out.2.2.1; have q2 : s1 < s2 := HQ.out.2.1; have q1 : e ≤ s1 := HQ.out.1
    have HP9 := Lib.hid (show Pre ((rs.take (k + 1)).map Slc.Rw.v) (trn (trn ps e 0) s1 y) s2 by
     rw [HT.out]; exact Pre.slice (x := ⟨(s1, s2), hh, y⟩) HP5.out HQ.out.2.1 HQ.out.2.2.1 HQ.out.2.2.2)
    have hkw : (k : Int) < 1100 := by have := HN.out; omega
    go_wp2; go_roundw
    case rel => exact ⟨k + 1, s2, _, _, _, _, _, _, _, by omega, rfl, by go_num, by omega, q3, rfl, HL9, HP9, HR3, HM9⟩
    case measure => simp [intOf]; omega
   ·have t5 : decide (e < s1) = false := decide_eq_false hg; obtain rfl : e = s1 := by have := HQ.out.1; omega
    clear hg; have x0 := HX.out.c 0; have x8 := HX.out.c 8; simp at x0 x8; have CT := Lib.hid (Stp.turn_ w2 (w.heap.size + 2) _ _ _ _ _ _ e y HL2.out.own HL2.out.size (by have := HM1.out; have := HN.out; omega)); have f0 := HL2.out.f.c0; have f1 := HL2.out.f.c1
    go_wp2_with fail
    refine CT.out.mono ?_; rintro e' w9 ⟨A9, c9, V9, d9, rfl, hO, hb, hk⟩; have HL9 := Lib.hid (HL2.out.turn hO hb); have hs9 : w.heap.size + 1 < W1.heap.size := HS1.out; have HX9 := Lib.hid (((show Bx w9 W1.heap.size 93 #[.int .i64 e, .int .i64 s2, .bool hh.on, .int .i64 hh.r.k, .int .i64 hh.r.v, .int .i64 hh.r.a, .int .i64 hh.r.z, .slice rA rn rc, .int .i64 y] from hk _ _ _ (by decide) HX.out).far (a := ⟨w.heap.size + 1, 0, none⟩) (by simp; omega) (.slice A9 (trn ps e y).length c9)).far (a := ⟨w.heap.size + 1, 1, none⟩) (by simp; omega) (.slice V9 (trn ps e y).length d9)); have g0 := (Stp.Bx.below HL2.out.f hb (by omega)).c0; have g1 := (Stp.Bx.below HL2.out.f hb (by omega)).c1; have g2 := (Stp.Bx.below HL2.out.f hb (by omega)).f 0; have g3 := (Stp.Bx.below HL2.out.f hb (by omega)).f 1
    have HM9 := Lib.hid (show (trn ps e y).length ≤ 2 * k + 2 by
     have := trn_len ps e y; have := HL2.out.len; have := HM1.out; omega)
    clear hO hb hk CT f0 f1
    go_upto_region 12 with fail
    clear g0 g1 g2 g3 hs9; obtain ⟨m9, hm9⟩ : ∃ m, (trn ps e y).length = m := ⟨_, rfl⟩; rw [hm9] at HL9 HX9 HM9 ⊢; obtain ⟨W9, hW9⟩ : ∃ W, (w9.setCell ⟨w.heap.size + 1, 0, none⟩ (.slice A9 m9 c9)).setCell ⟨w.heap.size + 1, 1, none⟩ (.slice V9 m9 d9) = W := ⟨_, rfl⟩; rw [hW9] at HL9 HX9 ⊢; clear hW9 hm9; clear x0 x8; have x1 := HX9.out.c 1; simp at x1; have q3 : s2 ≤ 292195 := HQ.out.2.2.1; have q2 : e < s2 := HQ.out.2.1; have q1 : e ≤ e := HQ.out.1
    have HP9 := Lib.hid (show Pre ((rs.take (k + 1)).map Slc.Rw.v) (trn ps e y) s2 by
     rw [HT.out]; exact Pre.slice (x := ⟨(e, s2), hh, y⟩) HP.out HQ.out.2.1 HQ.out.2.2.1 HQ.out.2.2.2)
    have hkw : (k : Int) < 1100 := by have := HN.out; omega
    go_wp2; go_roundw
    case rel => exact ⟨k + 1, s2, _, _, _, _, _, _, _, by omega, rfl, by go_num, by omega, q3, rfl, HL9, HP9, HR3, HM9⟩
    case measure => simp [intOf]; omega
  ·have hkn : k = n := by omega
   have HRn := Lib.hid (show may (rs.map Slc.Rw.v) = true by
    have h := HR.out; rw [hkn, List.drop_of_length_le (by have := HLe.out; omega)] at h; exact may_iff.2 ⟨by have h1 := HLe.out; have h2 := HN.out; simp; omega, rr_iff.1 h⟩)
   have HC := Lib.hid (show Crv (rs.map Slc.Rw.v) (trn ps e 0) by
    have h := HP.out.fin; rwa [List.take_of_length_le (by have := HLe.out; omega)] at h)
   have CT := Lib.hid (Stp.turn_ W1 (w.heap.size + 2) _ _ _ _ _ _ e 0 HL.out.own HL.out.size (by have := HM.out; have := HN.out; omega)); have f0 := HL.out.f.c0; have f1 := HL.out.f.c1; have hlt2 : ¬ ((k : Int) < (n : Int)) := by omega
   go_wp2_with fail
   refine CT.out.mono ?_; rintro e' w5 ⟨A5, c5, V5, d5, rfl, hO, hb, hk⟩; have hR := Stp.Bx.below HL.out.r hb (by omega); have g0 := hR.c0; have g1 := hR.c1; have g2 := hR.f 0; have g3 := hR.f 1; have Z := (hR.set0 (.slice A5 (trn ps e 0).length c5)).set1 (.slice V5 (trn ps e 0).length d5); have HD := Lib.hid (HL.out.done hO hb HC.out (by have := trn_len ps e 0; have := HL.out.len; have := HM.out; have := HN.out; omega) (.slice A5 (trn ps e 0).length c5) (.slice V5 (trn ps e 0).length d5)); clear hO hb hk CT f0 f1 hR; go_wp2; exact bodyPost_ret (v := Stp.sg A5 (trn ps e 0).length c5 V5 (trn ps e 0).length d5) (by simp [results, Tryz.results42, go_sem, Z.c0, Z.c1]) rfl (.inl ⟨HRn.out, HD.out⟩)
end Acr
end Go.Proofs.YtfidmphajohljaaGreat

namespace Go.Proofs.YtfidmphajohljaaGreat
open Go.RowKit Ba Cv Sp Te Ag Sl Slc
open Tm hiding Nin Own Raws Rw cel cel_append cel_cell cel_get cel_length cel_one cl nin_back nin_of own_of_row raws_own run_app step_app vc vg wpList_app zc
namespace Acr
set_option linter.unusedVariables false
theorem quo_hf (n : Nat) : Num.quo Num.nearB n 1 365 = (n + 182) / 365 := by
 unfold Num.quo Num.nearB; rw [Nat.mul_one]; have h1 := Nat.div_add_mod n 365; have h2 := Nat.mod_lt n (show 0 < 365 by omega); generalize n / 365 = q at h1 ⊢; generalize n % 365 = r at h1 h2 ⊢; by_cases h : 365 < 2 * r
 ·simp [h]; omega
 ·have h3 : ¬ 365 = 2 * r := by omega
  simp [h, h3]; omega
theorem even_hf {n : Int} (h0 : 0 ≤ n) (h1 : n ≤ 4000000000000000000) : Num.evV n 1 365 = hf n := by
 obtain ⟨m, rfl⟩ := Int.eq_ofNat_of_zero_le h0; unfold Num.evV; rw [show (1 : Int) = ((1 : Nat) : Int) from rfl, show (365 : Int) = ((365 : Nat) : Int) from rfl, Num.nums_ok (by omega) (by rw [quo_hf]; omega), quo_hf]; unfold hf; simp only; omega
def EaTo (w : World) (x : Int) (e : Ending) (w' : World) : Prop := (x ≤ 4000000000000000000 ∧ e = .returned (.int .i64 (hf x)) ∨ 4000000000000000000 < x ∧ e = pnc 5) ∧ Below w.heap.size w w'
theorem ern_min {l : List Sc} {day : Int} (h : Rr 1 l) : ern l (min day 292195) = ern l day := by
 rcases Int.le_total day 292195 with h1 | h1
 ·rw [Int.min_eq_left h1]
 ·rw [Int.min_eq_right h1, ern_hi (fun x hx => (h.mem x hx).2.2.1) h1]
set_option maxRecDepth 100000 in
set_option maxHeartbeats 4000000 in
theorem earned_ (w : World) (A : Option Addr) (n c : Nat) (V : Option Addr) (d : Nat) (l : List Sc) (ps : List Stm.Pr) (day : Int) (hS : Stp.Sr w w.heap.size A V n ps) (hn : n ≤ 10000) (hC : Crv l ps) (hr : Rr 1 l) :
  Calls Tryz.prog 45 #[Stp.sg A n c V n d, .int .i64 day] w (EaTo w (ern l day)) := by
 by_cases h2 : day < 2
 ·have t1 : decide (day < 2) = true := decide_eq_true h2; rw [ern_lo hr (by omega)]; clear hS hC hr h2 hn; go_enter Tryz.func45, Tryz.ntmps45; go_wp2; go_ret; exact ⟨.inl ⟨by decide, rfl⟩, alloc_ _ _⟩
 ·have t1 : decide (day < 2) = false := decide_eq_false h2; obtain ⟨t, ht⟩ : ∃ t, min day 292195 = t := ⟨_, rfl⟩; have ht1 : 2 ≤ t := by omega
  have ht2 : t ≤ 292195 := by omega
  have hx := ern_min (day := day) hr; rw [ht] at hx; rw [← hx]; obtain ⟨h3, h4⟩ := hC.upto hr (t := t) (by omega) ht2; obtain ⟨x, hx2⟩ : ∃ x, ern l t = x := ⟨_, rfl⟩; have hx0 : 0 ≤ x := by rw [← hx2]; exact ern_nonneg hr
  rw [hx2] at h3 h4 ⊢; obtain ⟨W, hW⟩ : ∃ W, w.alloc (.cells #[.slice A n c, .slice V n d] 77) = W := ⟨_, rfl⟩; have HB := Lib.hid (show Below w.heap.size w W from hW ▸ alloc_ _ _); have HX := Lib.hid (show Stp.Bx W w.heap.size 77 (.slice A n c) (.slice V n d) from hW ▸ Stp.Bx.new w _ _ _); have CS := Lib.hid (Stp.sum_yes A n c V d ps (1, t) W (hS.keep_ HB.out) hn hC.1 ((Stm.full_iff _).2 ⟨Int.le_refl _, by show (1 : Int) < t; omega, ht2⟩)); rw [show Stm.pieces (Stm.val 0 ps) (Stm.cuts (1, t) ps) (1, t).2 = Stm.PL ps (1, t) from rfl] at CS; have HW := Lib.hid hW; have HT := Lib.hid ht; have c0 := HX.out.c0; have c1 := HX.out.c1; by_cases ho : x ≤ 4000000000000000000
  ·rw [Stm.sv_ok (by rw [h4]; exact ho), Stm.se_ok (by rw [h4]; exact ho), h3] at CS; have CN := fun w => Lib.hid (need_yes 0 w)
   have CE := fun w => Lib.hid (Num.even x 1 365 w (by omega) (by omega) (by omega))
   rw [even_hf hx0 ho] at CE; clear hS hC hr h2 hn hx hW h3 h4 hx2; go_enter Tryz.func45, Tryz.ntmps45
   go_upto_region 1 with fail
   rw [HW.out]
   go_wp2_with fail
   refine CS.out.mono ?_; rintro e' w1 ⟨rfl, hb1⟩; have H1 := Lib.hid (HB.out.trans (hb1.mono HB.out.size)); clear hb1 CS c0 c1
   go_wp2_with (go_at_call 43; refine (CN _).out.mono ?_; rintro e w' ⟨rfl, rfl⟩)
   refine (CE _).out.mono ?_; rintro e' w2 ⟨rfl, hb2⟩; have H2 := Lib.hid (H1.out.trans (hb2.mono H1.out.size)); clear hb2 CE; go_wp2; go_ret; exact ⟨.inl ⟨ho, rfl⟩, H2.out⟩
  ·rw [Stm.sv_no (by rw [h4]; omega), Stm.se_no (by rw [h4]; omega)] at CS; have CN := fun w => Lib.hid (need_no 5 w)
   clear hS hC hr h2 hn hx hW h3 h4 hx2; go_enter Tryz.func45, Tryz.ntmps45
   go_upto_region 1 with fail
   rw [HW.out]
   go_wp2_with fail
   refine CS.out.mono ?_; rintro e' w1 ⟨rfl, hb1⟩; have H1 := Lib.hid (HB.out.trans (hb1.mono HB.out.size)); clear hb1 CS c0 c1
   go_wp2_with fail
   refine (CN _).out.mono ?_; rintro e' w2 ⟨rfl, rfl⟩; go_wp2; exact ⟨rfl, .inr ⟨by omega, rfl⟩, H1.out⟩
end Acr
end Go.Proofs.YtfidmphajohljaaGreat

namespace Go.Proofs.YtfidmphajohljaaGreat
open Go.RowKit Ba Cv Sp Te Ag Sl Slc
open Tm hiding Nin Own Raws Rw cel cel_append cel_cell cel_get cel_length cel_one cl nin_back nin_of own_of_row raws_own run_app step_app vc vg wpList_app zc
namespace Acr
set_option linter.unusedVariables false
def ful4 (s : Sp) : Bool := decide (1 ≤ s.1 ∧ s.1 < s.2 ∧ s.2 ≤ 292195)
set_option maxHeartbeats 1000000 in
theorem full4 (s : Sp) (w : World) : Calls Tryz.prog 97 #[sg s] w (Yes w (ful4 s)) := by
 obtain ⟨a, b⟩ := s; by_cases h1 : 1 ≤ a
 ·have t1 : decide (1 ≤ a) = true := by simpa using h1
  by_cases h2 : a < b
  ·have t2 : decide (a < b) = true := by simpa using h2
   by_cases h3 : b ≤ 292195
   ·have t3 : decide (b ≤ 292195) = true := by simpa using h3
    rw [show ful4 (a, b) = true from decide_eq_true ⟨h1, h2, h3⟩]; clear h1 h2 h3; go_enter Tryz.func97, Tryz.ntmps97; go_wp2; go_ret; exact ⟨rfl, alloc_ _ _⟩
   ·have t3 : decide (b ≤ 292195) = false := by simpa using h3
    rw [show ful4 (a, b) = false from decide_eq_false (by simp only; omega)]; clear h1 h2 h3; go_enter Tryz.func97, Tryz.ntmps97; go_wp2; go_ret; exact ⟨rfl, alloc_ _ _⟩
  ·have t2 : decide (a < b) = false := by simpa using h2
   rw [show ful4 (a, b) = false from decide_eq_false (by simp only; omega)]; clear h1 h2; go_enter Tryz.func97, Tryz.ntmps97; go_wp2; go_ret; exact ⟨rfl, alloc_ _ _⟩
 ·have t1 : decide (1 ≤ a) = false := by simpa using h1
  rw [show ful4 (a, b) = false from decide_eq_false (by simp only; omega)]; clear h1; go_enter Tryz.func97, Tryz.ntmps97; go_wp2; go_ret; exact ⟨rfl, alloc_ _ _⟩
end Acr
end Go.Proofs.YtfidmphajohljaaGreat

namespace Go.Proofs.YtfidmphajohljaaGreat
open Go.RowKit Ba Cv Sp Te Ag Sl Slc
open Tm hiding Nin Own Raws Rw cel cel_append cel_cell cel_get cel_length cel_one cl nin_back nin_of own_of_row raws_own run_app step_app vc vg wpList_app zc
namespace Acr
set_option linter.unusedVariables false
def UcTo (w : World) (v k : Int) (e : Ending) (w' : World) : Prop := (k = 0 ∧ e = .returned (.int .i64 v) ∨ k ≠ 0 ∧ e = pnc k) ∧ Below w.heap.size w w'
def Stq (w : World) (l : List Sc) (x : Value) : Prop := ∃ A m c V d ps, x = Stp.sg A m c V m d ∧ Stp.Sr w w.heap.size A V m ps ∧ m ≤ 10000 ∧ Crv l ps
theorem Stq.keep {w w' : World} {l : List Sc} {x : Value} (h : Stq w l x) (hb : Below w.heap.size w w') : Stq w' l x := by
 obtain ⟨A, m, c, V, d, ps, rfl, hS, hm, hC⟩ := h; exact ⟨A, m, c, V, d, ps, rfl, hS.keep_ hb, hm, hC⟩
theorem CvYes.stq {w w' : World} {l : List Sc} {A V : Option Addr} {c d : Nat} {ps : List Stm.Pr} (hO : Stp.OwnS w' w.heap.size A ps.length c V ps.length d (fst ps) (snd ps)) (hC : Crv l ps) (hl : ps.length ≤ 10000) : Stq w' l (Stp.sg A ps.length c V ps.length d) :=
 ⟨A, _, c, V, d, ps, rfl, hO.sx, hl, hC⟩
theorem up_no {l : List Sc} {d : Int} (h : may l = false) : upc l d = 1 := by unfold upc; rw [if_neg (by rw [h]; decide)]
theorem up_over {l : List Sc} {d : Int} (h : may l = true) (h2 : 4000000000000000000 < ern l d) : upc l d = 5 := by unfold upc; rw [if_pos h, if_neg (by omega)]
theorem up_yes {l : List Sc} {d : Int} (h : may l = true) (h2 : ern l d ≤ 4000000000000000000) : upc l d = 0 ∧ upv l d = hf (ern l d) := ⟨upc_ok h h2, upv_ok (upc_ok h h2)⟩
structure UR (W : World) (A : Option Addr) (n c : Nat) (l : List Sc) (d : Int) (L : Nat → Bool) (w' : World) (x3 x4 x5 x6 x2 : Value) : Prop where
 b : Below W.heap.size W w'
 f0 : L 0 = true → x3 = .slice A n c
 f1 : L 1 = true → may l = true ∧ Stq w' l x4
 f2 : L 2 = true → x5 = .int .i64 d
 f3 : L 3 = true → upc l d = 0 ∧ x6 = .int .i64 (upv l d)
 f4 : L 4 = true → upc l d = 0 ∧ x2 = .int .i64 (upv l d)
theorem UR.up {W : World} {A : Option Addr} {n c : Nat} {l : List Sc} {d : Int} {L : Nat → Bool} {w' w2 : World} {x3 x4 x5 x6 x2 : Value} (H : UR W A n c l d L w' x3 x4 x5 x6 x2) (hb : Below w'.heap.size w' w2) : UR W A n c l d L w2 x3 x4 x5 x6 x2 :=
 ⟨H.b.trans (hb.mono H.b.size), H.f0, fun z => ⟨(H.f1 z).1, (H.f1 z).2.keep hb⟩, H.f2, H.f3, H.f4⟩
theorem UR.s0 {W : World} {A : Option Addr} {n c : Nat} {l : List Sc} {d : Int} {L : Nat → Bool} {w' : World} {x3 x4 x5 x6 x2 : Value} (H : UR W A n c l d L w' x3 x4 x5 x6 x2) {z : Value} (k : z = .slice A n c) : UR W A n c l d (fun j => j == 0 || L j) w' z x4 x5 x6 x2 := ⟨H.b, fun _ => k, H.f1, H.f2, H.f3, H.f4⟩
theorem UR.s1 {W : World} {A : Option Addr} {n c : Nat} {l : List Sc} {d : Int} {L : Nat → Bool} {w' : World} {x3 x4 x5 x6 x2 : Value} (H : UR W A n c l d L w' x3 x4 x5 x6 x2) {z : Value} (k : may l = true ∧ Stq w' l z) : UR W A n c l d (fun j => j == 1 || L j) w' x3 z x5 x6 x2 := ⟨H.b, H.f0, fun _ => k, H.f2, H.f3, H.f4⟩
theorem UR.s2 {W : World} {A : Option Addr} {n c : Nat} {l : List Sc} {d : Int} {L : Nat → Bool} {w' : World} {x3 x4 x5 x6 x2 : Value} (H : UR W A n c l d L w' x3 x4 x5 x6 x2) {z : Value} (k : z = .int .i64 d) : UR W A n c l d (fun j => j == 2 || L j) w' x3 x4 z x6 x2 := ⟨H.b, H.f0, H.f1, fun _ => k, H.f3, H.f4⟩
theorem UR.s3 {W : World} {A : Option Addr} {n c : Nat} {l : List Sc} {d : Int} {L : Nat → Bool} {w' : World} {x3 x4 x5 x6 x2 : Value} (H : UR W A n c l d L w' x3 x4 x5 x6 x2) {z : Value} (k : upc l d = 0 ∧ z = .int .i64 (upv l d)) : UR W A n c l d (fun j => j == 3 || L j) w' x3 x4 x5 z x2 := ⟨H.b, H.f0, H.f1, H.f2, fun _ => k, H.f4⟩
theorem UR.s4 {W : World} {A : Option Addr} {n c : Nat} {l : List Sc} {d : Int} {L : Nat → Bool} {w' : World} {x3 x4 x5 x6 x2 : Value} (H : UR W A n c l d L w' x3 x4 x5 x6 x2) {z : Value} (k : upc l d = 0 ∧ z = .int .i64 (upv l d)) : UR W A n c l d (fun j => j == 4 || L j) w' x3 x4 x5 x6 z := ⟨H.b, H.f0, H.f1, H.f2, H.f3, fun _ => k⟩
theorem curve1 {l l' : List Sc} {f : FuncId} {args : Array Value} {w : World} (h : l = l') (C : Calls Tryz.prog f args w (CvTo w l)) : Calls Tryz.prog f args w (CvTo w l') := h ▸ C
set_option maxRecDepth 100000 in
set_option maxHeartbeats 4000000 in
theorem upto1 (p q : Nat) (A : Option Addr) (n c : Nat) (rs : List Rw) (d : Int) (W : World) (hp : Bx W p 46 #[.slice A n c]) (hq : Bx W q 3 #[.int .i64 d]) (G : Raws W (· < W.heap.size) A n rs) (hn : n ≤ 1100) :
  Calls Tryz.prog 85 #[.pointer (some ⟨p, 0, none⟩), .pointer (some ⟨q, 0, none⟩)] W (UcTo W (upv (rs.map Slc.Rw.v) d) (upc (rs.map Slc.Rw.v) d)) := by
 have HP := Lib.hid hp; have HQ := Lib.hid hq; have HG := Lib.hid G; have HN := Lib.hid hn; clear hp hq G hn; obtain ⟨l, hl⟩ : ∃ l, rs.map Slc.Rw.v = l := ⟨_, rfl⟩; have HLL := Lib.hid hl; rw [hl]; clear hl; go_enter Tryz.func85, Tryz.ntmps85
 go_upto_region 1 with fail
 refine wp_region_steps (fun L_ a_ w_ => ∃ (x3 x4 x5 x6 x2 : Value), a_ = { tmps := #[.pointer (some ⟨p, 0, none⟩), .pointer (some ⟨q, 0, none⟩), x2, x3, x4, x5, x6], defers := [] } ∧ Hid (UR W A n c l d L_ w_ x3 x4 x5 x6 x2)) (by kernel_rfl) (by kernel_rfl) ?_ (AllSteps.cons ?_ (AllSteps.cons ?_ (AllSteps.cons ?_ (AllSteps.cons ?_ (AllSteps.cons ?_ AllSteps.nil))))) ?_
 ·exact ⟨_, _, _, _, _, rfl, Lib.hid ⟨⟨rfl, rfl, rfl, Nat.le_refl _, fun _ _ => rfl⟩, (fun h => by cases h), (fun h => by cases h), (fun h => by cases h), (fun h => by cases h), (fun h => by cases h)⟩⟩
 ·rintro L_ a_ w_ hL hd ⟨x3, x4, x5, x6, x2, rfl, HR⟩ K hK; have c0 := (HP.out.below HR.out.b HP.out.lt).c 0; simp at c0; clear hd; go_simp; exact hK.out _ _ ⟨_, _, _, _, _, rfl, Lib.hid (HR.out.s0 rfl)⟩
 ·rintro L_ a_ w_ hL hd ⟨x3, x4, x5, x6, x2, rfl, HR⟩ K hK; have e0 := HR.out.f0 (hd ⟨0, .data⟩ (by simp) rfl); subst e0; clear hd; go_simp; refine (curve1 HLL.out (curve_ A n c rs w_ (HG.out.below HR.out.b) HN.out)).mono ?_; rintro e w1 (⟨hm, A2, c2, V2, d2, ps, rfl, hO, hC, hl, hb⟩ | ⟨hm, rfl, hb⟩)
  rotate_left
  ·exact ⟨rfl, .inr ⟨by rw [up_no hm]; decide, by rw [up_no hm]⟩, HR.out.b.trans (hb.mono HR.out.b.size)⟩
  try go_simp
  exact hK.out _ _ ⟨_, _, _, _, _, rfl, Lib.hid ((HR.out.up hb).s1 ⟨hm, CvYes.stq hO hC hl⟩)⟩
 ·rintro L_ a_ w_ hL hd ⟨x3, x4, x5, x6, x2, rfl, HR⟩ K hK; have c0 := (HQ.out.below HR.out.b HQ.out.lt).c 0; simp at c0; clear hd; go_simp; exact hK.out _ _ ⟨_, _, _, _, _, rfl, Lib.hid (HR.out.s2 rfl)⟩
 ·rintro L_ a_ w_ hL hd ⟨x3, x4, x5, x6, x2, rfl, HR⟩ K hK; obtain ⟨hmay, A2, m, c2, V2, d2, ps, e4, hS, hm, hC⟩ := HR.out.f1 (hd ⟨1, .data⟩ (by simp) rfl); subst e4; have e2 := HR.out.f2 (hd ⟨2, .data⟩ (by simp) rfl); subst e2; clear hd; go_simp; refine (earned_ w_ A2 m c2 V2 d2 l ps d hS hm hC (may_iff.1 hmay).2).mono ?_; rintro e w1 ⟨⟨hx, rfl⟩ | ⟨hx, rfl⟩, hb⟩
  rotate_left
  ·exact ⟨rfl, .inr ⟨by rw [up_over hmay hx]; decide, by rw [up_over hmay hx]⟩, HR.out.b.trans (hb.mono HR.out.b.size)⟩
  try go_simp
  exact hK.out _ _ ⟨_, _, _, _, _, rfl, Lib.hid ((HR.out.up hb).s3 ⟨(up_yes hmay hx).1, by rw [(up_yes hmay hx).2]⟩)⟩
 ·rintro L_ a_ w_ hL hd ⟨x3, x4, x5, x6, x2, rfl, HR⟩ K hK; have e3 := HR.out.f3 (hd ⟨3, .data⟩ (by simp) rfl); obtain ⟨k3, rfl⟩ := e3; clear hd; go_simp; exact hK.out _ _ ⟨_, _, _, _, _, rfl, Lib.hid (HR.out.s4 ⟨k3, rfl⟩)⟩
 rintro L_ a_ w_ hall ⟨x3, x4, x5, x6, x2, rfl, HR⟩; obtain ⟨k1, rfl⟩ := HR.out.f4 (hall 4 (by decide)); dsimp only [Exit.then]; go_wp2; go_ret; exact ⟨.inl ⟨k1, rfl⟩, HR.out.b⟩
theorem btc_no {l : List Sc} {z : Int × Int} (h : may l = false) : btc l z = 1 := by unfold btc; rw [if_neg (by rw [h]; decide)]
theorem btc_rt {l : List Sc} {z : Int × Int} (h : may l = true) (h2 : rt z = false) : btc l z = 1 := by unfold btc; rw [if_pos h, if_neg (by rw [h2]; decide)]
theorem btc_over {l : List Sc} {z : Int × Int} (h : may l = true) (h2 : rt z = true) (h3 : 4000000000000000000 < ern l z.2) : btc l z = 5 := by rw [btc_ok h h2, up_over h h3]
theorem btc_yes {l : List Sc} {z : Int × Int} (h : may l = true) (h2 : rt z = true) (h3 : ern l z.2 ≤ 4000000000000000000) : btc l z = 0 ∧ btv l z = hf (ern l z.2) - hf (ern l z.1) :=
 have e : btc l z = 0 := by rw [btc_ok h h2]; exact upc_ok h h3
 ⟨e, btv_ok e⟩
theorem hf_inU {n : Int} (h0 : 0 ≤ n) (h1 : n ≤ 4000000000000000000) : 0 ≤ hf n ∧ hf n ≤ 10958904109589042 := by unfold hf; omega
structure BR (W : World) (A : Option Addr) (m c : Nat) (V : Option Addr) (d : Nat) (l : List Sc) (q : Nat) (s1 s2 : Int) (L : Nat → Bool) (w' : World) (x9 x10 x11 x12 x13 x14 x15 x16 x17 x2 : Value) : Prop where
 b : Below W.heap.size W w'
 f0 : L 0 = true → x9 = Stp.sg A m c V m d
 f1 : L 1 = true → x10 = .pointer (some ⟨q, 1, none⟩)
 f2 : L 2 = true → x11 = .int .i64 s2
 f3 : L 3 = true → ern l s2 ≤ 4000000000000000000 ∧ x12 = .int .i64 (hf (ern l s2))
 f4 : L 4 = true → x13 = Stp.sg A m c V m d
 f5 : L 5 = true → x14 = .pointer (some ⟨q, 0, none⟩)
 f6 : L 6 = true → x15 = .int .i64 s1
 f7 : L 7 = true → ern l s2 ≤ 4000000000000000000 ∧ x16 = .int .i64 (hf (ern l s1))
 f8 : L 8 = true → ern l s2 ≤ 4000000000000000000 ∧ x17 = .int .i64 (hf (ern l s2) - hf (ern l s1))
 f9 : L 9 = true → ern l s2 ≤ 4000000000000000000 ∧ x2 = .int .i64 (hf (ern l s2) - hf (ern l s1))
theorem BR.up {W : World} {A : Option Addr} {m c : Nat} {V : Option Addr} {d : Nat} {l : List Sc} {q : Nat} {s1 s2 : Int} {L : Nat → Bool} {w' w2 : World} {x9 x10 x11 x12 x13 x14 x15 x16 x17 x2 : Value} (H : BR W A m c V d l q s1 s2 L w' x9 x10 x11 x12 x13 x14 x15 x16 x17 x2) (hb : Below w'.heap.size w' w2) : BR W A m c V d l q s1 s2 L w2 x9 x10 x11 x12 x13 x14 x15 x16 x17 x2 :=
 ⟨H.b.trans (hb.mono H.b.size), H.f0, H.f1, H.f2, H.f3, H.f4, H.f5, H.f6, H.f7, H.f8, H.f9⟩
theorem BR.s0 {W : World} {A : Option Addr} {m c : Nat} {V : Option Addr} {d : Nat} {l : List Sc} {q : Nat} {s1 s2 : Int} {L : Nat → Bool} {w' : World} {x9 x10 x11 x12 x13 x14 x15 x16 x17 x2 : Value} (H : BR W A m c V d l q s1 s2 L w' x9 x10 x11 x12 x13 x14 x15 x16 x17 x2) {z : Value} (k : z = Stp.sg A m c V m d) : BR W A m c V d l q s1 s2 (fun j => j == 0 || L j) w' z x10 x11 x12 x13 x14 x15 x16 x17 x2 := ⟨H.b, fun _ => k, H.f1, H.f2, H.f3, H.f4, H.f5, H.f6, H.f7, H.f8, H.f9⟩
theorem BR.s1 {W : World} {A : Option Addr} {m c : Nat} {V : Option Addr} {d : Nat} {l : List Sc} {q : Nat} {s1 s2 : Int} {L : Nat → Bool} {w' : World} {x9 x10 x11 x12 x13 x14 x15 x16 x17 x2 : Value} (H : BR W A m c V d l q s1 s2 L w' x9 x10 x11 x12 x13 x14 x15 x16 x17 x2) {z : Value} (k : z = .pointer (some ⟨q, 1, none⟩)) : BR W A m c V d l q s1 s2 (fun j => j == 1 || L j) w' x9 z x11 x12 x13 x14 x15 x16 x17 x2 := ⟨H.b, H.f0, fun _ => k, H.f2, H.f3, H.f4, H.f5, H.f6, H.f7, H.f8, H.f9⟩
theorem BR.s2 {W : World} {A : Option Addr} {m c : Nat} {V : Option Addr} {d : Nat} {l : List Sc} {q : Nat} {s1 s2 : Int} {L : Nat → Bool} {w' : World} {x9 x10 x11 x12 x13 x14 x15 x16 x17 x2 : Value} (H : BR W A m c V d l q s1 s2 L w' x9 x10 x11 x12 x13 x14 x15 x16 x17 x2) {z : Value} (k : z = .int .i64 s2) : BR W A m c V d l q s1 s2 (fun j => j == 2 || L j) w' x9 x10 z x12 x13 x14 x15 x16 x17 x2 := ⟨H.b, H.f0, H.f1, fun _ => k, H.f3, H.f4, H.f5, H.f6, H.f7, H.f8, H.f9⟩
theorem BR.s3 {W : World} {A : Option Addr} {m c : Nat} {V : Option Addr} {d : Nat} {l : List Sc} {q : Nat} {s1 s2 : Int} {L : Nat → Bool} {w' : World} {x9 x10 x11 x12 x13 x14 x15 x16 x17 x2 : Value} (H : BR W A m c V d l q s1 s2 L w' x9 x10 x11 x12 x13 x14 x15 x16 x17 x2) {z : Value} (k : ern l s2 ≤ 4000000000000000000 ∧ z = .int .i64 (hf (ern l s2))) : BR W A m c V d l q s1 s2 (fun j => j == 3 || L j) w' x9 x10 x11 z x13 x14 x15 x16 x17 x2 := ⟨H.b, H.f0, H.f1, H.f2, fun _ => k, H.f4, H.f5, H.f6, H.f7, H.f8, H.f9⟩
theorem BR.s4 {W : World} {A : Option Addr} {m c : Nat} {V : Option Addr} {d : Nat} {l : List Sc} {q : Nat} {s1 s2 : Int} {L : Nat → Bool} {w' : World} {x9 x10 x11 x12 x13 x14 x15 x16 x17 x2 : Value} (H : BR W A m c V d l q s1 s2 L w' x9 x10 x11 x12 x13 x14 x15 x16 x17 x2) {z : Value} (k : z = Stp.sg A m c V m d) : BR W A m c V d l q s1 s2 (fun j => j == 4 || L j) w' x9 x10 x11 x12 z x14 x15 x16 x17 x2 := ⟨H.b, H.f0, H.f1, H.f2, H.f3, fun _ => k, H.f5, H.f6, H.f7, H.f8, H.f9⟩
theorem BR.s5 {W : World} {A : Option Addr} {m c : Nat} {V : Option Addr} {d : Nat} {l : List Sc} {q : Nat} {s1 s2 : Int} {L : Nat → Bool} {w' : World} {x9 x10 x11 x12 x13 x14 x15 x16 x17 x2 : Value} (H : BR W A m c V d l q s1 s2 L w' x9 x10 x11 x12 x13 x14 x15 x16 x17 x2) {z : Value} (k : z = .pointer (some ⟨q, 0, none⟩)) : BR W A m c V d l q s1 s2 (fun j => j == 5 || L j) w' x9 x10 x11 x12 x13 z x15 x16 x17 x2 := ⟨H.b, H.f0, H.f1, H.f2, H.f3, H.f4, fun _ => k, H.f6, H.f7, H.f8, H.f9⟩
theorem BR.s6 {W : World} {A : Option Addr} {m c : Nat} {V : Option Addr} {d : Nat} {l : List Sc} {q : Nat} {s1 s2 : Int} {L : Nat → Bool} {w' : World} {x9 x10 x11 x12 x13 x14 x15 x16 x17 x2 : Value} (H : BR W A m c V d l q s1 s2 L w' x9 x10 x11 x12 x13 x14 x15 x16 x17 x2) {z : Value} (k : z = .int .i64 s1) : BR W A m c V d l q s1 s2 (fun j => j == 6 || L j) w' x9 x10 x11 x12 x13 x14 z x16 x17 x2 := ⟨H.b, H.f0, H.f1, H.f2, H.f3, H.f4, H.f5, fun _ => k, H.f7, H.f8, H.f9⟩
theorem BR.s7 {W : World} {A : Option Addr} {m c : Nat} {V : Option Addr} {d : Nat} {l : List Sc} {q : Nat} {s1 s2 : Int} {L : Nat → Bool} {w' : World} {x9 x10 x11 x12 x13 x14 x15 x16 x17 x2 : Value} (H : BR W A m c V d l q s1 s2 L w' x9 x10 x11 x12 x13 x14 x15 x16 x17 x2) {z : Value} (k : ern l s2 ≤ 4000000000000000000 ∧ z = .int .i64 (hf (ern l s1))) : BR W A m c V d l q s1 s2 (fun j => j == 7 || L j) w' x9 x10 x11 x12 x13 x14 x15 z x17 x2 := ⟨H.b, H.f0, H.f1, H.f2, H.f3, H.f4, H.f5, H.f6, fun _ => k, H.f8, H.f9⟩
theorem BR.s8 {W : World} {A : Option Addr} {m c : Nat} {V : Option Addr} {d : Nat} {l : List Sc} {q : Nat} {s1 s2 : Int} {L : Nat → Bool} {w' : World} {x9 x10 x11 x12 x13 x14 x15 x16 x17 x2 : Value} (H : BR W A m c V d l q s1 s2 L w' x9 x10 x11 x12 x13 x14 x15 x16 x17 x2) {z : Value} (k : ern l s2 ≤ 4000000000000000000 ∧ z = .int .i64 (hf (ern l s2) - hf (ern l s1))) : BR W A m c V d l q s1 s2 (fun j => j == 8 || L j) w' x9 x10 x11 x12 x13 x14 x15 x16 z x2 := ⟨H.b, H.f0, H.f1, H.f2, H.f3, H.f4, H.f5, H.f6, H.f7, fun _ => k, H.f9⟩
theorem BR.s9 {W : World} {A : Option Addr} {m c : Nat} {V : Option Addr} {d : Nat} {l : List Sc} {q : Nat} {s1 s2 : Int} {L : Nat → Bool} {w' : World} {x9 x10 x11 x12 x13 x14 x15 x16 x17 x2 : Value} (H : BR W A m c V d l q s1 s2 L w' x9 x10 x11 x12 x13 x14 x15 x16 x17 x2) {z : Value} (k : ern l s2 ≤ 4000000000000000000 ∧ z = .int .i64 (hf (ern l s2) - hf (ern l s1))) : BR W A m c V d l q s1 s2 (fun j => j == 9 || L j) w' x9 x10 x11 x12 x13 x14 x15 x16 x17 z := ⟨H.b, H.f0, H.f1, H.f2, H.f3, H.f4, H.f5, H.f6, H.f7, H.f8, fun _ => k⟩
set_option maxRecDepth 100000 in
set_option maxHeartbeats 4000000 in
theorem between1 (p q : Nat) (A : Option Addr) (n c0 : Nat) (rs : List Rw) (s1 s2 : Int) (W : World) (hp : Bx W p 46 #[.slice A n c0]) (hq : Bx W q 23 #[.int .i64 s1, .int .i64 s2]) (G : Raws W (· < W.heap.size) A n rs) (hn : n ≤ 1100) :
  Calls Tryz.prog 41 #[.pointer (some ⟨p, 0, none⟩), .pointer (some ⟨q, 0, none⟩)] W (UcTo W (btv (rs.map Slc.Rw.v) (s1, s2)) (btc (rs.map Slc.Rw.v) (s1, s2))) := by
 have HP := Lib.hid hp; have HQ := Lib.hid hq; have HG := Lib.hid G; have HN := Lib.hid hn; have CC := Lib.hid (curve_ A n c0 rs W G hn); have CS := fun w => Lib.hid (span_right (s1, s2) w)
 clear G hn; obtain ⟨l, hl⟩ : ∃ l, rs.map Slc.Rw.v = l := ⟨_, rfl⟩; rw [hl] at CC ⊢; clear hl; have p0 := hp.c 0; simp at p0; clear hp hq; go_enter Tryz.func41, Tryz.ntmps41
 go_wp2_with fail
 refine CC.out.mono ?_; rintro e w1 (⟨hm, A2, c2, V2, d2, ps, rfl, hO, hC, hl, hb⟩ | ⟨hm, rfl, hb⟩)
 rotate_left
 ·go_wp2; exact ⟨rfl, .inr ⟨by rw [btc_no hm]; decide, by rw [btc_no hm]⟩, hb⟩
 obtain ⟨m, hm2⟩ : ∃ m, ps.length = m := ⟨_, rfl⟩; rw [hm2] at hO hl ⊢; clear hm2 CC p0; have HMY := Lib.hid hm; have HM := Lib.hid hl; have HC := Lib.hid hC; have HB1 := Lib.hid hb; obtain ⟨W2, hW2⟩ : ∃ W2, w1.alloc (.cells #[.slice A2 m c2, .slice V2 m d2] 77) = W2 := ⟨_, rfl⟩; have hb2 : Below w1.heap.size w1 W2 := hW2 ▸ alloc_ _ _; have HS2 := Lib.hid (show Stp.Sr W2 W2.heap.size A2 V2 m ps from Stp.Sr.keep_ hO.sx hb2); have HF2 := Lib.hid (show Stp.Bx W2 w1.heap.size 77 (.slice A2 m c2) (.slice V2 m d2) from hW2 ▸ Stp.Bx.new w1 _ _ _); have HB2 := Lib.hid (hb.trans (hb2.mono hb.size)); have HW2 := Lib.hid hW2; have HQ2 := Lib.hid (HQ.out.below HB2.out HQ.out.lt); have q0 := HQ2.out.c 0; have q1 := HQ2.out.c 1; simp at q0 q1; clear hm hl hC hb hb2 hW2 hO
 go_upto_region 2 with fail
 rw [HW2.out]; obtain ⟨g, hg⟩ : ∃ g, w1.heap.size = g := ⟨_, rfl⟩; rw [hg] at HF2 ⊢; clear hg HW2
 go_wp2_with fail
 refine (CS _).out.mono ?_; rintro e W3 ⟨rfl, hb⟩; have HB3 := Lib.hid (HB2.out.trans (hb.mono HB2.out.size)); have HQ3 := Lib.hid (HQ2.out.keep hb); have HF := Lib.hid (HF2.out.keep hb); have HST := Lib.hid (HS2.out.keep_ hb); clear hb CS q0 q1; cases hrt : rt (s1, s2)
 ·have CN := fun w => Lib.hid (need_no 1 w)
  go_wp2_with fail
  refine (CN _).out.mono ?_; rintro e' w' ⟨rfl, rfl⟩; go_wp2; exact ⟨rfl, .inr ⟨by rw [btc_rt HMY.out hrt]; decide, by rw [btc_rt HMY.out hrt]⟩, HB3.out⟩
 have HRT := Lib.hid hrt; have CN := fun w => Lib.hid (need_yes 1 w)
 clear hrt
 go_upto_region 3 with (go_at_call 43; refine (CN _).out.mono ?_; rintro e w' ⟨rfl, rfl⟩)
 refine wp_region_steps (fun L_ a_ w_ => ∃ (x9 x10 x11 x12 x13 x14 x15 x16 x17 x2 : Value), a_ = { tmps := #[.pointer (some ⟨p, 0, none⟩), .pointer (some ⟨q, 0, none⟩), x2, .pointer (some ⟨g, 0, none⟩), .slice A n c0, .agg #[.slice A2 m c2, .slice V2 m d2], .agg #[.int .i64 s1, .int .i64 s2], .bool true, .tuple #[], x9, x10, x11, x12, x13, x14, x15, x16, x17], defers := [] } ∧ Hid (BR W3 A2 m c2 V2 d2 l q s1 s2 L_ w_ x9 x10 x11 x12 x13 x14 x15 x16 x17 x2)) (by kernel_rfl) (by kernel_rfl) ?_ (AllSteps.cons ?_ (AllSteps.cons ?_ (AllSteps.cons ?_ (AllSteps.cons ?_ (AllSteps.cons ?_ (AllSteps.cons ?_ (AllSteps.cons ?_ (AllSteps.cons ?_ (AllSteps.cons ?_ (AllSteps.cons ?_ AllSteps.nil)))))))))) ?_
 ·exact ⟨_, _, _, _, _, _, _, _, _, _, rfl, Lib.hid ⟨⟨rfl, rfl, rfl, Nat.le_refl _, fun _ _ => rfl⟩, (fun h => by cases h), (fun h => by cases h), (fun h => by cases h), (fun h => by cases h), (fun h => by cases h), (fun h => by cases h), (fun h => by cases h), (fun h => by cases h), (fun h => by cases h), (fun h => by cases h)⟩⟩
 ·rintro L_ a_ w_ hL hd ⟨x9, x10, x11, x12, x13, x14, x15, x16, x17, x2, rfl, HR⟩ K hK; have c0 := (HF.out.below HR.out.b HF.out.lt).c0; have c1 := (HF.out.below HR.out.b HF.out.lt).c1; clear hd; go_simp; exact hK.out _ _ ⟨_, _, _, _, _, _, _, _, _, _, rfl, Lib.hid (HR.out.s0 rfl)⟩
 ·rintro L_ a_ w_ hL hd ⟨x9, x10, x11, x12, x13, x14, x15, x16, x17, x2, rfl, HR⟩ K hK; clear hd; go_simp; exact hK.out _ _ ⟨_, _, _, _, _, _, _, _, _, _, rfl, Lib.hid (HR.out.s1 rfl)⟩
 ·rintro L_ a_ w_ hL hd ⟨x9, x10, x11, x12, x13, x14, x15, x16, x17, x2, rfl, HR⟩ K hK; have e1 := HR.out.f1 (hd ⟨1, .data⟩ (by simp) rfl); subst e1; have c0 := (HQ3.out.below HR.out.b HQ3.out.lt).c 1; simp at c0; clear hd; go_simp; exact hK.out _ _ ⟨_, _, _, _, _, _, _, _, _, _, rfl, Lib.hid (HR.out.s2 rfl)⟩
 ·rintro L_ a_ w_ hL hd ⟨x9, x10, x11, x12, x13, x14, x15, x16, x17, x2, rfl, HR⟩ K hK; have e0 := HR.out.f0 (hd ⟨0, .data⟩ (by simp) rfl); subst e0; have e2 := HR.out.f2 (hd ⟨2, .data⟩ (by simp) rfl); subst e2; clear hd; go_simp; refine (earned_ w_ A2 m c2 V2 d2 l ps s2 (HST.out.keep_ HR.out.b) HM.out HC.out (may_iff.1 HMY.out).2).mono ?_; rintro e w1 ⟨⟨hx, rfl⟩ | ⟨hx, rfl⟩, hb⟩
  rotate_left
  ·exact ⟨rfl, .inr ⟨by rw [btc_over HMY.out HRT.out hx]; decide, by rw [btc_over HMY.out HRT.out hx]⟩, HB3.out.trans ((HR.out.b.trans (hb.mono HR.out.b.size)).mono HB3.out.size)⟩
  try go_simp
  exact hK.out _ _ ⟨_, _, _, _, _, _, _, _, _, _, rfl, Lib.hid ((HR.out.up hb).s3 ⟨hx, rfl⟩)⟩
 ·rintro L_ a_ w_ hL hd ⟨x9, x10, x11, x12, x13, x14, x15, x16, x17, x2, rfl, HR⟩ K hK; have c0 := (HF.out.below HR.out.b HF.out.lt).c0; have c1 := (HF.out.below HR.out.b HF.out.lt).c1; clear hd; go_simp; exact hK.out _ _ ⟨_, _, _, _, _, _, _, _, _, _, rfl, Lib.hid (HR.out.s4 rfl)⟩
 ·rintro L_ a_ w_ hL hd ⟨x9, x10, x11, x12, x13, x14, x15, x16, x17, x2, rfl, HR⟩ K hK; clear hd; go_simp; exact hK.out _ _ ⟨_, _, _, _, _, _, _, _, _, _, rfl, Lib.hid (HR.out.s5 rfl)⟩
 ·rintro L_ a_ w_ hL hd ⟨x9, x10, x11, x12, x13, x14, x15, x16, x17, x2, rfl, HR⟩ K hK; have e5 := HR.out.f5 (hd ⟨5, .data⟩ (by simp) rfl); subst e5; have c0 := (HQ3.out.below HR.out.b HQ3.out.lt).c 0; simp at c0; clear hd; go_simp; exact hK.out _ _ ⟨_, _, _, _, _, _, _, _, _, _, rfl, Lib.hid (HR.out.s6 rfl)⟩
 ·rintro L_ a_ w_ hL hd ⟨x9, x10, x11, x12, x13, x14, x15, x16, x17, x2, rfl, HR⟩ K hK; have k3 := (HR.out.f3 (hd ⟨3, .chain⟩ (by simp) rfl)).1; have e4 := HR.out.f4 (hd ⟨4, .data⟩ (by simp) rfl); subst e4; have e6 := HR.out.f6 (hd ⟨6, .data⟩ (by simp) rfl); subst e6; clear hd; go_simp; refine (earned_ w_ A2 m c2 V2 d2 l ps s1 (HST.out.keep_ HR.out.b) HM.out HC.out (may_iff.1 HMY.out).2).mono ?_; rintro e w1 ⟨⟨hx, rfl⟩ | ⟨hx, rfl⟩, hb⟩
  rotate_left
  ·exact absurd (ern_mono (may_iff.1 HMY.out).2 ((rt_iff _).1 HRT.out).2.1) (by simp only; omega)
  try go_simp
  exact hK.out _ _ ⟨_, _, _, _, _, _, _, _, _, _, rfl, Lib.hid ((HR.out.up hb).s7 ⟨k3, rfl⟩)⟩
 ·rintro L_ a_ w_ hL hd ⟨x9, x10, x11, x12, x13, x14, x15, x16, x17, x2, rfl, HR⟩ K hK; obtain ⟨k3, e3⟩ := HR.out.f3 (hd ⟨3, .data⟩ (by simp) rfl); subst e3; obtain ⟨_, e7⟩ := HR.out.f7 (hd ⟨7, .data⟩ (by simp) rfl); subst e7; have hw := IntWalk.i64_in (hf (ern l s2) - hf (ern l s1)) (by have h1 := hf_inU (ern_nonneg (may_iff.1 HMY.out).2) k3; have h2 := hf_inU (ern_nonneg (may_iff.1 HMY.out).2) (Int.le_trans (ern_mono (may_iff.1 HMY.out).2 ((rt_iff (s1, s2)).1 HRT.out).2.1) k3); simp only at h2; omega); clear hd; go_simp; exact hK.out _ _ ⟨_, _, _, _, _, _, _, _, _, _, rfl, Lib.hid (HR.out.s8 ⟨k3, rfl⟩)⟩
 ·rintro L_ a_ w_ hL hd ⟨x9, x10, x11, x12, x13, x14, x15, x16, x17, x2, rfl, HR⟩ K hK; obtain ⟨k3, e8⟩ := HR.out.f8 (hd ⟨8, .data⟩ (by simp) rfl); subst e8; clear hd; go_simp; exact hK.out _ _ ⟨_, _, _, _, _, _, _, _, _, _, rfl, Lib.hid (HR.out.s9 ⟨k3, rfl⟩)⟩
 rintro L_ a_ w_ hall ⟨x9, x10, x11, x12, x13, x14, x15, x16, x17, x2, rfl, HR⟩; obtain ⟨k1, rfl⟩ := HR.out.f9 (hall 9 (by decide)); dsimp only [Exit.then]; go_wp2; go_ret; exact ⟨.inl ⟨(btc_yes HMY.out HRT.out k1).1, congrArg (fun z => Ending.returned (.int .i64 z)) (btc_yes HMY.out HRT.out k1).2.symm⟩, HB3.out.trans (HR.out.b.mono HB3.out.size)⟩
theorem answer_uc (k : FuncId) (cap : Array Value) (v c : Int) (w : World) (hen : ∀ args w, (callFunc k args).run Tryz.prog w = .ok (.enter k args) w) (h0 : c ≠ 0 → v = 0)
  (HC : Calls Tryz.prog k cap (w.alloc (.cells #[.int .i64 0] 37)) (UcTo (w.alloc (.cells #[.int .i64 0] 37)) v c)) :
  Calls Tryz.prog 40 #[.func (.func k) #[] cap] w fun e w' => e = .returned (.tuple #[.int .i64 v, .int .i64 c]) ∧ Below w.heap.size w w' := by
 have hs : (w.alloc (.cells #[.int .i64 0] 37)).heap.size = w.heap.size + 1 := World.size_alloc _ _; by_cases hc : c = 0
 ·subst hc; refine answer_yes k cap v w hen (HC.mono ?_); rintro e w' ⟨⟨_, he⟩ | ⟨hn, _⟩, hb⟩
  ·exact ⟨he, by rw [hs] at hb; exact hb⟩
  ·exact absurd rfl hn
 ·obtain rfl := h0 hc; refine answer_no k cap c w hen (HC.mono ?_); rintro e w' ⟨⟨h, _⟩ | ⟨_, he⟩, hb⟩
  ·exact absurd h hc
  ·exact ⟨he, by rw [hs] at hb; exact hb⟩
theorem upv_no {l : List Sc} {d : Int} (h : upc l d ≠ 0) : upv l d = 0 := by unfold upv; rw [if_neg h]
theorem btv_no {l : List Sc} {z : Int × Int} (h : btc l z ≠ 0) : btv l z = 0 := by unfold btv; rw [if_neg h]
theorem enters_upto : ∀ args w, (callFunc 85 args).run Tryz.prog w = .ok (.enter 85 args) w := enters_of Tryz.func85 (by kernel_rfl) rfl
theorem enters_between : ∀ args w, (callFunc 41 args).run Tryz.prog w = .ok (.enter 41 args) w := enters_of Tryz.func41 (by kernel_rfl) rfl
set_option maxRecDepth 100000 in
set_option maxHeartbeats 4000000 in
theorem upto_any : ∀ (A : Option Addr) (n c : Nat) (rs : List Rw) (d : Int) (w : World), Raws w (· < w.heap.size) A n rs → n ≤ 1100 → Calls Tryz.prog 50 #[.slice A n c, .int .i64 d] w (UpTo w (rs.map Slc.Rw.v) d) := by
 intro A n c rs d w S hn; obtain ⟨W, hW⟩ : ∃ W, (w.alloc (.cells #[.slice A n c] 46)).alloc (.cells #[.int .i64 d] 3) = W := ⟨_, rfl⟩; have hb : Below w.heap.size w W := hW ▸ ((Below.refl _ w).alloc (Nat.le_refl _) _).alloc (by simp) _; have hp : Bx W w.heap.size 46 #[.slice A n c] := hW ▸ (Bx.new w _ _).alloc _
 have hq : Bx W (w.heap.size + 1) 3 #[.int .i64 d] := by
  have h := Bx.new (w.alloc (.cells #[.slice A n c] 46)) 3 #[.int .i64 d]; rw [hW, World.size_alloc] at h; exact h
 have hmf : ∀ (fn : Fn) (first cap : Array Value) (w : World), (Instr.makeFunc fn first cap).run Tryz.prog w = .ok (.func fn first cap) w := fun _ _ _ _ => rfl
 have hba := alloc_ W (.cells #[.int .i64 0] 37); have C := Lib.hid (answer_uc 85 #[.pointer (some ⟨w.heap.size, 0, none⟩), .pointer (some ⟨w.heap.size + 1, 0, none⟩)] (upv (rs.map Slc.Rw.v) d) (upc (rs.map Slc.Rw.v) d) W enters_upto upv_no (upto1 w.heap.size (w.heap.size + 1) A n c rs d _ (hp.alloc _) (hq.alloc _) ((S.below hb).below hba) hn )); have HB := Lib.hid hb; have HW := Lib.hid hW; clear S hn hp hq hb hW hba; obtain ⟨x, hx⟩ : ∃ x, upv (rs.map Slc.Rw.v) d = x := ⟨_, rfl⟩; obtain ⟨y, hy⟩ : ∃ y, upc (rs.map Slc.Rw.v) d = y := ⟨_, rfl⟩; rw [hx, hy] at C; unfold UpTo; rw [hx, hy]; clear hx hy; go_enter Tryz.func50, Tryz.ntmps50
 go_upto_region 1 with fail
 rw [HW.out]
 go_wp2_with fail
 refine C.out.mono ?_; rintro e w1 ⟨rfl, hb⟩; go_wp2; go_ret2; exact ⟨rfl, HB.out.trans (hb.mono HB.out.size)⟩
theorem upto_ : UpC := fun A n c rs d w S hn _ _ => upto_any A n c rs d w S hn
set_option maxRecDepth 100000 in
set_option maxHeartbeats 4000000 in
theorem between_ : BtC := by
 intro A n c rs s w S hn hf hd1 hd2; obtain ⟨s1, s2⟩ := s; simp only at hd1 hd2; obtain ⟨W, hW⟩ : ∃ W, (w.alloc (.cells #[.slice A n c] 46)).alloc (.cells #[.int .i64 s1, .int .i64 s2] 23) = W := ⟨_, rfl⟩; have hb : Below w.heap.size w W := hW ▸ ((Below.refl _ w).alloc (Nat.le_refl _) _).alloc (by simp) _; have hp : Bx W w.heap.size 46 #[.slice A n c] := hW ▸ (Bx.new w _ _).alloc _
 have hq : Bx W (w.heap.size + 1) 23 #[.int .i64 s1, .int .i64 s2] := by
  have h := Bx.new (w.alloc (.cells #[.slice A n c] 46)) 23 #[.int .i64 s1, .int .i64 s2]; rw [hW, World.size_alloc] at h; exact h
 have hmf : ∀ (fn : Fn) (first cap : Array Value) (w : World), (Instr.makeFunc fn first cap).run Tryz.prog w = .ok (.func fn first cap) w := fun _ _ _ _ => rfl
 have hba := alloc_ W (.cells #[.int .i64 0] 37); have C := Lib.hid (answer_uc 41 #[.pointer (some ⟨w.heap.size, 0, none⟩), .pointer (some ⟨w.heap.size + 1, 0, none⟩)] (btv (rs.map Slc.Rw.v) (s1, s2)) (btc (rs.map Slc.Rw.v) (s1, s2)) W enters_between btv_no (between1 w.heap.size (w.heap.size + 1) A n c rs s1 s2 _ (hp.alloc _) (hq.alloc _) ((S.below hb).below hba) hn )); have HB := Lib.hid hb; have HW := Lib.hid hW; clear S hn hp hq hb hW hba hf hd1 hd2; obtain ⟨x, hx⟩ : ∃ x, btv (rs.map Slc.Rw.v) (s1, s2) = x := ⟨_, rfl⟩; obtain ⟨y, hy⟩ : ∃ y, btc (rs.map Slc.Rw.v) (s1, s2) = y := ⟨_, rfl⟩; rw [hx, hy] at C; unfold BtTo; rw [hx, hy]; clear hx hy; go_enter Tryz.func21, Tryz.ntmps21
 go_upto_region 1 with fail
 rw [HW.out]
 go_wp2_with fail
 refine C.out.mono ?_; rintro e w1 ⟨rfl, hb⟩; go_wp2; go_ret2; exact ⟨rfl, HB.out.trans (hb.mono HB.out.size)⟩
set_option maxRecDepth 100000 in
set_option maxHeartbeats 4000000 in
theorem written_ : WrC := by
 intro A n c rs w S hn hf; have C := Lib.hid (upto_ A n c rs 292195 w S hn hf (by omega)); clear S hn hf; unfold UpTo at C ⊢; obtain ⟨x, hx⟩ : ∃ x, upv (rs.map Slc.Rw.v) 292195 = x := ⟨_, rfl⟩; obtain ⟨y, hy⟩ : ∃ y, upc (rs.map Slc.Rw.v) 292195 = y := ⟨_, rfl⟩; rw [hx, hy] at C ⊢; clear hx hy; go_enter Tryz.func24, Tryz.ntmps24
 go_wp2_with fail
 refine C.out.mono ?_; rintro e w1 ⟨rfl, hb⟩; go_wp2; go_ret2; exact ⟨rfl, hb⟩
end Acr
end Go.Proofs.YtfidmphajohljaaGreat
