/-
  curve: the step of slices, laid on end, or the code that is told. Conditions: the slices lie as they read; there are 1100 at most.
-/
import Derived.Test.YtjmbccdcnmmhgaaAcT
import Derived.Test.YtjmbccdcnmmhgaaAcB
import Derived.Test.YtjmbccdcnmmhgaaAcL
namespace Go.Proofs.Ytjmbccdcnmmhgaa
open Go.RowKit Ba Cv Sp Te Ag Sl Tm Slc
namespace Acr
set_option linter.unusedVariables false

abbrev fst (ps : List Stm.Pr) : List Int := ps.map (·.1)
abbrev snd (ps : List Stm.Pr) : List Int := ps.map (·.2)
/-- What curve gives. -/
def CvYes (w : World) (l : List Sc) (e : Ending) (w' : World) : Prop := ∃ A c V d ps, e = .returned (Stp.sg A ps.length c V ps.length d) ∧ Stp.OwnS w' w.heap.size A ps.length c V ps.length d (fst ps) (snd ps) ∧ Crv l ps ∧ ps.length ≤ 10000 ∧ Below w.heap.size w w'
def CvNo (w : World) (e : Ending) (w' : World) : Prop := e = pnc 1 ∧ Below w.heap.size w w'
def CvTo (w : World) (l : List Sc) (e : Ending) (w' : World) : Prop := (may l = true ∧ CvYes w l e w') ∨ (may l = false ∧ CvNo w e w')
/-- What lies while curve goes on. -/
structure Lay (w W : World) (A : Option Addr) (n c : Nat) (V : Option Addr) (d : Nat) (ps : List Stm.Pr) : Prop where
  b : Below w.heap.size w W
  r : Stp.Bx W w.heap.size 38 (.slice none 0 0) (.slice none 0 0)
  f : Stp.Bx W (w.heap.size + 1) 38 (.slice A n c) (.slice V n d)
  own : Stp.OwnS W (w.heap.size + 2) A n c V n d (fst ps) (snd ps)
section
variable {w W W2 : World} {A V A2 V2 : Option Addr} {n c d n2 c2 d2 : Nat} {ps ps2 : List Stm.Pr}
theorem Lay.size (h : Lay w W A n c V d ps) : w.heap.size + 2 ≤ W.heap.size := by have := h.f.lt; omega
theorem Lay.len (h : Lay w W A n c V d ps) : ps.length = n := by have := h.own.a.len; simpa using this
theorem Lay.next (h : Lay w W A n c V d ps) (hb : Below W.heap.size W W2) : Lay w W2 A n c V d ps :=
  ⟨h.b.trans (hb.mono h.b.size), h.r.keep hb, h.f.keep hb, h.own.below hb⟩
theorem Lay.new (w : World) : Lay w ((w.alloc (.cells #[.slice none 0 0, .slice none 0 0] 38)).alloc (.cells #[.slice none 0 0, .slice none 0 0] 38)) none 0 0 none 0 [] := by
  have := Stp.Bx.new (w.alloc (.cells #[.slice none 0 0, .slice none 0 0] 38)) 38 (.slice none 0 0) (.slice none 0 0)
  rw [World.size_alloc] at this
  exact ⟨((Below.refl _ w).alloc (Nat.le_refl _) _).alloc (by simp) _, (Stp.Bx.new w _ _ _).alloc _, this, Stp.OwnS.nil⟩
theorem Lay.turn (h : Lay w W A n c V d ps) (hO : Stp.OwnS W2 (w.heap.size + 2) A2 n2 c2 V2 n2 d2 (fst ps2) (snd ps2)) (hb : Below (w.heap.size + 2) W W2) :
    Lay w ((W2.setCell ⟨w.heap.size + 1, 0, none⟩ (.slice A2 n2 c2)).setCell ⟨w.heap.size + 1, 1, none⟩ (.slice V2 n2 d2)) A2 n2 c2 V2 d2 ps2 := by
  have f1 := (h.f.below hb (by omega)).set0 (.slice A2 n2 c2)
  have f2 := f1.set1 (.slice V2 n2 d2)
  have r1 := ((h.r.below hb (by omega)).far (a := ⟨w.heap.size + 1, 0, none⟩) (by simp) (.slice A2 n2 c2)).far (a := ⟨w.heap.size + 1, 1, none⟩) (by simp) (.slice V2 n2 d2)
  have O1 := hO.far (p := ⟨w.heap.size + 1, 0, none⟩) (Stp.low_ne hO.a (by simp)) (Stp.low_ne hO.v (by simp)) (.slice A2 n2 c2)
  have O2 := O1.far (p := ⟨w.heap.size + 1, 1, none⟩) (Stp.low_ne O1.a (by simp)) (Stp.low_ne O1.v (by simp)) (.slice V2 n2 d2)
  exact ⟨((h.b.trans (hb.mono (by omega))).setCell (by simp) _).setCell (by simp) _, r1, f2, O2⟩
/-- The step is stored as what is handed back. -/
theorem Lay.done {l : List Sc} (h : Lay w W A n c V d ps) (hO : Stp.OwnS W2 (w.heap.size + 2) A2 ps2.length c2 V2 ps2.length d2 (fst ps2) (snd ps2)) (hb : Below (w.heap.size + 2) W W2) (hC : Crv l ps2) (hl : ps2.length ≤ 10000) (x y : Value) :
    CvYes w l (.returned (Stp.sg A2 ps2.length c2 V2 ps2.length d2)) ((W2.setCell ⟨w.heap.size, 0, none⟩ x).setCell ⟨w.heap.size, 1, none⟩ y) := by
  have O1 := hO.far (p := ⟨w.heap.size, 0, none⟩) (Stp.low_ne hO.a (by simp)) (Stp.low_ne hO.v (by simp)) x
  have O2 := O1.far (p := ⟨w.heap.size, 1, none⟩) (Stp.low_ne O1.a (by simp)) (Stp.low_ne O1.v (by simp)) y
  exact ⟨A2, c2, V2, d2, ps2, rfl, O2.low (by omega), hC, hl, ((h.b.trans (hb.mono (by omega))).setCell (by simp) _).setCell (by simp) _⟩
end
theorem drop_get' {rs : List Rw} {k : Nat} {r : Rw} (h : rs[k]? = some r) : rs.drop k = r :: rs.drop (k + 1) := by
  obtain ⟨hl, e⟩ := List.getElem?_eq_some_iff.1 h
  rw [List.drop_eq_getElem_cons hl, e]
theorem one_false {x : Sc} {l : List Sc} {L : List Sc} {e : Int} (h : rr 1 L = rr e (x :: l)) (h2 : one x e = false) : may L = false := by
  rw [may, h, rr_cons, h2]; simp
set_option maxRecDepth 100000 in
set_option maxHeartbeats 4000000 in
theorem curve_ (A : Option Addr) (n c : Nat) (rs : List Rw) (w : World) (S : Raws w (· < w.heap.size) A n rs) (hn : n ≤ 1100) : Calls Try.prog 20 #[.slice A n c] w (CvTo w (rs.map Rw.v)) := by
  have HS := Lib.hid S
  have HN := Lib.hid hn
  have t0 : decide ((n : Int) ≤ 2000) = true := decide_eq_true (by omega)
  have CN := fun w => Lib.hid (need_yes 1 w)
  have CE := fun w => Lib.hid (need_no 1 w)
  have HL0 := Lib.hid (Lay.new w)
  have HLe := Lib.hid S.1
  clear S hn
  go_enter Try.func20, Try.ntmps20
  go_wp2_with (go_at_call 22; refine (CN _).out.mono ?_; rintro e w' ⟨rfl, rfl⟩)
  go_loopw [4, 13] (fun z i w' => ∃ (k : Nat) (e : Int) (ps : List Stm.Pr) (A1 : Option Addr) (m c1 : Nat) (V1 : Option Addr) (d1 : Nat) (W1 : World), k ≤ n ∧ z = .int .i64 e ∧ i = .int .i64 (k : Int) ∧ 1 ≤ e ∧ e ≤ 292195 ∧ W1 = w' ∧ Hid (Lay w W1 A1 m c1 V1 d1 ps) ∧ Hid (Pre ((rs.take k).map Rw.v) ps e) ∧ Hid (rr 1 (rs.map Rw.v) = rr e ((rs.drop k).map Rw.v)) ∧ Hid (m ≤ 2 * k)) (fun _ i _ => n - (intOf i).toNat)
  case atStart => exact ⟨0, 1, [], _, _, _, _, _, _, Nat.zero_le _, rfl, rfl, by omega, by omega, rfl, HL0, Lib.hid Pre.nil, Lib.hid rfl, Lib.hid (Nat.le_refl _)⟩
  case round =>
    obtain ⟨k, e, ps, A1, m, c1, V1, d1, W1, hk, rfl, rfl, he1, he2, rfl, HL, HP, HR, HM⟩ := hrel
    by_cases hlt : k < n
    · obtain ⟨ad, r, rfl, hb, hr, N⟩ := (HS.out.below HL.out.b).get hlt
      have hlt2 : (k : Int) < (n : Int) := by omega
      have HR2 := Lib.hid (HR.out.trans (by rw [drop_get' hr, List.map_cons]))
      have HT := Lib.hid (show (rs.take (k + 1)).map Rw.v = (rs.take k).map Rw.v ++ [r.v] by rw [Stm.take_more hr, List.map_append]; rfl)
      obtain ⟨⟨⟨s1, s2⟩, hh, y⟩, rA, rn, rc⟩ := r
      obtain ⟨c0, c1', c2, c3, c4, c5, c6, c7, c8⟩ := N
      simp only at c0 c1' c2 c3 c4 c5 c6 c7 c8
      have CF := fun w => Lib.hid (full_ (s1, s2) w)
      clear hr hb
      go_wp2_with fail
      refine (CF _).out.mono ?_
      rintro e' w2 ⟨rfl, hb2⟩
      have HL2 := Lib.hid ((HL.out.next (alloc_ _ _)).next hb2)
      have HX := Lib.hid (Bx.keep (Bx.new W1 49 #[.int .i64 s1, .int .i64 s2, .bool hh.on, .int .i64 hh.r.k, .int .i64 hh.r.v, .int .i64 hh.r.a, .int .i64 hh.r.z, .slice rA rn rc, .int .i64 y]) hb2)
      have x0 := HX.out.c 0
      have x1 := HX.out.c 1
      have x8 := HX.out.c 8
      simp at x0 x1 x8
      clear hb2 c0 c1' c2 c3 c4 c5 c6 c7 c8 CF
      cases hq : fll (s1, s2)
      · have HO := Lib.hid (show one ⟨(s1, s2), hh, y⟩ e = false from decide_eq_false (fun h => of_decide_eq_false hq ⟨Int.le_trans he1 h.1, h.2.1, h.2.2.1⟩))
        go_wp2_with fail
        refine (CE _).out.mono ?_
        rintro e' w' ⟨rfl, rfl⟩
        go_wp2
        exact ⟨rfl, .inr ⟨one_false HR2.out HO.out, rfl, HL2.out.b⟩⟩
      have hqs := of_decide_eq_true hq
      simp only at hqs
      by_cases hq2 : e ≤ s1
      case neg =>
        have t2 : decide (e ≤ s1) = false := decide_eq_false hq2
        have HO := Lib.hid (show one ⟨(s1, s2), hh, y⟩ e = false from decide_eq_false (fun h => hq2 h.1))
        clear hqs hq2
        go_wp2_with fail
        refine (CE _).out.mono ?_
        rintro e' w' ⟨rfl, rfl⟩
        go_wp2
        exact ⟨rfl, .inr ⟨one_false HR2.out HO.out, rfl, HL2.out.b⟩⟩
      have t2 : decide (e ≤ s1) = true := decide_eq_true hq2
      by_cases hy : 0 ≤ y
      case neg =>
        have t3 : decide (0 ≤ y) = false := decide_eq_false hy
        have HO := Lib.hid (show one ⟨(s1, s2), hh, y⟩ e = false from decide_eq_false (fun h => hy h.2.2.2.1))
        clear hqs hq2 hy
        go_wp2_with (go_at_call 22; refine (CN _).out.mono ?_; rintro e w' ⟨rfl, rfl⟩)
        refine (CE _).out.mono ?_
        rintro e' w' ⟨rfl, rfl⟩
        go_wp2
        exact ⟨rfl, .inr ⟨one_false HR2.out HO.out, rfl, HL2.out.b⟩⟩
      have t3 : decide (0 ≤ y) = true := decide_eq_true hy
      by_cases hy2 : y ≤ 4000000000000000000
      case neg =>
        have t4 : decide (y ≤ 4000000000000000000) = false := decide_eq_false hy2
        have HO := Lib.hid (show one ⟨(s1, s2), hh, y⟩ e = false from decide_eq_false (fun h => hy2 h.2.2.2.2))
        clear hqs hq2 hy hy2
        go_wp2_with (go_at_call 22; refine (CN _).out.mono ?_; rintro e w' ⟨rfl, rfl⟩)
        refine (CE _).out.mono ?_
        rintro e' w' ⟨rfl, rfl⟩
        go_wp2
        exact ⟨rfl, .inr ⟨one_false HR2.out HO.out, rfl, HL2.out.b⟩⟩
      have t4 : decide (y ≤ 4000000000000000000) = true := decide_eq_true hy2
      have HR3 := Lib.hid (show rr 1 (rs.map Rw.v) = rr s2 ((rs.drop (k + 1)).map Rw.v) by
        rw [HR2.out, rr_cons, show one ⟨(s1, s2), hh, y⟩ e = true from decide_eq_true ⟨hq2, hqs.2.1, hqs.2.2, hy, hy2⟩, Bool.true_and])
      have HQ := Lib.hid (show e ≤ s1 ∧ s1 < s2 ∧ s2 ≤ 292195 ∧ 0 ≤ y ∧ y ≤ 4000000000000000000 from ⟨hq2, hqs.2.1, hqs.2.2, hy, hy2⟩)
      clear hqs hq2 hy hy2 HR HR2
      go_upto_region 9 with (go_at_call 22; refine (CN _).out.mono ?_; rintro e w' ⟨rfl, rfl⟩)
      clear x0 x1 x8
      have HS1 := Lib.hid (show w.heap.size + 1 < W1.heap.size by have := HL.out.size; omega)
      have HM1 := Lib.hid (show m ≤ 2 * k + 1 by have := HM.out; omega)
      by_cases hg : e < s1
      · have t5 : decide (e < s1) = true := decide_eq_true hg
        have HG := Lib.hid hg
        clear hg
        have x0 := HX.out.c 0
        have x8 := HX.out.c 8
        simp at x0 x8
        have CT := Lib.hid (Stp.turn_ w2 (w.heap.size + 2) _ _ _ _ _ _ e 0 HL2.out.own HL2.out.size (by have := HM.out; have := HN.out; omega))
        have f0 := HL2.out.f.c0
        have f1 := HL2.out.f.c1
        go_wp2_with fail
        refine CT.out.mono ?_
        rintro e' w5 ⟨A5, c5, V5, d5, rfl, hO, hb, hk⟩
        have HL5 := Lib.hid (HL2.out.turn hO hb)
        have hs5 : w.heap.size + 1 < W1.heap.size := HS1.out
        have HX5 := Lib.hid (((show Bx w5 W1.heap.size 49 #[.int .i64 s1, .int .i64 s2, .bool hh.on, .int .i64 hh.r.k, .int .i64 hh.r.v, .int .i64 hh.r.a, .int .i64 hh.r.z, .slice rA rn rc, .int .i64 y] from hk _ _ _ (by decide) HX.out).far (a := ⟨w.heap.size + 1, 0, none⟩) (by simp; omega) (.slice A5 (trn ps e 0).length c5)).far (a := ⟨w.heap.size + 1, 1, none⟩) (by simp; omega) (.slice V5 (trn ps e 0).length d5))
        have g0 := (Stp.Bx.below HL2.out.f hb (by omega)).c0
        have g1 := (Stp.Bx.below HL2.out.f hb (by omega)).c1
        have g2 := (Stp.Bx.below HL2.out.f hb (by omega)).f 0
        have g3 := (Stp.Bx.below HL2.out.f hb (by omega)).f 1
        have HM5 := Lib.hid (show (trn ps e 0).length ≤ 2 * k + 1 by
          have := trn_len ps e 0
          have := HL2.out.len
          have := HM.out
          omega)
        clear hO hb hk CT f0 f1
        go_upto_region 11 with fail
        clear g0 g1 g2 g3 hs5
        obtain ⟨m5, hm5⟩ : ∃ m, (trn ps e 0).length = m := ⟨_, rfl⟩
        rw [hm5] at HL5 HX5 HM5 ⊢
        obtain ⟨W5, hW5⟩ : ∃ W, (w5.setCell ⟨w.heap.size + 1, 0, none⟩ (.slice A5 m5 c5)).setCell ⟨w.heap.size + 1, 1, none⟩ (.slice V5 m5 d5) = W := ⟨_, rfl⟩
        rw [hW5] at HL5 HX5 ⊢
        clear hW5 hm5
        have HP5 := Lib.hid (HP.out.gap HG.out (by have := HQ.out; omega))
        clear x0 x8 t5
        have x0 := HX5.out.c 0
        have x8 := HX5.out.c 8
        simp at x0 x8
        have CT := Lib.hid (Stp.turn_ W5 (w.heap.size + 2) _ _ _ _ _ _ s1 y HL5.out.own HL5.out.size (by have := HM5.out; have := HN.out; omega))
        have f0 := HL5.out.f.c0
        have f1 := HL5.out.f.c1
        go_wp2_with fail
        refine CT.out.mono ?_
        rintro e' w9 ⟨A9, c9, V9, d9, rfl, hO, hb, hk⟩
        have HL9 := Lib.hid (HL5.out.turn hO hb)
        have hs9 : w.heap.size + 1 < W1.heap.size := HS1.out
        have HX9 := Lib.hid (((show Bx w9 W1.heap.size 49 #[.int .i64 s1, .int .i64 s2, .bool hh.on, .int .i64 hh.r.k, .int .i64 hh.r.v, .int .i64 hh.r.a, .int .i64 hh.r.z, .slice rA rn rc, .int .i64 y] from hk _ _ _ (by decide) HX5.out).far (a := ⟨w.heap.size + 1, 0, none⟩) (by simp; omega) (.slice A9 (trn (trn ps e 0) s1 y).length c9)).far (a := ⟨w.heap.size + 1, 1, none⟩) (by simp; omega) (.slice V9 (trn (trn ps e 0) s1 y).length d9))
        have g0 := (Stp.Bx.below HL5.out.f hb (by omega)).c0
        have g1 := (Stp.Bx.below HL5.out.f hb (by omega)).c1
        have g2 := (Stp.Bx.below HL5.out.f hb (by omega)).f 0
        have g3 := (Stp.Bx.below HL5.out.f hb (by omega)).f 1
        have HM9 := Lib.hid (show (trn (trn ps e 0) s1 y).length ≤ 2 * k + 2 by
          have := trn_len (trn ps e 0) s1 y
          have := HL5.out.len
          have := HM5.out
          omega)
        clear hO hb hk CT f0 f1
        go_upto_region 12 with fail
        clear g0 g1 g2 g3 hs9
        obtain ⟨m9, hm9⟩ : ∃ m, (trn (trn ps e 0) s1 y).length = m := ⟨_, rfl⟩
        rw [hm9] at HL9 HX9 HM9 ⊢
        obtain ⟨W9, hW9⟩ : ∃ W, (w9.setCell ⟨w.heap.size + 1, 0, none⟩ (.slice A9 m9 c9)).setCell ⟨w.heap.size + 1, 1, none⟩ (.slice V9 m9 d9) = W := ⟨_, rfl⟩
        rw [hW9] at HL9 HX9 ⊢
        clear hW9 hm9
        clear x0 x8
        have x1 := HX9.out.c 1
        simp at x1
        have q3 : s2 ≤ 292195 := HQ.out.2.2.1
        have q2 : s1 < s2 := HQ.out.2.1
        have q1 : e ≤ s1 := HQ.out.1
        have HP9 := Lib.hid (show Pre ((rs.take (k + 1)).map Rw.v) (trn (trn ps e 0) s1 y) s2 by
          rw [HT.out]
          exact Pre.slice (x := ⟨(s1, s2), hh, y⟩) HP5.out HQ.out.2.1 HQ.out.2.2.1 HQ.out.2.2.2)
        have hkw : (k : Int) < 1100 := by have := HN.out; omega
        go_wp2
        go_roundw
        case rel => exact ⟨k + 1, s2, _, _, _, _, _, _, _, by omega, rfl, by go_num, by omega, q3, rfl, HL9, HP9, HR3, HM9⟩
        case measure => simp [intOf]; omega
      · have t5 : decide (e < s1) = false := decide_eq_false hg
        obtain rfl : e = s1 := by have := HQ.out.1; omega
        clear hg
        have x0 := HX.out.c 0
        have x8 := HX.out.c 8
        simp at x0 x8
        have CT := Lib.hid (Stp.turn_ w2 (w.heap.size + 2) _ _ _ _ _ _ e y HL2.out.own HL2.out.size (by have := HM1.out; have := HN.out; omega))
        have f0 := HL2.out.f.c0
        have f1 := HL2.out.f.c1
        go_wp2_with fail
        refine CT.out.mono ?_
        rintro e' w9 ⟨A9, c9, V9, d9, rfl, hO, hb, hk⟩
        have HL9 := Lib.hid (HL2.out.turn hO hb)
        have hs9 : w.heap.size + 1 < W1.heap.size := HS1.out
        have HX9 := Lib.hid (((show Bx w9 W1.heap.size 49 #[.int .i64 e, .int .i64 s2, .bool hh.on, .int .i64 hh.r.k, .int .i64 hh.r.v, .int .i64 hh.r.a, .int .i64 hh.r.z, .slice rA rn rc, .int .i64 y] from hk _ _ _ (by decide) HX.out).far (a := ⟨w.heap.size + 1, 0, none⟩) (by simp; omega) (.slice A9 (trn ps e y).length c9)).far (a := ⟨w.heap.size + 1, 1, none⟩) (by simp; omega) (.slice V9 (trn ps e y).length d9))
        have g0 := (Stp.Bx.below HL2.out.f hb (by omega)).c0
        have g1 := (Stp.Bx.below HL2.out.f hb (by omega)).c1
        have g2 := (Stp.Bx.below HL2.out.f hb (by omega)).f 0
        have g3 := (Stp.Bx.below HL2.out.f hb (by omega)).f 1
        have HM9 := Lib.hid (show (trn ps e y).length ≤ 2 * k + 2 by
          have := trn_len ps e y
          have := HL2.out.len
          have := HM1.out
          omega)
        clear hO hb hk CT f0 f1
        go_upto_region 12 with fail
        clear g0 g1 g2 g3 hs9
        obtain ⟨m9, hm9⟩ : ∃ m, (trn ps e y).length = m := ⟨_, rfl⟩
        rw [hm9] at HL9 HX9 HM9 ⊢
        obtain ⟨W9, hW9⟩ : ∃ W, (w9.setCell ⟨w.heap.size + 1, 0, none⟩ (.slice A9 m9 c9)).setCell ⟨w.heap.size + 1, 1, none⟩ (.slice V9 m9 d9) = W := ⟨_, rfl⟩
        rw [hW9] at HL9 HX9 ⊢
        clear hW9 hm9
        clear x0 x8
        have x1 := HX9.out.c 1
        simp at x1
        have q3 : s2 ≤ 292195 := HQ.out.2.2.1
        have q2 : e < s2 := HQ.out.2.1
        have q1 : e ≤ e := HQ.out.1
        have HP9 := Lib.hid (show Pre ((rs.take (k + 1)).map Rw.v) (trn ps e y) s2 by
          rw [HT.out]
          exact Pre.slice (x := ⟨(e, s2), hh, y⟩) HP.out HQ.out.2.1 HQ.out.2.2.1 HQ.out.2.2.2)
        have hkw : (k : Int) < 1100 := by have := HN.out; omega
        go_wp2
        go_roundw
        case rel => exact ⟨k + 1, s2, _, _, _, _, _, _, _, by omega, rfl, by go_num, by omega, q3, rfl, HL9, HP9, HR3, HM9⟩
        case measure => simp [intOf]; omega
    · have hkn : k = n := by omega
      have HRn := Lib.hid (show may (rs.map Rw.v) = true by
        have h := HR.out
        rw [hkn, List.drop_of_length_le (by have := HLe.out; omega)] at h
        exact may_iff.2 ⟨by have h1 := HLe.out; have h2 := HN.out; simp; omega, rr_iff.1 h⟩)
      have HC := Lib.hid (show Crv (rs.map Rw.v) (trn ps e 0) by
        have h := HP.out.fin
        rwa [List.take_of_length_le (by have := HLe.out; omega)] at h)
      have CT := Lib.hid (Stp.turn_ W1 (w.heap.size + 2) _ _ _ _ _ _ e 0 HL.out.own HL.out.size (by have := HM.out; have := HN.out; omega))
      have f0 := HL.out.f.c0
      have f1 := HL.out.f.c1
      have hlt2 : ¬ ((k : Int) < (n : Int)) := by omega
      go_wp2_with fail
      refine CT.out.mono ?_
      rintro e' w5 ⟨A5, c5, V5, d5, rfl, hO, hb, hk⟩
      have hR := Stp.Bx.below HL.out.r hb (by omega)
      have g0 := hR.c0
      have g1 := hR.c1
      have g2 := hR.f 0
      have g3 := hR.f 1
      have Z := (hR.set0 (.slice A5 (trn ps e 0).length c5)).set1 (.slice V5 (trn ps e 0).length d5)
      have HD := Lib.hid (HL.out.done hO hb HC.out (by have := trn_len ps e 0; have := HL.out.len; have := HM.out; have := HN.out; omega) (.slice A5 (trn ps e 0).length c5) (.slice V5 (trn ps e 0).length d5))
      clear hO hb hk CT f0 f1 hR
      go_wp2
      exact bodyPost_ret (v := Stp.sg A5 (trn ps e 0).length c5 V5 (trn ps e 0).length d5) (by simp [results, Try.results20, go_sem, Z.c0, Z.c1]) rfl (.inl ⟨HRn.out, HD.out⟩)

end Acr
end Go.Proofs.Ytjmbccdcnmmhgaa
