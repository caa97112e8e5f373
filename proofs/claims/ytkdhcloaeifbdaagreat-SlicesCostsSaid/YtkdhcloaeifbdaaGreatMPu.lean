/-
  Put of package tariff. Conditions: those of each theorem.
-/
import Derived.Test.YtkdhcloaeifbdaaGreatKTOne
import Derived.Test.YtkdhcloaeifbdaaGreatKTAt
import Derived.Lib.AppendZeros
import Derived.Deep.SlicePairs
namespace Go.Proofs.YtkdhcloaeifbdaaGreat
open Go.RowKit Ba Tf
namespace Trf
set_option linter.unusedVariables false

theorem base_ins (w : World) (r : Rw) (W : World) (h : Bx W w.heap.size 58 (vc r)) : Ins W (fun _ => True) (some ⟨w.heap.size, 1, none⟩) 4 [r.v.b0, r.v.b1, r.v.b2, r.v.b3] := by
  refine ⟨rfl, fun _ => ⟨_, rfl, trivial, fun j x hx => ?_⟩⟩
  rw [Addr.add_lit, h.c]
  match j, hx with
  | 0, hx => injection hx with hx; subst hx; rfl
  | 1, hx => injection hx with hx; subst hx; rfl
  | 2, hx => injection hx with hx; subst hx; rfl
  | 3, hx => injection hx with hx; subst hx; rfl

set_option maxRecDepth 100000 in
set_option maxHeartbeats 4000000 in
theorem version_ (r : Rw) (w : World) (M : Mean w (· < w.heap.size) r) (S : Sm r) :
    Calls Tryz.prog 44 #[vg r] w (Yes w (ver r.v)) := by
  have hz1 := M.z.1
  have hp1 := M.p.1
  have sa := S.a
  have sz := S.z
  have sp := S.p
  have HBx := Lib.hid (Bx.new w 58 (vc r))
  have CW := fun n lo hi w => Lib.hid (twithin n lo hi w)
  have CB := Lib.hid (factors (some ⟨w.heap.size, 1, none⟩) 4 4 [r.v.b0, r.v.b1, r.v.b2, r.v.b3] (w.alloc (.cells (vc r) 58)) _ (base_ins w r _ HBx.out) (by unfold maxLen; omega))
  have CZ := Lib.hid (factors r.Z r.lz r.cz r.v.zn (w.alloc (.cells (vc r) 58)) _ (M.z.below (alloc_ _ _)) (by unfold maxLen; omega))
  have CP := Lib.hid (factors r.P r.lp r.cp r.v.pe (w.alloc (.cells (vc r) 58)) _ (M.p.below (alloc_ _ _)) (by unfold maxLen; omega))
  have CA := Lib.hid (bands_ r.A r.la r.ca r.v.ag (w.alloc (.cells (vc r) 58)) (M.a.below (alloc_ _ _)) (by unfold maxLen; omega))
  have HV := Lib.hid (show ver r.v = (wi r.v.fr 1 292194 && (wi r.v.mn 0 1000000000000000 && (wi (r.lz : Int) 1 100 && (decide (r.lp = 8) && (fac [r.v.b0, r.v.b1, r.v.b2, r.v.b3] && (fac r.v.zn && (fac r.v.pe && bds r.v.ag))))))) by unfold ver; rw [hz1, hp1])
  have HA := Lib.hid (alloc_ w (.cells (vc r) 58))
  generalize fac [r.v.b0, r.v.b1, r.v.b2, r.v.b3] = fb at CB HV
  generalize fac r.v.zn = fz at CZ HV
  generalize fac r.v.pe = fp at CP HV
  generalize bds r.v.ag = fa at CA HV
  clear hz1 hp1 M S
  cases t0 : wi r.v.fr 1 292194
  · skip
    rw [show ver r.v = false by rw [HV.out, t0]; rfl]
    go_enter Tryz.func44, Tryz.ntmps44
    go_wp2_with (first
          | (go_at_call 76; refine (CW _ _ _ _).out.mono ?_; rintro e w' ⟨rfl, rfl⟩)
          | (go_at_call 77; (with_reducible refine CB.out.mono ?_); rintro e w' ⟨rfl, rfl⟩)
          | (go_at_call 77; (with_reducible refine CZ.out.mono ?_); rintro e w' ⟨rfl, rfl⟩)
          | (go_at_call 77; (with_reducible refine CP.out.mono ?_); rintro e w' ⟨rfl, rfl⟩)
          | (go_at_call 78; (with_reducible refine CA.out.mono ?_); rintro e w' ⟨rfl, hb1⟩; have HB1 := Lib.hid hb1; clear hb1)
          | fail)
    go_ret
    exact ⟨rfl, HA.out⟩
  · skip
    cases t1 : wi r.v.mn 0 1000000000000000
    · skip
      rw [show ver r.v = false by rw [HV.out, t0, t1]; rfl]
      go_enter Tryz.func44, Tryz.ntmps44
      go_wp2_with (first
            | (go_at_call 76; refine (CW _ _ _ _).out.mono ?_; rintro e w' ⟨rfl, rfl⟩)
            | (go_at_call 77; (with_reducible refine CB.out.mono ?_); rintro e w' ⟨rfl, rfl⟩)
            | (go_at_call 77; (with_reducible refine CZ.out.mono ?_); rintro e w' ⟨rfl, rfl⟩)
            | (go_at_call 77; (with_reducible refine CP.out.mono ?_); rintro e w' ⟨rfl, rfl⟩)
            | (go_at_call 78; (with_reducible refine CA.out.mono ?_); rintro e w' ⟨rfl, hb1⟩; have HB1 := Lib.hid hb1; clear hb1)
            | fail)
      go_ret
      exact ⟨rfl, HA.out⟩
    · skip
      cases t2 : wi (r.lz : Int) 1 100
      · skip
        rw [show ver r.v = false by rw [HV.out, t0, t1, t2]; rfl]
        go_enter Tryz.func44, Tryz.ntmps44
        go_wp2_with (first
              | (go_at_call 76; refine (CW _ _ _ _).out.mono ?_; rintro e w' ⟨rfl, rfl⟩)
              | (go_at_call 77; (with_reducible refine CB.out.mono ?_); rintro e w' ⟨rfl, rfl⟩)
              | (go_at_call 77; (with_reducible refine CZ.out.mono ?_); rintro e w' ⟨rfl, rfl⟩)
              | (go_at_call 77; (with_reducible refine CP.out.mono ?_); rintro e w' ⟨rfl, rfl⟩)
              | (go_at_call 78; (with_reducible refine CA.out.mono ?_); rintro e w' ⟨rfl, hb1⟩; have HB1 := Lib.hid hb1; clear hb1)
              | fail)
        go_ret
        exact ⟨rfl, HA.out⟩
      · skip
        by_cases h3 : r.lp = 8
        · have t3 : decide (r.lp = 8) = true := decide_eq_true h3
          have t3' : ((r.lp : Int) == 8) = true := by simpa using (show (r.lp : Int) = 8 by omega)
          have t3'' : decide ((r.lp : Int) = 8) = true := decide_eq_true (by omega)
          have t3z : (r.lp : Int) = 8 := by omega
          clear h3
          cases fb
          · skip
            rw [show ver r.v = false by rw [HV.out, t0, t1, t2, t3]; rfl]
            go_enter Tryz.func44, Tryz.ntmps44
            go_wp2_with (first
                  | (go_at_call 76; refine (CW _ _ _ _).out.mono ?_; rintro e w' ⟨rfl, rfl⟩)
                  | (go_at_call 77; (with_reducible refine CB.out.mono ?_); rintro e w' ⟨rfl, rfl⟩)
                  | (go_at_call 77; (with_reducible refine CZ.out.mono ?_); rintro e w' ⟨rfl, rfl⟩)
                  | (go_at_call 77; (with_reducible refine CP.out.mono ?_); rintro e w' ⟨rfl, rfl⟩)
                  | (go_at_call 78; (with_reducible refine CA.out.mono ?_); rintro e w' ⟨rfl, hb1⟩; have HB1 := Lib.hid hb1; clear hb1)
                  | fail)
            go_ret
            exact ⟨rfl, HA.out⟩
          · skip
            cases fz
            · skip
              rw [show ver r.v = false by rw [HV.out, t0, t1, t2, t3]; rfl]
              go_enter Tryz.func44, Tryz.ntmps44
              go_wp2_with (first
                    | (go_at_call 76; refine (CW _ _ _ _).out.mono ?_; rintro e w' ⟨rfl, rfl⟩)
                    | (go_at_call 77; (with_reducible refine CB.out.mono ?_); rintro e w' ⟨rfl, rfl⟩)
                    | (go_at_call 77; (with_reducible refine CZ.out.mono ?_); rintro e w' ⟨rfl, rfl⟩)
                    | (go_at_call 77; (with_reducible refine CP.out.mono ?_); rintro e w' ⟨rfl, rfl⟩)
                    | (go_at_call 78; (with_reducible refine CA.out.mono ?_); rintro e w' ⟨rfl, hb1⟩; have HB1 := Lib.hid hb1; clear hb1)
                    | fail)
              go_ret
              exact ⟨rfl, HA.out⟩
            · skip
              cases fp
              · skip
                rw [show ver r.v = false by rw [HV.out, t0, t1, t2, t3]; rfl]
                go_enter Tryz.func44, Tryz.ntmps44
                go_wp2_with (first
                      | (go_at_call 76; refine (CW _ _ _ _).out.mono ?_; rintro e w' ⟨rfl, rfl⟩)
                      | (go_at_call 77; (with_reducible refine CB.out.mono ?_); rintro e w' ⟨rfl, rfl⟩)
                      | (go_at_call 77; (with_reducible refine CZ.out.mono ?_); rintro e w' ⟨rfl, rfl⟩)
                      | (go_at_call 77; (with_reducible refine CP.out.mono ?_); rintro e w' ⟨rfl, rfl⟩)
                      | (go_at_call 78; (with_reducible refine CA.out.mono ?_); rintro e w' ⟨rfl, hb1⟩; have HB1 := Lib.hid hb1; clear hb1)
                      | fail)
                go_ret
                exact ⟨rfl, HA.out⟩
              · skip
                cases fa
                · skip
                  rw [show ver r.v = false by rw [HV.out, t0, t1, t2, t3]; rfl]
                  go_enter Tryz.func44, Tryz.ntmps44
                  go_wp2_with (first
                        | (go_at_call 76; refine (CW _ _ _ _).out.mono ?_; rintro e w' ⟨rfl, rfl⟩)
                        | (go_at_call 77; (with_reducible refine CB.out.mono ?_); rintro e w' ⟨rfl, rfl⟩)
                        | (go_at_call 77; (with_reducible refine CZ.out.mono ?_); rintro e w' ⟨rfl, rfl⟩)
                        | (go_at_call 77; (with_reducible refine CP.out.mono ?_); rintro e w' ⟨rfl, rfl⟩)
                        | (go_at_call 78; (with_reducible refine CA.out.mono ?_); rintro e w' ⟨rfl, hb1⟩; have HB1 := Lib.hid hb1; clear hb1)
                        | fail)
                  go_ret
                  exact ⟨rfl, HA.out.trans (HB1.out.mono HA.out.size)⟩
                · skip
                  rw [show ver r.v = true by rw [HV.out, t0, t1, t2, t3]; rfl]
                  go_enter Tryz.func44, Tryz.ntmps44
                  go_wp2_with (first
                        | (go_at_call 76; refine (CW _ _ _ _).out.mono ?_; rintro e w' ⟨rfl, rfl⟩)
                        | (go_at_call 77; (with_reducible refine CB.out.mono ?_); rintro e w' ⟨rfl, rfl⟩)
                        | (go_at_call 77; (with_reducible refine CZ.out.mono ?_); rintro e w' ⟨rfl, rfl⟩)
                        | (go_at_call 77; (with_reducible refine CP.out.mono ?_); rintro e w' ⟨rfl, rfl⟩)
                        | (go_at_call 78; (with_reducible refine CA.out.mono ?_); rintro e w' ⟨rfl, hb1⟩; have HB1 := Lib.hid hb1; clear hb1)
                        | fail)
                  go_ret
                  exact ⟨rfl, HA.out.trans (HB1.out.mono HA.out.size)⟩
        · have t3 : decide (r.lp = 8) = false := decide_eq_false h3
          have t3' : ((r.lp : Int) == 8) = false := by simpa using (show ¬ (r.lp : Int) = 8 by omega)
          have t3'' : decide ((r.lp : Int) = 8) = false := decide_eq_false (by omega)
          clear h3
          rw [show ver r.v = false by rw [HV.out, t0, t1, t2, t3]; rfl]
          go_enter Tryz.func44, Tryz.ntmps44
          go_wp2_with (first
                | (go_at_call 76; refine (CW _ _ _ _).out.mono ?_; rintro e w' ⟨rfl, rfl⟩)
                | (go_at_call 77; (with_reducible refine CB.out.mono ?_); rintro e w' ⟨rfl, rfl⟩)
                | (go_at_call 77; (with_reducible refine CZ.out.mono ?_); rintro e w' ⟨rfl, rfl⟩)
                | (go_at_call 77; (with_reducible refine CP.out.mono ?_); rintro e w' ⟨rfl, rfl⟩)
                | (go_at_call 78; (with_reducible refine CA.out.mono ?_); rintro e w' ⟨rfl, hb1⟩; have HB1 := Lib.hid hb1; clear hb1)
                | fail)
          go_ret
          exact ⟨rfl, HA.out⟩

end Trf
end Go.Proofs.YtkdhcloaeifbdaaGreat

namespace Go.Proofs.YtkdhcloaeifbdaaGreat
open Go.RowKit Ba Tf
namespace Trf
set_option linter.unusedVariables false

set_option maxRecDepth 100000 in
set_option maxHeartbeats 4000000 in
theorem right_ (A : Option Addr) (n c : Nat) (rs : List Rw) (w : World) (hS : Vers w A n rs) (hn : n ≤ 1000) :
    Calls Tryz.prog 43 #[tg A n c] w (Yes w (rgt (rs.map Rw.v))) := by
  have hl := hS.len
  by_cases hf : 100 < n
  · rw [rgt_far (by omega)]
    have t1 : decide (100 < (n : Int)) = true := decide_eq_true (by omega)
    have t1' : decide (100 < n) = true := decide_eq_true hf
    clear hS hl hf
    go_enter Tryz.func43, Tryz.ntmps43
    go_wp2
    go_ret
    exact ⟨rfl, alloc_ _ _⟩
  rw [rgt_near (by omega)]
  have t1 : decide (100 < (n : Int)) = false := decide_eq_false (by omega)
  have t1' : decide (100 < n) = false := decide_eq_false hf
  have HS := Lib.hid hS
  have HL := Lib.hid hl
  obtain ⟨R, hR⟩ : ∃ R, rise 0 (rs.map Rw.v) = R := ⟨_, rfl⟩
  rw [hR]
  have HR := Lib.hid hR
  have HA := Lib.hid (alloc_ w (.cells #[.slice A n c] 34))
  clear hS hl hR hf
  go_enter Tryz.func43, Tryz.ntmps43
  go_wp2
  go_loopw [3, 5, 13] (fun sl s5 i w' => ∃ (k : Nat) (last : Int) (w1 : World), k ≤ n ∧ i = .int .i64 (k : Int) ∧ sl = .int .i64 last ∧ w1 = w' ∧ Hid (rise last ((rs.map Rw.v).drop k) = R) ∧ Hid (Below w.heap.size w w1)) (fun _ _ i _ => n - (intOf i).toNat)
  case atStart => exact ⟨0, 0, _, Nat.zero_le _, rfl, rfl, rfl, HR, HA⟩
  case round =>
    obtain ⟨k, last, w1, hk, rfl, rfl, rfl, HB, HW⟩ := hrel
    by_cases hlt : k < n
    · obtain ⟨ad, r, rfl, hb, hx, hN, hM, hSm⟩ := (HS.out.below HW.out).get hlt
      have HD := Lib.hid (drop_get (map_get hx))
      have hlt2 : (k : Int) < (n : Int) := by omega
      obtain ⟨c0, c1, c2, c3, c4, c5, c6, c7, c8⟩ := hN
      have HW2 := Lib.hid (HW.out.alloc HW.out.size (.cells (vc r) 58))
      by_cases h1 : r.v.fr ≤ last
      · have q1 : decide (r.v.fr ≤ last) = true := decide_eq_true h1
        have HF := Lib.hid (show R = false by rw [← HB.out, HD.out]; exact rise_no1 h1)
        clear h1 hx hM hSm
        go_wp2
        go_ret
        exact ⟨by rw [HF.out]; rfl, HW2.out⟩
      · have q1 : decide (r.v.fr ≤ last) = false := decide_eq_false h1
        have C := Lib.hid (version_ r (w1.alloc (.cells (vc r) 58)) (hM.below (alloc_ _ _)) hSm)
        have HX := Lib.hid (Bx.new w1 58 (vc r))
        cases t2 : ver r.v
        · have HF := Lib.hid (show R = false by rw [← HB.out, HD.out]; exact rise_no2 t2)
          rw [t2] at C
          clear h1 hx hM hSm t2
          go_wp2_with (go_at_call 44; (with_reducible refine C.out.mono ?_); rintro e w2 ⟨rfl, hb2⟩; have HW3 := Lib.hid (HW2.out.trans (hb2.mono HW2.out.size)); clear hb2)
          go_ret
          exact ⟨by rw [HF.out]; rfl, HW3.out⟩
        · have HN := Lib.hid (show rise r.v.fr ((rs.map Rw.v).drop (k + 1)) = R by rw [← HB.out, HD.out]; exact (rise_yes h1 t2).symm)
          rw [t2] at C
          clear h1 hx hM hSm t2
          go_wp2_with (go_at_call 44; (with_reducible refine C.out.mono ?_); rintro e w2 ⟨rfl, hb2⟩; have HW3 := Lib.hid (HW2.out.trans (hb2.mono HW2.out.size)); have y0 := (HX.out.keep hb2).c 0; simp at y0; clear hb2)
          go_roundw
          case rel => exact ⟨k + 1, r.v.fr, _, by omega, by go_num, rfl, rfl, HN, HW3⟩
          case measure => simp [intOf]; omega
    · have HF := Lib.hid (show R = true by rw [← HB.out, List.drop_of_length_le (by rw [HL.out]; omega)]; rfl)
      go_wp2
      go_ret
      exact ⟨by rw [HF.out]; rfl, HW.out⟩

end Trf
end Go.Proofs.YtkdhcloaeifbdaaGreat

namespace Go.Proofs.YtkdhcloaeifbdaaGreat
open Go.RowKit Ba Tf
namespace Trf
set_option linter.unusedVariables false

set_option maxRecDepth 100000 in
set_option maxHeartbeats 2000000 in
theorem reached (b2 b3 : Nat) (ad : Addr) (n c k : Nat) (r : Rw) (f : Int) (W : World) (h2 : W.cell? ⟨b2, 0, none⟩ = some (.slice (some ad) n c)) (h3 : W.cell? ⟨b3, 0, none⟩ = some (.int .i64 f)) (hN : Nin W (ad.add (k * 9)) r) (hk : k < n) (hn : n ≤ 1000) :
    Calls Tryz.prog 46 #[.int .i64 (k : Int), .pointer (some ⟨b2, 0, none⟩), .pointer (some ⟨b3, 0, none⟩)] W (Yes W (decide (f ≤ r.v.fr))) := by
  have c0 := hN.c0
  have hk2 : (k : Int) < (n : Int) := by omega
  obtain ⟨q, hq⟩ : ∃ q, decide (f ≤ r.v.fr) = q := ⟨_, rfl⟩
  rw [hq]
  clear hN
  go_enter Tryz.func46, Tryz.ntmps46
  go_wp2
  go_quiet (fail)
  go_wp2
  go_ret
  exact ⟨rfl, below_drewN (Below.refl _ _) _⟩

/-- The place that Search finds. -/
structure Place (rs : List Rw) (f : Int) (n p : Nat) : Prop where
  le : p ≤ n
  lo : ∀ (i : Nat) (x : Rw), i < p → rs[i]? = some x → x.v.fr < f
  hi : ∀ (i : Nat) (x : Rw), p ≤ i → rs[i]? = some x → f ≤ x.v.fr

set_option maxRecDepth 100000 in
set_option maxHeartbeats 4000000 in
theorem search (b2 b3 n : Nat) (rs : List Rw) (f : Int) (w : World) (hl : rs.length = n) (hn : n ≤ 1000) (hmono : ∀ (i j : Nat) (x y : Rw), i < j → rs[i]? = some x → rs[j]? = some y → x.v.fr < y.v.fr)
    (hcl : ∀ w', Below w.heap.size w w' → ∀ (k : Nat) (r : Rw), rs[k]? = some r → Calls Tryz.prog 46 #[.int .i64 (k : Int), .pointer (some ⟨b2, 0, none⟩), .pointer (some ⟨b3, 0, none⟩)] w' (Yes w' (decide (f ≤ r.v.fr)))) :
    Calls Tryz.prog 45 #[.int .i64 (n : Int), .func (.func 46) #[] #[.pointer (some ⟨b2, 0, none⟩), .pointer (some ⟨b3, 0, none⟩)]] w fun e w' => ∃ p : Nat, e = .returned (.int .i64 (p : Int)) ∧ Place rs f n p ∧ Below w.heap.size w w' := by
  have HM := Lib.hid hmono
  have HC := Lib.hid hcl
  have HL := Lib.hid hl
  clear hmono hcl hl
  go_enter Tryz.func45, Tryz.ntmps45
  go_wp2
  go_loopw [5, 6, 7] (fun s5 s6 s7 w' => ∃ (lo hi : Nat) (w1 : World), s5 = .int .i64 (lo : Int) ∧ s6 = .int .i64 (hi : Int) ∧ lo ≤ hi ∧ hi ≤ n ∧ w1 = w' ∧ Hid (Below w.heap.size w w1) ∧ Hid ((∀ (i : Nat) (x : Rw), i < lo → rs[i]? = some x → x.v.fr < f) ∧ (∀ (i : Nat) (x : Rw), hi ≤ i → rs[i]? = some x → f ≤ x.v.fr))) (fun s5 s6 _ _ => (intOf s6 - intOf s5).toNat)
  case atStart => exact ⟨0, n, _, rfl, rfl, Nat.zero_le _, Nat.le_refl _, rfl, Lib.hid (Below.refl _ _), Lib.hid ⟨fun i x h => absurd h (Nat.not_lt_zero _), fun i x h hx => by have := (List.getElem?_eq_some_iff.1 hx).1; have := HL.out; omega⟩⟩
  case round =>
    obtain ⟨lo, hi, w1, rfl, rfl, hlh, hin, rfl, HB, HI⟩ := hrel
    by_cases hlt : lo < hi
    · have hlt2 : (lo : Int) < (hi : Int) := by omega
      obtain ⟨m, hm⟩ : ∃ m, (lo + hi) / 2 = m := ⟨_, rfl⟩
      have hm1 : lo ≤ m := by omega
      have hm2 : m < hi := by omega
      have hmr : m < rs.length := by have := HL.out; omega
      have hx : rs[m]? = some rs[m] := List.getElem?_eq_getElem hmr
      have C := Lib.hid (HC.out w1 HB.out m rs[m] hx)
      have em : ((lo : Int) + (hi : Int)) / 2 = (m : Int) := by omega
      by_cases h1 : f ≤ rs[m].v.fr
      · have HN := Lib.hid (show (∀ (i : Nat) (x : Rw), i < lo → rs[i]? = some x → x.v.fr < f) ∧ (∀ (i : Nat) (x : Rw), m ≤ i → rs[i]? = some x → f ≤ x.v.fr) from ⟨HI.out.1, fun i x hi2 hx2 => by
          rcases Nat.eq_or_lt_of_le hi2 with e | e
          · subst e; rw [hx] at hx2; injection hx2 with hx2; subst hx2; exact h1
          · have := HM.out m i _ _ e hx hx2; omega⟩)
        rw [decide_eq_true h1] at C
        clear h1 hx hmr hm
        go_wp2_with fail
        try rw [em]
        refine C.out.mono ?_
        rintro e w2 ⟨rfl, hb2⟩
        have HB2 := Lib.hid (HB.out.trans (hb2.mono HB.out.size))
        clear hb2 C
        go_wp2
        go_roundw
        case rel => exact ⟨lo, m, _, rfl, rfl, by omega, by omega, rfl, HB2, HN⟩
        case measure => simp [intOf]; omega
      · have HN := Lib.hid (show (∀ (i : Nat) (x : Rw), i < m + 1 → rs[i]? = some x → x.v.fr < f) ∧ (∀ (i : Nat) (x : Rw), hi ≤ i → rs[i]? = some x → f ≤ x.v.fr) from ⟨fun i x hi2 hx2 => by
          rcases Nat.eq_or_lt_of_le (Nat.le_of_lt_succ hi2) with e | e
          · subst e; rw [hx] at hx2; injection hx2 with hx2; subst hx2; omega
          · have := HM.out i m _ _ e hx2 hx; omega, HI.out.2⟩)
        rw [decide_eq_false h1] at C
        clear h1 hx hmr hm
        go_wp2_with fail
        try rw [em]
        refine C.out.mono ?_
        rintro e w2 ⟨rfl, hb2⟩
        have HB2 := Lib.hid (HB.out.trans (hb2.mono HB.out.size))
        clear hb2 C
        go_wp2
        go_roundw
        case rel => exact ⟨m + 1, hi, _, by go_num, rfl, by omega, by omega, rfl, HB2, HN⟩
        case measure => simp [intOf]; omega
    · obtain rfl : lo = hi := by omega
      go_wp2
      go_ret
      exact ⟨lo, rfl, ⟨hin, HI.out.1, HI.out.2⟩, HB.out⟩

end Trf
end Go.Proofs.YtkdhcloaeifbdaaGreat

namespace Go.Proofs.YtkdhcloaeifbdaaGreat
open Go.RowKit Ba Tf
namespace Trf
set_option linter.unusedVariables false

/-- A row of the call's own reads as versions, in a block from base on. -/
theorem raws_own {w : World} {base n : Nat} {v : Value} {xs : List Rw} (h : w.ownsRow base 58 9 v n (cel xs)) : ∃ A c, v = .slice A n c ∧ Raws w (fun b => base ≤ b ∧ b < w.heap.size) A n xs := by
  have hl : xs.length = n := by have := h.1; rw [cel_length] at this; omega
  rcases h.2 with ⟨rfl, hn⟩ | ⟨g, cap, cur, rfl, hb, hh, hnc, hm, hs, ht⟩
  · subst hn
    exact ⟨_, _, rfl, hl, fun h => absurd h (by omega)⟩
  · refine ⟨_, _, rfl, hl, fun _ => ⟨_, rfl, ⟨hb, ?_⟩, fun j x hx => nin_of fun o u hu => ?_⟩⟩
    · rcases Nat.lt_or_ge g w.heap.size with hlt | hge
      · exact hlt
      · rw [Array.getElem?_eq_none hge] at hh; cases hh
    · have ho : o < 9 := (List.getElem?_eq_some_iff.1 hu).1
      exact World.ownsRow.cells (g := g) h rfl (j * 9 + o) u ((cel_get hx ho).trans hu)

/-- A row of the call's own, that reads as these versions. -/
def Own (w : World) (base : Nat) (A : Option Addr) (n c : Nat) (xs : List Rw) : Prop := w.ownsRow base 58 9 (.slice A n c) n (cel xs)
section
variable {w w' : World} {base n c : Nat} {A : Option Addr} {xs : List Rw}
theorem Own.nil : Own w base none 0 0 [] := World.ownsRow_nil w base _ 9
theorem Own.len (h : Own w base A n c xs) : xs.length = n := by have := h.1; rw [cel_length] at this; omega
theorem Own.lt (h : Own w base A n c xs) : ∀ k, (Value.slice A n c).ownBlock = some k → base ≤ k ∧ k < w.heap.size := World.ownsRow.lt h
theorem Own.below (h : Own w base A n c xs) (hb : Below w.heap.size w w') : Own w' base A n c xs := by
  refine World.ownsRow.kept h (grown_of_below hb) ?_
  cases A with
  | none => exact .inl rfl
  | some a => exact .inr (by simp [Value.ownBlock])
theorem Own.raws (h : Own w base A n c xs) : Raws w (fun b => base ≤ b ∧ b < w.heap.size) A n xs := by
  obtain ⟨A', c', e, hl⟩ := raws_own h
  injection e with e1 e2 e3
  subst e1
  exact hl
theorem Own.drew (h : Own w base A n c xs) : Own w.drew base A n c xs := h
theorem Raws.drew {ok : Nat → Prop} {L : Option Addr} (h : Raws w ok L n xs) : Raws w.drew ok L n xs := h.keep (fun _ _ => rfl) fun _ h => h
theorem Own.made (w : World) : Own (w.alloc (.cells #[] 58)) w.heap.size (some ⟨w.heap.size, 0, none⟩) 0 0 [] := World.ownsRow_made w #[] 0 (Nat.le_refl _) (Nat.zero_le _) (by simp)
theorem Own.one (w : World) (r : Rw) : Own (w.alloc (.cells (vc r) 58)) w.heap.size (some ⟨w.heap.size, 0, none⟩) 1 1 [r] :=
  ⟨by rw [cel_one]; rfl, .inr ⟨w.heap.size, 1, _, rfl, Nat.le_refl _, heap_alloc_new w _, Nat.le_refl _, by unfold maxLen; omega, rfl, by rw [cel_one]; rfl⟩⟩
end
theorem own_of_row {w : World} {base k : Nat} {v : Value} {xs : List Rw} (h : w.ownsRow base 58 9 v k (cel xs)) : ∃ A c, v = .slice A k c ∧ Own w base A k c xs := by
  rcases h.2 with ⟨rfl, hn⟩ | ⟨g, cap, cur, rfl, hr⟩
  · subst hn; exact ⟨_, _, rfl, h⟩
  · exact ⟨_, _, rfl, h⟩
/-- What append does. -/
theorem run_app (w : World) (ty : TypeId) (base : Nat) (A : Option Addr) (n c : Nat) (xs : List Rw) (hown : Own w base A n c xs)
    (ok : Nat → Prop) (C : Option Addr) (m d : Nat) (ys : List Rw) (hr : Raws w ok C m ys) (hnil : C = none → m = 0 ∧ d = 0) (hlen : (n + m) * 120 ≤ 140737488355328) (hbase : base ≤ w.heap.size) :
    ∃ A' c' w', (Builtin.append_ #[32, 32] ty #[.slice A n c, .slice C m d]).run Tryz.prog w = .ok (.slice A' (n + m) c') w' ∧ Own w' base A' (n + m) c' (xs ++ ys) ∧ w.grownBy w' (Value.slice A n c).ownBlock := by
  obtain ⟨i, hi, hz, h1, h2⟩ := info_parts info_version
  cases C with
  | none =>
    obtain ⟨rfl, rfl⟩ := hnil rfl
    have hy : ys = [] := List.eq_nil_of_length_eq_zero hr.1
    subst hy
    exact ⟨A, c, w, run_append_owned_none (P := Tryz.prog) (w := w) base _ ty 58 i 9 Tryz.underlying32 hi _ n _ hown, by rw [List.append_nil]; exact hown, World.grownBy.refl w _⟩
  | some ad =>
    obtain ⟨v', w', hrun, hO, hg, _⟩ := run_append_own (P := Tryz.prog) w base 32 ty 58 i _ 9 120 Tryz.underlying32 hi hz h1 h2 rfl (by omega) (.slice A n c) n _ hown ad m d (cel ys) (by rw [cel_length, hr.1]) (Raws.cells hr) (cel_cell ys) (by unfold maxLen; omega) (by omega) hbase
    rw [← cel_append] at hO
    obtain ⟨A', c', rfl, hO'⟩ := own_of_row hO
    exact ⟨A', c', w', hrun, hO', hg⟩
theorem wpList_app (w : World) {ops : Array Oper} {rest : List Oper} {o : Oper} {a : Act} {Q : Exit → Act → World → Prop} (hgd : o.guard = none) (s x : Operand)
    (ho : o.op = .call { callee := .builtin .append, args := #[s, x], argTypes := #[32, 32] })
    (base : Nat) (A : Option Addr) (n c : Nat) (xs : List Rw) (hs : a.eval s = .slice A n c) (hown : Own w base A n c xs)
    (ok : Nat → Prop) (C : Option Addr) (m d : Nat) (ys : List Rw) (hx : a.eval x = .slice C m d) (hr : Raws w ok C m ys) (hnil : C = none → m = 0 ∧ d = 0) (N : Nat) (hN : n + m = N) (hlen : (n + m) * 120 ≤ 140737488355328) (hbase : base ≤ w.heap.size)
    (h : ∀ A' c' w', Own w' base A' N c' (xs ++ ys) → w.grownBy w' (Value.slice A n c).ownBlock → wpList Tryz.prog ops Q rest (a.put o.dst (.slice A' N c')) w') :
    wpList Tryz.prog ops Q (o :: rest) a w := by
  subst hN
  refine wpList_plain hgd fun K hK => ?_
  obtain ⟨A', c', w', hrun, hO, hg⟩ := run_app w o.type base A n c xs hown ok C m d ys hr hnil hlen hbase
  unfold Oper.wp
  simp [execOp, ho, resolve, invoke, builtin, hs, hx, hrun, Result.andThen]
  exact hK _ _ (h A' c' w' hO hg)
theorem step_app (w : World) {ops : Array Oper} {o : Oper} {a : Act} {K : Act → World → Prop} {Q : Exit → Act → World → Prop} {E : Prop} (hgd : o.guard = none) (s x : Operand)
    (ho : o.op = .call { callee := .builtin .append, args := #[s, x], argTypes := #[32, 32] })
    (base : Nat) (A : Option Addr) (n c : Nat) (xs : List Rw) (hs : a.eval s = .slice A n c) (hown : Own w base A n c xs)
    (ok : Nat → Prop) (C : Option Addr) (m d : Nat) (ys : List Rw) (hx : a.eval x = .slice C m d) (hr : Raws w ok C m ys) (hnil : C = none → m = 0 ∧ d = 0) (N : Nat) (hN : n + m = N) (hlen : (n + m) * 120 ≤ 140737488355328) (hbase : base ≤ w.heap.size)
    (h : ∀ A' c' w', Own w' base A' N c' (xs ++ ys) → w.grownBy w' (Value.slice A n c).ownBlock → K (a.put o.dst (.slice A' N c')) w') :
    if Region.wanted o (yielded ops a.tmps) = true then Oper.wp Tryz.prog o a w K Q else E := by
  subst hN
  have hw : Region.wanted o (yielded ops a.tmps) = true := by simp [Region.wanted, hgd]
  rw [if_pos hw]
  obtain ⟨A', c', w', hrun, hO, hg⟩ := run_app w o.type base A n c xs hown ok C m d ys hr hnil hlen hbase
  unfold Oper.wp execOp
  simp only [ho, resolve, invoke, builtin, Sem.run_bind, Sem.run_pure, Result.andThen_ok, List.map_toArray, List.map_cons, List.map_nil, hs, hx, hrun]
  exact h A' c' w' hO hg

theorem run_zeros (w : World) (ty : TypeId) (n : Nat) (h0 : 0 < n) (hn : n ≤ 1000) : ∃ cap w', (Builtin.append_ #[32, 3] ty #[.slice none 0 0, .int .i64 (n : Int)]).run Tryz.prog w = .ok (.slice (some ⟨w.heap.size, 0, none⟩) n cap) w' ∧ Own w' w.heap.size (some ⟨w.heap.size, 0, none⟩) 0 cap [] ∧ n ≤ cap ∧ Below w.heap.size w w' := by
  obtain ⟨i, hi, hz, h1, h2⟩ := info_parts info_version
  refine ⟨_, _, Lib.run_append_nil_zeros (P := Tryz.prog) w 32 3 ty 58 i _ .i64 .i64 Tryz.underlying32 Tryz.underlying3 hi hz n h0 (by omega) (by omega) (by rw [h2]; omega), ?_, grownCap_ge _ _ _ _, ?_⟩
  · refine ⟨rfl, .inr ⟨w.heap.size, _, _, rfl, Nat.le_refl _, heap_alloc_new w.drew _, Nat.zero_le _, grownCap_le_maxLen _ _ _ _ (by unfold maxLen; omega), ?_, by simp [cel]⟩⟩
    have := grownCap_ge w n 0 58
    simp only [Array.size_append, size_zeroCells]
    rw [show (Value.agg zc).cells.size = 9 from rfl]
    omega
  · exact (⟨rfl, rfl, rfl, Nat.le_refl _, fun _ _ => rfl⟩ : Below w.heap.size w w.drew).alloc (Nat.le_refl _) _

set_option maxRecDepth 100000 in
set_option maxHeartbeats 2000000 in
theorem grow_ (n : Nat) (h0 : 0 < n) (hn : n ≤ 1000) (w : World) :
    Calls Tryz.prog 79 #[.slice none 0 0, .int .i64 (n : Int)] w fun e w' => ∃ c, e = .returned (.slice (some ⟨w.heap.size, 0, none⟩) 0 c) ∧ Own w' w.heap.size (some ⟨w.heap.size, 0, none⟩) 0 c [] ∧ Below w.heap.size w w' := by
  have t1 : decide ((n : Int) < 0) = false := decide_eq_false (by omega)
  have t2 : decide (0 < (n : Int)) = true := decide_eq_true (by omega)
  have t2' : decide (0 < n) = true := decide_eq_true h0
  go_enter Tryz.func79, Tryz.ntmps79
  go_wp2_with (at_builtin; obtain ⟨cap, w', hr, hO, hcap, hB⟩ := run_zeros w 32 n h0 hn; have HO := Lib.hid hO; have HB := Lib.hid hB; refine Lib.wpList_append_run _ rfl _ _ _ _ rfl _ _ rfl rfl _ _ hr ?_; clear hr hO hB)
  go_ret
  exact ⟨cap, rfl, HO.out, HB.out⟩

end Trf
end Go.Proofs.YtkdhcloaeifbdaaGreat

namespace Go.Proofs.YtkdhcloaeifbdaaGreat
open Go.RowKit Ba Tf
namespace Trf
set_option linter.unusedVariables false

/-- What Concat gives. -/
def ConTo (w : World) (N : Nat) (rs : List Rw) (e : Ending) (w' : World) : Prop := ∃ g c, e = .returned (.slice (some ⟨g, 0, none⟩) N c) ∧ Own w' w.heap.size (some ⟨g, 0, none⟩) N c rs ∧ w.heap.size ≤ g ∧ g < w'.heap.size ∧ Below w.heap.size w w'
theorem Own.grown {w w1 w2 : World} {A : Option Addr} {n c : Nat} {xs : List Rw} (h : Own w1 w.heap.size A n c xs) (hb : Below w.heap.size w w1) (hg : w1.grownBy w2 (Value.slice A n c).ownBlock) : Below w.heap.size w w2 :=
  hb.grown hg hb.size fun j hj => (h.lt j hj).1

set_option maxRecDepth 100000 in
set_option maxHeartbeats 4000000 in
theorem concat (s : Nat) (A B C : Option Addr) (n1 c1 n2 c2 n3 c3 N : Nat) (r1 r2 r3 : List Rw) (w : World) (hs : Bx w s 32 #[.slice A n1 c1, .slice B n2 c2, .slice C n3 c3])
    (hA : Raws w (· < w.heap.size) A n1 r1) (hB : Raws w (· < w.heap.size) B n2 r2) (hC : Raws w (· < w.heap.size) C n3 r3) (zA : A = none → n1 = 0 ∧ c1 = 0) (zB : B = none → n2 = 0 ∧ c2 = 0) (zC : C = none → n3 = 0 ∧ c3 = 0) (hN : n1 + n2 + n3 = N) (h0 : 0 < N) (hn : N ≤ 1000) :
    Calls Tryz.prog 47 #[.slice (some ⟨s, 0, none⟩) 3 3] w (ConTo w N (r1 ++ r2 ++ r3)) := by
  have y0 := hs.c 0
  have y1 := hs.c 1
  have y2 := hs.c 2
  simp at y0 y1 y2
  have HS := Lib.hid hs
  have HA := Lib.hid hA
  have HB := Lib.hid hB
  have HC := Lib.hid hC
  have HZ := Lib.hid (And.intro zA (And.intro zB zC))
  obtain ⟨M, hM⟩ : ∃ M, n1 + n2 = M := ⟨_, rfl⟩
  have a1 : (n1 : Int) + (n2 : Int) = (M : Int) := by omega
  have a2 : (M : Int) + (n3 : Int) = (N : Int) := by omega
  have b1 : n1 ≤ 1000 := by omega
  have b2 : M ≤ 1000 := by omega
  have t1 : decide ((n1 : Int) < 0) = false := decide_eq_false (by omega)
  have t2 : decide ((M : Int) < 0) = false := decide_eq_false (by omega)
  have t3 : decide ((N : Int) < 0) = false := decide_eq_false (by omega)
  have HM := Lib.hid hM
  have HN := Lib.hid hN
  clear hs hA hB hC zA zB zC hM hN
  go_enter Tryz.func47, Tryz.ntmps47
  go_wp2
  go_loop [3, 5, 11] (fun z s5 i => (i = .int .i64 0 ∧ z = .int .i64 0) ∨ (i = .int .i64 1 ∧ z = .int .i64 (n1 : Int)) ∨ (i = .int .i64 2 ∧ z = .int .i64 (M : Int)) ∨ (i = .int .i64 3 ∧ z = .int .i64 (N : Int))) (fun _ _ i => 3 - (intOf i).toNat)
  case atStart => exact .inl ⟨rfl, rfl⟩
  case round =>
    rcases hrel with ⟨rfl, rfl⟩ | ⟨rfl, rfl⟩ | ⟨rfl, rfl⟩ | ⟨rfl, rfl⟩
    · go_wp2
      go_round
      case rel => exact .inr (.inl ⟨rfl, rfl⟩)
      case measure => simp [intOf]
    · go_wp2
      go_round
      case rel => exact .inr (.inr (.inl ⟨rfl, rfl⟩))
      case measure => simp [intOf]
    · go_wp2
      go_round
      case rel => exact .inr (.inr (.inr ⟨rfl, rfl⟩))
      case measure => simp [intOf]
    · go_wp2_with fail
      refine (grow_ N h0 hn w).mono ?_
      rintro e w1 ⟨cg, rfl, hO, hb⟩
      have HO := Lib.hid hO
      have HB1 := Lib.hid hb
      clear hO hb y0 y1 y2
      go_wp2
      go_loopw [6, 8, 27] (fun z s8 i w' => ∃ (w2 : World) (D : Option Addr) (d : Nat), w2 = w' ∧ Hid (Below w.heap.size w w2) ∧ ((i = .int .i64 0 ∧ z = .slice D 0 d ∧ Hid (Own w2 w.heap.size D 0 d [])) ∨ (i = .int .i64 1 ∧ z = .slice D n1 d ∧ Hid (Own w2 w.heap.size D n1 d r1)) ∨ (i = .int .i64 2 ∧ z = .slice D M d ∧ Hid (Own w2 w.heap.size D M d (r1 ++ r2))) ∨ (i = .int .i64 3 ∧ z = .slice D N d ∧ Hid (Own w2 w.heap.size D N d (r1 ++ r2 ++ r3))))) (fun _ _ i _ => 3 - (intOf i).toNat)
      case atStart => exact ⟨_, _, _, rfl, HB1, .inl ⟨rfl, rfl, HO⟩⟩
      case round =>
        obtain ⟨w2, D, d, rfl, HB2, hrel⟩ := hrel
        have y0 := (HS.out.keep HB2.out).c 0
        have y1 := (HS.out.keep HB2.out).c 1
        have y2 := (HS.out.keep HB2.out).c 2
        simp at y0 y1 y2
        clear HO HB1
        rcases hrel with ⟨rfl, rfl, HO⟩ | ⟨rfl, rfl, HO⟩ | ⟨rfl, rfl, HO⟩ | ⟨rfl, rfl, HO⟩
        · go_wp2_with (at_builtin; refine wpList_app _ rfl _ _ rfl w.heap.size D 0 d [] rfl HO.out (· < w.heap.size) A n1 c1 r1 rfl (HA.out.keep (fun p hp => HB2.out.cell hp) fun _ h => h) HZ.out.1 n1 (by omega) (by omega) HB2.out.size ?_; intro D2 d2 w3 hO3 hg3; have HO3 := Lib.hid hO3; have HB3 := Lib.hid (HO.out.grown HB2.out hg3); clear hO3 hg3)
          go_roundw
          case rel => exact ⟨_, _, _, rfl, HB3, .inr (.inl ⟨rfl, rfl, HO3⟩)⟩
          case measure => simp [intOf]
        · go_wp2_with (at_builtin; refine wpList_app _ rfl _ _ rfl w.heap.size D n1 d r1 rfl HO.out (· < w.heap.size) B n2 c2 r2 rfl (HB.out.keep (fun p hp => HB2.out.cell hp) fun _ h => h) HZ.out.2.1 M (HM.out) (by omega) HB2.out.size ?_; intro D2 d2 w3 hO3 hg3; have HO3 := Lib.hid hO3; have HB3 := Lib.hid (HO.out.grown HB2.out hg3); clear hO3 hg3)
          go_roundw
          case rel => exact ⟨_, _, _, rfl, HB3, .inr (.inr (.inl ⟨rfl, rfl, HO3⟩))⟩
          case measure => simp [intOf]
        · go_wp2_with (at_builtin; refine wpList_app _ rfl _ _ rfl w.heap.size D M d (r1 ++ r2) rfl HO.out (· < w.heap.size) C n3 c3 r3 rfl (HC.out.keep (fun p hp => HB2.out.cell hp) fun _ h => h) HZ.out.2.2 N (by have := HN.out; have := HM.out; omega) (by omega) HB2.out.size ?_; intro D2 d2 w3 hO3 hg3; have HO3 := Lib.hid hO3; have HB3 := Lib.hid (HO.out.grown HB2.out hg3); clear hO3 hg3)
          go_roundw
          case rel => exact ⟨_, _, _, rfl, HB3, .inr (.inr (.inr ⟨rfl, rfl, HO3⟩))⟩
          case measure => simp [intOf]
        · go_wp2
          go_ret
          obtain ⟨g, cap, e, hlo, hlt⟩ := HO.out.form h0
          injection e with e1 e2 e3
          subst e1 e3
          exact ⟨g, d, rfl, HO.out, hlo, hlt, HB2.out⟩

end Trf
end Go.Proofs.YtkdhcloaeifbdaaGreat

namespace Go.Proofs.YtkdhcloaeifbdaaGreat
open Go.RowKit Ba Tf
namespace Trf
set_option linter.unusedVariables false

theorem off_ne {b o1 o2 : Nat} (h : o1 ≠ o2) : (⟨b, o1, none⟩ : Addr) ≠ ⟨b, o2, none⟩ := fun e => by injection e with _ e; exact h e
theorem nine_at {w : World} {b o : Nat} {r r0 : Rw} (h : Nin w ⟨b, o, none⟩ r0) : Nin (nine w b o r) ⟨b, o, none⟩ r := by
  refine ⟨?_, ?_, ?_, ?_, ?_, ?_, ?_, ?_, ?_⟩
  · show (nine w b o r).cell? ⟨b, o, none⟩ = _
    unfold nine
    rw [World.cell?_setCell_other _ _ _ _ (off_ne (by omega)), World.cell?_setCell_other _ _ _ _ (off_ne (by omega)), World.cell?_setCell_other _ _ _ _ (off_ne (by omega)), World.cell?_setCell_other _ _ _ _ (off_ne (by omega)), World.cell?_setCell_other _ _ _ _ (off_ne (by omega)), World.cell?_setCell_other _ _ _ _ (off_ne (by omega)), World.cell?_setCell_other _ _ _ _ (off_ne (by omega)), World.cell?_setCell_other _ _ _ _ (off_ne (by omega))]
    exact World.cell?_setCell_same _ _ _ h.c0
  · show (nine w b o r).cell? ⟨b, o + 1, none⟩ = _
    unfold nine
    rw [World.cell?_setCell_other _ _ _ _ (off_ne (by omega)), World.cell?_setCell_other _ _ _ _ (off_ne (by omega)), World.cell?_setCell_other _ _ _ _ (off_ne (by omega)), World.cell?_setCell_other _ _ _ _ (off_ne (by omega)), World.cell?_setCell_other _ _ _ _ (off_ne (by omega)), World.cell?_setCell_other _ _ _ _ (off_ne (by omega)), World.cell?_setCell_other _ _ _ _ (off_ne (by omega))]
    exact World.cell?_setCell_same _ _ _ (by rw [World.cell?_setCell_other _ _ _ _ (off_ne (by omega))]; exact h.c1)
  · show (nine w b o r).cell? ⟨b, o + 2, none⟩ = _
    unfold nine
    rw [World.cell?_setCell_other _ _ _ _ (off_ne (by omega)), World.cell?_setCell_other _ _ _ _ (off_ne (by omega)), World.cell?_setCell_other _ _ _ _ (off_ne (by omega)), World.cell?_setCell_other _ _ _ _ (off_ne (by omega)), World.cell?_setCell_other _ _ _ _ (off_ne (by omega)), World.cell?_setCell_other _ _ _ _ (off_ne (by omega))]
    exact World.cell?_setCell_same _ _ _ (by rw [World.cell?_setCell_other _ _ _ _ (off_ne (by omega)), World.cell?_setCell_other _ _ _ _ (off_ne (by omega))]; exact h.c2)
  · show (nine w b o r).cell? ⟨b, o + 3, none⟩ = _
    unfold nine
    rw [World.cell?_setCell_other _ _ _ _ (off_ne (by omega)), World.cell?_setCell_other _ _ _ _ (off_ne (by omega)), World.cell?_setCell_other _ _ _ _ (off_ne (by omega)), World.cell?_setCell_other _ _ _ _ (off_ne (by omega)), World.cell?_setCell_other _ _ _ _ (off_ne (by omega))]
    exact World.cell?_setCell_same _ _ _ (by rw [World.cell?_setCell_other _ _ _ _ (off_ne (by omega)), World.cell?_setCell_other _ _ _ _ (off_ne (by omega)), World.cell?_setCell_other _ _ _ _ (off_ne (by omega))]; exact h.c3)
  · show (nine w b o r).cell? ⟨b, o + 4, none⟩ = _
    unfold nine
    rw [World.cell?_setCell_other _ _ _ _ (off_ne (by omega)), World.cell?_setCell_other _ _ _ _ (off_ne (by omega)), World.cell?_setCell_other _ _ _ _ (off_ne (by omega)), World.cell?_setCell_other _ _ _ _ (off_ne (by omega))]
    exact World.cell?_setCell_same _ _ _ (by rw [World.cell?_setCell_other _ _ _ _ (off_ne (by omega)), World.cell?_setCell_other _ _ _ _ (off_ne (by omega)), World.cell?_setCell_other _ _ _ _ (off_ne (by omega)), World.cell?_setCell_other _ _ _ _ (off_ne (by omega))]; exact h.c4)
  · show (nine w b o r).cell? ⟨b, o + 5, none⟩ = _
    unfold nine
    rw [World.cell?_setCell_other _ _ _ _ (off_ne (by omega)), World.cell?_setCell_other _ _ _ _ (off_ne (by omega)), World.cell?_setCell_other _ _ _ _ (off_ne (by omega))]
    exact World.cell?_setCell_same _ _ _ (by rw [World.cell?_setCell_other _ _ _ _ (off_ne (by omega)), World.cell?_setCell_other _ _ _ _ (off_ne (by omega)), World.cell?_setCell_other _ _ _ _ (off_ne (by omega)), World.cell?_setCell_other _ _ _ _ (off_ne (by omega)), World.cell?_setCell_other _ _ _ _ (off_ne (by omega))]; exact h.c5)
  · show (nine w b o r).cell? ⟨b, o + 6, none⟩ = _
    unfold nine
    rw [World.cell?_setCell_other _ _ _ _ (off_ne (by omega)), World.cell?_setCell_other _ _ _ _ (off_ne (by omega))]
    exact World.cell?_setCell_same _ _ _ (by rw [World.cell?_setCell_other _ _ _ _ (off_ne (by omega)), World.cell?_setCell_other _ _ _ _ (off_ne (by omega)), World.cell?_setCell_other _ _ _ _ (off_ne (by omega)), World.cell?_setCell_other _ _ _ _ (off_ne (by omega)), World.cell?_setCell_other _ _ _ _ (off_ne (by omega)), World.cell?_setCell_other _ _ _ _ (off_ne (by omega))]; exact h.c6)
  · show (nine w b o r).cell? ⟨b, o + 7, none⟩ = _
    unfold nine
    rw [World.cell?_setCell_other _ _ _ _ (off_ne (by omega))]
    exact World.cell?_setCell_same _ _ _ (by rw [World.cell?_setCell_other _ _ _ _ (off_ne (by omega)), World.cell?_setCell_other _ _ _ _ (off_ne (by omega)), World.cell?_setCell_other _ _ _ _ (off_ne (by omega)), World.cell?_setCell_other _ _ _ _ (off_ne (by omega)), World.cell?_setCell_other _ _ _ _ (off_ne (by omega)), World.cell?_setCell_other _ _ _ _ (off_ne (by omega)), World.cell?_setCell_other _ _ _ _ (off_ne (by omega))]; exact h.c7)
  · show (nine w b o r).cell? ⟨b, o + 8, none⟩ = _
    unfold nine
    exact World.cell?_setCell_same _ _ _ (by rw [World.cell?_setCell_other _ _ _ _ (off_ne (by omega)), World.cell?_setCell_other _ _ _ _ (off_ne (by omega)), World.cell?_setCell_other _ _ _ _ (off_ne (by omega)), World.cell?_setCell_other _ _ _ _ (off_ne (by omega)), World.cell?_setCell_other _ _ _ _ (off_ne (by omega)), World.cell?_setCell_other _ _ _ _ (off_ne (by omega)), World.cell?_setCell_other _ _ _ _ (off_ne (by omega)), World.cell?_setCell_other _ _ _ _ (off_ne (by omega))]; exact h.c8)

theorem nine_frozen (w : World) (b o : Nat) (r : Rw) (p : Addr) : (nine w b o r).frozen? p = w.frozen? p := by simp [nine]

theorem Bx.nine {w : World} {b : Nat} {t : TypeId} {xs : Array Value} (h : Bx w b t xs) {g : Nat} (hp : b ≠ g) (o : Nat) (r : Rw) : Bx (nine w g o r) b t xs := by
  unfold Trf.nine
  exact ((((((((h.far (a := ⟨g, _, none⟩) hp _).far (a := ⟨g, _, none⟩) hp _).far (a := ⟨g, _, none⟩) hp _).far (a := ⟨g, _, none⟩) hp _).far (a := ⟨g, _, none⟩) hp _).far (a := ⟨g, _, none⟩) hp _).far (a := ⟨g, _, none⟩) hp _).far (a := ⟨g, _, none⟩) hp _).far (a := ⟨g, _, none⟩) hp _
/-- The row of the call's own, and what it means: lists lie elsewhere. -/
structure PL (w w1 : World) (g n : Nat) (vs : List Ve) : Prop where
  b : Below w.heap.size w w1
  lo : w.heap.size + 2 < g
  lt : g < w1.heap.size
  fz : ∀ o, w1.frozen? ⟨g, o, none⟩ = false
  rows : ∃ rs, Raws w1 (· = g) (some ⟨g, 0, none⟩) n rs ∧ rs.map Rw.v = vs ∧ (∀ r ∈ rs, Sm r) ∧ ∀ r ∈ rs, Mean w1 (fun b => (b ≠ g ∧ b ≠ w.heap.size + 2) ∧ b < w1.heap.size) r
  x : Bx w1 (w.heap.size + 2) 34 #[.slice none 0 0]
section
variable {w w1 w2 : World} {g n k : Nat} {vs : List Ve}
theorem Raws.at {ok : Nat → Prop} {rs : List Rw} {r : Rw} {j : Nat} (h : Raws w ok (some ⟨g, 0, none⟩) n rs) (hr : rs[j]? = some r) : Nin w ⟨g, j * 9, none⟩ r := by
  obtain ⟨ad, e, _, hc⟩ := h.2 (by have := h.1; have := (List.getElem?_eq_some_iff.1 hr).1; omega)
  injection e with e
  subst e
  have := hc j r hr
  rwa [Addr.add_lit, Nat.zero_add] at this
theorem PL.get (h : PL w w1 g n vs) (hk : k < n) : ∃ r : Rw, vs[k]? = some r.v ∧ Nin w1 ⟨g, k * 9, none⟩ r ∧ Mean w1 (fun b => (b ≠ g ∧ b ≠ w.heap.size + 2) ∧ b < w1.heap.size) r ∧ Sm r := by
  obtain ⟨rs, a, e, s, m⟩ := h.rows
  have hl : k < rs.length := by have := a.1; omega
  have hr : rs[k]? = some rs[k] := List.getElem?_eq_getElem hl
  have hmem := List.mem_of_getElem? hr
  refine ⟨rs[k], ?_, a.at hr, m _ hmem, s _ hmem⟩
  subst e
  exact map_get hr
/-- One version laid anew. -/
theorem PL.put (h : PL w w1 g n vs) (hk : k < n) (o : Obj) (hb : Below (w1.alloc o).heap.size (w1.alloc o) w2) {r : Rw} (he : vs[k]? = some r.v) (hs : Sm r)
    (hl : Mean w2 (fun b => (((b ≠ g ∧ b ≠ w.heap.size + 2) ∧ b < w1.heap.size) ∨ (w1.alloc o).heap.size ≤ b) ∧ b < w2.heap.size) r) : PL w (nine w2 g (k * 9) r) g n vs := by
  have hb' := below_alloc hb
  have hsz := nine_size w2 g (k * 9) r
  have hlt2 : w1.heap.size ≤ w2.heap.size := hb'.size
  have hlo := h.lo
  have hlt := h.lt
  have hal : (w1.alloc o).heap.size = w1.heap.size + 1 := World.size_alloc _ _
  refine ⟨nine_below (h.b.trans (hb'.mono h.b.size)) (by omega) _ _, h.lo, by rw [hsz]; omega, fun o' => ?_, ?_, ?_⟩
  · rw [nine_frozen, hb'.frozen (p := ⟨g, o', none⟩) hlt]
    exact h.fz o'
  · obtain ⟨rs, a, e, s, m⟩ := h.rows
    have hlk : k < rs.length := by have := a.1; omega
    have hr : rs[k]? = some rs[k] := List.getElem?_eq_getElem hlk
    have a2 : Raws w2 (· = g) (some ⟨g, 0, none⟩) n rs := a.keep (fun p hp => hb'.cell (by rw [hp]; exact hlt)) fun _ h => h
    have far : ∀ (p : Addr), p.block ≠ g → (nine w2 g (k * 9) r).cell? p = w2.cell? p := fun p hp => nine_other _ _ _ _ _ fun j _ e => hp (by rw [e])
    refine ⟨rs.set k r, ⟨by rw [List.length_set]; exact a.1, fun hn => ⟨_, rfl, rfl, fun j r' hj => ?_⟩⟩, ?_, ?_, ?_⟩
    · rw [Addr.add_lit, Nat.zero_add]
      by_cases hjk : j = k
      · subst hjk
        rw [List.getElem?_set_self hlk] at hj
        injection hj with hj
        subst hj
        exact nine_at (a2.at hr)
      · rw [List.getElem?_set_ne (Ne.symm hjk)] at hj
        have q := a2.at hj
        have cell : ∀ i, i < 9 → (nine w2 g (k * 9) r).cell? ⟨g, j * 9 + i, none⟩ = w2.cell? ⟨g, j * 9 + i, none⟩ := fun i hi => nine_other _ _ _ _ _ fun i2 hi2 e => by injection e with _ e; omega
        exact ⟨(cell 0 (by omega)).trans q.c0, (cell 1 (by omega)).trans q.c1, (cell 2 (by omega)).trans q.c2, (cell 3 (by omega)).trans q.c3, (cell 4 (by omega)).trans q.c4, (cell 5 (by omega)).trans q.c5, (cell 6 (by omega)).trans q.c6, (cell 7 (by omega)).trans q.c7, (cell 8 (by omega)).trans q.c8⟩
    · rw [List.map_set, e]
      obtain ⟨hk2, e2⟩ := List.getElem?_eq_some_iff.1 he
      rw [← e2]
      exact List.set_getElem_self hk2
    · intro x hx
      rcases List.mem_or_eq_of_mem_set hx with hx | rfl
      · exact s x hx
      · exact hs
    · intro x hx
      rcases List.mem_or_eq_of_mem_set hx with hx | rfl
      · refine (m x hx).keep (fun p hp => ?_) fun b hb => ⟨hb.1, by rw [hsz]; omega⟩
        rw [far p hp.1.1]
        exact hb'.cell hp.2
      · refine hl.keep (fun p hp => far p ?_) fun b hb => ⟨?_, by rw [hsz]; exact hb.2⟩
        · rcases hp.1 with hp | hp
          · exact hp.1.1
          · omega
        · rcases hb.1 with hp | hp
          · exact hp.1
          · have hxl := h.x.lt
            omega
  · exact (h.x.keep hb').nine (by omega) _ _
/-- The result's box is stored into. -/
theorem PL.done (h : PL w w1 g n vs) (u : Value) : ∃ rs, Vers (w1.setCell ⟨w.heap.size + 2, 0, none⟩ u) (some ⟨g, 0, none⟩) n rs ∧ rs.map Rw.v = vs := by
  obtain ⟨rs, a, e, s, m⟩ := h.rows
  have hlo := h.lo
  have hlt := h.lt
  refine ⟨rs, ⟨a.keep (fun p hp => World.cell?_setCell_other _ _ _ _ (fun e => ?_)) fun b hb => by rw [hb]; simpa using hlt, fun r hr => (m r hr).keep (fun p hp => World.cell?_setCell_other _ _ _ _ (fun e => ?_)) fun b hb => by have := hb.2; simpa using this, s⟩, e⟩
  · rw [← e] at hp; simp only at hp; omega
  · have := hp.1.2; rw [← e] at this; simp only at this; omega
end
/-- The row as Concat leaves it. -/
theorem PL.start {w W w' : World} {g n cap : Nat} {rs : List Rw} {vs : List Ve} (hW : Below w.heap.size w W) (hx : Bx W (w.heap.size + 2) 34 #[.slice none 0 0]) (ho : Own w' W.heap.size (some ⟨g, 0, none⟩) n cap rs) (hb : Below W.heap.size W w') (hg : W.heap.size ≤ g) (hlt : g < w'.heap.size) (he : rs.map Rw.v = vs) (hs : ∀ r ∈ rs, Sm r) (hM : ∀ r ∈ rs, Mean W (· < w.heap.size) r) : PL w w' g n vs := by
  have hxl := hx.lt
  refine ⟨hW.trans (hb.mono hW.size), by omega, hlt, fun o => ?_, ⟨rs, ?_, he, hs, fun r hr => (hM r hr).keep (fun p hp => hb.cell (Nat.lt_of_lt_of_le hp hW.size)) fun b hb' => ⟨⟨by have := hW.size; omega, by omega⟩, by have := hb.size; have := hW.size; omega⟩⟩, hx.keep hb⟩
  · rcases ho.2 with ⟨e, _⟩ | ⟨g', cap', cur, e, _, hh, _⟩
    · cases e
    · injection e with e
      injection e with e
      injection e with e
      subst e
      simp [World.frozen?, hh]
  · obtain ⟨A', c', e, hr⟩ := raws_own ho
    injection e with e1 e2 e3
    subst e1
    refine ⟨hr.1, fun hn => ?_⟩
    obtain ⟨ad, e, _, hc⟩ := hr.2 hn
    injection e with e
    subst e
    exact ⟨_, rfl, rfl, hc⟩

end Trf
end Go.Proofs.YtkdhcloaeifbdaaGreat

namespace Go.Proofs.YtkdhcloaeifbdaaGreat
open Go.RowKit Ba Tf
namespace Trf
set_option linter.unusedVariables false

/-- What Put gives. -/
def PutTo (w : World) (vs : List Ve) (v : Ve) (e : Ending) (w' : World) : Prop := ∃ A n c rs, e = .returned (.tuple #[tg A n c, .int .i64 (cd vs v)]) ∧ Vers w' A n rs ∧ rs.map Rw.v = pt vs v ∧ n ≤ c ∧ (A = none → n = 0 ∧ c = 0) ∧ Below w.heap.size w w'

/-- The three boxes. -/
structure P0 (w w1 : World) (A : Option Addr) (n c : Nat) (r : Rw) : Prop where
  b : Below w.heap.size w w1
  x0 : Bx w1 w.heap.size 34 #[.slice A n c]
  x1 : Bx w1 (w.heap.size + 1) 58 (vc r)
  x2 : Bx w1 (w.heap.size + 2) 34 #[.slice none 0 0]
section
variable {w w1 w2 : World} {A : Option Addr} {n c : Nat} {r : Rw}
theorem P0.start : P0 w (((w.alloc (.cells #[.slice A n c] 34)).alloc (.cells (vc r) 58)).alloc (.cells #[.slice none 0 0] 34)) A n c r := by
  refine ⟨((alloc_ _ _).alloc (by simp) _).alloc (by simp; omega) _, ((Bx.new _ _ _).alloc _).alloc _, ?_, ?_⟩
  · have := (Bx.new (w.alloc (.cells #[.slice A n c] 34)) 58 (vc r)).alloc (.cells #[.slice none 0 0] 34)
    rw [World.size_alloc] at this
    exact this
  · have := Bx.new ((w.alloc (.cells #[.slice A n c] 34)).alloc (.cells (vc r) 58)) 34 #[.slice none 0 0]
    rw [World.size_alloc, World.size_alloc] at this
    exact this
theorem P0.next (h : P0 w w1 A n c r) (hb : Below w1.heap.size w1 w2) : P0 w w2 A n c r := ⟨h.b.trans (hb.mono h.b.size), h.x0.keep hb, h.x1.keep hb, h.x2.keep hb⟩
end
theorem put_out {w w1 : World} {vs : List Ve} {v : Ve} (hb : Below w.heap.size w w1) {x : Int} (hx : cd vs v = x) (h0 : x ≠ 0) : PutTo w vs v (.returned (.tuple #[tg none 0 0, .int .i64 x])) w1 := by
  subst hx
  exact ⟨none, 0, 0, [], rfl, Vers.nil, (pt_no h0).symm, Nat.le_refl _, fun _ => ⟨rfl, rfl⟩, hb⟩

set_option maxRecDepth 100000 in
set_option maxHeartbeats 4000000 in
theorem put_arg (A : Option Addr) (n c : Nat) (rs : List Rw) (r : Rw) (w : World) (hS : Vers w A n rs) (hn : n ≤ 1000) (hM : Mean w (· < w.heap.size) r) (hSm : Sm r) (h : ¬ (rgt (rs.map Rw.v) = true ∧ ver r.v = true)) :
    Calls Tryz.prog 22 #[tg A n c, vg r] w (PutTo w (rs.map Rw.v) r.v) := by
  have HC := Lib.hid (cd_arg h)
  have CR := fun w' (hb : Below w.heap.size w w') => Lib.hid (right_ A n c rs w' (hS.below hb) hn)
  have CV := fun w' (hb : Below w.heap.size w w') => Lib.hid (version_ r w' (hM.below hb) hSm)
  have HP := Lib.hid (P0.start (w := w) (A := A) (n := n) (c := c) (r := r))
  clear hS hM
  cases h1 : rgt (rs.map Rw.v)
  · rw [h1] at CR
    clear h h1 CV
    go_enter Tryz.func22, Tryz.ntmps22
    go_wp2_with fail
    refine (CR _ HP.out.b).out.mono ?_
    rintro e w1 ⟨rfl, hb1⟩
    have HPZ := Lib.hid (HP.out.next hb1)
    have z0 := HPZ.out.x2.c 0
    have zf := HPZ.out.x2.f 0
    simp at z0
    clear hb1 HP CR
    go_wp2
    refine bodyPost_ret (v := .tuple #[tg none 0 0, .int .i64 1]) (by simp [results, Tryz.results22, go_sem, z0]) rfl (put_out (HPZ.out.b.setCell (p := ⟨w.heap.size + 2, 0, none⟩) (by simp) _) HC.out (by omega))
  · have h2 : ver r.v = false := by
      cases e : ver r.v
      · rfl
      · exact absurd ⟨h1, e⟩ h
    rw [h1] at CR
    rw [h2] at CV
    clear h h1 h2
    go_enter Tryz.func22, Tryz.ntmps22
    go_wp2_with fail
    refine (CR _ HP.out.b).out.mono ?_
    rintro e w1 ⟨rfl, hb1⟩
    have HP1 := Lib.hid (HP.out.next hb1)
    have y0 := HP1.out.x1.c 0
    have y1 := HP1.out.x1.c 1
    have y2 := HP1.out.x1.c 2
    have y3 := HP1.out.x1.c 3
    have y4 := HP1.out.x1.c 4
    have y5 := HP1.out.x1.c 5
    have y6 := HP1.out.x1.c 6
    have y7 := HP1.out.x1.c 7
    have y8 := HP1.out.x1.c 8
    simp at y0 y1 y2 y3 y4 y5 y6 y7 y8
    clear hb1 HP CR
    go_wp2_with fail
    refine (CV _ HP1.out.b).out.mono ?_
    rintro e w2 ⟨rfl, hb2⟩
    have HPZ := Lib.hid (HP1.out.next hb2)
    have z0 := HPZ.out.x2.c 0
    have zf := HPZ.out.x2.f 0
    simp at z0
    clear hb2 HP1 CV y0 y1 y2 y3 y4 y5 y6 y7 y8
    go_wp2
    refine bodyPost_ret (v := .tuple #[tg none 0 0, .int .i64 1]) (by simp [results, Tryz.results22, go_sem, z0]) rfl (put_out (HPZ.out.b.setCell (p := ⟨w.heap.size + 2, 0, none⟩) (by simp) _) HC.out (by omega))

theorem put_search (A : Option Addr) (n c : Nat) (rs : List Rw) (r : Rw) (w w2 : World) (hS : Vers w A n rs) (hn : n ≤ 1000) (hP : P0 w w2 A n c r) (hR : rgt (rs.map Rw.v) = true) :
    Calls Tryz.prog 45 #[.int .i64 (n : Int), .func (.func 46) #[] #[.pointer (some ⟨w.heap.size, 0, none⟩), .pointer (some ⟨w.heap.size + 1, 0, none⟩)]] w2 fun e w' => ∃ p : Nat, e = .returned (.int .i64 (p : Int)) ∧ Place rs r.v.fr n p ∧ Below w2.heap.size w2 w' := by
  refine search w.heap.size (w.heap.size + 1) n rs r.v.fr w2 hS.r.1 hn (fun i j x y hij hx hy => rise_lt (rgt_rise hR).2 hij (map_get hx) (map_get hy)) fun w' hb k x hx => ?_
  have hk : k < n := by rw [← hS.r.1]; exact (List.getElem?_eq_some_iff.1 hx).1
  have hP' := hP.next hb
  obtain ⟨ad, x', rfl, _, hx', hN, _⟩ := (hS.below hP'.b).get hk
  rw [hx] at hx'
  injection hx' with hx'
  subst hx'
  exact reached _ _ ad n c k x r.v.fr w' (by have := hP'.x0.c 0; simpa using this) (by have := hP'.x1.c 0; simpa using this) hN hk hn

set_option maxRecDepth 100000 in
set_option maxHeartbeats 4000000 in
theorem put_there (A : Option Addr) (n c : Nat) (rs : List Rw) (r : Rw) (w : World) (hS : Vers w A n rs) (hn : n ≤ 1000) (hM : Mean w (· < w.heap.size) r) (hSm : Sm r) (h : rgt (rs.map Rw.v) = true) (h2 : ver r.v = true) (h3 : has r.v.fr (rs.map Rw.v) = true) :
    Calls Tryz.prog 22 #[tg A n c, vg r] w (PutTo w (rs.map Rw.v) r.v) := by
  have HC := Lib.hid (cd_there h h2 h3)
  have H3 := Lib.hid h3
  clear h3
  have CR := fun w' (hb : Below w.heap.size w w') => Lib.hid (right_ A n c rs w' (hS.below hb) hn)
  have CV := fun w' (hb : Below w.heap.size w w') => Lib.hid (version_ r w' (hM.below hb) hSm)
  rw [h] at CR
  rw [h2] at CV
  have HP := Lib.hid (P0.start (w := w) (A := A) (n := n) (c := c) (r := r))
  have HS := Lib.hid hS
  have HM := Lib.hid hM
  have HR := Lib.hid h
  have HV := Lib.hid h2
  clear hS hM h h2
  go_enter Tryz.func22, Tryz.ntmps22
  go_wp2_with fail
  refine (CR _ HP.out.b).out.mono ?_
  rintro e w1 ⟨rfl, hb1⟩
  have HP1 := Lib.hid (HP.out.next hb1)
  have y0 := HP1.out.x1.c 0
  have y1 := HP1.out.x1.c 1
  have y2 := HP1.out.x1.c 2
  have y3 := HP1.out.x1.c 3
  have y4 := HP1.out.x1.c 4
  have y5 := HP1.out.x1.c 5
  have y6 := HP1.out.x1.c 6
  have y7 := HP1.out.x1.c 7
  have y8 := HP1.out.x1.c 8
  simp at y0 y1 y2 y3 y4 y5 y6 y7 y8
  clear hb1 HP CR
  go_wp2_with fail
  refine (CV _ HP1.out.b).out.mono ?_
  rintro e w2 ⟨rfl, hb2⟩
  have HP2 := Lib.hid (HP1.out.next hb2)
  have x0 := HP2.out.x0.c 0
  simp at x0
  clear hb2 HP1 CV y0 y1 y2 y3 y4 y5 y6 y7 y8
  go_wp2_with fail
  refine (put_search A n c rs r w w2 HS.out hn HP2.out HR.out).mono ?_
  rintro e w3 ⟨p, rfl, hPl, hb3⟩
  have HP3 := Lib.hid (HP2.out.next hb3)
  have HPl := Lib.hid hPl
  have hpn := hPl.le
  clear hb3 hPl x0 HP2
  have x0 := HP3.out.x0.c 0
  have x1 := HP3.out.x1.c 0
  simp at x0 x1
  have hplt : p < n := by
    rcases Nat.lt_or_ge p n with h | h
    · exact h
    · exfalso
      have := H3.out
      rw [has_not fun x hx => ?_] at this
      · cases this
      · obtain ⟨y, hy, rfl⟩ := List.mem_map.1 hx
        obtain ⟨i, hi, e⟩ := List.mem_iff_getElem.1 hy
        have := HPl.out.lo i y (by have := HS.out.r.1; omega) (by rw [List.getElem?_eq_getElem hi, e])
        omega
  obtain ⟨ad, rp, rfl, hb, hx, hN, _⟩ := (HS.out.below HP3.out.b).get hplt
  have c0 := hN.c0
  have he : rp.v.fr = r.v.fr := by
    have h1 := HPl.out.hi p rp (Nat.le_refl _) hx
    rcases Int.lt_or_eq_of_le h1 with h4 | h4
    · exfalso
      have := H3.out
      rw [has_not fun x hx => ?_] at this
      · cases this
      · obtain ⟨y, hy, rfl⟩ := List.mem_map.1 hx
        obtain ⟨i, hi, e⟩ := List.mem_iff_getElem.1 hy
        have hy2 : rs[i]? = some y := by rw [List.getElem?_eq_getElem hi, e]
        rcases Nat.lt_or_ge i p with h5 | h5
        · have := HPl.out.lo i y h5 hy2; omega
        · rcases Nat.eq_or_lt_of_le h5 with h6 | h6
          · subst h6; rw [‹rs[p]? = some rp›] at hy2; injection hy2 with hy2; subst hy2; omega
          · have := rise_lt (rgt_rise HR.out).2 h6 (map_get ‹rs[p]? = some rp›) (map_get hy2); omega
    · exact h4.symm
  have hplt2 : (p : Int) < (n : Int) := by omega
  have q1 : decide ((p : Int) < (n : Int)) = true := decide_eq_true hplt2
  have q1' : decide (p < n) = true := decide_eq_true hplt
  rw [he] at c0
  have z0 := HP3.out.x2.c 0
  have zf := HP3.out.x2.f 0
  simp at z0
  clear hN hb hx he
  go_wp2
  go_quiet (fail)
  have HPZ := Lib.hid (show P0 w (w3.drewN nq) (some ad) n c r from ⟨below_drewN HP3.out.b _, HP3.out.x0, HP3.out.x1, HP3.out.x2⟩)
  go_wp2
  refine bodyPost_ret (v := .tuple #[tg none 0 0, .int .i64 8]) (by simp [results, Tryz.results22, go_sem, z0]) rfl (put_out (HPZ.out.b.setCell (p := ⟨w.heap.size + 2, 0, none⟩) (by simp) _) HC.out (by omega))

set_option maxRecDepth 100000 in
set_option maxHeartbeats 4000000 in
theorem put_bound (A : Option Addr) (n c : Nat) (rs : List Rw) (r : Rw) (w : World) (hS : Vers w A n rs) (hn : n ≤ 1000) (hM : Mean w (· < w.heap.size) r) (hSm : Sm r) (h : rgt (rs.map Rw.v) = true) (h2 : ver r.v = true) (h3 : has r.v.fr (rs.map Rw.v) = false) (h4 : n = 100) :
    Calls Tryz.prog 22 #[tg A n c, vg r] w (PutTo w (rs.map Rw.v) r.v) := by
  have HC := Lib.hid (cd_bound h h2 h3 (hS.len.trans h4))
  have H3 := Lib.hid h3
  subst h4
  clear h3
  have CR := fun w' (hb : Below w.heap.size w w') => Lib.hid (right_ A 100 c rs w' (hS.below hb) hn)
  have CV := fun w' (hb : Below w.heap.size w w') => Lib.hid (version_ r w' (hM.below hb) hSm)
  rw [h] at CR
  rw [h2] at CV
  have HP := Lib.hid (P0.start (w := w) (A := A) (n := 100) (c := c) (r := r))
  have HS := Lib.hid hS
  have HM := Lib.hid hM
  have HR := Lib.hid h
  have HV := Lib.hid h2
  clear hS hM h h2
  go_enter Tryz.func22, Tryz.ntmps22
  go_wp2_with fail
  refine (CR _ HP.out.b).out.mono ?_
  rintro e w1 ⟨rfl, hb1⟩
  have HP1 := Lib.hid (HP.out.next hb1)
  have y0 := HP1.out.x1.c 0
  have y1 := HP1.out.x1.c 1
  have y2 := HP1.out.x1.c 2
  have y3 := HP1.out.x1.c 3
  have y4 := HP1.out.x1.c 4
  have y5 := HP1.out.x1.c 5
  have y6 := HP1.out.x1.c 6
  have y7 := HP1.out.x1.c 7
  have y8 := HP1.out.x1.c 8
  simp at y0 y1 y2 y3 y4 y5 y6 y7 y8
  clear hb1 HP CR
  go_wp2_with fail
  refine (CV _ HP1.out.b).out.mono ?_
  rintro e w2 ⟨rfl, hb2⟩
  have HP2 := Lib.hid (HP1.out.next hb2)
  have x0 := HP2.out.x0.c 0
  simp at x0
  clear hb2 HP1 CV y0 y1 y2 y3 y4 y5 y6 y7 y8
  go_wp2_with fail
  refine (put_search A 100 c rs r w w2 HS.out hn HP2.out HR.out).mono ?_
  rintro e w3 ⟨p, rfl, hPl, hb3⟩
  have HP3 := Lib.hid (HP2.out.next hb3)
  have HPl := Lib.hid hPl
  have hpn := hPl.le
  clear hb3 hPl x0 HP2
  have x0 := HP3.out.x0.c 0
  have x1 := HP3.out.x1.c 0
  simp at x0 x1
  rcases Nat.lt_or_ge p 100 with hplt | hplt
  · obtain ⟨ad, rp, rfl, hb, hx, hN, _⟩ := (HS.out.below HP3.out.b).get hplt
    have c0 := hN.c0
    have hne : rp.v.fr ≠ r.v.fr := has_false H3.out rp.v (List.mem_of_getElem? (map_get hx))
    have hplt2 : (p : Int) < 100 := by omega
    have q1 : decide ((p : Int) < 100) = true := decide_eq_true hplt2
    have q1' : decide (p < 100) = true := decide_eq_true hplt
    have q2 : (rp.v.fr == r.v.fr) = false := by simpa using hne
    have q2' : decide (rp.v.fr = r.v.fr) = false := decide_eq_false hne
    clear hN hb hx hne
    go_wp2
    go_quiet (fail)
    have HPZ := Lib.hid (show P0 w (w3.drewN nq) (some ad) 100 c r from ⟨below_drewN HP3.out.b _, HP3.out.x0, HP3.out.x1, HP3.out.x2⟩)
    clear c0 q2 q2' x0 x1
    have z0 := HPZ.out.x2.c 0
    have zf := HPZ.out.x2.f 0
    simp at z0
    go_wp2
    refine bodyPost_ret (v := .tuple #[tg none 0 0, .int .i64 2]) (by simp [results, Tryz.results22, go_sem, z0]) rfl (put_out (HPZ.out.b.setCell (p := ⟨w.heap.size + 2, 0, none⟩) (by simp) _) HC.out (by omega))
  · have q1 : decide ((p : Int) < 100) = false := decide_eq_false (by omega)
    have q1' : decide (p < 100) = false := decide_eq_false (by omega)
    go_wp2
    go_quiet (fail)
    have HPZ := Lib.hid (show P0 w (w3.drewN nq) A 100 c r from ⟨below_drewN HP3.out.b _, HP3.out.x0, HP3.out.x1, HP3.out.x2⟩)
    clear x0 x1
    have z0 := HPZ.out.x2.c 0
    have zf := HPZ.out.x2.f 0
    simp at z0
    go_wp2
    refine bodyPost_ret (v := .tuple #[tg none 0 0, .int .i64 2]) (by simp [results, Tryz.results22, go_sem, z0]) rfl (put_out (HPZ.out.b.setCell (p := ⟨w.heap.size + 2, 0, none⟩) (by simp) _) HC.out (by omega))

end Trf
end Go.Proofs.YtkdhcloaeifbdaaGreat

namespace Go.Proofs.YtkdhcloaeifbdaaGreat
open Go.RowKit Ba Tf
namespace Trf
set_option linter.unusedVariables false

theorem Raws.take {w : World} {ok : Nat → Prop} {A : Option Addr} {n p : Nat} {rs : List Rw} (h : Raws w ok A n rs) (hp : p ≤ n) : Raws w ok A p (rs.take p) := by
  refine ⟨by rw [List.length_take, h.1]; omega, fun h0 => ?_⟩
  obtain ⟨ad, e, hb, hc⟩ := h.2 (by omega)
  refine ⟨ad, e, hb, fun j x hx => hc j x ?_⟩
  rw [List.getElem?_take] at hx
  split at hx
  · exact hx
  · cases hx
theorem add_addr (a : Addr) (i j : Nat) : (a.add i).add j = a.add (i + j) := Go.Deep.add_add a i j
theorem Raws.drop {w : World} {ok : Nat → Prop} {ad : Addr} {n p : Nat} {rs : List Rw} (h : Raws w ok (some ad) n rs) (hp : p ≤ n) : Raws w ok (some (ad.add (p * 9))) (n - p) (rs.drop p) := by
  refine ⟨by rw [List.length_drop, h.1], fun h0 => ?_⟩
  obtain ⟨ad', e, hb, hc⟩ := h.2 (by omega)
  injection e with e
  subst e
  refine ⟨_, rfl, by rw [add_block]; exact hb, fun j x hx => ?_⟩
  rw [List.getElem?_drop] at hx
  have := hc _ _ hx
  rw [add_addr]
  rwa [show p * 9 + j * 9 = (p + j) * 9 by omega]
theorem raws_new (w : World) (r : Rw) : Raws (w.alloc (.cells (vc r) 58)) (· < w.heap.size + 1) (some ⟨w.heap.size, 0, none⟩) 1 [r] := by
  obtain ⟨A', c', e, hr⟩ := raws_own (Own.one w r)
  injection e with e1
  subst e1
  exact hr.keep (fun _ _ => rfl) fun b hb => by have := hb.2; rwa [World.size_alloc] at this

theorem Own.low {w : World} {base base' n c : Nat} {A : Option Addr} {xs : List Rw} (h : Own w base A n c xs) (hb : base' ≤ base) : Own w base' A n c xs := by
  refine ⟨h.1, ?_⟩
  rcases h.2 with h | ⟨g, cap, cur, e, hb2, hr⟩
  · exact .inl h
  · exact .inr ⟨g, cap, cur, e, by omega, hr⟩
theorem put_concat (W : World) (A C : Option Addr) (p c n3 c3 N : Nat) (r1 r3 : List Rw) (r : Rw) (hA : Raws W (· < W.heap.size) A p r1) (hC : Raws W (· < W.heap.size) C n3 r3) (zA : A = none → p = 0 ∧ c = 0) (zC : C = none → n3 = 0 ∧ c3 = 0) (hN : p + 1 + n3 = N) (hn : N ≤ 1000) :
    Calls Tryz.prog 47 #[.slice (some ⟨W.heap.size + 1, 0, none⟩) 3 3] ((W.alloc (.cells (vc r) 58)).alloc (.cells #[.slice A p c, .slice (some ⟨W.heap.size, 0, none⟩) 1 1, .slice C n3 c3] 32)).drew
      fun e w' => ∃ g cap, e = .returned (.slice (some ⟨g, 0, none⟩) N cap) ∧ Own w' W.heap.size (some ⟨g, 0, none⟩) N cap (r1 ++ [r] ++ r3) ∧ W.heap.size ≤ g ∧ g < w'.heap.size ∧ Below W.heap.size W w' := by
  obtain ⟨V, hV⟩ : ∃ V, ((W.alloc (.cells (vc r) 58)).alloc (.cells #[.slice A p c, .slice (some ⟨W.heap.size, 0, none⟩) 1 1, .slice C n3 c3] 32)).drew = V := ⟨_, rfl⟩
  have hb : Below W.heap.size W V := by
    have h : Below W.heap.size W ((W.alloc (.cells (vc r) 58)).alloc (.cells #[.slice A p c, .slice (some ⟨W.heap.size, 0, none⟩) 1 1, .slice C n3 c3] 32)) := (alloc_ _ _).alloc (by simp) _
    rw [← hV]
    exact ⟨h.os, h.tape, h.output, h.size, h.block⟩
  have hb2 : Below (W.heap.size + 1) (W.alloc (.cells (vc r) 58)) V := by
    have h := alloc_ (W.alloc (.cells (vc r) 58)) (.cells #[.slice A p c, .slice (some ⟨W.heap.size, 0, none⟩) 1 1, .slice C n3 c3] 32)
    rw [World.size_alloc] at h
    rw [← hV]
    exact ⟨h.os, h.tape, h.output, h.size, h.block⟩
  have hx : Bx V (W.heap.size + 1) 32 #[.slice A p c, .slice (some ⟨W.heap.size, 0, none⟩) 1 1, .slice C n3 c3] := by
    have h := Bx.new (W.alloc (.cells (vc r) 58)) 32 #[.slice A p c, .slice (some ⟨W.heap.size, 0, none⟩) 1 1, .slice C n3 c3]
    rw [World.size_alloc] at h
    rw [← hV]
    exact h
  rw [hV]
  have hsz := hb2.size
  rw [World.size_alloc] at hsz
  refine (concat (W.heap.size + 1) A (some ⟨W.heap.size, 0, none⟩) C p c 1 1 n3 c3 N r1 [r] r3 V hx (hA.keep (fun p hp => hb.cell hp) fun b h => Nat.lt_of_lt_of_le h hb.size) ((raws_new W r).keep (fun p hp => hb2.cell hp) fun b h => Nat.lt_of_lt_of_le h (by omega)) (hC.keep (fun p hp => hb.cell hp) fun b h => Nat.lt_of_lt_of_le h hb.size) zA (fun e => by cases e) zC hN (by omega) hn).mono ?_
  rintro e w' ⟨g, cap, rfl, hO, hlo, hlt, hB⟩
  exact ⟨g, cap, rfl, hO.low hb.size, Nat.le_trans hb.size hlo, hlt, hb.trans (hB.mono hb.size)⟩

set_option maxRecDepth 100000 in
set_option maxHeartbeats 4000000 in
theorem put_ok (A : Option Addr) (n c : Nat) (rs : List Rw) (r : Rw) (w : World) (hS : Vers w A n rs) (hn : n ≤ 1000) (hM : Mean w (· < w.heap.size) r) (hSm : Sm r) (hcap : n ≤ c) (hnil : A = none → n = 0 ∧ c = 0) (h : rgt (rs.map Rw.v) = true) (h2 : ver r.v = true) (h3 : has r.v.fr (rs.map Rw.v) = false) (h4 : n ≠ 100) :
    Calls Tryz.prog 22 #[tg A n c, vg r] w (PutTo w (rs.map Rw.v) r.v) := by
  have HC := Lib.hid (cd_ok h h2 h3 (by rw [hS.len]; exact h4))
  have H3 := Lib.hid h3
  have q4 : ((n : Int) == 100) = false := by simpa using (show ¬ (n : Int) = 100 by omega)
  have q4' : decide ((n : Int) = 100) = false := decide_eq_false (by omega)
  have HNIL := Lib.hid hnil
  clear h3 h4 hnil
  have CR := fun w' (hb : Below w.heap.size w w') => Lib.hid (right_ A n c rs w' (hS.below hb) hn)
  have CV := fun w' (hb : Below w.heap.size w w') => Lib.hid (version_ r w' (hM.below hb) hSm)
  rw [h] at CR
  rw [h2] at CV
  have HP := Lib.hid (P0.start (w := w) (A := A) (n := n) (c := c) (r := r))
  have HS := Lib.hid hS
  have HM := Lib.hid hM
  have HR := Lib.hid h
  have HV := Lib.hid h2
  clear hS hM h h2
  go_enter Tryz.func22, Tryz.ntmps22
  go_wp2_with fail
  refine (CR _ HP.out.b).out.mono ?_
  rintro e w1 ⟨rfl, hb1⟩
  have HP1 := Lib.hid (HP.out.next hb1)
  have y0 := HP1.out.x1.c 0
  have y1 := HP1.out.x1.c 1
  have y2 := HP1.out.x1.c 2
  have y3 := HP1.out.x1.c 3
  have y4 := HP1.out.x1.c 4
  have y5 := HP1.out.x1.c 5
  have y6 := HP1.out.x1.c 6
  have y7 := HP1.out.x1.c 7
  have y8 := HP1.out.x1.c 8
  simp at y0 y1 y2 y3 y4 y5 y6 y7 y8
  clear hb1 HP CR
  go_wp2_with fail
  refine (CV _ HP1.out.b).out.mono ?_
  rintro e w2 ⟨rfl, hb2⟩
  have HP2 := Lib.hid (HP1.out.next hb2)
  have x0 := HP2.out.x0.c 0
  simp at x0
  clear hb2 HP1 CV y0 y1 y2 y3 y4 y5 y6 y7 y8
  go_wp2_with fail
  refine (put_search A n c rs r w w2 HS.out hn HP2.out HR.out).mono ?_
  rintro e w3 ⟨p, rfl, hPl, hb3⟩
  have HP3 := Lib.hid (HP2.out.next hb3)
  have HPl := Lib.hid hPl
  have hpn := hPl.le
  clear hb3 hPl x0 HP2
  have x0 := HP3.out.x0.c 0
  have x1 := HP3.out.x1.c 0
  simp at x0 x1
  rcases Nat.lt_or_ge p n with hplt | hplt
  · obtain ⟨ad, rp, rfl, hb, hx, hN, _⟩ := (HS.out.below HP3.out.b).get hplt
    have c0 := hN.c0
    have hne : rp.v.fr ≠ r.v.fr := has_false H3.out rp.v (List.mem_of_getElem? (map_get hx))
    have hplt2 : (p : Int) < (n : Int) := by omega
    have q1 : decide ((p : Int) < (n : Int)) = true := decide_eq_true hplt2
    have q1' : decide (p < n) = true := decide_eq_true hplt
    have q2 : (rp.v.fr == r.v.fr) = false := by simpa using hne
    have q2' : decide (rp.v.fr = r.v.fr) = false := decide_eq_false hne
    clear hN hb hx hne
    go_wp2
    go_quiet (fail)
    have HPZ := Lib.hid (show P0 w (w3.drewN nq) (some ad) n c r from ⟨below_drewN HP3.out.b _, HP3.out.x0, HP3.out.x1, HP3.out.x2⟩)
    clear c0 q2 q2' x0 x1
    obtain ⟨W, hW⟩ : ∃ W, w3.drewN nq = W := ⟨_, rfl⟩
    rw [hW] at HPZ ⊢
    have x0 := HPZ.out.x0.c 0
    have u0 := HPZ.out.x1.c 0
    have u1 := HPZ.out.x1.c 1
    have u2 := HPZ.out.x1.c 2
    have u3 := HPZ.out.x1.c 3
    have u4 := HPZ.out.x1.c 4
    have u5 := HPZ.out.x1.c 5
    have u6 := HPZ.out.x1.c 6
    have u7 := HPZ.out.x1.c 7
    have u8 := HPZ.out.x1.c 8
    have zl := HPZ.out.x2.lt
    simp at x0 u0 u1 u2 u3 u4 u5 u6 u7 u8
    have hRW : Raws W (· < W.heap.size) (some ad) n rs := (HS.out.below HPZ.out.b).r
    obtain ⟨N, hN⟩ : ∃ N, p + 1 + (n - p) = N := ⟨_, rfl⟩
    have hN2 : N ≤ 1000 := by have := rgt_rise HR.out; rw [HS.out.len] at this; omega
    have CC := Lib.hid (put_concat W (some ad) (some (ad.add (p * 9))) p c (n - p) (c - p) N (rs.take p) (rs.drop p) r (hRW.take (by omega)) (hRW.drop (by omega)) (fun e => by cases e) (fun e => by cases e) hN hN2)
    have HE := Lib.hid (show ((rs.take p) ++ [r] ++ (rs.drop p)).map Rw.v = ins r.v (rs.map Rw.v) by rw [ins_place (p := p) (by rw [HS.out.len]; exact HPl.out.le) (fun i x hi hx => (by rw [List.getElem?_map] at hx; obtain ⟨y, hy, rfl⟩ := Option.map_eq_some_iff.1 hx; exact HPl.out.lo i y hi hy)) (fun i x hi hx => (by rw [List.getElem?_map] at hx; obtain ⟨y, hy, rfl⟩ := Option.map_eq_some_iff.1 hx; exact HPl.out.hi i y hi hy)), List.map_append, List.map_append, List.map_take, List.map_drop]; rfl)
    have HQ := Lib.hid (show ∀ x ∈ (rs.take p) ++ [r] ++ (rs.drop p), x ∈ rs ∨ x = r by
      intro x hx
      simp only [List.mem_append, List.mem_singleton] at hx
      rcases hx with (hx | hx) | hx
      · first | exact .inl (List.mem_of_mem_take hx) | cases hx
      · exact .inr hx
      · first | exact .inl (List.mem_of_mem_drop hx) | cases hx)
    have hpc : (p : Int) ≤ (c : Int) := by omega
    have hpn2 : (p : Int) ≤ (n : Int) := by omega
    have hnc2 : (n : Int) ≤ (c : Int) := by omega
    have hcp : ¬ c = p := by omega
    have HN0 := Lib.hid hN
    clear hW HP3 hRW hN
    go_wp2
    go_region_held3 (fun w' => w'.cell? ⟨w.heap.size, 0, none⟩ = some (.slice (some ad) n c) ∧ w'.cell? ⟨w.heap.size + 1, 0, none⟩ = some (.int .i64 r.v.fr) ∧ w'.cell? ⟨w.heap.size + 1, 1, none⟩ = some (.int .i64 r.v.b0) ∧ w'.cell? ⟨w.heap.size + 1, 2, none⟩ = some (.int .i64 r.v.b1) ∧ w'.cell? ⟨w.heap.size + 1, 3, none⟩ = some (.int .i64 r.v.b2) ∧ w'.cell? ⟨w.heap.size + 1, 4, none⟩ = some (.int .i64 r.v.b3) ∧ w'.cell? ⟨w.heap.size + 1, 5, none⟩ = some (.slice r.A r.la r.ca) ∧ w'.cell? ⟨w.heap.size + 1, 6, none⟩ = some (.slice r.Z r.lz r.cz) ∧ w'.cell? ⟨w.heap.size + 1, 7, none⟩ = some (.slice r.P r.lp r.cp) ∧ w'.cell? ⟨w.heap.size + 1, 8, none⟩ = some (.int .i64 r.v.mn))
      (first
        | go_keep
        | (go_split_ands
           refine ⟨?_, ?_, ?_, ?_, ?_, ?_, ?_, ?_, ?_, ?_⟩ <;> (rw [hB4.cell (by simp; omega)]; assumption))
        | fail)
      (first
        | (go_at_call 47; (refine CC.out.mono ?_); rintro e w4 ⟨g, cap, rfl, hO4, hlo, hlt, hB4⟩)
        | fail)
    have HPL := Lib.hid (PL.start (w := w) (W := W) HPZ.out.b HPZ.out.x2 hO4 hB4 hlo hlt HE.out (fun x hx => by rcases HQ.out x hx with h | h; exact HS.out.s x h; subst h; exact hSm) (fun x hx => by rcases HQ.out x hx with h | h; exact (HS.out.m x h).keep (fun p hp => HPZ.out.b.cell hp) fun _ h => h; subst h; exact HM.out.keep (fun p hp => HPZ.out.b.cell hp) fun _ h => h))
    have HNC := Lib.hid (show N ≤ cap by
      rcases hO4.2 with ⟨e, _⟩ | ⟨g', cap', cur, e, _, _, hnc, _⟩
      · cases e
      · injection e with _ _ e; omega)
    clear hO4 hB4 hlo hlt CC HQ HE HPZ x0 u0 u1 u2 u3 u4 u5 u6 u7 u8 zl
    go_wp2
    go_loopw [9, 10, 58] (fun s9 s10 i w' => ∃ (q : Nat) (w1 : World), q ≤ N ∧ i = .int .i64 (q : Int) ∧ w1 = w' ∧ Hid (PL w w1 g N (ins r.v (rs.map Rw.v)))) (fun _ _ i _ => N - (intOf i).toNat)
    case atStart => exact ⟨0, _, Nat.zero_le _, rfl, rfl, HPL⟩
    case round =>
      obtain ⟨q, w1, hq, rfl, rfl, HL⟩ := hrel
      clear HPL
      by_cases hlt : q < N
      · obtain ⟨rq, hx, hN9, hMq, hSq⟩ := HL.out.get hlt
        have hlt2 : (q : Int) < (N : Int) := by omega
        have hgl := HL.out.lt
        have CO := Lib.hid (own_ rq (w1.alloc (.cells (vc rq) 58)) _ (hMq.keep (fun p hp => (alloc_ w1 _).cell hp.2) fun _ h => h) (fun b hb => by have := hb.2; rw [World.size_alloc]; omega) hSq)
        have HN9 := Lib.hid hN9
        obtain ⟨c0, c1, c2, c3, c4, c5, c6, c7, c8⟩ := hN9
        have HX := Lib.hid hx
        clear hx hMq
        go_wp2_with fail
        refine CO.out.mono ?_
        rintro e w5 ⟨r5, rfl, e5, s5, m5, hb5⟩
        have HN5 := Lib.hid (HL.out.put hlt _ hb5 (r := r5) (by rw [e5]; exact HX.out) s5 m5)
        have hb5' := below_alloc hb5
        clear c0 c1 c2 c3 c4 c5 c6 c7 c8
        obtain ⟨c0, c1, c2, c3, c4, c5, c6, c7, c8⟩ := HN9.out.keep (w' := w5) (fun p hp => hb5'.cell (by rw [hp]; exact hgl))
        have f0 := (hb5'.frozen (p := ⟨g, q * 9, none⟩) hgl).trans (HL.out.fz _)
        have f1 := (hb5'.frozen (p := ⟨g, q * 9 + 1, none⟩) hgl).trans (HL.out.fz _)
        have f2 := (hb5'.frozen (p := ⟨g, q * 9 + 2, none⟩) hgl).trans (HL.out.fz _)
        have f3 := (hb5'.frozen (p := ⟨g, q * 9 + 3, none⟩) hgl).trans (HL.out.fz _)
        have f4 := (hb5'.frozen (p := ⟨g, q * 9 + 4, none⟩) hgl).trans (HL.out.fz _)
        have f5 := (hb5'.frozen (p := ⟨g, q * 9 + 5, none⟩) hgl).trans (HL.out.fz _)
        have f6 := (hb5'.frozen (p := ⟨g, q * 9 + 6, none⟩) hgl).trans (HL.out.fz _)
        have f7 := (hb5'.frozen (p := ⟨g, q * 9 + 7, none⟩) hgl).trans (HL.out.fz _)
        have f8 := (hb5'.frozen (p := ⟨g, q * 9 + 8, none⟩) hgl).trans (HL.out.fz _)
        dsimp only at c0 c1 c2 c3 c4 c5 c6 c7 c8
        clear hb5 hb5' CO m5 e5 HN9
        go_wp2
        go_roundw
        case rel => exact ⟨q + 1, _, by omega, by go_num, rfl, HN5⟩
        case measure => simp [intOf]; omega
      · obtain rfl : q = N := by omega
        obtain ⟨rs', hV, hE'⟩ := HL.out.done (.slice (some ⟨g, 0, none⟩) q cap)
        have HD := Lib.hid (And.intro hV hE')
        have z0 := HL.out.x.c 0
        have zf := HL.out.x.f 0
        have zl := HL.out.x.lt
        simp at z0
        clear hV hE'
        go_wp2
        refine bodyPost_ret (v := .tuple #[tg (some ⟨g, 0, none⟩) q cap, .int .i64 0]) (by simp [results, Tryz.results22, go_sem, z0]) rfl ⟨some ⟨g, 0, none⟩, q, cap, rs', by rw [HC.out], HD.out.1, by rw [pt_ok HC.out]; exact HD.out.2, HNC.out, (fun e => by cases e), HL.out.b.setCell (p := ⟨w.heap.size + 2, 0, none⟩) (by show w.heap.size ≤ w.heap.size + 2; omega) _⟩
  · obtain rfl : p = n := by omega
    have q1 : decide ((p : Int) < (p : Int)) = false := decide_eq_false (by omega)
    have q1' : decide (p < p) = false := decide_eq_false (by omega)
    cases A with
    | some ad =>
      go_wp2
      go_quiet (fail)
      have HPZ := Lib.hid (show P0 w (w3.drewN nq) (some ad) p c r from ⟨below_drewN HP3.out.b _, HP3.out.x0, HP3.out.x1, HP3.out.x2⟩)
      clear x0 x1
      by_cases hcp : c = p
      · obtain rfl : c = p := hcp
        obtain ⟨W, hW⟩ : ∃ W, w3.drewN nq = W := ⟨_, rfl⟩
        rw [hW] at HPZ ⊢
        have x0 := HPZ.out.x0.c 0
        have u0 := HPZ.out.x1.c 0
        have u1 := HPZ.out.x1.c 1
        have u2 := HPZ.out.x1.c 2
        have u3 := HPZ.out.x1.c 3
        have u4 := HPZ.out.x1.c 4
        have u5 := HPZ.out.x1.c 5
        have u6 := HPZ.out.x1.c 6
        have u7 := HPZ.out.x1.c 7
        have u8 := HPZ.out.x1.c 8
        have zl := HPZ.out.x2.lt
        simp at x0 u0 u1 u2 u3 u4 u5 u6 u7 u8
        have hRW : Raws W (· < W.heap.size) (some ad) c rs := (HS.out.below HPZ.out.b).r
        obtain ⟨N, hN⟩ : ∃ N, c + 1 + 0 = N := ⟨_, rfl⟩
        have hN2 : N ≤ 1000 := by have := rgt_rise HR.out; rw [HS.out.len] at this; omega
        have CC := Lib.hid (put_concat W (some ad) (some ad) c c 0 0 N (rs.take c) [] r (hRW.take (by omega)) Raws.nil (fun e => by cases e) (fun e => by cases e) hN hN2)
        have HE := Lib.hid (show ((rs.take c) ++ [r] ++ []).map Rw.v = ins r.v (rs.map Rw.v) by rw [ins_place (p := c) (by rw [HS.out.len]; exact HPl.out.le) (fun i x hi hx => (by rw [List.getElem?_map] at hx; obtain ⟨y, hy, rfl⟩ := Option.map_eq_some_iff.1 hx; exact HPl.out.lo i y hi hy)) (fun i x hi hx => (by rw [List.getElem?_map] at hx; obtain ⟨y, hy, rfl⟩ := Option.map_eq_some_iff.1 hx; exact HPl.out.hi i y hi hy)), List.map_append, List.map_append, List.map_take, List.drop_of_length_le (by rw [HS.out.len]; omega)]; rfl)
        have HQ := Lib.hid (show ∀ x ∈ (rs.take c) ++ [r] ++ [], x ∈ rs ∨ x = r by
          intro x hx
          simp only [List.mem_append, List.mem_singleton] at hx
          rcases hx with (hx | hx) | hx
          · first | exact .inl (List.mem_of_mem_take hx) | cases hx
          · exact .inr hx
          · first | exact .inl (List.mem_of_mem_drop hx) | cases hx)
        have HN0 := Lib.hid hN
        clear hW HP3 hRW hN
        go_wp2
        go_region_held3 (fun w' => w'.cell? ⟨w.heap.size, 0, none⟩ = some (.slice (some ad) c c) ∧ w'.cell? ⟨w.heap.size + 1, 0, none⟩ = some (.int .i64 r.v.fr) ∧ w'.cell? ⟨w.heap.size + 1, 1, none⟩ = some (.int .i64 r.v.b0) ∧ w'.cell? ⟨w.heap.size + 1, 2, none⟩ = some (.int .i64 r.v.b1) ∧ w'.cell? ⟨w.heap.size + 1, 3, none⟩ = some (.int .i64 r.v.b2) ∧ w'.cell? ⟨w.heap.size + 1, 4, none⟩ = some (.int .i64 r.v.b3) ∧ w'.cell? ⟨w.heap.size + 1, 5, none⟩ = some (.slice r.A r.la r.ca) ∧ w'.cell? ⟨w.heap.size + 1, 6, none⟩ = some (.slice r.Z r.lz r.cz) ∧ w'.cell? ⟨w.heap.size + 1, 7, none⟩ = some (.slice r.P r.lp r.cp) ∧ w'.cell? ⟨w.heap.size + 1, 8, none⟩ = some (.int .i64 r.v.mn))
          (first
            | go_keep
            | (go_split_ands
               refine ⟨?_, ?_, ?_, ?_, ?_, ?_, ?_, ?_, ?_, ?_⟩ <;> (rw [hB4.cell (by simp; omega)]; assumption))
            | fail)
          (first
            | (go_at_call 47; (refine CC.out.mono ?_); rintro e w4 ⟨g, cap, rfl, hO4, hlo, hlt, hB4⟩)
            | fail)
        have HPL := Lib.hid (PL.start (w := w) (W := W) HPZ.out.b HPZ.out.x2 hO4 hB4 hlo hlt HE.out (fun x hx => by rcases HQ.out x hx with h | h; exact HS.out.s x h; subst h; exact hSm) (fun x hx => by rcases HQ.out x hx with h | h; exact (HS.out.m x h).keep (fun p hp => HPZ.out.b.cell hp) fun _ h => h; subst h; exact HM.out.keep (fun p hp => HPZ.out.b.cell hp) fun _ h => h))
        have HNC := Lib.hid (show N ≤ cap by
          rcases hO4.2 with ⟨e, _⟩ | ⟨g', cap', cur, e, _, _, hnc, _⟩
          · cases e
          · injection e with _ _ e; omega)
        clear hO4 hB4 hlo hlt CC HQ HE HPZ x0 u0 u1 u2 u3 u4 u5 u6 u7 u8 zl
        go_wp2
        go_loopw [9, 10, 58] (fun s9 s10 i w' => ∃ (q : Nat) (w1 : World), q ≤ N ∧ i = .int .i64 (q : Int) ∧ w1 = w' ∧ Hid (PL w w1 g N (ins r.v (rs.map Rw.v)))) (fun _ _ i _ => N - (intOf i).toNat)
        case atStart => exact ⟨0, _, Nat.zero_le _, rfl, rfl, HPL⟩
        case round =>
          obtain ⟨q, w1, hq, rfl, rfl, HL⟩ := hrel
          clear HPL
          by_cases hlt : q < N
          · obtain ⟨rq, hx, hN9, hMq, hSq⟩ := HL.out.get hlt
            have hlt2 : (q : Int) < (N : Int) := by omega
            have hgl := HL.out.lt
            have CO := Lib.hid (own_ rq (w1.alloc (.cells (vc rq) 58)) _ (hMq.keep (fun p hp => (alloc_ w1 _).cell hp.2) fun _ h => h) (fun b hb => by have := hb.2; rw [World.size_alloc]; omega) hSq)
            have HN9 := Lib.hid hN9
            obtain ⟨c0, c1, c2, c3, c4, c5, c6, c7, c8⟩ := hN9
            have HX := Lib.hid hx
            clear hx hMq
            go_wp2_with fail
            refine CO.out.mono ?_
            rintro e w5 ⟨r5, rfl, e5, s5, m5, hb5⟩
            have HN5 := Lib.hid (HL.out.put hlt _ hb5 (r := r5) (by rw [e5]; exact HX.out) s5 m5)
            have hb5' := below_alloc hb5
            clear c0 c1 c2 c3 c4 c5 c6 c7 c8
            obtain ⟨c0, c1, c2, c3, c4, c5, c6, c7, c8⟩ := HN9.out.keep (w' := w5) (fun p hp => hb5'.cell (by rw [hp]; exact hgl))
            have f0 := (hb5'.frozen (p := ⟨g, q * 9, none⟩) hgl).trans (HL.out.fz _)
            have f1 := (hb5'.frozen (p := ⟨g, q * 9 + 1, none⟩) hgl).trans (HL.out.fz _)
            have f2 := (hb5'.frozen (p := ⟨g, q * 9 + 2, none⟩) hgl).trans (HL.out.fz _)
            have f3 := (hb5'.frozen (p := ⟨g, q * 9 + 3, none⟩) hgl).trans (HL.out.fz _)
            have f4 := (hb5'.frozen (p := ⟨g, q * 9 + 4, none⟩) hgl).trans (HL.out.fz _)
            have f5 := (hb5'.frozen (p := ⟨g, q * 9 + 5, none⟩) hgl).trans (HL.out.fz _)
            have f6 := (hb5'.frozen (p := ⟨g, q * 9 + 6, none⟩) hgl).trans (HL.out.fz _)
            have f7 := (hb5'.frozen (p := ⟨g, q * 9 + 7, none⟩) hgl).trans (HL.out.fz _)
            have f8 := (hb5'.frozen (p := ⟨g, q * 9 + 8, none⟩) hgl).trans (HL.out.fz _)
            dsimp only at c0 c1 c2 c3 c4 c5 c6 c7 c8
            clear hb5 hb5' CO m5 e5 HN9
            go_wp2
            go_roundw
            case rel => exact ⟨q + 1, _, by omega, by go_num, rfl, HN5⟩
            case measure => simp [intOf]; omega
          · obtain rfl : q = N := by omega
            obtain ⟨rs', hV, hE'⟩ := HL.out.done (.slice (some ⟨g, 0, none⟩) q cap)
            have HD := Lib.hid (And.intro hV hE')
            have z0 := HL.out.x.c 0
            have zf := HL.out.x.f 0
            have zl := HL.out.x.lt
            simp at z0
            clear hV hE'
            go_wp2
            refine bodyPost_ret (v := .tuple #[tg (some ⟨g, 0, none⟩) q cap, .int .i64 0]) (by simp [results, Tryz.results22, go_sem, z0]) rfl ⟨some ⟨g, 0, none⟩, q, cap, rs', by rw [HC.out], HD.out.1, by rw [pt_ok HC.out]; exact HD.out.2, HNC.out, (fun e => by cases e), HL.out.b.setCell (p := ⟨w.heap.size + 2, 0, none⟩) (by show w.heap.size ≤ w.heap.size + 2; omega) _⟩
      · skip
        obtain ⟨W, hW⟩ : ∃ W, w3.drewN nq = W := ⟨_, rfl⟩
        rw [hW] at HPZ ⊢
        have x0 := HPZ.out.x0.c 0
        have u0 := HPZ.out.x1.c 0
        have u1 := HPZ.out.x1.c 1
        have u2 := HPZ.out.x1.c 2
        have u3 := HPZ.out.x1.c 3
        have u4 := HPZ.out.x1.c 4
        have u5 := HPZ.out.x1.c 5
        have u6 := HPZ.out.x1.c 6
        have u7 := HPZ.out.x1.c 7
        have u8 := HPZ.out.x1.c 8
        have zl := HPZ.out.x2.lt
        simp at x0 u0 u1 u2 u3 u4 u5 u6 u7 u8
        have hRW : Raws W (· < W.heap.size) (some ad) p rs := (HS.out.below HPZ.out.b).r
        obtain ⟨N, hN⟩ : ∃ N, p + 1 + 0 = N := ⟨_, rfl⟩
        have hN2 : N ≤ 1000 := by have := rgt_rise HR.out; rw [HS.out.len] at this; omega
        have CC := Lib.hid (put_concat W (some ad) (some (ad.add (p * 9))) p c 0 (c - p) N (rs.take p) [] r (hRW.take (by omega)) Raws.nil (fun e => by cases e) (fun e => by cases e) hN hN2)
        have HE := Lib.hid (show ((rs.take p) ++ [r] ++ []).map Rw.v = ins r.v (rs.map Rw.v) by rw [ins_place (p := p) (by rw [HS.out.len]; exact HPl.out.le) (fun i x hi hx => (by rw [List.getElem?_map] at hx; obtain ⟨y, hy, rfl⟩ := Option.map_eq_some_iff.1 hx; exact HPl.out.lo i y hi hy)) (fun i x hi hx => (by rw [List.getElem?_map] at hx; obtain ⟨y, hy, rfl⟩ := Option.map_eq_some_iff.1 hx; exact HPl.out.hi i y hi hy)), List.map_append, List.map_append, List.map_take, List.drop_of_length_le (by rw [HS.out.len]; omega)]; rfl)
        have HQ := Lib.hid (show ∀ x ∈ (rs.take p) ++ [r] ++ [], x ∈ rs ∨ x = r by
          intro x hx
          simp only [List.mem_append, List.mem_singleton] at hx
          rcases hx with (hx | hx) | hx
          · first | exact .inl (List.mem_of_mem_take hx) | cases hx
          · exact .inr hx
          · first | exact .inl (List.mem_of_mem_drop hx) | cases hx)
        have hnc2 : (p : Int) ≤ (c : Int) := by omega
        have HN0 := Lib.hid hN
        clear hW HP3 hRW hN
        go_wp2
        go_region_held3 (fun w' => w'.cell? ⟨w.heap.size, 0, none⟩ = some (.slice (some ad) p c) ∧ w'.cell? ⟨w.heap.size + 1, 0, none⟩ = some (.int .i64 r.v.fr) ∧ w'.cell? ⟨w.heap.size + 1, 1, none⟩ = some (.int .i64 r.v.b0) ∧ w'.cell? ⟨w.heap.size + 1, 2, none⟩ = some (.int .i64 r.v.b1) ∧ w'.cell? ⟨w.heap.size + 1, 3, none⟩ = some (.int .i64 r.v.b2) ∧ w'.cell? ⟨w.heap.size + 1, 4, none⟩ = some (.int .i64 r.v.b3) ∧ w'.cell? ⟨w.heap.size + 1, 5, none⟩ = some (.slice r.A r.la r.ca) ∧ w'.cell? ⟨w.heap.size + 1, 6, none⟩ = some (.slice r.Z r.lz r.cz) ∧ w'.cell? ⟨w.heap.size + 1, 7, none⟩ = some (.slice r.P r.lp r.cp) ∧ w'.cell? ⟨w.heap.size + 1, 8, none⟩ = some (.int .i64 r.v.mn))
          (first
            | go_keep
            | (go_split_ands
               refine ⟨?_, ?_, ?_, ?_, ?_, ?_, ?_, ?_, ?_, ?_⟩ <;> (rw [hB4.cell (by simp; omega)]; assumption))
            | fail)
          (first
            | (go_at_call 47; (refine CC.out.mono ?_); rintro e w4 ⟨g, cap, rfl, hO4, hlo, hlt, hB4⟩)
            | fail)
        have HPL := Lib.hid (PL.start (w := w) (W := W) HPZ.out.b HPZ.out.x2 hO4 hB4 hlo hlt HE.out (fun x hx => by rcases HQ.out x hx with h | h; exact HS.out.s x h; subst h; exact hSm) (fun x hx => by rcases HQ.out x hx with h | h; exact (HS.out.m x h).keep (fun p hp => HPZ.out.b.cell hp) fun _ h => h; subst h; exact HM.out.keep (fun p hp => HPZ.out.b.cell hp) fun _ h => h))
        have HNC := Lib.hid (show N ≤ cap by
          rcases hO4.2 with ⟨e, _⟩ | ⟨g', cap', cur, e, _, _, hnc, _⟩
          · cases e
          · injection e with _ _ e; omega)
        clear hO4 hB4 hlo hlt CC HQ HE HPZ x0 u0 u1 u2 u3 u4 u5 u6 u7 u8 zl
        go_wp2
        go_loopw [9, 10, 58] (fun s9 s10 i w' => ∃ (q : Nat) (w1 : World), q ≤ N ∧ i = .int .i64 (q : Int) ∧ w1 = w' ∧ Hid (PL w w1 g N (ins r.v (rs.map Rw.v)))) (fun _ _ i _ => N - (intOf i).toNat)
        case atStart => exact ⟨0, _, Nat.zero_le _, rfl, rfl, HPL⟩
        case round =>
          obtain ⟨q, w1, hq, rfl, rfl, HL⟩ := hrel
          clear HPL
          by_cases hlt : q < N
          · obtain ⟨rq, hx, hN9, hMq, hSq⟩ := HL.out.get hlt
            have hlt2 : (q : Int) < (N : Int) := by omega
            have hgl := HL.out.lt
            have CO := Lib.hid (own_ rq (w1.alloc (.cells (vc rq) 58)) _ (hMq.keep (fun p hp => (alloc_ w1 _).cell hp.2) fun _ h => h) (fun b hb => by have := hb.2; rw [World.size_alloc]; omega) hSq)
            have HN9 := Lib.hid hN9
            obtain ⟨c0, c1, c2, c3, c4, c5, c6, c7, c8⟩ := hN9
            have HX := Lib.hid hx
            clear hx hMq
            go_wp2_with fail
            refine CO.out.mono ?_
            rintro e w5 ⟨r5, rfl, e5, s5, m5, hb5⟩
            have HN5 := Lib.hid (HL.out.put hlt _ hb5 (r := r5) (by rw [e5]; exact HX.out) s5 m5)
            have hb5' := below_alloc hb5
            clear c0 c1 c2 c3 c4 c5 c6 c7 c8
            obtain ⟨c0, c1, c2, c3, c4, c5, c6, c7, c8⟩ := HN9.out.keep (w' := w5) (fun p hp => hb5'.cell (by rw [hp]; exact hgl))
            have f0 := (hb5'.frozen (p := ⟨g, q * 9, none⟩) hgl).trans (HL.out.fz _)
            have f1 := (hb5'.frozen (p := ⟨g, q * 9 + 1, none⟩) hgl).trans (HL.out.fz _)
            have f2 := (hb5'.frozen (p := ⟨g, q * 9 + 2, none⟩) hgl).trans (HL.out.fz _)
            have f3 := (hb5'.frozen (p := ⟨g, q * 9 + 3, none⟩) hgl).trans (HL.out.fz _)
            have f4 := (hb5'.frozen (p := ⟨g, q * 9 + 4, none⟩) hgl).trans (HL.out.fz _)
            have f5 := (hb5'.frozen (p := ⟨g, q * 9 + 5, none⟩) hgl).trans (HL.out.fz _)
            have f6 := (hb5'.frozen (p := ⟨g, q * 9 + 6, none⟩) hgl).trans (HL.out.fz _)
            have f7 := (hb5'.frozen (p := ⟨g, q * 9 + 7, none⟩) hgl).trans (HL.out.fz _)
            have f8 := (hb5'.frozen (p := ⟨g, q * 9 + 8, none⟩) hgl).trans (HL.out.fz _)
            dsimp only at c0 c1 c2 c3 c4 c5 c6 c7 c8
            clear hb5 hb5' CO m5 e5 HN9
            go_wp2
            go_roundw
            case rel => exact ⟨q + 1, _, by omega, by go_num, rfl, HN5⟩
            case measure => simp [intOf]; omega
          · obtain rfl : q = N := by omega
            obtain ⟨rs', hV, hE'⟩ := HL.out.done (.slice (some ⟨g, 0, none⟩) q cap)
            have HD := Lib.hid (And.intro hV hE')
            have z0 := HL.out.x.c 0
            have zf := HL.out.x.f 0
            have zl := HL.out.x.lt
            simp at z0
            clear hV hE'
            go_wp2
            refine bodyPost_ret (v := .tuple #[tg (some ⟨g, 0, none⟩) q cap, .int .i64 0]) (by simp [results, Tryz.results22, go_sem, z0]) rfl ⟨some ⟨g, 0, none⟩, q, cap, rs', by rw [HC.out], HD.out.1, by rw [pt_ok HC.out]; exact HD.out.2, HNC.out, (fun e => by cases e), HL.out.b.setCell (p := ⟨w.heap.size + 2, 0, none⟩) (by show w.heap.size ≤ w.heap.size + 2; omega) _⟩
    | none =>
      obtain ⟨rfl, rfl⟩ := HNIL.out rfl
      go_wp2
      go_quiet (fail)
      have HPZ := Lib.hid (show P0 w (w3.drewN nq) none 0 0 r from ⟨below_drewN HP3.out.b _, HP3.out.x0, HP3.out.x1, HP3.out.x2⟩)
      clear x0 x1
      obtain ⟨W, hW⟩ : ∃ W, w3.drewN nq = W := ⟨_, rfl⟩
      rw [hW] at HPZ ⊢
      have x0 := HPZ.out.x0.c 0
      have u0 := HPZ.out.x1.c 0
      have u1 := HPZ.out.x1.c 1
      have u2 := HPZ.out.x1.c 2
      have u3 := HPZ.out.x1.c 3
      have u4 := HPZ.out.x1.c 4
      have u5 := HPZ.out.x1.c 5
      have u6 := HPZ.out.x1.c 6
      have u7 := HPZ.out.x1.c 7
      have u8 := HPZ.out.x1.c 8
      have zl := HPZ.out.x2.lt
      simp at x0 u0 u1 u2 u3 u4 u5 u6 u7 u8
      have hRW : Raws W (· < W.heap.size) none 0 rs := (HS.out.below HPZ.out.b).r
      obtain ⟨N, hN⟩ : ∃ N, 0 + 1 + 0 = N := ⟨_, rfl⟩
      have hN2 : N ≤ 1000 := by have := rgt_rise HR.out; rw [HS.out.len] at this; omega
      have CC := Lib.hid (put_concat W none none 0 0 0 0 N [] [] r Raws.nil Raws.nil (fun _ => ⟨rfl, rfl⟩) (fun _ => ⟨rfl, rfl⟩) hN hN2)
      have HE := Lib.hid (show ([] ++ [r] ++ []).map Rw.v = ins r.v (rs.map Rw.v) by have := HS.out.r.1; rw [List.eq_nil_of_length_eq_zero this]; rfl)
      have HQ := Lib.hid (show ∀ x ∈ [] ++ [r] ++ [], x ∈ rs ∨ x = r by
        intro x hx
        simp only [List.mem_append, List.mem_singleton] at hx
        rcases hx with (hx | hx) | hx
        · first | exact .inl (List.mem_of_mem_take hx) | cases hx
        · exact .inr hx
        · first | exact .inl (List.mem_of_mem_drop hx) | cases hx)
      have HN0 := Lib.hid hN
      clear hW HP3 hRW hN
      go_wp2
      go_region_held3 (fun w' => w'.cell? ⟨w.heap.size, 0, none⟩ = some (.slice none 0 0) ∧ w'.cell? ⟨w.heap.size + 1, 0, none⟩ = some (.int .i64 r.v.fr) ∧ w'.cell? ⟨w.heap.size + 1, 1, none⟩ = some (.int .i64 r.v.b0) ∧ w'.cell? ⟨w.heap.size + 1, 2, none⟩ = some (.int .i64 r.v.b1) ∧ w'.cell? ⟨w.heap.size + 1, 3, none⟩ = some (.int .i64 r.v.b2) ∧ w'.cell? ⟨w.heap.size + 1, 4, none⟩ = some (.int .i64 r.v.b3) ∧ w'.cell? ⟨w.heap.size + 1, 5, none⟩ = some (.slice r.A r.la r.ca) ∧ w'.cell? ⟨w.heap.size + 1, 6, none⟩ = some (.slice r.Z r.lz r.cz) ∧ w'.cell? ⟨w.heap.size + 1, 7, none⟩ = some (.slice r.P r.lp r.cp) ∧ w'.cell? ⟨w.heap.size + 1, 8, none⟩ = some (.int .i64 r.v.mn))
        (first
          | go_keep
          | (go_split_ands
             refine ⟨?_, ?_, ?_, ?_, ?_, ?_, ?_, ?_, ?_, ?_⟩ <;> (rw [hB4.cell (by simp; omega)]; assumption))
          | fail)
        (first
          | (go_at_call 47; (refine CC.out.mono ?_); rintro e w4 ⟨g, cap, rfl, hO4, hlo, hlt, hB4⟩)
          | fail)
      have HPL := Lib.hid (PL.start (w := w) (W := W) HPZ.out.b HPZ.out.x2 hO4 hB4 hlo hlt HE.out (fun x hx => by rcases HQ.out x hx with h | h; exact HS.out.s x h; subst h; exact hSm) (fun x hx => by rcases HQ.out x hx with h | h; exact (HS.out.m x h).keep (fun p hp => HPZ.out.b.cell hp) fun _ h => h; subst h; exact HM.out.keep (fun p hp => HPZ.out.b.cell hp) fun _ h => h))
      have HNC := Lib.hid (show N ≤ cap by
        rcases hO4.2 with ⟨e, _⟩ | ⟨g', cap', cur, e, _, _, hnc, _⟩
        · cases e
        · injection e with _ _ e; omega)
      clear hO4 hB4 hlo hlt CC HQ HE HPZ x0 u0 u1 u2 u3 u4 u5 u6 u7 u8 zl
      go_wp2
      go_loopw [9, 10, 58] (fun s9 s10 i w' => ∃ (q : Nat) (w1 : World), q ≤ N ∧ i = .int .i64 (q : Int) ∧ w1 = w' ∧ Hid (PL w w1 g N (ins r.v (rs.map Rw.v)))) (fun _ _ i _ => N - (intOf i).toNat)
      case atStart => exact ⟨0, _, Nat.zero_le _, rfl, rfl, HPL⟩
      case round =>
        obtain ⟨q, w1, hq, rfl, rfl, HL⟩ := hrel
        clear HPL
        by_cases hlt : q < N
        · obtain ⟨rq, hx, hN9, hMq, hSq⟩ := HL.out.get hlt
          have hlt2 : (q : Int) < (N : Int) := by omega
          have hgl := HL.out.lt
          have CO := Lib.hid (own_ rq (w1.alloc (.cells (vc rq) 58)) _ (hMq.keep (fun p hp => (alloc_ w1 _).cell hp.2) fun _ h => h) (fun b hb => by have := hb.2; rw [World.size_alloc]; omega) hSq)
          have HN9 := Lib.hid hN9
          obtain ⟨c0, c1, c2, c3, c4, c5, c6, c7, c8⟩ := hN9
          have HX := Lib.hid hx
          clear hx hMq
          go_wp2_with fail
          refine CO.out.mono ?_
          rintro e w5 ⟨r5, rfl, e5, s5, m5, hb5⟩
          have HN5 := Lib.hid (HL.out.put hlt _ hb5 (r := r5) (by rw [e5]; exact HX.out) s5 m5)
          have hb5' := below_alloc hb5
          clear c0 c1 c2 c3 c4 c5 c6 c7 c8
          obtain ⟨c0, c1, c2, c3, c4, c5, c6, c7, c8⟩ := HN9.out.keep (w' := w5) (fun p hp => hb5'.cell (by rw [hp]; exact hgl))
          have f0 := (hb5'.frozen (p := ⟨g, q * 9, none⟩) hgl).trans (HL.out.fz _)
          have f1 := (hb5'.frozen (p := ⟨g, q * 9 + 1, none⟩) hgl).trans (HL.out.fz _)
          have f2 := (hb5'.frozen (p := ⟨g, q * 9 + 2, none⟩) hgl).trans (HL.out.fz _)
          have f3 := (hb5'.frozen (p := ⟨g, q * 9 + 3, none⟩) hgl).trans (HL.out.fz _)
          have f4 := (hb5'.frozen (p := ⟨g, q * 9 + 4, none⟩) hgl).trans (HL.out.fz _)
          have f5 := (hb5'.frozen (p := ⟨g, q * 9 + 5, none⟩) hgl).trans (HL.out.fz _)
          have f6 := (hb5'.frozen (p := ⟨g, q * 9 + 6, none⟩) hgl).trans (HL.out.fz _)
          have f7 := (hb5'.frozen (p := ⟨g, q * 9 + 7, none⟩) hgl).trans (HL.out.fz _)
          have f8 := (hb5'.frozen (p := ⟨g, q * 9 + 8, none⟩) hgl).trans (HL.out.fz _)
          dsimp only at c0 c1 c2 c3 c4 c5 c6 c7 c8
          clear hb5 hb5' CO m5 e5 HN9
          go_wp2
          go_roundw
          case rel => exact ⟨q + 1, _, by omega, by go_num, rfl, HN5⟩
          case measure => simp [intOf]; omega
        · obtain rfl : q = N := by omega
          obtain ⟨rs', hV, hE'⟩ := HL.out.done (.slice (some ⟨g, 0, none⟩) q cap)
          have HD := Lib.hid (And.intro hV hE')
          have z0 := HL.out.x.c 0
          have zf := HL.out.x.f 0
          have zl := HL.out.x.lt
          simp at z0
          clear hV hE'
          go_wp2
          refine bodyPost_ret (v := .tuple #[tg (some ⟨g, 0, none⟩) q cap, .int .i64 0]) (by simp [results, Tryz.results22, go_sem, z0]) rfl ⟨some ⟨g, 0, none⟩, q, cap, rs', by rw [HC.out], HD.out.1, by rw [pt_ok HC.out]; exact HD.out.2, HNC.out, (fun e => by cases e), HL.out.b.setCell (p := ⟨w.heap.size + 2, 0, none⟩) (by show w.heap.size ≤ w.heap.size + 2; omega) _⟩

end Trf
end Go.Proofs.YtkdhcloaeifbdaaGreat
