/-
  Version of package tariff. Conditions: the version's lists read as lists, and are no longer than memory.
-/
import Derived.Test.YtinhhphnbbdoeaaOne
namespace Go.Proofs.Ytinhhphnbbdoeaa
open Go.RowKit Ba Tf
namespace Qo
set_option linter.unusedVariables false

/-- Lists are no longer than memory. -/
structure Lo (r : Rw) : Prop where
  a : r.la ≤ 140737488355328
  z : r.lz ≤ 140737488355328
  p : r.lp ≤ 140737488355328

theorem base_ins (w : World) (r : Rw) (W : World) (h : Bx W w.heap.size 26 (vc r)) : Ins W (fun _ => True) (some ⟨w.heap.size, 1, none⟩) 4 [r.v.b0, r.v.b1, r.v.b2, r.v.b3] := by
  refine ⟨rfl, fun _ => ⟨_, rfl, trivial, fun j x hx => ?_⟩⟩
  rw [Addr.add_lit, h.c]
  match j, hx with
  | 0, hx => injection hx with hx; subst hx; rfl
  | 1, hx => injection hx with hx; subst hx; rfl
  | 2, hx => injection hx with hx; subst hx; rfl
  | 3, hx => injection hx with hx; subst hx; rfl

set_option maxRecDepth 100000 in
set_option maxHeartbeats 4000000 in
theorem version_ (r : Rw) (w : World) (M : Mean w (· < w.heap.size) r) (S : Lo r) :
    Calls Try.prog 18 #[vg r] w (Yes w (ver r.v)) := by
  have hz1 := M.z.1
  have hp1 := M.p.1
  have sa := S.a
  have sz := S.z
  have sp := S.p
  have HBx := Lib.hid (Bx.new w 26 (vc r))
  have CW := fun n lo hi w => Lib.hid (twithin n lo hi w)
  have CB := Lib.hid (factors (some ⟨w.heap.size, 1, none⟩) 4 4 [r.v.b0, r.v.b1, r.v.b2, r.v.b3] (w.alloc (.cells (vc r) 26)) _ (base_ins w r _ HBx.out) (by unfold maxLen; omega))
  have CZ := Lib.hid (factors r.Z r.lz r.cz r.v.zn (w.alloc (.cells (vc r) 26)) _ (M.z.below (alloc_ _ _)) (by unfold maxLen; omega))
  have CP := Lib.hid (factors r.P r.lp r.cp r.v.pe (w.alloc (.cells (vc r) 26)) _ (M.p.below (alloc_ _ _)) (by unfold maxLen; omega))
  have CA := Lib.hid (bands_ r.A r.la r.ca r.v.ag (w.alloc (.cells (vc r) 26)) (M.a.below (alloc_ _ _)) (by unfold maxLen; omega))
  have HV := Lib.hid (show ver r.v = (wi r.v.fr 1 292194 && (wi r.v.mn 0 1000000000000000 && (wi (r.lz : Int) 1 100 && (decide (r.lp = 8) && (fac [r.v.b0, r.v.b1, r.v.b2, r.v.b3] && (fac r.v.zn && (fac r.v.pe && bds r.v.ag))))))) by unfold ver; rw [hz1, hp1])
  have HA := Lib.hid (alloc_ w (.cells (vc r) 26))
  generalize fac [r.v.b0, r.v.b1, r.v.b2, r.v.b3] = fb at CB HV
  generalize fac r.v.zn = fz at CZ HV
  generalize fac r.v.pe = fp at CP HV
  generalize bds r.v.ag = fa at CA HV
  clear hz1 hp1 M S
  cases t0 : wi r.v.fr 1 292194
  · skip
    rw [show ver r.v = false by rw [HV.out, t0]; rfl]
    go_enter Try.func18, Try.ntmps18
    go_wp2_with (first
          | (go_at_call 31; refine (CW _ _ _ _).out.mono ?_; rintro e w' ⟨rfl, rfl⟩)
          | (go_at_call 32; (with_reducible refine CB.out.mono ?_); rintro e w' ⟨rfl, rfl⟩)
          | (go_at_call 32; (with_reducible refine CZ.out.mono ?_); rintro e w' ⟨rfl, rfl⟩)
          | (go_at_call 32; (with_reducible refine CP.out.mono ?_); rintro e w' ⟨rfl, rfl⟩)
          | (go_at_call 33; (with_reducible refine CA.out.mono ?_); rintro e w' ⟨rfl, hb1⟩; have HB1 := Lib.hid hb1; clear hb1)
          | fail)
    go_ret
    exact ⟨rfl, HA.out⟩
  · skip
    cases t1 : wi r.v.mn 0 1000000000000000
    · skip
      rw [show ver r.v = false by rw [HV.out, t0, t1]; rfl]
      go_enter Try.func18, Try.ntmps18
      go_wp2_with (first
            | (go_at_call 31; refine (CW _ _ _ _).out.mono ?_; rintro e w' ⟨rfl, rfl⟩)
            | (go_at_call 32; (with_reducible refine CB.out.mono ?_); rintro e w' ⟨rfl, rfl⟩)
            | (go_at_call 32; (with_reducible refine CZ.out.mono ?_); rintro e w' ⟨rfl, rfl⟩)
            | (go_at_call 32; (with_reducible refine CP.out.mono ?_); rintro e w' ⟨rfl, rfl⟩)
            | (go_at_call 33; (with_reducible refine CA.out.mono ?_); rintro e w' ⟨rfl, hb1⟩; have HB1 := Lib.hid hb1; clear hb1)
            | fail)
      go_ret
      exact ⟨rfl, HA.out⟩
    · skip
      cases t2 : wi (r.lz : Int) 1 100
      · skip
        rw [show ver r.v = false by rw [HV.out, t0, t1, t2]; rfl]
        go_enter Try.func18, Try.ntmps18
        go_wp2_with (first
              | (go_at_call 31; refine (CW _ _ _ _).out.mono ?_; rintro e w' ⟨rfl, rfl⟩)
              | (go_at_call 32; (with_reducible refine CB.out.mono ?_); rintro e w' ⟨rfl, rfl⟩)
              | (go_at_call 32; (with_reducible refine CZ.out.mono ?_); rintro e w' ⟨rfl, rfl⟩)
              | (go_at_call 32; (with_reducible refine CP.out.mono ?_); rintro e w' ⟨rfl, rfl⟩)
              | (go_at_call 33; (with_reducible refine CA.out.mono ?_); rintro e w' ⟨rfl, hb1⟩; have HB1 := Lib.hid hb1; clear hb1)
              | fail)
        go_ret
        exact ⟨rfl, HA.out⟩
      · skip
        by_cases h3 : r.lp = 8
        · have t3 : decide (r.lp = 8) = true := decide_eq_true h3
          have t3' : ((r.lp : Int) == 8) = true := by simpa using (show (r.lp : Int) = 8 by omega)
          have t3'' : decide ((r.lp : Int) = 8) = true := decide_eq_true (by omega)
          have t3z : (r.lp : Int) = 8 := by omega
          clear h3
          cases fb
          · skip
            rw [show ver r.v = false by rw [HV.out, t0, t1, t2, t3]; rfl]
            go_enter Try.func18, Try.ntmps18
            go_wp2_with (first
                  | (go_at_call 31; refine (CW _ _ _ _).out.mono ?_; rintro e w' ⟨rfl, rfl⟩)
                  | (go_at_call 32; (with_reducible refine CB.out.mono ?_); rintro e w' ⟨rfl, rfl⟩)
                  | (go_at_call 32; (with_reducible refine CZ.out.mono ?_); rintro e w' ⟨rfl, rfl⟩)
                  | (go_at_call 32; (with_reducible refine CP.out.mono ?_); rintro e w' ⟨rfl, rfl⟩)
                  | (go_at_call 33; (with_reducible refine CA.out.mono ?_); rintro e w' ⟨rfl, hb1⟩; have HB1 := Lib.hid hb1; clear hb1)
                  | fail)
            go_ret
            exact ⟨rfl, HA.out⟩
          · skip
            cases fz
            · skip
              rw [show ver r.v = false by rw [HV.out, t0, t1, t2, t3]; rfl]
              go_enter Try.func18, Try.ntmps18
              go_wp2_with (first
                    | (go_at_call 31; refine (CW _ _ _ _).out.mono ?_; rintro e w' ⟨rfl, rfl⟩)
                    | (go_at_call 32; (with_reducible refine CB.out.mono ?_); rintro e w' ⟨rfl, rfl⟩)
                    | (go_at_call 32; (with_reducible refine CZ.out.mono ?_); rintro e w' ⟨rfl, rfl⟩)
                    | (go_at_call 32; (with_reducible refine CP.out.mono ?_); rintro e w' ⟨rfl, rfl⟩)
                    | (go_at_call 33; (with_reducible refine CA.out.mono ?_); rintro e w' ⟨rfl, hb1⟩; have HB1 := Lib.hid hb1; clear hb1)
                    | fail)
              go_ret
              exact ⟨rfl, HA.out⟩
            · skip
              cases fp
              · skip
                rw [show ver r.v = false by rw [HV.out, t0, t1, t2, t3]; rfl]
                go_enter Try.func18, Try.ntmps18
                go_wp2_with (first
                      | (go_at_call 31; refine (CW _ _ _ _).out.mono ?_; rintro e w' ⟨rfl, rfl⟩)
                      | (go_at_call 32; (with_reducible refine CB.out.mono ?_); rintro e w' ⟨rfl, rfl⟩)
                      | (go_at_call 32; (with_reducible refine CZ.out.mono ?_); rintro e w' ⟨rfl, rfl⟩)
                      | (go_at_call 32; (with_reducible refine CP.out.mono ?_); rintro e w' ⟨rfl, rfl⟩)
                      | (go_at_call 33; (with_reducible refine CA.out.mono ?_); rintro e w' ⟨rfl, hb1⟩; have HB1 := Lib.hid hb1; clear hb1)
                      | fail)
                go_ret
                exact ⟨rfl, HA.out⟩
              · skip
                cases fa
                · skip
                  rw [show ver r.v = false by rw [HV.out, t0, t1, t2, t3]; rfl]
                  go_enter Try.func18, Try.ntmps18
                  go_wp2_with (first
                        | (go_at_call 31; refine (CW _ _ _ _).out.mono ?_; rintro e w' ⟨rfl, rfl⟩)
                        | (go_at_call 32; (with_reducible refine CB.out.mono ?_); rintro e w' ⟨rfl, rfl⟩)
                        | (go_at_call 32; (with_reducible refine CZ.out.mono ?_); rintro e w' ⟨rfl, rfl⟩)
                        | (go_at_call 32; (with_reducible refine CP.out.mono ?_); rintro e w' ⟨rfl, rfl⟩)
                        | (go_at_call 33; (with_reducible refine CA.out.mono ?_); rintro e w' ⟨rfl, hb1⟩; have HB1 := Lib.hid hb1; clear hb1)
                        | fail)
                  go_ret
                  exact ⟨rfl, HA.out.trans (HB1.out.mono HA.out.size)⟩
                · skip
                  rw [show ver r.v = true by rw [HV.out, t0, t1, t2, t3]; rfl]
                  go_enter Try.func18, Try.ntmps18
                  go_wp2_with (first
                        | (go_at_call 31; refine (CW _ _ _ _).out.mono ?_; rintro e w' ⟨rfl, rfl⟩)
                        | (go_at_call 32; (with_reducible refine CB.out.mono ?_); rintro e w' ⟨rfl, rfl⟩)
                        | (go_at_call 32; (with_reducible refine CZ.out.mono ?_); rintro e w' ⟨rfl, rfl⟩)
                        | (go_at_call 32; (with_reducible refine CP.out.mono ?_); rintro e w' ⟨rfl, rfl⟩)
                        | (go_at_call 33; (with_reducible refine CA.out.mono ?_); rintro e w' ⟨rfl, hb1⟩; have HB1 := Lib.hid hb1; clear hb1)
                        | fail)
                  go_ret
                  exact ⟨rfl, HA.out.trans (HB1.out.mono HA.out.size)⟩
        · have t3 : decide (r.lp = 8) = false := decide_eq_false h3
          have t3' : ((r.lp : Int) == 8) = false := by simpa using (show ¬ (r.lp : Int) = 8 by omega)
          have t3'' : decide ((r.lp : Int) = 8) = false := decide_eq_false (by omega)
          clear h3
          rw [show ver r.v = false by rw [HV.out, t0, t1, t2, t3]; rfl]
          go_enter Try.func18, Try.ntmps18
          go_wp2_with (first
                | (go_at_call 31; refine (CW _ _ _ _).out.mono ?_; rintro e w' ⟨rfl, rfl⟩)
                | (go_at_call 32; (with_reducible refine CB.out.mono ?_); rintro e w' ⟨rfl, rfl⟩)
                | (go_at_call 32; (with_reducible refine CZ.out.mono ?_); rintro e w' ⟨rfl, rfl⟩)
                | (go_at_call 32; (with_reducible refine CP.out.mono ?_); rintro e w' ⟨rfl, rfl⟩)
                | (go_at_call 33; (with_reducible refine CA.out.mono ?_); rintro e w' ⟨rfl, hb1⟩; have HB1 := Lib.hid hb1; clear hb1)
                | fail)
          go_ret
          exact ⟨rfl, HA.out⟩

end Qo
end Go.Proofs.Ytinhhphnbbdoeaa
