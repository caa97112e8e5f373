/-
  The document's Right. Conditions: the version's lists read as lists, and are short.
-/
import Derived.Test.YthjlhjbblnoldaaSames
import Derived.Test.YthjlhjbblnoldaaRVer
namespace Go.Proofs.Ythjlhjbblnoldaa
open Go.RowKit Ba Tf
namespace Trf
set_option linter.unusedVariables false

set_option maxRecDepth 100000 in
set_option maxHeartbeats 4000000 in
theorem rright (A : Option Addr) (n c : Nat) (rs : List Rw) (w : World) (hS : Vers w A n rs) (hn : n ≤ 1000) :
    Calls Try.prog 13 #[tg A n c] w (Yes w (rgt (rs.map Rw.v))) := by
  have hl := hS.len
  have HS := Lib.hid hS
  have HL := Lib.hid hl
  have HX := Lib.hid (Bx.new w 29 #[.slice A n c])
  have HA := Lib.hid (alloc_ w (.cells #[.slice A n c] 29))
  obtain ⟨R, hR⟩ : ∃ R, rise 0 (rs.map Rw.v) = R := ⟨_, rfl⟩
  have HR := Lib.hid hR
  have HG := Lib.hid (show rgt (rs.map Rw.v) = (decide (n ≤ 100) && R) by unfold rgt; rw [hl, hR])
  obtain ⟨Z, hZ⟩ : ∃ Z, rgt (rs.map Rw.v) = Z := ⟨_, rfl⟩
  rw [hZ] at HG ⊢
  clear hS hl hR hZ
  go_enter Try.func13, Try.ntmps13
  go_wp2
  go_loopw [3] (fun i w' => ∃ (k : Nat) (last : Int) (w1 : World), k ≤ n ∧ i = .int .i64 (k : Int) ∧ w1 = w' ∧ Hid (rise last ((rs.map Rw.v).drop k) = R) ∧ Hid (Below w.heap.size w w1) ∧ Hid (Bx w1 w.heap.size 29 #[.slice A n c]) ∧ Hid ((k = 0 ∧ last = 0) ∨ ∃ j z, k = j + 1 ∧ rs[j]? = some z ∧ last = z.v.fr)) (fun i _ => n - (intOf i).toNat)
  case atStart => exact ⟨0, 0, _, Nat.zero_le _, rfl, rfl, HR, HA, HX, Lib.hid (.inl ⟨rfl, rfl⟩)⟩
  case round =>
    obtain ⟨k, last, w1, hk, rfl, rfl, HB, HW, HQ, HP⟩ := hrel
    clear HX HA
    have z0 := HQ.out.c 0
    simp at z0
    by_cases hlt : k < n
    · obtain ⟨ad, r, rfl, hb, hx, hN, hM, hSm⟩ := (HS.out.below HW.out).get hlt
      have HD := Lib.hid (drop_get (map_get hx))
      have hlt2 : (k : Int) < (n : Int) := by omega
      have C := fun p : Ext w1 => Lib.hid (rversion r p.W (hM.below p.b) hSm)
      have X0 : ∀ p : Ext w1, p.W.cell? ⟨w.heap.size, 0, none⟩ = some (.slice (some ad) n c) := fun p => HQ.out.ext p 0
      have c0 : ∀ p : Ext w1, p.W.cell? (ad.add (k * 9)) = some (.int .i64 r.v.fr) := fun p => (hN.ext (by rw [add_block]; exact hb) p).c0
      have c1 : ∀ p : Ext w1, p.W.cell? ⟨(ad.add (k * 9)).block, (ad.add (k * 9)).off + 1, none⟩ = some (.int .i64 r.v.b0) := fun p => (hN.ext (by rw [add_block]; exact hb) p).c1
      have c2 : ∀ p : Ext w1, p.W.cell? ⟨(ad.add (k * 9)).block, (ad.add (k * 9)).off + 2, none⟩ = some (.int .i64 r.v.b1) := fun p => (hN.ext (by rw [add_block]; exact hb) p).c2
      have c3 : ∀ p : Ext w1, p.W.cell? ⟨(ad.add (k * 9)).block, (ad.add (k * 9)).off + 3, none⟩ = some (.int .i64 r.v.b2) := fun p => (hN.ext (by rw [add_block]; exact hb) p).c3
      have c4 : ∀ p : Ext w1, p.W.cell? ⟨(ad.add (k * 9)).block, (ad.add (k * 9)).off + 4, none⟩ = some (.int .i64 r.v.b3) := fun p => (hN.ext (by rw [add_block]; exact hb) p).c4
      have c5 : ∀ p : Ext w1, p.W.cell? ⟨(ad.add (k * 9)).block, (ad.add (k * 9)).off + 5, none⟩ = some (.slice r.A r.la r.ca) := fun p => (hN.ext (by rw [add_block]; exact hb) p).c5
      have c6 : ∀ p : Ext w1, p.W.cell? ⟨(ad.add (k * 9)).block, (ad.add (k * 9)).off + 6, none⟩ = some (.slice r.Z r.lz r.cz) := fun p => (hN.ext (by rw [add_block]; exact hb) p).c6
      have c7 : ∀ p : Ext w1, p.W.cell? ⟨(ad.add (k * 9)).block, (ad.add (k * 9)).off + 7, none⟩ = some (.slice r.P r.lp r.cp) := fun p => (hN.ext (by rw [add_block]; exact hb) p).c7
      have c8 : ∀ p : Ext w1, p.W.cell? ⟨(ad.add (k * 9)).block, (ad.add (k * 9)).off + 8, none⟩ = some (.int .i64 r.v.mn) := fun p => (hN.ext (by rw [add_block]; exact hb) p).c8
      have ne : Nonempty (Ext w1) := ⟨⟨w1, Below.refl _ _⟩⟩
      have HX := Lib.hid hx
      clear hN hM hb hx
      cases t2 : ver r.v
      · have HF := Lib.hid (show R = false by rw [← HB.out, HD.out]; exact rise_no2 t2)
        rw [t2] at C
        clear t2
        go_wp2
        refine quietE (by kernel_rfl) (by kernel_rfl) ?_
        repeat (first
          | go_big_quiet_skip
          | ((with_reducible refine wpQuiet_step (fun K hK => ?_)); go_simp; (first
            | ((with_reducible refine hK _ ?_); clear hK K)
            | (apply Exists.intro; refine ⟨fun _ => ?_, hK _ ?_⟩; (go_at_call 11; with_reducible exact ext_of (C _).out); clear hK K))))
        with_reducible refine wpQuiet_nil ?_
        rintro _ ⟨p, rfl⟩
        go_wp2
        go_ret
        exact ⟨by rw [HG.out, HF.out, Bool.and_false]; rfl, HW.out.trans (p.b.mono HW.out.size)⟩
      · rw [t2] at C
        have HV := Lib.hid t2
        clear t2
        by_cases hk0 : k = 0
        · have HK0 := Lib.hid hk0
          have tk : decide (0 < (k : Int)) = false := decide_eq_false (by omega)
          have tk' : decide (0 < k) = false := decide_eq_false (by omega)
          have HN := Lib.hid (show rise r.v.fr ((rs.map Rw.v).drop (k + 1)) = R by
            have h0 := ver_fr HV.out
            rcases HP.out with ⟨_, hl⟩ | ⟨j, z, e, _⟩
            · rw [← HB.out, HD.out, hl]; exact (rise_yes (by omega) HV.out).symm
            · omega)
          clear hk0
          go_wp2
          refine quietE (by kernel_rfl) (by kernel_rfl) ?_
          repeat (first
            | go_big_quiet_skip
            | ((with_reducible refine wpQuiet_step (fun K hK => ?_)); go_simp; (first
              | ((with_reducible refine hK _ ?_); clear hK K)
              | (apply Exists.intro; refine ⟨fun _ => ?_, hK _ ?_⟩; (go_at_call 11; with_reducible exact ext_of (C _).out); clear hK K))))
          with_reducible refine wpQuiet_nil ?_
          rintro _ ⟨p, rfl⟩
          go_wp2
          go_roundw
          case rel => exact ⟨k + 1, r.v.fr, _, by omega, by go_num, rfl, HN, Lib.hid (HW.out.trans (p.b.mono HW.out.size)), Lib.hid (HQ.out.keep p.b), Lib.hid (.inr ⟨k, r, rfl, HX.out, rfl⟩)⟩
          case measure => simp [intOf]; omega
        · obtain ⟨j, z, hkj, hz, hlz⟩ : ∃ j z, k = j + 1 ∧ rs[j]? = some z ∧ last = z.v.fr := by
            rcases HP.out with ⟨h, _⟩ | h
            · omega
            · exact h
          obtain ⟨ad', z', e, hb, hz', hN, _⟩ := (HS.out.below HW.out).get (k := j) (by omega)
          injection e with e
          subst e
          rw [hz] at hz'
          injection hz' with hz'
          subst hz'
          have d0 : ∀ p : Ext w1, p.W.cell? (ad.add (j * 9)) = some (.int .i64 z.v.fr) := fun p => (hN.ext (by rw [add_block]; exact hb) p).c0
          obtain ⟨u, hu⟩ : ∃ u : Int, (k : Int) - 1 = u := ⟨_, rfl⟩
          have u0 : 0 ≤ u := by omega
          have un : u < (n : Int) := by omega
          have ut : u.toNat = j := by omega
          have uw : IntKind.i64.wrap u = u := by rw [IntKind.wrap_i64]; omega
          have tk : decide (0 < (k : Int)) = true := decide_eq_true (by omega)
          have tk' : decide (0 < k) = true := decide_eq_true (by omega)
          have HKJ := Lib.hid hkj
          clear hN hb hz hk0 hkj
          subst hlz
          by_cases h1 : r.v.fr ≤ z.v.fr
          · have t3 : decide (r.v.fr ≤ z.v.fr) = true := decide_eq_true h1
            have HF := Lib.hid (show R = false by rw [← HB.out, HD.out]; exact rise_no1 h1)
            clear h1
            go_wp2
            refine quietE (by kernel_rfl) (by kernel_rfl) ?_
            repeat (first
              | go_big_quiet_skip
              | ((with_reducible refine wpQuiet_step (fun K hK => ?_)); go_simp; (first
                | ((with_reducible refine hK _ ?_); clear hK K)
                | (apply Exists.intro; refine ⟨fun _ => ?_, hK _ ?_⟩; (go_at_call 11; with_reducible exact ext_of (C _).out); clear hK K))))
            with_reducible refine wpQuiet_nil ?_
            rintro _ ⟨p, rfl⟩
            go_wp2
            go_ret
            exact ⟨by rw [HG.out, HF.out, Bool.and_false]; rfl, HW.out.trans (p.b.mono HW.out.size)⟩
          · have t3 : decide (r.v.fr ≤ z.v.fr) = false := decide_eq_false h1
            have HN := Lib.hid (show rise r.v.fr ((rs.map Rw.v).drop (k + 1)) = R by rw [← HB.out, HD.out]; exact (rise_yes h1 HV.out).symm)
            clear h1
            go_wp2
            refine quietE (by kernel_rfl) (by kernel_rfl) ?_
            repeat (first
              | go_big_quiet_skip
              | ((with_reducible refine wpQuiet_step (fun K hK => ?_)); go_simp; (first
                | ((with_reducible refine hK _ ?_); clear hK K)
                | (apply Exists.intro; refine ⟨fun _ => ?_, hK _ ?_⟩; (go_at_call 11; with_reducible exact ext_of (C _).out); clear hK K))))
            with_reducible refine wpQuiet_nil ?_
            rintro _ ⟨p, rfl⟩
            go_wp2
            go_roundw
            case rel => exact ⟨k + 1, r.v.fr, _, by omega, by go_num, rfl, HN, Lib.hid (HW.out.trans (p.b.mono HW.out.size)), Lib.hid (HQ.out.keep p.b), Lib.hid (.inr ⟨k, r, rfl, HX.out, rfl⟩)⟩
            case measure => simp [intOf]; omega
    · have HF := Lib.hid (show R = true by rw [← HB.out, List.drop_of_length_le (by rw [HL.out]; omega)]; rfl)
      obtain ⟨u, hu⟩ : ∃ u, decide (n ≤ 100) = u := ⟨_, rfl⟩
      have hu2 : decide ((n : Int) ≤ 100) = u := by rw [← hu]; congr 1; simp; omega
      have HU := Lib.hid (show Z = u by rw [HG.out, HF.out, hu, Bool.and_true])
      go_wp2
      go_ret
      exact ⟨by rw [HU.out]; rfl, HW.out⟩

end Trf
end Go.Proofs.Ythjlhjbblnoldaa
