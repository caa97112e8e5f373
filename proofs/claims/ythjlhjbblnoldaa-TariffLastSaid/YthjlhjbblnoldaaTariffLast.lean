/-
  The statement TariffLast holds: for every input the call returns true, and each argument reads afterwards as it read before. Conditions: none beside those that the row itself bears.
-/
import Derived.Test.YthjlhjbblnoldaaLaws
namespace Go.Proofs.Ythjlhjbblnoldaa.tariffLast
open Go.ChangeShapes Go.WideShapes Go.ChangeAt Go.RowKit Ba Tf Trf
set_option linter.unusedVariables false


set_option maxRecDepth 100000 in
set_option maxHeartbeats 4000000 in
theorem walk (A : Option Addr) (n c : Nat) (rs : List Rw) {w : World} (G : GivenT w A n c rs) (a : Int) (_ : -9223372036854775808 ≤ a ∧ a ≤ 9223372036854775807) (b : Int) (_ : -9223372036854775808 ≤ b ∧ b ≤ 9223372036854775807) :
    Calls Try.prog 7 #[tg A n c, .int .i64 a, .int .i64 b] w (Yes w true) := by
  have HG := Lib.hid G
  have hbig := G.big
  have HX := Lib.hid (Bx.new w 29 #[.slice A n c])
  have HB := Lib.hid (alloc_ w (.cells #[.slice A n c] 29))
  have CF := Lib.hid (few_ A n c rs (w.alloc (.cells #[.slice A n c] 29)) (G.r.below (alloc_ _ _)) (by omega) G.l)
  clear G
  go_enter Try.func7, Try.ntmps7
  go_wp2_with fail
  cases hf : fw n rs
  · rw [hf] at CF
    clear hf
    refine CF.out.mono ?_
    rintro e w2 ⟨rfl, hb2⟩
    have HB2 := Lib.hid (HB.out.trans (hb2.mono HB.out.size))
    clear hb2 CF
    go_wp2_with fail
    refine (alive_ _).mono ?_
    rintro e w9 ⟨rfl, hb9⟩
    have HB9 := Lib.hid (HB2.out.trans (hb9.mono HB2.out.size))
    clear hb9
    go_wp2
    go_ret
    exact ⟨rfl, HB9.out⟩
  obtain ⟨f1, f2⟩ := fw_yes hf
  have hVS : Vers w A n rs := HG.out.vers f2
  have HVS := Lib.hid hVS
  have hn1 : n ≤ 1000 := by omega
  rw [hf] at CF
  clear hf f2 hVS hbig
  refine CF.out.mono ?_
  rintro e w2 ⟨rfl, hb2⟩
  have HB2 := Lib.hid (HB.out.trans (hb2.mono HB.out.size))
  have HX2 := Lib.hid (HX.out.keep hb2)
  have CR := Lib.hid (right_ A n c rs w2 (HVS.out.below HB2.out) hn1)
  clear hb2 CF HB HX
  have x0 := HX2.out.c 0
  simp at x0
  go_wp2_with fail
  cases hr : rgt (rs.map Rw.v)
  · rw [hr] at CR
    clear hr
    refine CR.out.mono ?_
    rintro e w3 ⟨rfl, hb3⟩
    have HB3 := Lib.hid (HB2.out.trans (hb3.mono HB2.out.size))
    clear hb3 CR x0
    go_wp2_with fail
    refine (alive_ _).mono ?_
    rintro e w9 ⟨rfl, hb9⟩
    have HB9 := Lib.hid (HB3.out.trans (hb9.mono HB3.out.size))
    clear hb9
    go_wp2
    go_ret
    exact ⟨rfl, HB9.out⟩
  rw [hr] at CR
  have HR := Lib.hid (rgt_rise hr).2
  clear hr
  refine CR.out.mono ?_
  rintro e w3 ⟨rfl, hb3⟩
  have HB3 := Lib.hid (HB2.out.trans (hb3.mono HB2.out.size))
  have HX3 := Lib.hid (HX2.out.keep hb3)
  clear hb3 CR x0 HB2 HX2
  have x0 := HX3.out.c 0
  have xl := HX3.out.lt
  simp at x0
  have CA := fun (day : Int) w' (h : Below w.heap.size w w') => Lib.hid (at_ A n c rs day w' (HVS.out.below h) hn1)
  obtain ⟨lo, hlo⟩ : ∃ lo, min a b = lo := ⟨_, rfl⟩
  obtain ⟨hi, hhi⟩ : ∃ hi, max a b = hi := ⟨_, rfl⟩
  have HLE := Lib.hid (show lo ≤ hi by omega)
  obtain ⟨f, hfc⟩ : ∃ f, cod lo (rs.map Rw.v) = f := ⟨_, rfl⟩
  obtain ⟨g, hgc⟩ : ∃ g, cod hi (rs.map Rw.v) = g := ⟨_, rfl⟩
  go_wp2_with fail
  try rw [hlo]
  refine (CA lo _ HB3.out).out.mono ?_
  rintro e w4 ⟨r4, rfl, e4, m4, s4, hb4⟩
  rw [hfc]
  have HB4 := Lib.hid (HB3.out.trans (hb4.mono HB3.out.size))
  have HX4 := Lib.hid (HX3.out.keep hb4)
  have HE4 := Lib.hid e4
  have HY4 := Lib.hid (Bx.new w4 26 (vc r4))
  have HB4a := Lib.hid (HB4.out.alloc HB4.out.size (.cells (vc r4) 26))
  clear hb4 m4 s4 e4 HB3 HX3 x0 xl
  have x0 := HX4.out.c 0
  have xl := HX4.out.lt
  simp at x0
  go_wp2_with fail
  try rw [hhi]
  refine (CA hi _ HB4a.out).out.mono ?_
  rintro e w5 ⟨r5, rfl, e5, m5, s5, hb5⟩
  rw [hgc]
  have HB5 := Lib.hid (HB4a.out.trans (hb5.mono HB4a.out.size))
  have HX5 := Lib.hid ((HX4.out.alloc (.cells (vc r4) 26)).keep hb5)
  have HE5 := Lib.hid e5
  have HY4b := Lib.hid ((HY4.out.keep hb5).alloc (.cells (vc r5) 26))
  have HY5 := Lib.hid (Bx.new w5 26 (vc r5))
  have HB5a := Lib.hid (HB5.out.alloc HB5.out.size (.cells (vc r5) 26))
  clear hb5 m5 s5 e5 HB4 HB4a HX4 HY4 x0 xl CA
  have x0 := HX5.out.c 0
  have xl := HX5.out.lt
  simp at x0
  have HFC := Lib.hid hfc
  have HGC := Lib.hid hgc
  have HLO := Lib.hid hlo
  clear hfc hgc hhi
  go_wp2
  obtain ⟨W, hW⟩ : ∃ W, w5.alloc (.cells (vc r5) 26) = W := ⟨_, rfl⟩
  rw [hW] at HB5a HY4b HY5 ⊢
  clear hW
  go_loopw [11, 13, 43] (fun s11 s13 i w' => ∃ (k : Nat) (m : Int) (w6 : World), k ≤ n ∧ i = .int .i64 (k : Int) ∧ s11 = .int .i64 m ∧ w6 = w' ∧ Hid (mst lo 0 ((rs.map Rw.v).take k) = m) ∧ Hid (Below W.heap.size W w6)) (fun _ _ i _ => n - (intOf i).toNat)
  case atStart => exact ⟨0, 0, _, Nat.zero_le _, rfl, rfl, rfl, Lib.hid rfl, Lib.hid (Below.refl _ _)⟩
  case round =>
    obtain ⟨k, m, w6, hk, rfl, rfl, rfl, HM, HW⟩ := hrel
    by_cases hlt : k < n
    · obtain ⟨ad, r, rfl, hb, hx, hN, _⟩ := ((HVS.out.below HB5a.out).below HW.out).get hlt
      have hlt2 : (k : Int) < (n : Int) := by omega
      obtain ⟨c0, c1, c2, c3, c4, c5, c6, c7, c8⟩ := hN
      have HN := Lib.hid (show mst lo 0 ((rs.map Rw.v).take (k + 1)) = if r.v.fr ≤ lo then max m r.v.fr else m by rw [take_get (map_get hx), mst_snoc, HM.out])
      clear hx hb
      by_cases h1 : r.v.fr ≤ lo
      · have t1 : decide (r.v.fr ≤ lo) = true := decide_eq_true h1
        have HN2 := Lib.hid (show mst lo 0 ((rs.map Rw.v).take (k + 1)) = max m r.v.fr by rw [HN.out, if_pos h1])
        clear h1 HN
        go_wp2
        go_roundw
        case rel => exact ⟨k + 1, max m r.v.fr, _, by omega, by go_num, rfl, rfl, HN2, Lib.hid (HW.out.alloc HW.out.size _)⟩
        case measure => simp [intOf]; omega
      · have t1 : decide (r.v.fr ≤ lo) = false := decide_eq_false h1
        have HN2 := Lib.hid (show mst lo 0 ((rs.map Rw.v).take (k + 1)) = m by rw [HN.out, if_neg h1])
        clear h1 HN
        go_wp2
        go_roundw
        case rel => exact ⟨k + 1, m, _, by omega, by go_num, rfl, rfl, HN2, Lib.hid (HW.out.alloc HW.out.size _)⟩
        case measure => simp [intOf]; omega
    · have HF := Lib.hid (show mst lo 0 (rs.map Rw.v) = m by have := HM.out; rwa [List.take_of_length_le (by rw [HVS.out.len]; omega)] at this)
      have HML := Lib.hid (mst_lst (day := lo) HR.out (Int.le_refl 0))
      cases hl : lst lo (rs.map Rw.v) with
      | none =>
        obtain rfl : m = 0 := by rw [← HF.out, HML.out, hl]
        obtain rfl : f = 7 := by rw [← HFC.out, (tol_none hl).2]
        have q4 : r4.v.fr = 0 := by rw [HE4.out, (tol_none hl).1]; rfl
        clear hl
        go_wp2_with fail
        refine (alive_ _).mono ?_
        rintro e w7 ⟨rfl, hb7⟩
        have HB7 := Lib.hid ((HB5a.out.trans (HW.out.mono HB5a.out.size)).trans (hb7.mono (HB5a.out.trans (HW.out.mono HB5a.out.size)).size))
        have u0 := ((HY4b.out.keep HW.out).keep hb7).c 0
        have v0 := ((HY5.out.keep HW.out).keep hb7).c 0
        simp at u0 v0
        rw [q4] at u0
        skip
        clear hb7 q4
        go_wp2
        go_ret
        exact ⟨rfl, HB7.out⟩
      | some x =>
        obtain rfl : m = x.fr := by rw [← HF.out, HML.out, hl]
        obtain rfl : f = 0 := by rw [← HFC.out, (tol_some hl).2]
        have q4 : r4.v.fr = x.fr := by rw [HE4.out, (tol_some hl).1]
        obtain ⟨y, hy, hle⟩ := lst_later HR.out HLE.out hl
        obtain rfl : g = 0 := by rw [← HGC.out, (tol_some hy).2]
        have q5 : r5.v.fr = y.fr := by rw [HE5.out, (tol_some hy).1]
        have hpos : 0 < x.fr := (rise_mem HR.out x (lst_mem hl).1).1
        have t2 : decide (0 < x.fr) = true := decide_eq_true hpos
        have t3 : decide (x.fr ≤ y.fr) = true := decide_eq_true hle
        clear hl hy hle hpos
        go_wp2_with fail
        refine (alive_ _).mono ?_
        rintro e w7 ⟨rfl, hb7⟩
        have HB7 := Lib.hid ((HB5a.out.trans (HW.out.mono HB5a.out.size)).trans (hb7.mono (HB5a.out.trans (HW.out.mono HB5a.out.size)).size))
        have u0 := ((HY4b.out.keep HW.out).keep hb7).c 0
        have v0 := ((HY5.out.keep HW.out).keep hb7).c 0
        simp at u0 v0
        rw [q4] at u0
        rw [q5] at v0
        clear hb7 q4
        go_wp2
        go_ret
        exact ⟨rfl, HB7.out⟩

set_option maxRecDepth 100000 in
theorem lifted (os : Os) (started : os.Started) (H : Type) (enc : TypeId × Value → H) :
    ReturnsInHanded {} Try.checked os 7 .any (Rows.tariffLastSpec.pre6 enc Try.prog Try.f7 Rows.tariffLastRow.domain false) (Rows.tariffLastSpec.post enc Try.prog Try.f7 false true false false) := by
  refine returnsInHanded_of_change_sized (C := Try.checked) Trf.own started (by kernel_rfl) Try.func7
    (ChangeSpec.witness6 (enc := enc) (C := Try.checked) false ⟨#[], #[.agg #[.slice none 0 0], .int .i64 0, .int .i64 0], []⟩ 8 (by kernel_rfl) (by kernel_rfl) (by kernel_rfl) (by kernel_rfl)) ?_
  intro W base args ds gs before hval0 hW hcnd hsz0 _
  have hval : ∀ (j : Nat) t v, Try.f7.params[j]? = some t → args[j]? = some v → Value.okWide Try.prog W .any base t v := hval0
  have hW' := hW
  have hsz : (DataW.weightsEach Try.prog (Try.f7.params.toList ++ Rows.tariffLastSpec.plain.varTypes Try.prog) (ds ++ gs)).all (· ≤ reachBytes) = true := hsz0
  obtain ⟨p, q, hA0, hV, rfl, hfz, hnd⟩ := hW
  have hA : DataW.TrodAll enc Try.prog W 0 (fun _ => true) true Try.f7.params.toList args.toList ds p := hA0
  rw [Try.params7] at hA hval hsz
  obtain ⟨v0, vs0, d0, ds0, p0, q0, hargs, rfl, rfl, h0, r0⟩ := trodAll_cons hA
  obtain ⟨v1, vs1, d1, ds1, p1, q1, rfl, rfl, rfl, h1, r1⟩ := trodAll_cons r0
  obtain ⟨v2, vs2, d2, ds2, p2, q2, rfl, rfl, rfl, h2, r2⟩ := trodAll_cons r1
  obtain ⟨rfl, rfl, rfl⟩ := trodAll_nil r2
  obtain rfl : args = #[v0, v1, v2] := by cases args; simp_all
  obtain ⟨rfl, rfl⟩ := trodVars_none hV
  have k0 := h0
  have lt0 : ∀ x ∈ p0, x.block < W.heap.size := by obtain ⟨m, hm⟩ := k0; exact DataW.trod_lt m _ _ _ hm
  obtain ⟨A0, n0, c0, s0, rfl, g0⟩ := Trf.open_tariff (hval 0 29 v0 rfl rfl) h0 (fun k hk => of_decide_eq_true (List.all_eq_true.1 hsz _ (DataW.weights_mem_each (j := 0) rfl rfl k hk)))
  obtain ⟨a1, rfl, rfl, rfl, w1⟩ := open_int Try.underlying3 (hval 1 3 v1 rfl rfl) h1
  obtain ⟨a2, rfl, rfl, rfl, w2⟩ := open_int Try.underlying3 (hval 2 3 v2 rfl rfl) h2
  clear hA0 hval0 hsz hsz0
  refine (walk A0 n0 c0 s0 g0 a1 (Trf.i64_of w1) a2 (Trf.i64_of w2)).mono fun e W' ⟨he, bel⟩ => ?_
  subst he
  exact ⟨_, rfl, _, _, _, [], _, [], hW', trodAll_mk1 (shut_bool Try.underlying4 _), (trodAll_cons_mk (Below.trod Trf.laidOut (by kernel_rfl) (of_decide_eq_true (by kernel_rfl)) k0 bel lt0) (trodAll_cons_mk (shut_int Try.underlying3 w1) (trodAll_cons_mk (shut_int Try.underlying3 w2) trodAll_mk0))), rfl, bel.frame _, fun h => by cases h⟩

theorem over : Rows.tariffLastRow.holds Try.pinned (OpenSpec.ofChange Rows.tariffLastSpec) :=
  OpenClaim.holds_of_wide 7 Try.f7 rfl rfl rfl rfl rfl rfl rfl ⟨rfl, rfl, rfl, rfl, rfl⟩ rfl rfl rfl rfl rfl (by kernel_rfl) Try.func7 (by kernel_rfl)
    (of_decide_eq_true (by kernel_rfl)) (by unfold Func.isWrapper; first | (rw [if_pos (by decide +kernel)]; kernel_rfl) | (rw [if_neg (by decide +kernel)]; exact ⟨rfl, rfl⟩))
    (fun os started H enc _ => lifted os started H enc)

theorem proved : Rows.TariffLastSaid := over
end Go.Proofs.Ythjlhjbblnoldaa.tariffLast
