/-
  The statement TermsEach holds: for every input the call returns true, and each argument reads afterwards as it read before. Conditions: none beside those that the row itself bears.
-/
import Derived.Test.YtaadhageloiiaaaGiven
import Derived.Test.YtaadhageloiiaaaRCov
namespace Go.Proofs.Ytaadhageloiiaaa.termsEach
open Go.ChangeShapes Go.WideShapes Go.ChangeAt Go.RowKit Ba Cv Sp Te Tm
set_option linter.unusedVariables false

set_option maxRecDepth 100000 in
set_option maxHeartbeats 4000000 in
theorem way_far (w : World) (A : Option Addr) (n c : Nat) (ls : List Co) (g : GivenC w A n c ls) (h1 : 50 < n) : Calls Try.prog 4 #[.slice A n c] w (Yes w true) := by
  have t1 : decide (50 < n) = true := decide_eq_true h1
  have t1' : decide (50 < (n : Int)) = true := decide_eq_true (by omega)
  go_enter Try.func4, Try.ntmps4
  go_wp2_with fail
  refine (awake_ _).mono ?_
  rintro e w1 ⟨rfl, hb1⟩
  have H1 := Lib.hid hb1
  clear hb1
  go_wp2
  go_ret
  exact ⟨rfl, H1.out⟩

set_option maxRecDepth 100000 in
set_option maxHeartbeats 4000000 in
theorem way_no (w : World) (A : Option Addr) (n c : Nat) (ls : List Co) (g : GivenC w A n c ls) (h1 : ¬ 50 < n) (C : ∀ W : World, Below w.heap.size w W → Hid (Calls Try.prog 11 #[.slice A n c] W (Yes W false))) : Calls Try.prog 4 #[.slice A n c] w (Yes w true) := by
  have t1 : decide (50 < n) = false := decide_eq_false h1
  have t1' : decide (50 < (n : Int)) = false := decide_eq_false (by omega)
  go_enter Try.func4, Try.ntmps4
  go_wp2_with fail
  refine (awake_ _).mono ?_
  rintro e w1 ⟨rfl, hb1⟩
  have H1 := Lib.hid hb1
  clear hb1
  go_wp2_with fail
  refine (C _ H1.out).out.mono ?_
  rintro e w2 ⟨rfl, hb2⟩
  have H2 := Lib.hid (H1.out.trans (hb2.mono H1.out.size))
  clear hb2 H1 C
  go_wp2
  go_ret
  exact ⟨rfl, H2.out⟩

set_option maxRecDepth 100000 in
set_option maxHeartbeats 4000000 in
theorem way_yes (w : World) (A : Option Addr) (n c : Nat) (ls : List Co) (g : GivenC w A n c ls) (h1 : ¬ 50 < n) (C : ∀ W : World, Below w.heap.size w W → Hid (Calls Try.prog 11 #[.slice A n c] W (Yes W true))) (hv : cvr ls = true) : Calls Try.prog 4 #[.slice A n c] w (Yes w true) := by
  have t1 : decide (50 < n) = false := decide_eq_false h1
  have t1' : decide (50 < (n : Int)) = false := decide_eq_false (by omega)
  obtain ⟨⟨v1, v2⟩, v3, v4⟩ := cvr_iff.1 hv
  have hl := g.r.1
  have n1 : 1 ≤ (n : Int) := by omega
  have n2 : (n : Int) ≤ 8 := by omega
  have HG := Lib.hid g
  have HV := Lib.hid v3
  have HU := Lib.hid v4
  have HL := Lib.hid hl
  have CF : ∀ (p : Int) (W : World), Below w.heap.size w W → Hid (Calls Try.prog 9 #[.slice A n c, .int .i64 p] W (Tm.Found W (fnd p ls))) := fun p W h => Lib.hid (find_ A n c ls p W (g.r.below h) g.m)
  have CV := fun (x : Co) (W : World) => Lib.hid (cov_right x W)
  clear g hv v1 v2 v3 v4 hl h1
  go_enter Try.func4, Try.ntmps4
  go_wp2_with fail
  refine (awake_ _).mono ?_
  rintro e w1 ⟨rfl, hb1⟩
  have H1 := Lib.hid hb1
  clear hb1
  go_wp2_with fail
  refine (C _ H1.out).out.mono ?_
  rintro e w2 ⟨rfl, hb2⟩
  have H2 := Lib.hid (H1.out.trans (hb2.mono H1.out.size))
  clear hb2 H1 C
  go_wp2
  go_loopw [4, 5] (fun f i w' => ∃ (p : Int) (k : Nat) (W : World), -1 ≤ p ∧ p ≤ 9 ∧ i = .int .i64 p ∧ f = .int .i64 (k : Int) ∧ k ≤ n ∧ W = w' ∧ Hid (Below w.heap.size w W) ∧ Hid (k = cnt p ls)) (fun _ i _ => (9 - intOf i).toNat)
  case atStart => exact ⟨-1, 0, _, by omega, by omega, rfl, rfl, by omega, rfl, H2, Lib.hid (cnt_zero fun x hx => by obtain ⟨_, _⟩ := HV.out x hx; omega).symm⟩
  case round =>
    obtain ⟨p, k, W, hp1, hp2, rfl, rfl, hk, rfl, HB, HK⟩ := hrel
    clear H2
    by_cases h8 : p ≤ 8
    · have t3 : decide (p ≤ 8) = true := decide_eq_true h8
      have HN := Lib.hid (cnt_next (p := p) HU.out)
      have CP := CF p W HB.out
      have e1 : wrap64 (p + 1) = p + 1 := IntWalk.wrap64_in _ ⟨by omega, by omega⟩
      cases ho : fnd p ls with
      | none =>
        rw [ho] at CP HN
        have HK2 := Lib.hid (show k = cnt (p + 1) ls by rw [HN.out, ← HK.out]; rfl)
        clear ho CV CF
        go_wp2_with fail
        refine CP.out.mono ?_
        rintro e w3 ⟨rfl, hb3⟩
        have H3 := Lib.hid (HB.out.trans (hb3.mono HB.out.size))
        clear hb3 HB CP
        have H4 := Lib.hid (H3.out.alloc (by have := H3.out.size; omega) (.cells (cc zco) 31))
        go_wp2
        go_roundw
        case rel => exact ⟨p + 1, k, _, by omega, by omega, rfl, rfl, hk, rfl, H4, HK2⟩
        case measure => simp [intOf]; omega
      | some x =>
        rw [ho] at CP HN
        obtain ⟨hx, rfl⟩ := fnd_some ho
        obtain ⟨o1, o2, _⟩ := HV.out x hx
        have HK2 := Lib.hid (show k + 1 = cnt (x.p + 1) ls by rw [HN.out, ← HK.out]; rfl)
        have hk2 : k + 1 ≤ n := by have := cnt_le (x.p + 1) ls; rw [← HK2.out, HL.out] at this; exact this
        have CX := CV x
        rw [ok_yes (HV.out x hx)] at CX
        have t4 : decide (x.p < 0) = false := decide_eq_false (by omega)
        have t5 : decide (7 < x.p) = false := decide_eq_false (by omega)
        have e2 : wrap64 ((k : Int) + 1) = ((k + 1 : Nat) : Int) := by rw [IntWalk.wrap64_in _ ⟨by omega, by omega⟩]; omega
        clear ho hx CV CF
        go_wp2_with fail
        refine CP.out.mono ?_
        rintro e w3 ⟨rfl, hb3⟩
        have H3 := Lib.hid (HB.out.trans (hb3.mono HB.out.size))
        clear hb3 HB CP
        have H4 := Lib.hid (H3.out.alloc (by have := H3.out.size; omega) (.cells (cc x) 31))
        go_wp2_with fail
        refine (CX _).out.mono ?_
        rintro e w4 ⟨rfl, hb4⟩
        have H5 := Lib.hid (H4.out.trans (hb4.mono H4.out.size))
        clear hb4 H4 CX
        go_wp2
        go_roundw
        case rel => exact ⟨x.p + 1, k + 1, _, by omega, by omega, rfl, by go_num, hk2, rfl, H5, HK2⟩
        case measure => simp [intOf]; omega
    · obtain rfl : p = 9 := by omega
      have HE := Lib.hid (show k = n by rw [HK.out, cnt_all fun x hx => by obtain ⟨_, _, _⟩ := HV.out x hx; omega, HL.out])
      obtain rfl : k = n := HE.out
      have HB0 := HB
      clear HB HK HE CV h8
      have p1 : decide ((1 : Int) ≤ (k : Int)) = true := decide_eq_true n1
      have p2 : decide ((k : Int) ≤ 8) = true := decide_eq_true n2
      go_wp2
      go_loopw [8] (fun i w' => ∃ (j : Nat) (W : World), j ≤ k ∧ i = .int .i64 (j : Int) ∧ W = w' ∧ Hid (Below w.heap.size w W)) (fun i _ => k - (intOf i).toNat)
      case atStart => exact ⟨0, _, Nat.zero_le _, rfl, rfl, HB0⟩
      case round =>
        obtain ⟨j, W3, hj, rfl, rfl, HB⟩ := hrel
        clear HB0
        by_cases hlt : j < k
        · obtain ⟨ad, x, rfl, hb, hx, hF⟩ := (HG.out.r.below HB.out).get hlt
          have c0 := hF.c0
          have HF := Lib.hid hF
          have hlt2 : (j : Int) < (k : Int) := by omega
          have CP := CF x.p W3 HB.out
          rw [fnd_own HU.out (List.mem_of_getElem? hx)] at CP
          have HBK := Lib.hid (show (ad.add (j * 5)).block < W3.heap.size by rw [add_block]; exact hb)
          clear hF hx hb CF
          go_wp2_with fail
          refine CP.out.mono ?_
          rintro e w3 ⟨rfl, hb3⟩
          have H3 := Lib.hid (HB.out.trans (hb3.mono HB.out.size))
          have HS3 := Lib.hid hb3.size
          have F3 := Lib.hid (HF.out.keep fun q hq => hb3.cell (by rw [hq]; exact HBK.out))
          clear hb3 HB CP HF c0
          obtain ⟨w4, hw4⟩ : ∃ w4, w3.alloc (.cells (cc x) 31) = w4 := ⟨_, rfl⟩
          have H4 := Lib.hid (H3.out.alloc (by have := H3.out.size; omega) (.cells (cc x) 31))
          have X4 := Lib.hid (Bx.new w3 31 (cc x))
          have F4 := Lib.hid (F3.out.keep fun q hq => (alloc_ w3 (.cells (cc x) 31)).cell (by rw [hq]; exact Nat.lt_of_lt_of_le HBK.out HS3.out))
          have HK4 := Lib.hid (show (ad.add (j * 5)).block < (w3.alloc (.cells (cc x) 31)).heap.size by have := HBK.out; have := HS3.out; simp; omega)
          rw [hw4] at H4 X4 F4 HK4
          have HW4 := Lib.hid hw4
          clear hw4 H3 F3
          have y0 : ∀ p : Ext w4, p.W.cell? ⟨w3.heap.size, 0, none⟩ = some (.int .i64 x.p) := fun p => X4.out.ext p 0
          have y1 : ∀ p : Ext w4, p.W.cell? ⟨w3.heap.size, 1, none⟩ = some (.int .i64 x.l) := fun p => X4.out.ext p 1
          have y2 : ∀ p : Ext w4, p.W.cell? ⟨w3.heap.size, 2, none⟩ = some (.int .i64 x.g) := fun p => X4.out.ext p 2
          have y3 : ∀ p : Ext w4, p.W.cell? ⟨w3.heap.size, 3, none⟩ = some (.int .i64 x.d) := fun p => X4.out.ext p 3
          have y4 : ∀ p : Ext w4, p.W.cell? ⟨w3.heap.size, 4, none⟩ = some (.int .i64 x.s) := fun p => X4.out.ext p 4
          have f0 : ∀ p : Ext w4, p.W.cell? (ad.add (j * 5)) = some (.int .i64 x.p) := fun p => (F4.out.keep fun q hq => p.b.cell (by rw [hq]; exact HK4.out)).c0
          have f1 : ∀ p : Ext w4, p.W.cell? ⟨(ad.add (j * 5)).block, (ad.add (j * 5)).off + 1, none⟩ = some (.int .i64 x.l) := fun p => (F4.out.keep fun q hq => p.b.cell (by rw [hq]; exact HK4.out)).c1
          have f2 : ∀ p : Ext w4, p.W.cell? ⟨(ad.add (j * 5)).block, (ad.add (j * 5)).off + 2, none⟩ = some (.int .i64 x.g) := fun p => (F4.out.keep fun q hq => p.b.cell (by rw [hq]; exact HK4.out)).c2
          have f3 : ∀ p : Ext w4, p.W.cell? ⟨(ad.add (j * 5)).block, (ad.add (j * 5)).off + 3, none⟩ = some (.int .i64 x.d) := fun p => (F4.out.keep fun q hq => p.b.cell (by rw [hq]; exact HK4.out)).c3
          have f4 : ∀ p : Ext w4, p.W.cell? ⟨(ad.add (j * 5)).block, (ad.add (j * 5)).off + 4, none⟩ = some (.int .i64 x.s) := fun p => (F4.out.keep fun q hq => p.b.cell (by rw [hq]; exact HK4.out)).c4
          go_wp2_with fail
          rw [HW4.out]
          clear HW4
          have ne : Nonempty (Ext w4) := ⟨⟨w4, Below.refl _ _⟩⟩
          refine quietE (by kernel_rfl) (by kernel_rfl) ?_
          repeat (first | go_big_quiet_skip | quiet_step (first
            | fail))
          refine wpQuiet_nil ?_
          rintro _ ⟨p, rfl⟩
          have H5 := Lib.hid (H4.out.trans (p.b.mono H4.out.size))
          generalize p.W = w5 at H5 ⊢
          clear ne H4 X4 F4 HK4 y0 y1 y2 y3 y4 f0 f1 f2 f3 f4
          go_wp2
          go_roundw
          case rel => exact ⟨j + 1, _, by omega, by go_num, rfl, H5⟩
          case measure => simp [intOf]; omega
        · obtain rfl : j = k := by omega
          go_wp2
          go_ret
          exact ⟨rfl, HB.out⟩

theorem walk {w : World} (A : Option Addr) (n c : Nat) (ls : List Co) (g : GivenC w A n c ls) : Calls Try.prog 4 #[.slice A n c] w (Yes w true) := by
  by_cases h1 : 50 < n
  · exact way_far w A n c ls g h1
  have C : ∀ W : World, Below w.heap.size w W → Hid (Calls Try.prog 11 #[.slice A n c] W (Yes W (cvr ls))) := fun W h => Lib.hid (covers_ A n c ls W (g.r.below h) g.m)
  cases hv : cvr ls
  · rw [hv] at C
    exact way_no w A n c ls g h1 C
  · rw [hv] at C
    exact way_yes w A n c ls g h1 C hv

set_option maxRecDepth 100000 in
theorem lifted (os : Os) (started : os.Started) (H : Type) (enc : TypeId × Value → H) :
    ReturnsInHanded {} Try.checked os 4 .any (Rows.termsEachSpec.pre6 enc Try.prog Try.f4 Rows.termsEachRow.domain false) (Rows.termsEachSpec.post enc Try.prog Try.f4 false true false false) := by
  refine returnsInHanded_of_change (C := Try.checked) Tm.own started (by kernel_rfl) Try.func4
    (ChangeSpec.witness6 (enc := enc) (C := Try.checked) false ⟨#[], #[.slice none 0 0], []⟩ 8 (by kernel_rfl) (by kernel_rfl) (by kernel_rfl) (by kernel_rfl)) ?_
  intro W base args ds gs before hval0 hW hcnd _
  have hval : ∀ (j : Nat) t v, Try.f4.params[j]? = some t → args[j]? = some v → Value.okWide Try.prog W .any base t v := hval0
  have hW' := hW
  obtain ⟨p, q, hA0, hV, rfl, hfz, hnd⟩ := hW
  have hA : DataW.TrodAll enc Try.prog W 0 (fun _ => true) true Try.f4.params.toList args.toList ds p := hA0
  rw [Try.params4] at hA hval
  obtain ⟨v0, vs0, d0, ds0, p0, q0, hargs, rfl, rfl, h0, r0⟩ := trodAll_cons hA
  obtain ⟨rfl, rfl, rfl⟩ := trodAll_nil r0
  obtain rfl : args = #[v0] := by cases args; simp_all
  obtain ⟨rfl, rfl⟩ := trodVars_none hV
  have k0 := h0
  have lt0 : ∀ x ∈ p0, x.block < W.heap.size := by obtain ⟨m, hm⟩ := k0; exact DataW.trod_lt m _ _ _ hm
  obtain ⟨A0, n0, e0, l0, rfl, g0⟩ := Tm.open_covers (hval 0 26 v0 rfl rfl) h0
  clear hA0 hval0
  refine (walk A0 n0 e0 l0 g0).mono fun e W' ⟨he, bel⟩ => ?_
  subst he
  exact ⟨_, rfl, _, _, _, [], _, [], hW', trodAll_mk1 (shut_bool Try.underlying4 _), (trodAll_cons_mk (Below.trod Tm.laidOut (by kernel_rfl) (of_decide_eq_true (by kernel_rfl)) k0 bel lt0) trodAll_mk0), rfl, bel.frame _, fun h => by cases h⟩

theorem over : Rows.termsEachRow.holds Try.pinned (OpenSpec.ofChange Rows.termsEachSpec) :=
  OpenClaim.holds_of_wide 4 Try.f4 rfl rfl rfl rfl rfl rfl rfl ⟨rfl, rfl, rfl, rfl, rfl⟩ rfl rfl rfl rfl rfl (by kernel_rfl) Try.func4 (by kernel_rfl)
    (of_decide_eq_true (by kernel_rfl)) (by unfold Func.isWrapper; first | (rw [if_pos (by decide +kernel)]; kernel_rfl) | (rw [if_neg (by decide +kernel)]; exact ⟨rfl, rfl⟩))
    (fun os started H enc _ => lifted os started H enc)

theorem proved : Rows.TermsEachSaid := over
end Go.Proofs.Ytaadhageloiiaaa.termsEach
