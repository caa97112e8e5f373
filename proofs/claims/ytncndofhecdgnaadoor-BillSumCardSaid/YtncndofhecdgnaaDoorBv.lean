/-
  The document's Plan. Conditions: the bills read as a list.
-/
import Derived.Test.YtncndofhecdgnaaDoorBp
import Derived.Test.YtncndofhecdgnaaDoorRefShift
import Derived.Test.YtncndofhecdgnaaDoorOne
namespace Go.Proofs.YtncndofhecdgnaaDoor
open Go.RowKit
namespace Bil
set_option linter.unusedVariables false

/-- Shift of the document's, by what a shift tells. -/
theorem rsh (n k v c : Int) (w : World) (h : ShIs n k v c) : Calls Tryd.prog 31 #[.int .i64 n, .int .i64 k] w fun e w' => e = .returned (.tuple #[.int .i64 v, .int .i64 c]) ∧ Below w.heap.size w w' := by
  rcases h with ⟨h, rfl, rfl⟩ | ⟨y, m, d, h, rfl, rfl⟩
  · exact Day.rshift_no n k w h
  · exact Day.rshift n y m d k w h
theorem pl_next {due : Nat → Int} {x : Int} {m k : Nat} : (List.range (k + 1)).map (fun i : Nat => (⟨due i, pt x (m : Int) (i : Int), 0⟩ : Bi)) = (List.range k).map (fun i : Nat => (⟨due i, pt x (m : Int) (i : Int), 0⟩ : Bi)) ++ [⟨due k, pt x (m : Int) (k : Int), 0⟩] := by
  rw [List.range_succ, List.map_append]; rfl
set_option maxRecDepth 100000 in
set_option maxHeartbeats 4000000 in
theorem rplan (x : Int) (s : Int × Int) (m : Int) (w : World) (hx : In x) (h1 : In s.1) (h2 : In s.2) (hm : In m) : Calls Tryd.prog 13 #[.int .i64 x, sg s, .int .i64 m] w (PlTo w x s m) := by
  obtain ⟨s1, s2⟩ := s
  simp only at h1 h2
  obtain ⟨W, hW⟩ : ∃ W, w.alloc (.cells #[.int .i64 s1, .int .i64 s2] 23) = W := ⟨_, rfl⟩
  have HX := Lib.hid (show Bx W w.heap.size 23 #[.int .i64 s1, .int .i64 s2] from hW ▸ Bx.new w _ _)
  have HB := Lib.hid (show Below w.heap.size w W from hW ▸ alloc_ _ _)
  have HW := Lib.hid hW
  have no := Lib.hid (fun (k : Int) (w1 : World) (h : PlIs x (s1, s2) m [] k) (hb : Below w.heap.size w w1) => (show PlTo w x (s1, s2) m (.returned (.tuple #[.slice none 0 0, .int .i64 k])) w1 from ⟨[], _, k, rfl, h, none, 0, rfl, Raws.nil, hb⟩))
  have HIN := Lib.hid (And.intro hx (And.intro h1 (And.intro h2 hm)))
  have x0 := HX.out.c 0
  have x1 := HX.out.c 1
  simp at x0 x1
  clear hW hx h1 h2 hm
  by_cases hq : (0 ≤ x ∧ x ≤ 4000000000000000000) ∧ (m = 1 ∨ m = 2 ∨ m = 4 ∨ m = 12)
  case neg =>
    have HF := Lib.hid (no.out 1 W (.arg (by cases h : asks x (s1, s2) m with | false => rfl | true => exact absurd ⟨(asks_iff.1 h).1, (asks_iff.1 h).2.1⟩ hq) rfl rfl) HB.out)
    have HQ := Lib.hid hq
    clear hq
    by_cases q1 : x < 0
    · have t1 : decide (x < 0) = true := decide_eq_true q1
      clear q1
      go_enter Tryd.func13, Tryd.ntmps13
      go_upto_region 1 with fail
      rw [HW.out]
      go_wp2
      go_ret2
      exact HF.out
    have t1 : decide (x < 0) = false := decide_eq_false q1
    by_cases q2 : 4000000000000000000 < x
    · have t2 : decide (4000000000000000000 < x) = true := decide_eq_true q2
      clear q1 q2
      go_enter Tryd.func13, Tryd.ntmps13
      go_upto_region 1 with fail
      rw [HW.out]
      go_wp2
      go_ret2
      exact HF.out
    have t2 : decide (4000000000000000000 < x) = false := decide_eq_false q2
    have n1 : ¬ m = 1 := by have := HQ.out; omega
    have u1 : (m == 1) = false := by rw [beq_eq_false_iff_ne]; exact n1
    have v1 : (m != 1) = true := bne_iff_ne.2 n1
    have d1 : decide (m = 1) = false := decide_eq_false n1
    have n2 : ¬ m = 2 := by have := HQ.out; omega
    have u2 : (m == 2) = false := by rw [beq_eq_false_iff_ne]; exact n2
    have v2 : (m != 2) = true := bne_iff_ne.2 n2
    have d2 : decide (m = 2) = false := decide_eq_false n2
    have n4 : ¬ m = 4 := by have := HQ.out; omega
    have u4 : (m == 4) = false := by rw [beq_eq_false_iff_ne]; exact n4
    have v4 : (m != 4) = true := bne_iff_ne.2 n4
    have d4 : decide (m = 4) = false := decide_eq_false n4
    have n12 : ¬ m = 12 := by have := HQ.out; omega
    have u12 : (m == 12) = false := by rw [beq_eq_false_iff_ne]; exact n12
    have v12 : (m != 12) = true := bne_iff_ne.2 n12
    have d12 : decide (m = 12) = false := decide_eq_false n12
    clear q1 q2
    go_enter Tryd.func13, Tryd.ntmps13
    go_upto_region 1 with fail
    rw [HW.out]
    go_wp2
    go_ret2
    exact HF.out
  obtain ⟨hx, hm⟩ := hq
  have t1 : decide (x < 0) = false := decide_eq_false (by omega)
  have t2 : decide (4000000000000000000 < x) = false := decide_eq_false (by omega)
  have HXX := Lib.hid hx
  have CM := Lib.hid (Spn.rmany (s1, s2) W)
  obtain ⟨mv, hmv⟩ : ∃ mv, Sp.mn (s1, s2) = mv := ⟨_, rfl⟩
  have HMV := Lib.hid hmv
  rw [hmv] at CM
  clear hmv hx
  rcases hm with rfl | rfl | rfl | rfl
  · have HM := Lib.hid (show (1 : Int) = 1 ∨ (1 : Int) = 2 ∨ (1 : Int) = 4 ∨ (1 : Int) = 12 by omega)
    obtain ⟨due, cod, hsh⟩ : ∃ (f g : Nat → Int), ∀ i : Nat, ShIs s1 ((i : Int) * 12 / 1) (f i) (g i) := ⟨fun i => (ShIs.ex s1 ((i : Int) * 12 / 1)).choose, fun i => (ShIs.ex s1 ((i : Int) * 12 / 1)).choose_spec.choose, fun i => (ShIs.ex s1 ((i : Int) * 12 / 1)).choose_spec.choose_spec⟩
    have HSH := Lib.hid hsh
    clear hsh
    go_enter Tryd.func13, Tryd.ntmps13
    go_upto_region 1 with fail
    rw [HW.out]
    go_wp2_with fail
    refine CM.out.mono ?_
    rintro e w1 ⟨rfl, hb1⟩
    have HB1 := Lib.hid hb1
    clear hb1
    by_cases hz : mv = 0
    · have t3 : decide (mv = 0) = true := decide_eq_true hz
      have t3b : (mv == 0) = true := beq_iff_eq.2 hz
      have HF := Lib.hid (no.out 1 w1 (.arg (by
        cases h : asks x (s1, s2) 1 with
        | false => rfl
        | true =>
          have h3 := (asks_iff.1 h).2.2
          have h4 := Sp.mn_has ((Sp.has_iff (s1, s2)).2 h3)
          rw [HMV.out, hz] at h4
          simp only at h3 h4
          omega) rfl rfl) (HB.out.trans (HB1.out.mono HB.out.size)))
      clear hz
      go_wp2
      go_ret2
      exact HF.out
    have HK := Lib.hid (show asks x (s1, s2) 1 = true from asks_iff.2 ⟨HXX.out, by omega, (Sp.has_iff (s1, s2)).1 (by cases h : Sp.has (s1, s2) with | true => rfl | false => exact absurd (HMV.out.symm.trans (Sp.mn_no h)) hz)⟩)
    have t3 : decide (mv = 0) = false := decide_eq_false hz
    have t3b : (mv == 0) = false := beq_eq_false_iff_ne.2 hz
    have HJ := Lib.hid (show Own w1 w1.heap.size none 0 0 ((List.range 0).map fun i : Nat => (⟨due i, pt x ((1 : Nat) : Int) (i : Int), 0⟩ : Bi)) from Own.nil)
    clear hz x0 x1
    go_wp2
    go_loopw [9, 10] (fun vo vi w' => ∃ (k d : Nat) (D : Option Addr) (V : World), k ≤ 1 ∧ vo = .slice D k d ∧ vi = .int .i64 (k : Int) ∧ V = w' ∧ Hid (Below w1.heap.size w1 V) ∧ Hid (Own V w1.heap.size D k d ((List.range k).map fun i : Nat => (⟨due i, pt x ((1 : Nat) : Int) (i : Int), 0⟩ : Bi))) ∧ Hid (∀ i : Nat, i < k → cod i = 0)) (fun _ vi _ => 1 - (intOf vi).toNat)
    case atStart => exact ⟨0, 0, none, w1, Nat.zero_le _, rfl, rfl, rfl, Lib.hid (Below.refl _ _), HJ, Lib.hid (fun i h => absurd h (by omega))⟩
    case round =>
      clear HJ
      obtain ⟨k, d, D, V, hk, rfl, rfl, rfl, HBV, HO, HC⟩ := hrel
      by_cases hlt : k < 1
      · have hlt2 : (k : Int) < 1 := by omega
        obtain ⟨k12, hk12⟩ : ∃ q, k * 12 = q := ⟨_, rfl⟩
        have HS := Lib.hid (show ShIs s1 (k12 : Int) (due k) (cod k) by
          have := HSH.out k
          rw [show (k : Int) * 12 / 1 = (k12 : Int) by rw [← hk12]; omega] at this
          exact this)
        have HXB := Lib.hid (show Bx V w.heap.size 23 #[.int .i64 s1, .int .i64 s2] from (HX.out.keep HB1.out).keep HBV.out)
        have X0 : ∀ p : Ext V, p.W.cell? ⟨w.heap.size, 0, none⟩ = some (.int .i64 s1) := fun p => by rw [HXB.out.ext p 0]; rfl
        have CB := fun (p : Ext V) => Lib.hid (rsh s1 (k12 : Int) (due k) (cod k) p.W HS.out)
        obtain ⟨dk, hdk⟩ : ∃ dk, due k = dk := ⟨_, rfl⟩
        obtain ⟨ck, hck⟩ : ∃ ck, cod k = ck := ⟨_, rfl⟩
        rw [hdk, hck] at CB
        have HDK := Lib.hid hdk
        have HCK := Lib.hid hck
        have q1 : wrap64 ((k : Int) * 12) = (k12 : Int) := by rw [IntWalk.wrap64_in _ ⟨by omega, by omega⟩]; omega
        have q2 : wrap64 ((k12 : Int) / 1) = (k12 : Int) := by rw [IntWalk.wrap64_in _ ⟨by omega, by omega⟩]; omega
        have q3 : (k12 : Int) / 1 = (k12 : Int) := by omega
        have q4 : wrap64 (k12 : Int) = (k12 : Int) := IntWalk.wrap64_in _ ⟨by omega, by omega⟩
        have q1b : IntKind.i64.wrap ((k : Int) * 12) = (k12 : Int) := (IntWalk.i64_left _).trans q1
        have q4b : IntKind.i64.wrap (k12 : Int) = (k12 : Int) := (IntWalk.i64_left _).trans q4
        clear hk12 hdk hck
        go_upto_region 10 with fail
        have ne : Nonempty (Ext V) := ⟨⟨V, Below.refl _ _⟩⟩
        refine quietE (by kernel_rfl) (by kernel_rfl) ?_
        repeat (first | go_big_quiet_skip | quiet_step (first
          | (go_at_call 31; with_reducible exact ext_of (CB _).out)
          | fail))
        refine wpQuiet_nil ?_
        rintro _ ⟨p, rfl⟩
        have HB2 := Lib.hid (show Below V.heap.size V p.W from p.b)
        generalize p.W = V2 at HB2 ⊢
        clear CB ne X0 q1 q2 q3 q4 q1b q4b
        by_cases hc : ck = 0
        case neg =>
          have u1 : decide (ck = 0) = false := decide_eq_false hc
          have u2 : (ck == 0) = false := beq_eq_false_iff_ne.2 hc
          have u3 : (ck != 0) = true := bne_iff_ne.2 hc
          have HF := Lib.hid (no.out 3 V2 (.day HK.out k (by show (k : Int) < 1; omega) (due k) (by
            have h1 := HSH.out k
            rcases h1.code with h | h
            · exact absurd (HCK.out.symm.trans h) hc
            · rw [h.1] at h1; exact h1) rfl rfl) (HB.out.trans ((HB1.out.trans ((HBV.out.trans (HB2.out.mono HBV.out.size)).mono HB1.out.size)).mono HB.out.size)))
          clear hc
          go_wp2
          go_ret2
          exact HF.out
        subst hc
        have CP := Lib.hid (show Calls Tryd.prog 32 #[.int .i64 x, .int .i64 1, .int .i64 (k : Int)] V2 (fun e w' => e = .returned (.int .i64 (pt x ((1 : Nat) : Int) (k : Int))) ∧ Below V2.heap.size V2 w') from rpart x 1 k V2 HXX.out (by omega) (by omega))
        obtain ⟨pk, hpk⟩ : ∃ pk, pt x ((1 : Nat) : Int) (k : Int) = pk := ⟨_, rfl⟩
        have HPK := Lib.hid hpk
        rw [hpk] at CP
        clear hpk
        go_wp2_with fail
        refine CP.out.mono ?_
        rintro e V3 ⟨rfl, hb3⟩
        have HB3 := Lib.hid (HB2.out.trans (hb3.mono HB2.out.size))
        clear hb3 CP
        go_wp2_with (at_builtin; refine wpList_app _ rfl _ _ rfl w1.heap.size D k d _ rfl ((HO.out.below HB3.out).below (alloc_ _ _)) (· = V3.heap.size) (some ⟨V3.heap.size, 0, none⟩) 1 1 [⟨dk, pk, 0⟩] rfl (raws_one (Bx.new V3 42 (bc ⟨dk, pk, 0⟩))) (fun e => by cases e) (k + 1) rfl (by omega) (by have := HBV.out.size; have := HB3.out.size; simp; omega) ?_; intro D4 d4 w4 hO4 hg4; have HO4 := Lib.hid hO4; have HG4 := Lib.hid hg4; clear hO4 hg4)
        have HB4 := Lib.hid (show Below w1.heap.size w1 w4 by
          have h1 := HBV.out.trans (HB3.out.mono HBV.out.size)
          have h2 := h1.trans ((alloc_ V3 (.cells (bc ⟨dk, pk, 0⟩) 42)).mono h1.size)
          exact h2.grown HG4.out h2.size fun j hj => (HO.out.lt j hj).1)
        have HO5 := Lib.hid (show Own w4 w1.heap.size D4 (k + 1) d4 ((List.range (k + 1)).map fun i : Nat => (⟨due i, pt x ((1 : Nat) : Int) (i : Int), 0⟩ : Bi)) by rw [pl_next, HDK.out, HPK.out]; exact HO4.out)
        have HC5 := Lib.hid (show ∀ i : Nat, i < k + 1 → cod i = 0 from fun i hi => by
          rcases Nat.lt_succ_iff_lt_or_eq.1 hi with h | h
          · exact HC.out i h
          · rw [h]; exact HCK.out)
        go_roundw
        case rel => exact ⟨k + 1, d4, D4, w4, by omega, rfl, by go_num, rfl, HB4, HO5, HC5⟩
        case measure => simp [intOf]; omega
      · have hlt2 : ¬ ((k : Int) < 1) := by omega
        have HF := Lib.hid (show PlTo w x (s1, s2) 1 (.returned (.tuple #[.slice D k d, .int .i64 0])) V by
          obtain rfl : k = 1 := by omega
          refine ⟨pl due x 1, .slice D 1 d, 0, rfl, .ok HK.out due (fun i hi => ?_) rfl rfl, D, d, ?_⟩
          · have h1 := HSH.out i
            rw [HC.out i (by omega)] at h1
            exact h1
          · rw [pl_len]
            exact ⟨rfl, HO.out.raws.keep (fun _ _ => rfl) fun _ h => h.2, HB.out.trans ((HB1.out.trans (HBV.out.mono HB1.out.size)).mono HB.out.size)⟩)
        go_wp2
        go_ret2
        exact HF.out
  · have HM := Lib.hid (show (2 : Int) = 1 ∨ (2 : Int) = 2 ∨ (2 : Int) = 4 ∨ (2 : Int) = 12 by omega)
    obtain ⟨due, cod, hsh⟩ : ∃ (f g : Nat → Int), ∀ i : Nat, ShIs s1 ((i : Int) * 12 / 2) (f i) (g i) := ⟨fun i => (ShIs.ex s1 ((i : Int) * 12 / 2)).choose, fun i => (ShIs.ex s1 ((i : Int) * 12 / 2)).choose_spec.choose, fun i => (ShIs.ex s1 ((i : Int) * 12 / 2)).choose_spec.choose_spec⟩
    have HSH := Lib.hid hsh
    clear hsh
    go_enter Tryd.func13, Tryd.ntmps13
    go_upto_region 1 with fail
    rw [HW.out]
    go_wp2_with fail
    refine CM.out.mono ?_
    rintro e w1 ⟨rfl, hb1⟩
    have HB1 := Lib.hid hb1
    clear hb1
    by_cases hz : mv = 0
    · have t3 : decide (mv = 0) = true := decide_eq_true hz
      have t3b : (mv == 0) = true := beq_iff_eq.2 hz
      have HF := Lib.hid (no.out 1 w1 (.arg (by
        cases h : asks x (s1, s2) 2 with
        | false => rfl
        | true =>
          have h3 := (asks_iff.1 h).2.2
          have h4 := Sp.mn_has ((Sp.has_iff (s1, s2)).2 h3)
          rw [HMV.out, hz] at h4
          simp only at h3 h4
          omega) rfl rfl) (HB.out.trans (HB1.out.mono HB.out.size)))
      clear hz
      go_wp2
      go_ret2
      exact HF.out
    have HK := Lib.hid (show asks x (s1, s2) 2 = true from asks_iff.2 ⟨HXX.out, by omega, (Sp.has_iff (s1, s2)).1 (by cases h : Sp.has (s1, s2) with | true => rfl | false => exact absurd (HMV.out.symm.trans (Sp.mn_no h)) hz)⟩)
    have t3 : decide (mv = 0) = false := decide_eq_false hz
    have t3b : (mv == 0) = false := beq_eq_false_iff_ne.2 hz
    have HJ := Lib.hid (show Own w1 w1.heap.size none 0 0 ((List.range 0).map fun i : Nat => (⟨due i, pt x ((2 : Nat) : Int) (i : Int), 0⟩ : Bi)) from Own.nil)
    clear hz x0 x1
    go_wp2
    go_loopw [9, 10] (fun vo vi w' => ∃ (k d : Nat) (D : Option Addr) (V : World), k ≤ 2 ∧ vo = .slice D k d ∧ vi = .int .i64 (k : Int) ∧ V = w' ∧ Hid (Below w1.heap.size w1 V) ∧ Hid (Own V w1.heap.size D k d ((List.range k).map fun i : Nat => (⟨due i, pt x ((2 : Nat) : Int) (i : Int), 0⟩ : Bi))) ∧ Hid (∀ i : Nat, i < k → cod i = 0)) (fun _ vi _ => 2 - (intOf vi).toNat)
    case atStart => exact ⟨0, 0, none, w1, Nat.zero_le _, rfl, rfl, rfl, Lib.hid (Below.refl _ _), HJ, Lib.hid (fun i h => absurd h (by omega))⟩
    case round =>
      clear HJ
      obtain ⟨k, d, D, V, hk, rfl, rfl, rfl, HBV, HO, HC⟩ := hrel
      by_cases hlt : k < 2
      · have hlt2 : (k : Int) < 2 := by omega
        obtain ⟨k12, hk12⟩ : ∃ q, k * 12 = q := ⟨_, rfl⟩
        obtain ⟨f, hf⟩ : ∃ f, k12 / 2 = f := ⟨_, rfl⟩
        have HS := Lib.hid (show ShIs s1 (f : Int) (due k) (cod k) by
          have := HSH.out k
          rw [show (k : Int) * 12 / 2 = (f : Int) by rw [← hf, ← hk12]; omega] at this
          exact this)
        have HXB := Lib.hid (show Bx V w.heap.size 23 #[.int .i64 s1, .int .i64 s2] from (HX.out.keep HB1.out).keep HBV.out)
        have X0 : ∀ p : Ext V, p.W.cell? ⟨w.heap.size, 0, none⟩ = some (.int .i64 s1) := fun p => by rw [HXB.out.ext p 0]; rfl
        have CB := fun (p : Ext V) => Lib.hid (rsh s1 (f : Int) (due k) (cod k) p.W HS.out)
        obtain ⟨dk, hdk⟩ : ∃ dk, due k = dk := ⟨_, rfl⟩
        obtain ⟨ck, hck⟩ : ∃ ck, cod k = ck := ⟨_, rfl⟩
        rw [hdk, hck] at CB
        have HDK := Lib.hid hdk
        have HCK := Lib.hid hck
        have q1 : wrap64 ((k : Int) * 12) = (k12 : Int) := by rw [IntWalk.wrap64_in _ ⟨by omega, by omega⟩]; omega
        have q2 : wrap64 ((k12 : Int) / 2) = (f : Int) := by rw [← hf, IntWalk.wrap64_in _ ⟨by omega, by omega⟩]; omega
        have q3 : (k12 : Int) / 2 = (f : Int) := by rw [← hf]; omega
        have q4 : wrap64 (f : Int) = (f : Int) := IntWalk.wrap64_in _ ⟨by omega, by omega⟩
        have q1b : IntKind.i64.wrap ((k : Int) * 12) = (k12 : Int) := (IntWalk.i64_left _).trans q1
        have q4b : IntKind.i64.wrap (f : Int) = (f : Int) := (IntWalk.i64_left _).trans q4
        clear hk12 hf hdk hck
        go_upto_region 10 with fail
        have ne : Nonempty (Ext V) := ⟨⟨V, Below.refl _ _⟩⟩
        refine quietE (by kernel_rfl) (by kernel_rfl) ?_
        repeat (first | go_big_quiet_skip | quiet_step (first
          | (go_at_call 31; with_reducible exact ext_of (CB _).out)
          | fail))
        refine wpQuiet_nil ?_
        rintro _ ⟨p, rfl⟩
        have HB2 := Lib.hid (show Below V.heap.size V p.W from p.b)
        generalize p.W = V2 at HB2 ⊢
        clear CB ne X0 q1 q2 q3 q4 q1b q4b
        by_cases hc : ck = 0
        case neg =>
          have u1 : decide (ck = 0) = false := decide_eq_false hc
          have u2 : (ck == 0) = false := beq_eq_false_iff_ne.2 hc
          have u3 : (ck != 0) = true := bne_iff_ne.2 hc
          have HF := Lib.hid (no.out 3 V2 (.day HK.out k (by show (k : Int) < 2; omega) (due k) (by
            have h1 := HSH.out k
            rcases h1.code with h | h
            · exact absurd (HCK.out.symm.trans h) hc
            · rw [h.1] at h1; exact h1) rfl rfl) (HB.out.trans ((HB1.out.trans ((HBV.out.trans (HB2.out.mono HBV.out.size)).mono HB1.out.size)).mono HB.out.size)))
          clear hc
          go_wp2
          go_ret2
          exact HF.out
        subst hc
        have CP := Lib.hid (show Calls Tryd.prog 32 #[.int .i64 x, .int .i64 2, .int .i64 (k : Int)] V2 (fun e w' => e = .returned (.int .i64 (pt x ((2 : Nat) : Int) (k : Int))) ∧ Below V2.heap.size V2 w') from rpart x 2 k V2 HXX.out (by omega) (by omega))
        obtain ⟨pk, hpk⟩ : ∃ pk, pt x ((2 : Nat) : Int) (k : Int) = pk := ⟨_, rfl⟩
        have HPK := Lib.hid hpk
        rw [hpk] at CP
        clear hpk
        go_wp2_with fail
        refine CP.out.mono ?_
        rintro e V3 ⟨rfl, hb3⟩
        have HB3 := Lib.hid (HB2.out.trans (hb3.mono HB2.out.size))
        clear hb3 CP
        go_wp2_with (at_builtin; refine wpList_app _ rfl _ _ rfl w1.heap.size D k d _ rfl ((HO.out.below HB3.out).below (alloc_ _ _)) (· = V3.heap.size) (some ⟨V3.heap.size, 0, none⟩) 1 1 [⟨dk, pk, 0⟩] rfl (raws_one (Bx.new V3 42 (bc ⟨dk, pk, 0⟩))) (fun e => by cases e) (k + 1) rfl (by omega) (by have := HBV.out.size; have := HB3.out.size; simp; omega) ?_; intro D4 d4 w4 hO4 hg4; have HO4 := Lib.hid hO4; have HG4 := Lib.hid hg4; clear hO4 hg4)
        have HB4 := Lib.hid (show Below w1.heap.size w1 w4 by
          have h1 := HBV.out.trans (HB3.out.mono HBV.out.size)
          have h2 := h1.trans ((alloc_ V3 (.cells (bc ⟨dk, pk, 0⟩) 42)).mono h1.size)
          exact h2.grown HG4.out h2.size fun j hj => (HO.out.lt j hj).1)
        have HO5 := Lib.hid (show Own w4 w1.heap.size D4 (k + 1) d4 ((List.range (k + 1)).map fun i : Nat => (⟨due i, pt x ((2 : Nat) : Int) (i : Int), 0⟩ : Bi)) by rw [pl_next, HDK.out, HPK.out]; exact HO4.out)
        have HC5 := Lib.hid (show ∀ i : Nat, i < k + 1 → cod i = 0 from fun i hi => by
          rcases Nat.lt_succ_iff_lt_or_eq.1 hi with h | h
          · exact HC.out i h
          · rw [h]; exact HCK.out)
        go_roundw
        case rel => exact ⟨k + 1, d4, D4, w4, by omega, rfl, by go_num, rfl, HB4, HO5, HC5⟩
        case measure => simp [intOf]; omega
      · have hlt2 : ¬ ((k : Int) < 2) := by omega
        have HF := Lib.hid (show PlTo w x (s1, s2) 2 (.returned (.tuple #[.slice D k d, .int .i64 0])) V by
          obtain rfl : k = 2 := by omega
          refine ⟨pl due x 2, .slice D 2 d, 0, rfl, .ok HK.out due (fun i hi => ?_) rfl rfl, D, d, ?_⟩
          · have h1 := HSH.out i
            rw [HC.out i (by omega)] at h1
            exact h1
          · rw [pl_len]
            exact ⟨rfl, HO.out.raws.keep (fun _ _ => rfl) fun _ h => h.2, HB.out.trans ((HB1.out.trans (HBV.out.mono HB1.out.size)).mono HB.out.size)⟩)
        go_wp2
        go_ret2
        exact HF.out
  · have HM := Lib.hid (show (4 : Int) = 1 ∨ (4 : Int) = 2 ∨ (4 : Int) = 4 ∨ (4 : Int) = 12 by omega)
    obtain ⟨due, cod, hsh⟩ : ∃ (f g : Nat → Int), ∀ i : Nat, ShIs s1 ((i : Int) * 12 / 4) (f i) (g i) := ⟨fun i => (ShIs.ex s1 ((i : Int) * 12 / 4)).choose, fun i => (ShIs.ex s1 ((i : Int) * 12 / 4)).choose_spec.choose, fun i => (ShIs.ex s1 ((i : Int) * 12 / 4)).choose_spec.choose_spec⟩
    have HSH := Lib.hid hsh
    clear hsh
    go_enter Tryd.func13, Tryd.ntmps13
    go_upto_region 1 with fail
    rw [HW.out]
    go_wp2_with fail
    refine CM.out.mono ?_
    rintro e w1 ⟨rfl, hb1⟩
    have HB1 := Lib.hid hb1
    clear hb1
    by_cases hz : mv = 0
    · have t3 : decide (mv = 0) = true := decide_eq_true hz
      have t3b : (mv == 0) = true := beq_iff_eq.2 hz
      have HF := Lib.hid (no.out 1 w1 (.arg (by
        cases h : asks x (s1, s2) 4 with
        | false => rfl
        | true =>
          have h3 := (asks_iff.1 h).2.2
          have h4 := Sp.mn_has ((Sp.has_iff (s1, s2)).2 h3)
          rw [HMV.out, hz] at h4
          simp only at h3 h4
          omega) rfl rfl) (HB.out.trans (HB1.out.mono HB.out.size)))
      clear hz
      go_wp2
      go_ret2
      exact HF.out
    have HK := Lib.hid (show asks x (s1, s2) 4 = true from asks_iff.2 ⟨HXX.out, by omega, (Sp.has_iff (s1, s2)).1 (by cases h : Sp.has (s1, s2) with | true => rfl | false => exact absurd (HMV.out.symm.trans (Sp.mn_no h)) hz)⟩)
    have t3 : decide (mv = 0) = false := decide_eq_false hz
    have t3b : (mv == 0) = false := beq_eq_false_iff_ne.2 hz
    have HJ := Lib.hid (show Own w1 w1.heap.size none 0 0 ((List.range 0).map fun i : Nat => (⟨due i, pt x ((4 : Nat) : Int) (i : Int), 0⟩ : Bi)) from Own.nil)
    clear hz x0 x1
    go_wp2
    go_loopw [9, 10] (fun vo vi w' => ∃ (k d : Nat) (D : Option Addr) (V : World), k ≤ 4 ∧ vo = .slice D k d ∧ vi = .int .i64 (k : Int) ∧ V = w' ∧ Hid (Below w1.heap.size w1 V) ∧ Hid (Own V w1.heap.size D k d ((List.range k).map fun i : Nat => (⟨due i, pt x ((4 : Nat) : Int) (i : Int), 0⟩ : Bi))) ∧ Hid (∀ i : Nat, i < k → cod i = 0)) (fun _ vi _ => 4 - (intOf vi).toNat)
    case atStart => exact ⟨0, 0, none, w1, Nat.zero_le _, rfl, rfl, rfl, Lib.hid (Below.refl _ _), HJ, Lib.hid (fun i h => absurd h (by omega))⟩
    case round =>
      clear HJ
      obtain ⟨k, d, D, V, hk, rfl, rfl, rfl, HBV, HO, HC⟩ := hrel
      by_cases hlt : k < 4
      · have hlt2 : (k : Int) < 4 := by omega
        obtain ⟨k12, hk12⟩ : ∃ q, k * 12 = q := ⟨_, rfl⟩
        obtain ⟨f, hf⟩ : ∃ f, k12 / 4 = f := ⟨_, rfl⟩
        have HS := Lib.hid (show ShIs s1 (f : Int) (due k) (cod k) by
          have := HSH.out k
          rw [show (k : Int) * 12 / 4 = (f : Int) by rw [← hf, ← hk12]; omega] at this
          exact this)
        have HXB := Lib.hid (show Bx V w.heap.size 23 #[.int .i64 s1, .int .i64 s2] from (HX.out.keep HB1.out).keep HBV.out)
        have X0 : ∀ p : Ext V, p.W.cell? ⟨w.heap.size, 0, none⟩ = some (.int .i64 s1) := fun p => by rw [HXB.out.ext p 0]; rfl
        have CB := fun (p : Ext V) => Lib.hid (rsh s1 (f : Int) (due k) (cod k) p.W HS.out)
        obtain ⟨dk, hdk⟩ : ∃ dk, due k = dk := ⟨_, rfl⟩
        obtain ⟨ck, hck⟩ : ∃ ck, cod k = ck := ⟨_, rfl⟩
        rw [hdk, hck] at CB
        have HDK := Lib.hid hdk
        have HCK := Lib.hid hck
        have q1 : wrap64 ((k : Int) * 12) = (k12 : Int) := by rw [IntWalk.wrap64_in _ ⟨by omega, by omega⟩]; omega
        have q2 : wrap64 ((k12 : Int) / 4) = (f : Int) := by rw [← hf, IntWalk.wrap64_in _ ⟨by omega, by omega⟩]; omega
        have q3 : (k12 : Int) / 4 = (f : Int) := by rw [← hf]; omega
        have q4 : wrap64 (f : Int) = (f : Int) := IntWalk.wrap64_in _ ⟨by omega, by omega⟩
        have q1b : IntKind.i64.wrap ((k : Int) * 12) = (k12 : Int) := (IntWalk.i64_left _).trans q1
        have q4b : IntKind.i64.wrap (f : Int) = (f : Int) := (IntWalk.i64_left _).trans q4
        clear hk12 hf hdk hck
        go_upto_region 10 with fail
        have ne : Nonempty (Ext V) := ⟨⟨V, Below.refl _ _⟩⟩
        refine quietE (by kernel_rfl) (by kernel_rfl) ?_
        repeat (first | go_big_quiet_skip | quiet_step (first
          | (go_at_call 31; with_reducible exact ext_of (CB _).out)
          | fail))
        refine wpQuiet_nil ?_
        rintro _ ⟨p, rfl⟩
        have HB2 := Lib.hid (show Below V.heap.size V p.W from p.b)
        generalize p.W = V2 at HB2 ⊢
        clear CB ne X0 q1 q2 q3 q4 q1b q4b
        by_cases hc : ck = 0
        case neg =>
          have u1 : decide (ck = 0) = false := decide_eq_false hc
          have u2 : (ck == 0) = false := beq_eq_false_iff_ne.2 hc
          have u3 : (ck != 0) = true := bne_iff_ne.2 hc
          have HF := Lib.hid (no.out 3 V2 (.day HK.out k (by show (k : Int) < 4; omega) (due k) (by
            have h1 := HSH.out k
            rcases h1.code with h | h
            · exact absurd (HCK.out.symm.trans h) hc
            · rw [h.1] at h1; exact h1) rfl rfl) (HB.out.trans ((HB1.out.trans ((HBV.out.trans (HB2.out.mono HBV.out.size)).mono HB1.out.size)).mono HB.out.size)))
          clear hc
          go_wp2
          go_ret2
          exact HF.out
        subst hc
        have CP := Lib.hid (show Calls Tryd.prog 32 #[.int .i64 x, .int .i64 4, .int .i64 (k : Int)] V2 (fun e w' => e = .returned (.int .i64 (pt x ((4 : Nat) : Int) (k : Int))) ∧ Below V2.heap.size V2 w') from rpart x 4 k V2 HXX.out (by omega) (by omega))
        obtain ⟨pk, hpk⟩ : ∃ pk, pt x ((4 : Nat) : Int) (k : Int) = pk := ⟨_, rfl⟩
        have HPK := Lib.hid hpk
        rw [hpk] at CP
        clear hpk
        go_wp2_with fail
        refine CP.out.mono ?_
        rintro e V3 ⟨rfl, hb3⟩
        have HB3 := Lib.hid (HB2.out.trans (hb3.mono HB2.out.size))
        clear hb3 CP
        go_wp2_with (at_builtin; refine wpList_app _ rfl _ _ rfl w1.heap.size D k d _ rfl ((HO.out.below HB3.out).below (alloc_ _ _)) (· = V3.heap.size) (some ⟨V3.heap.size, 0, none⟩) 1 1 [⟨dk, pk, 0⟩] rfl (raws_one (Bx.new V3 42 (bc ⟨dk, pk, 0⟩))) (fun e => by cases e) (k + 1) rfl (by omega) (by have := HBV.out.size; have := HB3.out.size; simp; omega) ?_; intro D4 d4 w4 hO4 hg4; have HO4 := Lib.hid hO4; have HG4 := Lib.hid hg4; clear hO4 hg4)
        have HB4 := Lib.hid (show Below w1.heap.size w1 w4 by
          have h1 := HBV.out.trans (HB3.out.mono HBV.out.size)
          have h2 := h1.trans ((alloc_ V3 (.cells (bc ⟨dk, pk, 0⟩) 42)).mono h1.size)
          exact h2.grown HG4.out h2.size fun j hj => (HO.out.lt j hj).1)
        have HO5 := Lib.hid (show Own w4 w1.heap.size D4 (k + 1) d4 ((List.range (k + 1)).map fun i : Nat => (⟨due i, pt x ((4 : Nat) : Int) (i : Int), 0⟩ : Bi)) by rw [pl_next, HDK.out, HPK.out]; exact HO4.out)
        have HC5 := Lib.hid (show ∀ i : Nat, i < k + 1 → cod i = 0 from fun i hi => by
          rcases Nat.lt_succ_iff_lt_or_eq.1 hi with h | h
          · exact HC.out i h
          · rw [h]; exact HCK.out)
        go_roundw
        case rel => exact ⟨k + 1, d4, D4, w4, by omega, rfl, by go_num, rfl, HB4, HO5, HC5⟩
        case measure => simp [intOf]; omega
      · have hlt2 : ¬ ((k : Int) < 4) := by omega
        have HF := Lib.hid (show PlTo w x (s1, s2) 4 (.returned (.tuple #[.slice D k d, .int .i64 0])) V by
          obtain rfl : k = 4 := by omega
          refine ⟨pl due x 4, .slice D 4 d, 0, rfl, .ok HK.out due (fun i hi => ?_) rfl rfl, D, d, ?_⟩
          · have h1 := HSH.out i
            rw [HC.out i (by omega)] at h1
            exact h1
          · rw [pl_len]
            exact ⟨rfl, HO.out.raws.keep (fun _ _ => rfl) fun _ h => h.2, HB.out.trans ((HB1.out.trans (HBV.out.mono HB1.out.size)).mono HB.out.size)⟩)
        go_wp2
        go_ret2
        exact HF.out
  · have HM := Lib.hid (show (12 : Int) = 1 ∨ (12 : Int) = 2 ∨ (12 : Int) = 4 ∨ (12 : Int) = 12 by omega)
    obtain ⟨due, cod, hsh⟩ : ∃ (f g : Nat → Int), ∀ i : Nat, ShIs s1 ((i : Int) * 12 / 12) (f i) (g i) := ⟨fun i => (ShIs.ex s1 ((i : Int) * 12 / 12)).choose, fun i => (ShIs.ex s1 ((i : Int) * 12 / 12)).choose_spec.choose, fun i => (ShIs.ex s1 ((i : Int) * 12 / 12)).choose_spec.choose_spec⟩
    have HSH := Lib.hid hsh
    clear hsh
    go_enter Tryd.func13, Tryd.ntmps13
    go_upto_region 1 with fail
    rw [HW.out]
    go_wp2_with fail
    refine CM.out.mono ?_
    rintro e w1 ⟨rfl, hb1⟩
    have HB1 := Lib.hid hb1
    clear hb1
    by_cases hz : mv = 0
    · have t3 : decide (mv = 0) = true := decide_eq_true hz
      have t3b : (mv == 0) = true := beq_iff_eq.2 hz
      have HF := Lib.hid (no.out 1 w1 (.arg (by
        cases h : asks x (s1, s2) 12 with
        | false => rfl
        | true =>
          have h3 := (asks_iff.1 h).2.2
          have h4 := Sp.mn_has ((Sp.has_iff (s1, s2)).2 h3)
          rw [HMV.out, hz] at h4
          simp only at h3 h4
          omega) rfl rfl) (HB.out.trans (HB1.out.mono HB.out.size)))
      clear hz
      go_wp2
      go_ret2
      exact HF.out
    have HK := Lib.hid (show asks x (s1, s2) 12 = true from asks_iff.2 ⟨HXX.out, by omega, (Sp.has_iff (s1, s2)).1 (by cases h : Sp.has (s1, s2) with | true => rfl | false => exact absurd (HMV.out.symm.trans (Sp.mn_no h)) hz)⟩)
    have t3 : decide (mv = 0) = false := decide_eq_false hz
    have t3b : (mv == 0) = false := beq_eq_false_iff_ne.2 hz
    have HJ := Lib.hid (show Own w1 w1.heap.size none 0 0 ((List.range 0).map fun i : Nat => (⟨due i, pt x ((12 : Nat) : Int) (i : Int), 0⟩ : Bi)) from Own.nil)
    clear hz x0 x1
    go_wp2
    go_loopw [9, 10] (fun vo vi w' => ∃ (k d : Nat) (D : Option Addr) (V : World), k ≤ 12 ∧ vo = .slice D k d ∧ vi = .int .i64 (k : Int) ∧ V = w' ∧ Hid (Below w1.heap.size w1 V) ∧ Hid (Own V w1.heap.size D k d ((List.range k).map fun i : Nat => (⟨due i, pt x ((12 : Nat) : Int) (i : Int), 0⟩ : Bi))) ∧ Hid (∀ i : Nat, i < k → cod i = 0)) (fun _ vi _ => 12 - (intOf vi).toNat)
    case atStart => exact ⟨0, 0, none, w1, Nat.zero_le _, rfl, rfl, rfl, Lib.hid (Below.refl _ _), HJ, Lib.hid (fun i h => absurd h (by omega))⟩
    case round =>
      clear HJ
      obtain ⟨k, d, D, V, hk, rfl, rfl, rfl, HBV, HO, HC⟩ := hrel
      by_cases hlt : k < 12
      · have hlt2 : (k : Int) < 12 := by omega
        obtain ⟨k12, hk12⟩ : ∃ q, k * 12 = q := ⟨_, rfl⟩
        obtain ⟨f, hf⟩ : ∃ f, k12 / 12 = f := ⟨_, rfl⟩
        have HS := Lib.hid (show ShIs s1 (f : Int) (due k) (cod k) by
          have := HSH.out k
          rw [show (k : Int) * 12 / 12 = (f : Int) by rw [← hf, ← hk12]; omega] at this
          exact this)
        have HXB := Lib.hid (show Bx V w.heap.size 23 #[.int .i64 s1, .int .i64 s2] from (HX.out.keep HB1.out).keep HBV.out)
        have X0 : ∀ p : Ext V, p.W.cell? ⟨w.heap.size, 0, none⟩ = some (.int .i64 s1) := fun p => by rw [HXB.out.ext p 0]; rfl
        have CB := fun (p : Ext V) => Lib.hid (rsh s1 (f : Int) (due k) (cod k) p.W HS.out)
        obtain ⟨dk, hdk⟩ : ∃ dk, due k = dk := ⟨_, rfl⟩
        obtain ⟨ck, hck⟩ : ∃ ck, cod k = ck := ⟨_, rfl⟩
        rw [hdk, hck] at CB
        have HDK := Lib.hid hdk
        have HCK := Lib.hid hck
        have q1 : wrap64 ((k : Int) * 12) = (k12 : Int) := by rw [IntWalk.wrap64_in _ ⟨by omega, by omega⟩]; omega
        have q2 : wrap64 ((k12 : Int) / 12) = (f : Int) := by rw [← hf, IntWalk.wrap64_in _ ⟨by omega, by omega⟩]; omega
        have q3 : (k12 : Int) / 12 = (f : Int) := by rw [← hf]; omega
        have q4 : wrap64 (f : Int) = (f : Int) := IntWalk.wrap64_in _ ⟨by omega, by omega⟩
        have q1b : IntKind.i64.wrap ((k : Int) * 12) = (k12 : Int) := (IntWalk.i64_left _).trans q1
        have q4b : IntKind.i64.wrap (f : Int) = (f : Int) := (IntWalk.i64_left _).trans q4
        clear hk12 hf hdk hck
        go_upto_region 10 with fail
        have ne : Nonempty (Ext V) := ⟨⟨V, Below.refl _ _⟩⟩
        refine quietE (by kernel_rfl) (by kernel_rfl) ?_
        repeat (first | go_big_quiet_skip | quiet_step (first
          | (go_at_call 31; with_reducible exact ext_of (CB _).out)
          | fail))
        refine wpQuiet_nil ?_
        rintro _ ⟨p, rfl⟩
        have HB2 := Lib.hid (show Below V.heap.size V p.W from p.b)
        generalize p.W = V2 at HB2 ⊢
        clear CB ne X0 q1 q2 q3 q4 q1b q4b
        by_cases hc : ck = 0
        case neg =>
          have u1 : decide (ck = 0) = false := decide_eq_false hc
          have u2 : (ck == 0) = false := beq_eq_false_iff_ne.2 hc
          have u3 : (ck != 0) = true := bne_iff_ne.2 hc
          have HF := Lib.hid (no.out 3 V2 (.day HK.out k (by show (k : Int) < 12; omega) (due k) (by
            have h1 := HSH.out k
            rcases h1.code with h | h
            · exact absurd (HCK.out.symm.trans h) hc
            · rw [h.1] at h1; exact h1) rfl rfl) (HB.out.trans ((HB1.out.trans ((HBV.out.trans (HB2.out.mono HBV.out.size)).mono HB1.out.size)).mono HB.out.size)))
          clear hc
          go_wp2
          go_ret2
          exact HF.out
        subst hc
        have CP := Lib.hid (show Calls Tryd.prog 32 #[.int .i64 x, .int .i64 12, .int .i64 (k : Int)] V2 (fun e w' => e = .returned (.int .i64 (pt x ((12 : Nat) : Int) (k : Int))) ∧ Below V2.heap.size V2 w') from rpart x 12 k V2 HXX.out (by omega) (by omega))
        obtain ⟨pk, hpk⟩ : ∃ pk, pt x ((12 : Nat) : Int) (k : Int) = pk := ⟨_, rfl⟩
        have HPK := Lib.hid hpk
        rw [hpk] at CP
        clear hpk
        go_wp2_with fail
        refine CP.out.mono ?_
        rintro e V3 ⟨rfl, hb3⟩
        have HB3 := Lib.hid (HB2.out.trans (hb3.mono HB2.out.size))
        clear hb3 CP
        go_wp2_with (at_builtin; refine wpList_app _ rfl _ _ rfl w1.heap.size D k d _ rfl ((HO.out.below HB3.out).below (alloc_ _ _)) (· = V3.heap.size) (some ⟨V3.heap.size, 0, none⟩) 1 1 [⟨dk, pk, 0⟩] rfl (raws_one (Bx.new V3 42 (bc ⟨dk, pk, 0⟩))) (fun e => by cases e) (k + 1) rfl (by omega) (by have := HBV.out.size; have := HB3.out.size; simp; omega) ?_; intro D4 d4 w4 hO4 hg4; have HO4 := Lib.hid hO4; have HG4 := Lib.hid hg4; clear hO4 hg4)
        have HB4 := Lib.hid (show Below w1.heap.size w1 w4 by
          have h1 := HBV.out.trans (HB3.out.mono HBV.out.size)
          have h2 := h1.trans ((alloc_ V3 (.cells (bc ⟨dk, pk, 0⟩) 42)).mono h1.size)
          exact h2.grown HG4.out h2.size fun j hj => (HO.out.lt j hj).1)
        have HO5 := Lib.hid (show Own w4 w1.heap.size D4 (k + 1) d4 ((List.range (k + 1)).map fun i : Nat => (⟨due i, pt x ((12 : Nat) : Int) (i : Int), 0⟩ : Bi)) by rw [pl_next, HDK.out, HPK.out]; exact HO4.out)
        have HC5 := Lib.hid (show ∀ i : Nat, i < k + 1 → cod i = 0 from fun i hi => by
          rcases Nat.lt_succ_iff_lt_or_eq.1 hi with h | h
          · exact HC.out i h
          · rw [h]; exact HCK.out)
        go_roundw
        case rel => exact ⟨k + 1, d4, D4, w4, by omega, rfl, by go_num, rfl, HB4, HO5, HC5⟩
        case measure => simp [intOf]; omega
      · have hlt2 : ¬ ((k : Int) < 12) := by omega
        have HF := Lib.hid (show PlTo w x (s1, s2) 12 (.returned (.tuple #[.slice D k d, .int .i64 0])) V by
          obtain rfl : k = 12 := by omega
          refine ⟨pl due x 12, .slice D 12 d, 0, rfl, .ok HK.out due (fun i hi => ?_) rfl rfl, D, d, ?_⟩
          · have h1 := HSH.out i
            rw [HC.out i (by omega)] at h1
            exact h1
          · rw [pl_len]
            exact ⟨rfl, HO.out.raws.keep (fun _ _ => rfl) fun _ h => h.2, HB.out.trans ((HB1.out.trans (HBV.out.mono HB1.out.size)).mono HB.out.size)⟩)
        go_wp2
        go_ret2
        exact HF.out

end Bil
end Go.Proofs.YtncndofhecdgnaaDoor
