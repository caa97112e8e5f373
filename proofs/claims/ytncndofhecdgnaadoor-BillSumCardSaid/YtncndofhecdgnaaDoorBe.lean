/-
  The program's Plan. Conditions: the table of months reads as laid; the arguments are numbers of 64 bits.
-/
import Derived.Test.YtncndofhecdgnaaDoorBq
import Derived.Test.YtncndofhecdgnaaDoorShift
import Derived.Test.YtncndofhecdgnaaDoorOne
namespace Go.Proofs.YtncndofhecdgnaaDoor
open Go.RowKit Cal
namespace Bil
set_option linter.unusedVariables false

/-- Shift of the program's, by what a shift tells. -/
theorem psh (n k v c : Int) (w : World) (hT : Day.Tab w) (h : ShIs n k v c) : Calls Tryd.prog 24 #[.int .i64 n, .int .i64 k] w fun e w' => e = .returned (.tuple #[.int .i64 v, .int .i64 c]) ∧ Below w.heap.size w w' := by
  rcases h with ⟨h, rfl, rfl⟩ | ⟨y, m, d, h, rfl, rfl⟩
  · exact Day.shift_no n k w h
  · cases hk : inR (at_ y m + k)
    · rw [(sh_out hk).1, (sh_out hk).2]; exact Day.shift_out n y m d k w hT h hk
    · rw [(sh_in hk).1, (sh_in hk).2]; exact Day.shift_in n y m d k w hT h hk
def zrow (m : Nat) : Array Value := madeCells zc (m * 3)
theorem make_bills (m : Nat) (hm : m ≤ 1000) (w : World) : (Instr.makeSlice 48 (.int .i64 (m : Int)) (.int .i64 (m : Int))).run Tryd.prog w = .ok (.slice (some ⟨w.heap.size, 0, none⟩) m m) (w.alloc (.cells (zrow m) 42)) := by
  obtain ⟨i, hi, hz, h1, h2⟩ := info_parts info_bill
  have h := run_make (P := Tryd.prog) w 48 42 i _ Tryd.underlying48 hi hz .i64 .i64 (m : Int) (m : Int) (by omega) (Int.le_refl _) (by rw [h2]; omega) (by omega)
  simp only [Int.toNat_natCast, h1] at h
  exact h
/-- Bills with so many days laid. -/
def dz (due : Nat → Int) (k m : Nat) : List Bi := (List.range m).map fun i => ⟨if i < k then due i else 0, 0, 0⟩
theorem dz_len (due : Nat → Int) (k m : Nat) : (dz due k m).length = m := by simp [dz]
theorem dz_get {due : Nat → Int} {k m i : Nat} (h : i < m) : (dz due k m)[i]? = some ⟨if i < k then due i else 0, 0, 0⟩ := by
  unfold dz; rw [List.getElem?_map, List.getElem?_range h]; rfl
theorem dz_next {due : Nat → Int} {k m : Nat} (h : k < m) : (dz due k m).set k ⟨due k, 0, 0⟩ = dz due (k + 1) m := by
  apply List.ext_getElem?
  intro i
  by_cases hi : i < m
  · rw [dz_get hi]
    by_cases e : i = k
    · subst e
      rw [List.getElem?_set, if_pos rfl, if_pos (by rw [dz_len]; exact h), if_pos (by omega)]
    · rw [List.getElem?_set_ne (fun h => e h.symm), dz_get hi]
      by_cases e2 : i < k
      · rw [if_pos e2, if_pos (by omega)]
      · rw [if_neg e2, if_neg (by omega)]
  · rw [List.getElem?_eq_none (by rw [List.length_set, dz_len]; omega), List.getElem?_eq_none (by rw [dz_len]; omega)]
theorem dz_rz {due : Nat → Int} {x : Int} {m : Nat} : rz x (m : Int) 0 m (dz due m m) = pl due x m := by
  apply List.ext_getElem?
  intro i
  by_cases hi : i < m
  · rw [rz_get (dz_get hi), pl_get hi, if_pos ⟨Nat.zero_le _, by omega⟩, if_pos hi, Nat.sub_zero]
    show some (⟨due i, 0 + pt x (m : Int) (i : Int), 0⟩ : Bi) = _
    rw [Int.zero_add]
  · rw [List.getElem?_eq_none (by rw [rz_len, dz_len]; omega), List.getElem?_eq_none (by rw [pl_len]; omega)]
theorem blk_made (w : World) (due : Nat → Int) (m : Nat) : Blk (w.alloc (.cells (zrow m) 42)) w.heap.size 0 (dz due 0 m) := by
  have hh := heap_alloc_new w (.cells (zrow m) 42)
  refine ⟨fun j t b u hj ht => ?_, fun i => frozen_of_row _ _ _ _ _ hh, by simp⟩
  have hjm : j < m := by have := (List.getElem?_eq_some_iff.1 hj).1; rwa [dz_len] at this
  have ht3 : t < 3 := (List.getElem?_eq_some_iff.1 ht).1
  rw [dz_get hjm, if_neg (by omega)] at hj
  injection hj with hj
  subst hj
  have hu : u = .int .i64 0 := by
    match t, ht3, ht with
    | 0, _, ht => injection ht with ht; exact ht.symm
    | 1, _, ht => injection ht with ht; exact ht.symm
    | 2, _, ht => injection ht with ht; exact ht.symm
  subst hu
  rw [cell_of_row _ _ _ _ _ _ hh]
  unfold zrow madeCells
  rw [Array.getElem?_map, Array.getElem?_range, if_pos (by omega)]
  have e : (0 + j * 3 + t) % 3 = t := by omega
  show some (zc[(0 + j * 3 + t) % 3]!) = _
  rw [e]
  match t, ht3 with
  | 0, _ => rfl
  | 1, _ => rfl
  | 2, _ => rfl
set_option maxRecDepth 100000 in
set_option maxHeartbeats 4000000 in
theorem plan_ (x : Int) (s : Int × Int) (m : Int) (w : World) (hT : Day.Tab w) (hx : In x) (h1 : In s.1) (h2 : In s.2) (hm : In m) : Calls Tryd.prog 12 #[.int .i64 x, sg s, .int .i64 m] w (PlTo w x s m) := by
  obtain ⟨s1, s2⟩ := s
  simp only at h1 h2
  obtain ⟨W, hW⟩ : ∃ W, w.alloc (.cells #[.int .i64 s1, .int .i64 s2] 23) = W := ⟨_, rfl⟩
  have HX := Lib.hid (show Bx W w.heap.size 23 #[.int .i64 s1, .int .i64 s2] from hW ▸ Bx.new w _ _)
  have HB := Lib.hid (show Below w.heap.size w W from hW ▸ alloc_ _ _)
  have HT := Lib.hid (hT.below HB.out hT.1)
  have HW := Lib.hid hW
  have no := Lib.hid (fun (k : Int) (w1 : World) (h : PlIs x (s1, s2) m [] k) (hb : Below w.heap.size w w1) => (show PlTo w x (s1, s2) m (.returned (.tuple #[.slice none 0 0, .int .i64 k])) w1 from ⟨[], _, k, rfl, h, none, 0, rfl, Raws.nil, hb⟩))
  have x0 := HX.out.c 0
  have x1 := HX.out.c 1
  simp at x0 x1
  clear hW hx h1 h2 hm hT
  have C := Lib.hid (isSum_ x W)
  by_cases hq : 0 ≤ x ∧ x ≤ 4000000000000000000
  case neg =>
    rw [decide_eq_false hq] at C
    have HA := Lib.hid (show asks x (s1, s2) m = false by cases h : asks x (s1, s2) m with | false => rfl | true => exact absurd (asks_iff.1 h).1 hq)
    clear hq
    go_enter Tryd.func12, Tryd.ntmps12
    go_upto_region 1 with fail
    rw [HW.out]
    go_wp2_with fail
    refine C.out.mono ?_
    rintro e w1 ⟨rfl, hb1⟩
    have HF := Lib.hid (no.out 1 w1 (.arg HA.out rfl rfl) (HB.out.trans (hb1.mono HB.out.size)))
    clear hb1
    go_wp2
    go_ret2
    exact HF.out
  rw [decide_eq_true hq] at C
  have HXX := Lib.hid hq
  clear hq
  by_cases hm : m = 1 ∨ m = 2 ∨ m = 4 ∨ m = 12
  case neg =>
    have CS := fun w => Lib.hid (show Calls Tryd.prog 26 #[.int .i64 m] w fun e w' => e = .returned (.bool false) ∧ Below w.heap.size w w' by rw [← show shr m = false from decide_eq_false hm]; exact sharesYear_ m w)
    have HA := Lib.hid (show asks x (s1, s2) m = false by cases h : asks x (s1, s2) m with | false => rfl | true => exact absurd (asks_iff.1 h).2.1 hm)
    clear hm
    go_enter Tryd.func12, Tryd.ntmps12
    go_upto_region 1 with fail
    rw [HW.out]
    go_wp2_with fail
    refine C.out.mono ?_
    rintro e w1 ⟨rfl, hb1⟩
    have HB1 := Lib.hid (HB.out.trans (hb1.mono HB.out.size))
    clear hb1
    go_wp2_with fail
    refine (CS _).out.mono ?_
    rintro e w2 ⟨rfl, hb2⟩
    have HF := Lib.hid (no.out 1 w2 (.arg HA.out rfl rfl) (HB1.out.trans (hb2.mono HB1.out.size)))
    clear hb2
    go_wp2
    go_ret2
    exact HF.out
  have HMM := Lib.hid hm
  have CS := fun w => Lib.hid (show Calls Tryd.prog 26 #[.int .i64 m] w fun e w' => e = .returned (.bool true) ∧ Below w.heap.size w w' by rw [← show shr m = true from decide_eq_true hm]; exact sharesYear_ m w)
  obtain ⟨n, rfl⟩ : ∃ n : Nat, m = (n : Int) := ⟨m.toNat, by omega⟩
  have hn1 : 1 ≤ n := by omega
  have hn2 : n ≤ 12 := by omega
  have CM := fun w => Lib.hid (Spn.many (s1, s2) w)
  obtain ⟨mv, hmv⟩ : ∃ mv, Sp.mn (s1, s2) = mv := ⟨_, rfl⟩
  have HMV := Lib.hid hmv
  rw [hmv] at CM
  clear hmv hm
  go_enter Tryd.func12, Tryd.ntmps12
  go_upto_region 1 with fail
  rw [HW.out]
  go_wp2_with fail
  refine C.out.mono ?_
  rintro e w1 ⟨rfl, hb1⟩
  have HB1 := Lib.hid (HB.out.trans (hb1.mono HB.out.size))
  have HX1 := Lib.hid (HX.out.keep hb1)
  have HT1 := Lib.hid (HT.out.below hb1 HT.out.1)
  clear hb1
  go_wp2_with fail
  refine (CS _).out.mono ?_
  rintro e w2 ⟨rfl, hb2⟩
  have HB2 := Lib.hid (HB1.out.trans (hb2.mono HB1.out.size))
  have HX2 := Lib.hid (HX1.out.keep hb2)
  have HT2 := Lib.hid (HT1.out.below hb2 HT1.out.1)
  clear hb2 x0 x1 HB1 HX1 HT1
  have x0 := HX2.out.c 0
  have x1 := HX2.out.c 1
  simp at x0 x1
  go_wp2_with fail
  refine (CM _).out.mono ?_
  rintro e w3 ⟨rfl, hb3⟩
  have HB3 := Lib.hid (HB2.out.trans (hb3.mono HB2.out.size))
  have HX3 := Lib.hid (HX2.out.keep hb3)
  have HT3 := Lib.hid (HT2.out.below hb3 HT2.out.1)
  clear hb3 x0 x1 HB2 HX2 HT2
  by_cases hz : mv = 0
  · have t3 : decide (mv = 0) = true := decide_eq_true hz
    have t3b : (mv == 0) = true := beq_iff_eq.2 hz
    have HF := Lib.hid (no.out 1 w3 (.arg (by
      cases h : asks x (s1, s2) (n : Int) with
      | false => rfl
      | true =>
        have h3 := (asks_iff.1 h).2.2
        have h4 := Sp.mn_has ((Sp.has_iff (s1, s2)).2 h3)
        rw [HMV.out, hz] at h4
        simp only at h3 h4
        omega) rfl rfl) HB3.out)
    clear hz
    go_wp2
    go_ret2
    exact HF.out
  have HK := Lib.hid (show asks x (s1, s2) (n : Int) = true from asks_iff.2 ⟨HXX.out, HMM.out, (Sp.has_iff (s1, s2)).1 (by cases h : Sp.has (s1, s2) with | true => rfl | false => exact absurd (HMV.out.symm.trans (Sp.mn_no h)) hz)⟩)
  have t3 : decide (mv = 0) = false := decide_eq_false hz
  have t3b : (mv == 0) = false := beq_eq_false_iff_ne.2 hz
  obtain ⟨due, cod, hsh⟩ : ∃ (f g : Nat → Int), ∀ i : Nat, ShIs s1 ((i : Int) * 12 / (n : Int)) (f i) (g i) := ⟨fun i => (ShIs.ex s1 ((i : Int) * 12 / (n : Int))).choose, fun i => (ShIs.ex s1 ((i : Int) * 12 / (n : Int))).choose_spec.choose, fun i => (ShIs.ex s1 ((i : Int) * 12 / (n : Int))).choose_spec.choose_spec⟩
  have HSH := Lib.hid hsh
  have hmk := make_bills n (by omega)
  have HN := Lib.hid (And.intro hn1 hn2)
  obtain ⟨W4, hW4⟩ : ∃ W4, w3.alloc (.cells (zrow n) 42) = W4 := ⟨_, rfl⟩
  obtain ⟨g, hg⟩ : ∃ g, w3.heap.size = g := ⟨_, rfl⟩
  have HWR := Lib.hid (show Blk W4 g 0 (dz due 0 n) from hW4 ▸ hg ▸ blk_made w3 due n)
  have hb4 : Below w3.heap.size w3 W4 := hW4 ▸ alloc_ _ _
  have HB4 := Lib.hid (HB3.out.trans (hb4.mono HB3.out.size))
  have HX4 := Lib.hid (HX3.out.keep hb4)
  have HT4 := Lib.hid (HT3.out.below hb4 HT3.out.1)
  have HGW := Lib.hid (show w.heap.size < g by
    have h1 := HX3.out.lt
    omega)
  have HW4 := Lib.hid hW4
  have HGG := Lib.hid hg
  clear hsh hz hW4 hg hb4 hn1 hn2
  go_wp2
  rw [HW4.out, HGG.out]
  have HC0 := Lib.hid (show ∀ i : Nat, i < 0 → cod i = 0 from fun i h => absurd h (by omega))
  clear hmk C CS CM t3 t3b HX HB HT HB3 HX3 HT3 HW
  go_loopw [28] (fun vi w' => ∃ (k : Nat) (V : World), k ≤ n ∧ vi = .int .i64 (k : Int) ∧ V = w' ∧ Hid (Below w.heap.size w V) ∧ Hid (Bx V w.heap.size 23 #[.int .i64 s1, .int .i64 s2]) ∧ Hid (Day.Tab V) ∧ Hid (Blk V g 0 (dz due k n)) ∧ Hid (∀ i : Nat, i < k → cod i = 0)) (fun vi _ => n - (intOf vi).toNat)
  case atStart => exact ⟨0, W4, Nat.zero_le _, rfl, rfl, HB4, HX4, HT4, HWR, HC0⟩
  case round =>
    clear HB4 HX4 HT4 HWR HC0
    obtain ⟨k, V, hk, rfl, rfl, HBV, HXV, HTV, HO, HC⟩ := hrel
    by_cases hlt : k < n
    · have hlt2 : (k : Int) < (n : Int) := by omega
      have hn9 : n ≤ 12 := HN.out.2
      have hn1 : 0 < n := HN.out.1
      obtain ⟨k12, hk12⟩ : ∃ q, k * 12 = q := ⟨_, rfl⟩
      obtain ⟨f, hf⟩ : ∃ f, k12 / n = f := ⟨_, rfl⟩
      have hfb : f ≤ 200 := by rw [← hf]; exact Nat.le_trans (Nat.div_le_self _ _) (by omega)
      have qd : (k12 : Int) / (n : Int) = (f : Int) := by rw [← hf, Int.natCast_ediv]
      have HS := Lib.hid (show ShIs s1 (f : Int) (due k) (cod k) by
        have := HSH.out k
        rw [show (k : Int) * 12 = (k12 : Int) by rw [← hk12]; omega, qd] at this
        exact this)
      have X0 : ∀ p : Ext V, p.W.cell? ⟨w.heap.size, 0, none⟩ = some (.int .i64 s1) := fun p => by rw [HXV.out.ext p 0]; rfl
      have CB := fun (p : Ext V) => Lib.hid (psh s1 (f : Int) (due k) (cod k) p.W (HTV.out.below p.b HTV.out.1) HS.out)
      obtain ⟨dk, hdk⟩ : ∃ dk, due k = dk := ⟨_, rfl⟩
      obtain ⟨ck, hck⟩ : ∃ ck, cod k = ck := ⟨_, rfl⟩
      rw [hdk, hck] at CB
      have HDK := Lib.hid hdk
      have HCK := Lib.hid hck
      have q1 : wrap64 ((k : Int) * 12) = (k12 : Int) := by rw [IntWalk.wrap64_in _ ⟨by omega, by omega⟩]; omega
      have q4 : wrap64 (f : Int) = (f : Int) := IntWalk.wrap64_in _ ⟨by omega, by omega⟩
      have q1b : IntKind.i64.wrap ((k : Int) * 12) = (k12 : Int) := (IntWalk.i64_left _).trans q1
      have q4b : IntKind.i64.wrap (f : Int) = (f : Int) := (IntWalk.i64_left _).trans q4
      have n0 : ¬ ((n : Int) = 0) := by omega
      have n0n : ¬ (n = 0) := by omega
      have n0b : ((n : Int) == 0) = false := beq_eq_false_iff_ne.2 n0
      have n0d : decide ((n : Int) = 0) = false := decide_eq_false n0
      clear hk12 hdk hck hf hfb
      go_upto_region 7 with fail
      have ne : Nonempty (Ext V) := ⟨⟨V, Below.refl _ _⟩⟩
      refine quietE (by kernel_rfl) (by kernel_rfl) ?_
      repeat (first | go_big_quiet_skip | quiet_step (first
        | (go_at_call 24; with_reducible exact ext_of (CB _).out)
        | fail))
      refine wpQuiet_nil ?_
      rintro _ ⟨p, rfl⟩
      have HB2 := Lib.hid (show Below V.heap.size V p.W from p.b)
      generalize p.W = V2 at HB2 ⊢
      clear CB ne X0 q1 q4 q1b q4b qd n0 n0n n0b n0d
      by_cases hc : ck = 0
      case neg =>
        have u1 : decide (ck = 0) = false := decide_eq_false hc
        have u2 : (ck == 0) = false := beq_eq_false_iff_ne.2 hc
        have u3 : (ck != 0) = true := bne_iff_ne.2 hc
        have hck3 : ck = 3 := by
          rcases (HSH.out k).code with h | h
          · exact absurd (HCK.out.symm.trans h) hc
          · exact HCK.out.symm.trans h.1
        have HF := Lib.hid (no.out 3 V2 (.day HK.out k (by omega) (due k) (by
          have h1 := HSH.out k
          rw [HCK.out, hck3] at h1
          exact h1) rfl rfl) (HBV.out.trans (HB2.out.mono HBV.out.size)))
        subst hck3
        clear hc
        go_wp2
        go_ret2
        exact HF.out
      subst hc
      have HO2 := Lib.hid (HO.out.below HB2.out HO.out.lt)
      have HX2 := Lib.hid (HXV.out.keep HB2.out)
      have HT2 := Lib.hid (HTV.out.below HB2.out HTV.out.1)
      have HBW := Lib.hid (HBV.out.trans (HB2.out.mono HBV.out.size))
      have hg := dz_get (due := due) (k := k) hlt
      rw [if_neg (by omega)] at hg
      have cd := HO2.out.d hg
      have cf := HO2.out.f (k * 3)
      rw [Nat.zero_add] at cd
      have HO3 := Lib.hid (show Blk (V2.setCell ⟨g, k * 3, none⟩ (.int .i64 dk)) g 0 (dz due (k + 1) n) by
        have h := HO2.out.putD hg dk
        rw [← HDK.out, dz_next hlt, Nat.zero_add] at h
        rw [← HDK.out]
        exact h)
      have hbs : Below g V2 (V2.setCell ⟨g, k * 3, none⟩ (.int .i64 dk)) := (Below.refl g V2).setCell (p := ⟨g, k * 3, none⟩) (Nat.le_refl g) _
      have HX3 := Lib.hid (HX2.out.below hbs HGW.out)
      have HT3 := Lib.hid (HT2.out.below hbs (by have := HGW.out; omega))
      have HB3 := Lib.hid (show Below w.heap.size w (V2.setCell ⟨g, k * 3, none⟩ (.int .i64 dk)) from HBW.out.setCell (p := ⟨g, k * 3, none⟩) (Nat.le_of_lt HGW.out) _)
      have HC3 := Lib.hid (show ∀ i : Nat, i < k + 1 → cod i = 0 from fun i hi => by
        rcases Nat.lt_succ_iff_lt_or_eq.1 hi with h | h
        · exact HC.out i h
        · rw [h]; exact HCK.out)
      clear hg hbs HBV HXV HTV HO HC HO2 HX2 HT2 HBW HB2
      go_wp2
      go_roundw
      case rel => exact ⟨k + 1, _, by omega, by go_num, rfl, HB3, HX3, HT3, HO3, HC3⟩
      case measure => simp [intOf]; omega
    · obtain rfl : k = n := by omega
      have C := Lib.hid (deal_ x k g 0 0 k (dz due k k) V HXX.out ⟨HN.out.1, by have := HN.out; omega⟩ rfl (by rw [dz_len, Nat.zero_add]) HO.out (fun b hb => by
        unfold dz at hb
        obtain ⟨i, _, rfl⟩ := List.mem_map.1 hb
        exact ⟨Int.le_refl _, by show (0 : Int) ≤ _; omega⟩))
      go_wp2_with fail
      refine C.out.mono ?_
      rintro e w7 ⟨rfl, hD⟩
      have HF := Lib.hid (show PlTo w x (s1, s2) (k : Int) (.returned (.tuple #[.slice (some ⟨g, 0, none⟩) k k, .int .i64 0])) w7 by
        have hb := hD.b
        rw [dz_rz] at hb
        have h := hb.raws
        refine ⟨pl due x k, .slice (some ⟨g, 0, none⟩) k k, 0, rfl, .ok HK.out due (fun i hi => ?_) (by rw [Int.toNat_natCast]) rfl, some ⟨g, 0, none⟩, k, ?_⟩
        · have h1 := HSH.out i
          rw [HC.out i (by omega)] at h1
          exact h1
        · rw [pl_len] at h ⊢
          exact ⟨rfl, h.keep (fun _ _ => rfl) fun b e => by rw [e]; exact hb.lt, HBV.out.grown hD.gr HBV.out.size (fun i hi => by injection hi with hi; subst hi; exact Nat.le_of_lt HGW.out)⟩)
      clear hD
      go_wp2
      go_ret2
      exact HF.out

end Bil
end Go.Proofs.YtncndofhecdgnaaDoor
