/-
  The statement SpanAny holds: for every input the call returns true, and each argument reads afterwards as it read before. Conditions: none beside those that the row itself bears.
-/
import Derived.Test.YtbollbbanmdbhaaGiven
namespace Go.Proofs.Ytbollbbanmdbhaa.spanAny
open Go.ChangeShapes Go.WideShapes Go.ChangeAt Go.RowKit Sp Spn
set_option linter.unusedVariables false

set_option maxHeartbeats 1000000 in
theorem few (A : Option Addr) (n c : Nat) (w : World) (hn : n ≤ 9223372036854775807) : Calls Try.prog 23 #[.slice A n c] w fun e w' => e = .returned (.bool (decide (n ≤ 100))) ∧ w = w' := by
  by_cases h : n ≤ 100
  · have t1 : decide (n ≤ 100) = true := by simpa using h
    have t2 : decide ((n : Int) ≤ 100) = true := by simp; omega
    rw [t1]
    go_enter Try.func23, Try.ntmps23
    go_wp2
    go_ret
    exact ⟨rfl, rfl⟩
  · have t1 : decide (n ≤ 100) = false := by simpa using h
    have t2 : decide ((n : Int) ≤ 100) = false := by simp; omega
    rw [t1]
    go_enter Try.func23, Try.ntmps23
    go_wp2
    go_ret
    exact ⟨rfl, rfl⟩

set_option maxHeartbeats 1000000 in
theorem long (A : Option Addr) (n c : Nat) (d : Int) (w : World) (hn : n ≤ 9223372036854775807) (h : 100 < n) : Calls Try.prog 8 #[.slice A n c, .int .i64 d] w fun e w' => e = .returned (.bool true) ∧ Below w.heap.size w w' := by
  have C := Lib.hid (few A n c w hn)
  rw [show decide (n ≤ 100) = false by simp; omega] at C
  go_enter Try.func8, Try.ntmps8
  go_wp2_with (go_at_call 23; refine C.out.mono ?_; rintro e w' ⟨rfl, rfl⟩)
  refine (alive _).mono ?_
  rintro e w1 ⟨rfl, hb⟩
  have HB := Lib.hid hb
  clear hb
  go_wp2
  go_ret
  exact ⟨rfl, HB.out⟩

theorem hit_more {xs : List Sp} {k : Nat} {x : Sp} (h : xs[k]? = some x) (d : Int) : hit (xs.take (k + 1)) d ↔ hit (xs.take k) d ∨ inn x d = true := by
  rw [take_more h, hit_append, hit_cons]
  constructor
  · rintro (h | h | h)
    · exact .inl h
    · exact .inr h
    · exact absurd h (hit_nil d)
  · rintro (h | h)
    · exact .inl h
    · exact .inr (.inl h)
theorem cnt_more {xs : List Sp} {k : Nat} {x : Sp} (h : xs[k]? = some x) (d : Int) : cnt (xs.take (k + 1)) d = cnt (xs.take k) d + (if inn x d = true then 1 else 0) := by
  rw [take_more h, cnt, cnt, List.countP_append]; simp [List.countP_cons]
theorem cnt_le (xs : List Sp) (d : Int) (k : Nat) : cnt (xs.take k) d ≤ cnt xs d := by
  have e : cnt xs d = cnt (xs.take k) d + cnt (xs.drop k) d := by rw [cnt, cnt, cnt, ← List.countP_append, List.take_append_drop]
  omega

/-- One of those so far has the day. -/
structure AI (w w' : World) (xs : List Sp) (d : Int) (k : Nat) (s : Bool) : Prop where
  below : Below w.heap.size w w'
  some_ : s = true ↔ hit (xs.take k) d
/-- So many so far have the day. -/
structure BI (w w' : World) (zs : List Sp) (d : Int) (k : Nat) (t : Int) : Prop where
  below : Below w.heap.size w w'
  many_ : t = (cnt (zs.take k) d : Int)

/-- What stands behind the last statement: all is as asked. -/
theorem last {zs xs : List Sp} {d t : Int} {s : Bool} (hj : Joined xs zs) (ht : t = (cnt zs d : Int)) (hs : s = true ↔ hit xs d) : (t = 0 ∧ s = false) ∨ (t = 1 ∧ s = true) := by
  obtain ⟨h1, h2⟩ := hj.apart.cnt d
  have h3 := hj.same d
  rcases (by omega : cnt zs d = 0 ∨ cnt zs d = 1) with h | h
  · refine .inl ⟨by omega, ?_⟩
    cases hh : s
    · rfl
    · have := h2.2 (h3.2 (hs.1 hh)); omega
  · exact .inr ⟨by omega, hs.2 (h3.1 (h2.1 h))⟩

set_option maxRecDepth 100000 in
set_option maxHeartbeats 4000000 in
theorem short (A : Option Addr) (n c : Nat) (xs : List Sp) (d : Int) (w : World) (G : GivenS w A n c xs) (h : n ≤ 100) : Calls Try.prog 8 #[.slice A n c, .int .i64 d] w fun e w' => e = .returned (.bool true) ∧ Below w.heap.size w w' := by
  have C := Lib.hid (few A n c w (by omega))
  rw [show decide (n ≤ 100) = true by simpa using h] at C
  have CI := fun z w => Lib.hid (inn_ z d w)
  have HG := Lib.hid G
  clear G
  go_enter Try.func8, Try.ntmps8
  go_wp2_with (go_at_call 23; refine C.out.mono ?_; rintro e w' ⟨rfl, rfl⟩)
  clear C
  go_loopw [5, 17] (fun ss i w' => ∃ (k : Nat) (s : Bool), k ≤ n ∧ ss = .bool s ∧ i = .int .i64 (k : Int) ∧ Hid (AI w w' xs d k s)) (fun _ i _ => n - (intOf i).toNat)
  case atStart => exact ⟨0, false, Nat.zero_le _, rfl, rfl, Lib.hid ⟨Below.refl _ _, by simp [hit_nil]⟩⟩
  case round =>
    obtain ⟨k, s, hk, rfl, rfl, HR⟩ := hrel
    by_cases hlt : k < n
    · obtain ⟨ad, p, q, rfl, hb, hx, hc, hc'⟩ := (HG.out.spans.below HR.out.below (Nat.le_refl _)).get hlt
      have HM := Lib.hid (hit_more hx d)
      clear hx
      have CP := fun w => CI (p, q) w
      clear CI
      cases s
      · cases hip : inn (p, q) d
        · simp only [hip] at CP
          rw [hip] at HM
          clear hip
          go_wp2_with fail
          refine (CP _).out.mono ?_
          rintro e w2 ⟨rfl, hb2⟩
          obtain ⟨_, hB2⟩ := bx1 hb2
          have HB2 := Lib.hid (HR.out.below.trans (hB2.mono HR.out.below.size))
          clear hb2 hB2
          go_wp2
          go_roundw
          case rel => exact ⟨k + 1, false, by omega, rfl, by go_num, Lib.hid ⟨HB2.out, by rw [HM.out, ← HR.out.some_]; simp⟩⟩
          case measure => simp [intOf]; omega
        · simp only [hip] at CP
          rw [hip] at HM
          clear hip
          go_wp2_with fail
          refine (CP _).out.mono ?_
          rintro e w2 ⟨rfl, hb2⟩
          obtain ⟨_, hB2⟩ := bx1 hb2
          have HB2 := Lib.hid (HR.out.below.trans (hB2.mono HR.out.below.size))
          clear hb2 hB2
          go_wp2
          go_roundw
          case rel => exact ⟨k + 1, true, by omega, rfl, by go_num, Lib.hid ⟨HB2.out, by rw [HM.out]; simp⟩⟩
          case measure => simp [intOf]; omega
      · go_wp2
        go_roundw
        case rel => exact ⟨k + 1, true, by omega, rfl, by go_num, Lib.hid ⟨HR.out.below.alloc HR.out.below.size _, by rw [HM.out, ← HR.out.some_]; simp⟩⟩
        case measure => simp [intOf]; omega
    · obtain rfl : n = k := by omega
      have he : xs.take n = xs := List.take_of_length_le (by rw [HG.out.spans.1]; exact Nat.le_refl _)
      have HSM := Lib.hid (by have := HR.out.some_; rwa [he] at this : s = true ↔ hit xs d)
      have HBR := HR.out.below
      have HW := Lib.hid HBR
      clear he HBR
      go_wp2_with fail
      refine (join A n c xs wr ((HG.out.spans.below HW.out (Nat.le_refl _)).wide HW.out.size) HG.out.noroom (by omega)).mono ?_
      rintro e w1 ⟨zs, hj, hzl, A1, n1, c1, rfl, hS1, hc1, hb1⟩
      have HJ := Lib.hid hj
      have HS1 := Lib.hid hS1
      have HB1 := Lib.hid (HW.out.trans (hb1.mono HW.out.size))
      have hn1 : n1 ≤ 100 := by have h1 := hS1.1; have h2 := HG.out.spans.1; omega
      have HCB := Lib.hid (hj.apart.cnt d).1
      clear hj hS1 hb1 HW HR
      go_wp2
      go_loopw [8, 31] (fun sn i w' => ∃ (k : Nat) (t : Int), k ≤ n1 ∧ sn = .int .i64 t ∧ i = .int .i64 (k : Int) ∧ 0 ≤ t ∧ t ≤ 1 ∧ Hid (BI w1 w' zs d k t)) (fun _ i _ => n1 - (intOf i).toNat)
      case atStart => exact ⟨0, 0, Nat.zero_le _, rfl, rfl, by omega, by omega, Lib.hid ⟨Below.refl _ _, by simp [cnt]⟩⟩
      case round =>
        clear hk hlt
        obtain ⟨k, t, hk, rfl, rfl, ht0, ht1, HR⟩ := hrel
        by_cases hlt : k < n1
        · obtain ⟨ad, p, q, rfl, hb, hx, hc, hc'⟩ := (HS1.out.below HR.out.below (Nat.le_refl _)).get hlt
          have HM := Lib.hid (cnt_more hx d)
          clear hx
          have CP := fun w => CI (p, q) w
          clear CI
          cases hip : inn (p, q) d
          · simp only [hip] at CP
            rw [hip] at HM
            simp only [Bool.false_eq_true, if_false, Nat.add_zero] at HM
            clear hip
            go_wp2_with fail
            refine (CP _).out.mono ?_
            rintro e w2 ⟨rfl, hb2⟩
            obtain ⟨_, hB2⟩ := bx1 hb2
            have HB2 := Lib.hid (HR.out.below.trans (hB2.mono HR.out.below.size))
            clear hb2 hB2
            go_wp2
            go_roundw
            case rel => exact ⟨k + 1, t, by omega, rfl, by go_num, by omega, by omega, Lib.hid ⟨HB2.out, by rw [HM.out]; exact HR.out.many_⟩⟩
            case measure => simp [intOf]; omega
          · simp only [hip] at CP
            rw [hip] at HM
            simp only [if_true] at HM
            clear hip
            have h1 := cnt_le zs d (k + 1)
            have h2 := HM.out
            have h3 := HCB.out
            have h4 := HR.out.many_
            obtain rfl : t = 0 := by omega
            clear h1 h2 h3 h4
            go_wp2_with fail
            refine (CP _).out.mono ?_
            rintro e w2 ⟨rfl, hb2⟩
            obtain ⟨_, hB2⟩ := bx1 hb2
            have HB2 := Lib.hid (HR.out.below.trans (hB2.mono HR.out.below.size))
            clear hb2 hB2
            go_wp2
            go_roundw
            case rel => exact ⟨k + 1, 1, by omega, rfl, by go_num, by omega, by omega, Lib.hid ⟨HB2.out, by rw [HM.out]; have := HR.out.many_; omega⟩⟩
            case measure => simp [intOf]; omega
        · obtain rfl : n1 = k := by omega
          have he : zs.take n1 = zs := List.take_of_length_le (by rw [HS1.out.1]; exact Nat.le_refl _)
          have hm := HR.out.many_
          rw [he] at hm
          have HB2 := Lib.hid (HB1.out.trans (HR.out.below.mono HB1.out.size))
          rcases last HJ.out hm HSM.out with ⟨rfl, rfl⟩ | ⟨rfl, rfl⟩
          all_goals
            clear he hm HB1 HR HS1 HJ HSM HCB
            go_wp2_with fail
            refine (alive _).mono ?_
            rintro e w3 ⟨rfl, hb3⟩
            have HB3 := Lib.hid (HB2.out.trans (hb3.mono HB2.out.size))
            clear hb3 HB2
            go_wp2
            go_ret
            exact ⟨rfl, HB3.out⟩

theorem walk (A : Option Addr) (n c : Nat) (xs : List Sp) {w : World} (G : GivenS w A n c xs) (d : Int) (_hd : -9223372036854775808 ≤ d ∧ d ≤ 9223372036854775807) (w0 : World) (hw : w = w0) :
    Calls Try.prog 8 #[.slice A n c, .int .i64 d] w0 fun e w' => e = .returned (.bool true) ∧ Below w0.heap.size w0 w' := by
  subst hw
  by_cases h : n ≤ 100
  · exact short A n c xs d w G h
  · exact long A n c d w (by have := G.len; unfold maxLen at this; omega) (by omega)


set_option maxRecDepth 100000 in
theorem lifted (os : Os) (started : os.Started) (H : Type) (enc : TypeId × Value → H) :
    ReturnsInHanded {} Try.checked os 8 .any (Rows.spanAnySpec.pre6 enc Try.prog Try.f8 Rows.spanAnyRow.domain false) (Rows.spanAnySpec.post enc Try.prog Try.f8 false true false false) := by
  refine returnsInHanded_of_change (C := Try.checked) Spn.own started (by kernel_rfl) Try.func8
    (ChangeSpec.witness6 (enc := enc) (C := Try.checked) false ⟨#[], #[.slice none 0 0, .int .i64 0], []⟩ 8 (by kernel_rfl) (by kernel_rfl) (by kernel_rfl) (by kernel_rfl)) ?_
  intro W base args ds gs before hval0 hW hcnd _
  have hval : ∀ (j : Nat) t v, Try.f8.params[j]? = some t → args[j]? = some v → Value.okWide Try.prog W .any base t v := hval0
  have hW' := hW
  obtain ⟨p, q, hA0, hV, rfl, hfz, hnd⟩ := hW
  have hA : DataW.TrodAll enc Try.prog W 0 (fun _ => true) true Try.f8.params.toList args.toList ds p := hA0
  rw [Try.params8] at hA hval
  obtain ⟨v0, vs0, d0, ds0, p0, q0, hargs, rfl, rfl, h0, r0⟩ := trodAll_cons hA
  obtain ⟨v1, vs1, d1, ds1, p1, q1, rfl, rfl, rfl, h1, r1⟩ := trodAll_cons r0
  obtain ⟨rfl, rfl, rfl⟩ := trodAll_nil r1
  obtain rfl : args = #[v0, v1] := by cases args; simp_all
  obtain ⟨rfl, rfl⟩ := trodVars_none hV
  have k0 := h0
  have lt0 : ∀ x ∈ p0, x.block < W.heap.size := by obtain ⟨m, hm⟩ := k0; exact DataW.trod_lt m _ _ _ hm
  obtain ⟨A0, n0, c0, xs0, rfl, g0⟩ := Spn.open_spans (hval 0 30 v0 rfl rfl) h0
  obtain ⟨a1, rfl, rfl, rfl, w1⟩ := open_int Try.underlying3 (hval 1 3 v1 rfl rfl) h1
  clear hA0 hval0
  refine (walk A0 n0 c0 xs0 g0 a1 (Spn.i64_of w1) W rfl).mono fun e W' ⟨he, bel⟩ => ?_
  subst he
  exact ⟨_, rfl, _, _, _, [], _, [], hW', trodAll_mk1 (shut_bool Try.underlying4 _), (trodAll_cons_mk (Below.trod Spn.laidOut (by kernel_rfl) (of_decide_eq_true (by kernel_rfl)) k0 bel lt0) (trodAll_cons_mk (shut_int Try.underlying3 w1) trodAll_mk0)), rfl, bel.frame _, fun h => by cases h⟩

theorem over : Rows.spanAnyRow.holds Try.pinned (OpenSpec.ofChange Rows.spanAnySpec) :=
  OpenClaim.holds_of_wide 8 Try.f8 rfl rfl rfl rfl rfl rfl rfl ⟨rfl, rfl, rfl, rfl, rfl⟩ rfl rfl rfl rfl rfl (by kernel_rfl) Try.func8 (by kernel_rfl)
    (of_decide_eq_true (by kernel_rfl)) (by unfold Func.isWrapper; first | (rw [if_pos (by decide +kernel)]; kernel_rfl) | (rw [if_neg (by decide +kernel)]; exact ⟨rfl, rfl⟩))
    (fun os started H enc _ => lifted os started H enc)

theorem proved : Rows.SpanAnySaid := over
end Go.Proofs.Ytbollbbanmdbhaa.spanAny
