/-
  The statement SpanSums holds: for every input the call returns true, and each argument reads afterwards as it read before. Conditions: none beside those that the row itself bears.
-/
import Derived.Test.YtbollbbanmdbhaaGiven
namespace Go.Proofs.Ytbollbbanmdbhaa.spanSums
open Go.ChangeShapes Go.WideShapes Go.ChangeAt Go.RowKit Sp Spn
set_option linter.unusedVariables false

/-- What has been summed up. -/
structure SI (w w' : World) (xs : List Sp) (k : Nat) (n0 t : Int) : Prop where
  below : Below w.heap.size w w'
  sum : t = n0 + tot (xs.take k)
theorem tot_more {xs : List Sp} {k : Nat} {x : Sp} (h : xs[k]? = some x) : tot (xs.take (k + 1)) = tot (xs.take k) + mn x := by
  rw [take_more h, tot_append, tot_cons, tot_nil]; omega
theorem tot_bd (xs : List Sp) : 0 ≤ tot xs ∧ tot xs ≤ 292194 * xs.length := by
  induction xs with
  | nil => simp [tot_nil]
  | cons x xs ih => rw [tot_cons]; have := mn_bd x; simp only [List.length_cons]; omega

set_option maxRecDepth 100000 in
set_option maxHeartbeats 4000000 in
theorem walk (x y : Sp) (w : World) : Calls Try.prog 6 #[ag x, ag y] w fun e w' => e = .returned (.bool true) ∧ Below w.heap.size w w' := by
  have C0 := fun w => Lib.hid (alive w)
  have C1 := fun w => Lib.hid (cut x y w)
  have C2 := fun w => Lib.hid (many (ct x y) w)
  have C3 := fun w => Lib.hid (many x w)
  have C5 := fun w => Lib.hid (less x y w)
  have CM := fun z w => Lib.hid (many z w)
  have CC := fun z w => Lib.hid (cut z y w)
  have HT := Lib.hid (ls_tot x y)
  have HM := Lib.hid (fun z (h : z ∈ ls x y) => ls_mem h)
  have hll := ls_len x y
  have mb := mn_bd (ct x y)
  generalize mn x = mx at C3 HT
  generalize mn (ct x y) = mk at C2 HT mb
  generalize ct x y = k at C1 C2
  generalize ls x y = zs at C5 HT HM hll
  obtain ⟨k1, k2⟩ := k
  obtain ⟨a1, a2⟩ := x
  obtain ⟨b1, b2⟩ := y
  go_enter Try.func6, Try.ntmps6
  go_wp2_with fail
  refine (C1 _).out.mono ?_
  rintro e w1 ⟨rfl, hb⟩
  obtain ⟨X, Y, hB⟩ := bx2 hb
  have HX := Lib.hid X
  have HY := Lib.hid Y
  have HB := Lib.hid hB
  clear hb X Y hB C1
  go_wp2_with fail
  refine (C2 _).out.mono ?_
  rintro e w2 ⟨rfl, hb⟩
  have HX2 := Lib.hid (HX.out.keep hb)
  have HY2 := Lib.hid (HY.out.keep hb)
  have HB2 := Lib.hid (HB.out.trans (hb.mono HB.out.size))
  clear hb HX HY HB C2
  have x0 := HX2.out.c0
  have x1 := HX2.out.c1
  have y0 := HY2.out.c0
  have y1 := HY2.out.c1
  go_wp2_with fail
  refine (C5 _).out.mono ?_
  rintro e w3 ⟨A, n, c, rfl, hS, hnc, hb⟩
  have HX3 := Lib.hid (HX2.out.keep hb)
  have HY3 := Lib.hid (HY2.out.keep hb)
  have HB3 := Lib.hid (HB2.out.trans (hb.mono HB2.out.size))
  have HS := Lib.hid hS
  have hn : n ≤ 2 := by have := hS.1; omega
  clear hb HX2 HY2 HB2 C5 x0 x1 y0 y1 hS hll
  go_wp2
  go_loopw [5, 16] (fun sn i w' => ∃ (k : Nat) (t : Int), k ≤ n ∧ sn = .int .i64 t ∧ i = .int .i64 (k : Int) ∧ 0 ≤ t ∧ t ≤ 1000000 ∧ Hid (SI w3 w' zs k mk t)) (fun _ i _ => n - (intOf i).toNat)
  case atStart => exact ⟨0, mk, Nat.zero_le _, rfl, rfl, by omega, by omega, Lib.hid ⟨Below.refl _ _, by simp [tot_nil]⟩⟩
  case round =>
    obtain ⟨k, t, hk, rfl, rfl, ht0, ht1, HR⟩ := hrel
    have HXR := Lib.hid (HX3.out.keep HR.out.below)
    have HYR := Lib.hid (HY3.out.keep HR.out.below)
    have x0 := HXR.out.c0
    have x1 := HXR.out.c1
    have y0 := HYR.out.c0
    have y1 := HYR.out.c1
    by_cases hlt : k < n
    · obtain ⟨ad, p, q, rfl, hb, hx, hc, hc'⟩ := (HS.out.below HR.out.below (Nat.le_refl _)).get hlt
      obtain ⟨hm1, hm2⟩ := HM.out (p, q) (List.mem_of_getElem? hx)
      have HTM := Lib.hid (tot_more hx)
      clear hx
      have D1 := fun w => CM (p, q) w
      have D2 := fun w => CC (p, q) w
      have D3 := fun w => CM (ct (p, q) (b1, b2)) w
      rw [mn_no hm2] at D3
      have hpos : 0 < mn (p, q) := by simpa [has] using hm1
      have hpb := mn_bd (p, q)
      have hsum := HR.out.sum
      have hlen : (zs.take (k + 1)).length ≤ 2 := by rw [List.length_take, HS.out.1]; omega
      have hbd := tot_bd (zs.take (k + 1))
      have htm := HTM.out
      generalize mn (p, q) = m at D1 HTM hpos hpb htm
      generalize ct (p, q) (b1, b2) = u at D2 D3
      obtain ⟨u1, u2⟩ := u
      have hs : t + m ≤ 1000000 := by omega
      clear hm1 hm2 hsum hbd htm hlen CM CC
      have tm : decide (m < 1) = false := by simp; omega
      have yl := HYR.out.lt
      go_wp2_with fail
      refine (D1 _).out.mono ?_
      rintro e w4 ⟨rfl, hb4⟩
      obtain ⟨Z4, hB4⟩ := bx1 hb4
      have HZ4 := Lib.hid Z4
      have HY4 := Lib.hid (HYR.out.keep hB4)
      have HB4 := Lib.hid hB4
      clear hb4 hB4 Z4 hc hc' x0 x1 y0 y1 yl
      have z0 := HZ4.out.c0
      have z1 := HZ4.out.c1
      have y0 := HY4.out.c0
      have y1 := HY4.out.c1
      go_wp2_with fail
      refine (D2 _).out.mono ?_
      rintro e w5 ⟨rfl, hb5⟩
      have HZ5 := Lib.hid (HZ4.out.keep hb5)
      have HB5 := Lib.hid (HB4.out.trans (hb5.mono HB4.out.size))
      clear hb5 HZ4 HB4 D2 z0 z1 y0 y1 HY4
      go_wp2_with fail
      refine (D3 _).out.mono ?_
      rintro e w6 ⟨rfl, hb6⟩
      have HZ6 := Lib.hid (HZ5.out.keep hb6)
      have HB6 := Lib.hid (HB5.out.trans (hb6.mono HB5.out.size))
      clear hb6 HZ5 HB5 D3
      have z0 := HZ6.out.c0
      have z1 := HZ6.out.c1
      go_wp2_with fail
      refine (D1 _).out.mono ?_
      rintro e w7 ⟨rfl, hb7⟩
      have HB7 := Lib.hid (HB6.out.trans (hb7.mono HB6.out.size))
      clear hb7 HB6 D1 HZ6 z0 z1
      go_wp2
      go_roundw
      case rel => exact ⟨k + 1, t + m, by omega, rfl, by go_num, by omega, by omega, Lib.hid ⟨HR.out.below.trans (HB7.out.mono HR.out.below.size), by rw [HTM.out]; have := HR.out.sum; omega⟩⟩
      case measure => simp [intOf]; omega
    · obtain rfl : n = k := by omega
      have he : zs.take n = zs := List.take_of_length_le (by rw [HS.out.1]; exact Nat.le_refl _)
      have ht := HR.out.sum
      rw [he, HT.out] at ht
      subst ht
      have HBR := Lib.hid (HB3.out.trans (HR.out.below.mono HB3.out.size))
      clear he HB3
      go_wp2_with fail
      refine (C0 _).out.mono ?_
      rintro e w4 ⟨rfl, hb4⟩
      have HX4 := Lib.hid (HXR.out.keep hb4)
      have HB4 := Lib.hid (HBR.out.trans (hb4.mono HBR.out.size))
      clear hb4 HBR x0 x1 y0 y1
      have x0 := HX4.out.c0
      have x1 := HX4.out.c1
      go_wp2_with fail
      refine (C3 _).out.mono ?_
      rintro e w5 ⟨rfl, hb5⟩
      have HB5 := Lib.hid (HB4.out.trans (hb5.mono HB4.out.size))
      clear hb5 HB4
      go_wp2
      go_ret
      exact ⟨rfl, HB5.out⟩


set_option maxRecDepth 100000 in
theorem lifted (os : Os) (started : os.Started) (H : Type) (enc : TypeId × Value → H) :
    ReturnsInHanded {} Try.checked os 6 .any (Rows.spanSumsSpec.pre6 enc Try.prog Try.f6 Rows.spanSumsRow.domain false) (Rows.spanSumsSpec.post enc Try.prog Try.f6 false true false false) := by
  refine returnsInHanded_of_change (C := Try.checked) Spn.own started (by kernel_rfl) Try.func6
    (ChangeSpec.witness6 (enc := enc) (C := Try.checked) false ⟨#[], #[.agg #[.int .i64 0, .int .i64 0], .agg #[.int .i64 0, .int .i64 0]], []⟩ 8 (by kernel_rfl) (by kernel_rfl) (by kernel_rfl) (by kernel_rfl)) ?_
  intro W base args ds gs before hval0 hW hcnd _
  have hval : ∀ (j : Nat) t v, Try.f6.params[j]? = some t → args[j]? = some v → Value.okWide Try.prog W .any base t v := hval0
  have hW' := hW
  obtain ⟨p, q, hA0, hV, rfl, hfz, hnd⟩ := hW
  have hA : DataW.TrodAll enc Try.prog W 0 (fun _ => true) true Try.f6.params.toList args.toList ds p := hA0
  rw [Try.params6] at hA hval
  obtain ⟨v0, vs0, d0, ds0, p0, q0, hargs, rfl, rfl, h0, r0⟩ := trodAll_cons hA
  obtain ⟨v1, vs1, d1, ds1, p1, q1, rfl, rfl, rfl, h1, r1⟩ := trodAll_cons r0
  obtain ⟨rfl, rfl, rfl⟩ := trodAll_nil r1
  obtain rfl : args = #[v0, v1] := by cases args; simp_all
  obtain ⟨rfl, rfl⟩ := trodVars_none hV
  have k0 := h0
  have lt0 : ∀ x ∈ p0, x.block < W.heap.size := by obtain ⟨m, hm⟩ := k0; exact DataW.trod_lt m _ _ _ hm
  obtain ⟨x0, rfl⟩ := Spn.open_span (hval 0 23 v0 rfl rfl) h0
  have k1 := h1
  have lt1 : ∀ x ∈ p1, x.block < W.heap.size := by obtain ⟨m, hm⟩ := k1; exact DataW.trod_lt m _ _ _ hm
  obtain ⟨x1, rfl⟩ := Spn.open_span (hval 1 23 v1 rfl rfl) h1
  clear hA0 hval0
  refine (walk x0 x1 W).mono fun e W' ⟨he, bel⟩ => ?_
  subst he
  exact ⟨_, rfl, _, _, _, [], _, [], hW', trodAll_mk1 (shut_bool Try.underlying4 _), (trodAll_cons_mk (Below.trod Spn.laidOut (by kernel_rfl) (of_decide_eq_true (by kernel_rfl)) k0 bel lt0) (trodAll_cons_mk (Below.trod Spn.laidOut (by kernel_rfl) (of_decide_eq_true (by kernel_rfl)) k1 bel lt1) trodAll_mk0)), rfl, bel.frame _, fun h => by cases h⟩

theorem over : Rows.spanSumsRow.holds Try.pinned (OpenSpec.ofChange Rows.spanSumsSpec) :=
  OpenClaim.holds_of_wide 6 Try.f6 rfl rfl rfl rfl rfl rfl rfl ⟨rfl, rfl, rfl, rfl, rfl⟩ rfl rfl rfl rfl rfl (by kernel_rfl) Try.func6 (by kernel_rfl)
    (of_decide_eq_true (by kernel_rfl)) (by unfold Func.isWrapper; first | (rw [if_pos (by decide +kernel)]; kernel_rfl) | (rw [if_neg (by decide +kernel)]; exact ⟨rfl, rfl⟩))
    (fun os started H enc _ => lifted os started H enc)

theorem proved : Rows.SpanSumsSaid := over
end Go.Proofs.Ytbollbbanmdbhaa.spanSums
