/-
  The statement SpanJoin holds: for every input the call returns true, and each argument reads afterwards as it read before. Conditions: none beside those that the row itself bears.
-/
import Derived.Test.YtbollbbanmdbhaaGiven
namespace Go.Proofs.Ytbollbbanmdbhaa.spanJoin
open Go.ChangeShapes Go.WideShapes Go.ChangeAt Go.RowKit Sp Spn
set_option linter.unusedVariables false

set_option maxHeartbeats 1000000 in
theorem few (A : Option Addr) (n c : Nat) (w : World) (hn : n ≤ 9223372036854775807) : Calls Try.prog 23 #[.slice A n c] w fun e w' => e = .returned (.bool (decide (n ≤ 100))) ∧ w = w' := by
  by_cases h : n ≤ 100
  · have t1 : decide (n ≤ 100) = true := by simpa using h
    have t2 : decide ((n : Int) ≤ 100) = true := by simp; omega
    rw [t1]
    go_enter Try.func23, Try.ntmps23
    go_wp2
    go_ret
    exact ⟨rfl, rfl⟩
  · have t1 : decide (n ≤ 100) = false := by simpa using h
    have t2 : decide ((n : Int) ≤ 100) = false := by simp; omega
    rw [t1]
    go_enter Try.func23, Try.ntmps23
    go_wp2
    go_ret
    exact ⟨rfl, rfl⟩

set_option maxHeartbeats 1000000 in
theorem long (A : Option Addr) (n c : Nat) (w : World) (hn : n ≤ 9223372036854775807) (h : 100 < n) : Calls Try.prog 7 #[.slice A n c] w fun e w' => e = .returned (.bool true) ∧ Below w.heap.size w w' := by
  have C := Lib.hid (few A n c w hn)
  rw [show decide (n ≤ 100) = false by simp; omega] at C
  go_enter Try.func7, Try.ntmps7
  go_wp2_with (go_at_call 23; refine C.out.mono ?_; rintro e w' ⟨rfl, rfl⟩)
  refine (alive _).mono ?_
  rintro e w1 ⟨rfl, hb⟩
  have HB := Lib.hid hb
  clear hb
  go_wp2
  go_ret
  exact ⟨rfl, HB.out⟩

set_option maxRecDepth 100000 in
set_option maxHeartbeats 4000000 in
theorem short (A : Option Addr) (n c : Nat) (xs : List Sp) (w : World) (G : GivenS w A n c xs) (h : n ≤ 100) : Calls Try.prog 7 #[.slice A n c] w fun e w' => e = .returned (.bool true) ∧ Below w.heap.size w w' := by
  have C := Lib.hid (few A n c w (by omega))
  rw [show decide (n ≤ 100) = true by simpa using h] at C
  have HG := Lib.hid G
  clear G
  go_enter Try.func7, Try.ntmps7
  go_wp2_with (first
    | (go_at_call 23; refine C.out.mono ?_; rintro e w' ⟨rfl, rfl⟩)
    | (at_builtin; refine wpList_app _ rfl (.tmp 8) (.tmp 9) rfl w.heap.size (some ⟨w.heap.size, 0, none⟩) 0 0 [] rfl (World.ownsRow_made w #[] 0 (Nat.le_refl _) (Nat.zero_le _) (by simp)) w.heap.size A n c xs rfl (HG.out.spans.below ((Below.refl _ _).alloc (Nat.le_refl _) _) (Nat.le_refl _)) HG.out.noroom (by omega) (by simp) ?_; intro A2 c2 w2 hO2 hg2; have HO2 := Lib.hid hO2; have HB2 := Lib.hid (((Below.refl _ _).alloc (Nat.le_refl _) _).grown hg2 (by simp) (fun j hj => by simp [Value.ownBlock] at hj; omega) : Below w.heap.size w w2); clear hO2 hg2))
  refine (alive _).mono ?_
  rintro e w3 ⟨rfl, hb3⟩
  have HO3 := Lib.hid (by have := HO2.out.below hb3; rwa [Nat.zero_add, List.nil_append] at this : Spn.Own w3 w.heap.size A2 n c2 xs)
  have HB3 := Lib.hid (HB2.out.trans (hb3.mono HB2.out.size))
  clear hb3 HO2 HB2 C
  go_wp2_with fail
  refine (join A2 n c2 xs w3 HO3.out.spans.1 HO3.out.nil_ (by omega)).mono ?_
  rintro e w4 ⟨zs, hj, hzl, A4, k4, c4, rfl, hS4, hc4, hb4⟩
  have HO4 := Lib.hid (HO3.out.below hb4)
  have HB4 := Lib.hid (HB3.out.trans (hb4.mono HB3.out.size))
  have R4 := Lib.hid (RowAt.mk hS4)
  have HJ := Lib.hid hj
  have hk4 : k4 ≤ 100 := by have h1 := hS4.1; have h2 := HG.out.spans.1; omega
  clear hb4 hS4 HO3 HB3 hj
  go_wp2_with fail
  refine (rjoin A n c xs w4 ((HG.out.spans.below HB4.out (Nat.le_refl _)).wide HB4.out.size) (by omega)).mono ?_
  rintro e w5 ⟨zs2, hj2, _, A5, k5, c5, rfl, hS5, hc5, hb5⟩
  obtain rfl : zs = zs2 := HJ.out.unique hj2 fun d => Iff.rfl
  have HO5 := Lib.hid (HO4.out.below hb5)
  have HB5 := Lib.hid (HB4.out.trans (hb5.mono HB4.out.size))
  have R5 := Lib.hid (R4.out.keep_ hb5)
  have T5 := Lib.hid (RowAt.mk hS5)
  clear hb5 hS5 HO4 HB4 R4 hj2
  obtain rfl : k4 = k5 := R5.out.len.symm.trans T5.out.len
  go_wp2_with fail
  refine (same A4 A5 k4 c4 c5 _ _ zs w5 R5.out.spans T5.out.spans (by unfold maxLen; omega)).mono ?_
  rintro e w6 ⟨rfl, hb6⟩
  have HO6 := Lib.hid (HO5.out.below hb6)
  have HB6 := Lib.hid (HB5.out.trans (hb6.mono HB5.out.size))
  clear hb6 HO5 HB5 R5 T5
  go_wp2_with fail
  refine (same A2 A n c2 c _ _ xs w6 HO6.out.spans.1 (HG.out.spans.below HB6.out (Nat.le_refl _)) (by unfold maxLen; omega)).mono ?_
  rintro e w7 ⟨rfl, hb7⟩
  have HB7 := Lib.hid (HB6.out.trans (hb7.mono HB6.out.size))
  clear hb7
  go_wp2
  go_ret
  exact ⟨rfl, HB7.out⟩

theorem walk (A : Option Addr) (n c : Nat) (xs : List Sp) {w : World} (G : GivenS w A n c xs) (w0 : World) (hw : w = w0) :
    Calls Try.prog 7 #[.slice A n c] w0 fun e w' => e = .returned (.bool true) ∧ Below w0.heap.size w0 w' := by
  subst hw
  by_cases h : n ≤ 100
  · exact short A n c xs w G h
  · exact long A n c w (by have := G.len; unfold maxLen at this; omega) (by omega)


set_option maxRecDepth 100000 in
theorem lifted (os : Os) (started : os.Started) (H : Type) (enc : TypeId × Value → H) :
    ReturnsInHanded {} Try.checked os 7 .any (Rows.spanJoinSpec.pre6 enc Try.prog Try.f7 Rows.spanJoinRow.domain false) (Rows.spanJoinSpec.post enc Try.prog Try.f7 false true false false) := by
  refine returnsInHanded_of_change (C := Try.checked) Spn.own started (by kernel_rfl) Try.func7
    (ChangeSpec.witness6 (enc := enc) (C := Try.checked) false ⟨#[], #[.slice none 0 0], []⟩ 8 (by kernel_rfl) (by kernel_rfl) (by kernel_rfl) (by kernel_rfl)) ?_
  intro W base args ds gs before hval0 hW hcnd _
  have hval : ∀ (j : Nat) t v, Try.f7.params[j]? = some t → args[j]? = some v → Value.okWide Try.prog W .any base t v := hval0
  have hW' := hW
  obtain ⟨p, q, hA0, hV, rfl, hfz, hnd⟩ := hW
  have hA : DataW.TrodAll enc Try.prog W 0 (fun _ => true) true Try.f7.params.toList args.toList ds p := hA0
  rw [Try.params7] at hA hval
  obtain ⟨v0, vs0, d0, ds0, p0, q0, hargs, rfl, rfl, h0, r0⟩ := trodAll_cons hA
  obtain ⟨rfl, rfl, rfl⟩ := trodAll_nil r0
  obtain rfl : args = #[v0] := by cases args; simp_all
  obtain ⟨rfl, rfl⟩ := trodVars_none hV
  have k0 := h0
  have lt0 : ∀ x ∈ p0, x.block < W.heap.size := by obtain ⟨m, hm⟩ := k0; exact DataW.trod_lt m _ _ _ hm
  obtain ⟨A0, n0, c0, xs0, rfl, g0⟩ := Spn.open_spans (hval 0 30 v0 rfl rfl) h0
  clear hA0 hval0
  refine (walk A0 n0 c0 xs0 g0 W rfl).mono fun e W' ⟨he, bel⟩ => ?_
  subst he
  exact ⟨_, rfl, _, _, _, [], _, [], hW', trodAll_mk1 (shut_bool Try.underlying4 _), (trodAll_cons_mk (Below.trod Spn.laidOut (by kernel_rfl) (of_decide_eq_true (by kernel_rfl)) k0 bel lt0) trodAll_mk0), rfl, bel.frame _, fun h => by cases h⟩

theorem over : Rows.spanJoinRow.holds Try.pinned (OpenSpec.ofChange Rows.spanJoinSpec) :=
  OpenClaim.holds_of_wide 7 Try.f7 rfl rfl rfl rfl rfl rfl rfl ⟨rfl, rfl, rfl, rfl, rfl⟩ rfl rfl rfl rfl rfl (by kernel_rfl) Try.func7 (by kernel_rfl)
    (of_decide_eq_true (by kernel_rfl)) (by unfold Func.isWrapper; first | (rw [if_pos (by decide +kernel)]; kernel_rfl) | (rw [if_neg (by decide +kernel)]; exact ⟨rfl, rfl⟩))
    (fun os started H enc _ => lifted os started H enc)

theorem proved : Rows.SpanJoinSaid := over
end Go.Proofs.Ytbollbbanmdbhaa.spanJoin
