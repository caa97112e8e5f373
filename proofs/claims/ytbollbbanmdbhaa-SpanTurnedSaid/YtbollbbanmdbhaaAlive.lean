/-
  The statements' own look at the chapter's examples: it is true in every world. No conditions.
-/
import Derived.Test.YtbollbbanmdbhaaRParts
import Derived.Test.YtbollbbanmdbhaaRJoin
namespace Go.Proofs.Ytbollbbanmdbhaa
open Go.RowKit Sp
namespace Spn
set_option linter.unusedVariables false

set_option maxHeartbeats 1000000 in
theorem of_ (a b : Int) (w : World) : Calls Try.prog 28 #[.int .i64 a, .int .i64 b] w fun e w' => e = .returned (ag (a, b)) ∧ Below w.heap.size w w' := by
  go_enter Try.func28, Try.ntmps28
  go_wp2
  exact bodyPost_ret (v := .agg #[.int .i64 a, .int .i64 b]) (by simp [results, Try.results28, go_sem]) rfl ⟨rfl, (Below.refl _ _).alloc (Nat.le_refl _) _⟩

theorem al_join : Joined [(5, 7), (1, 3), (3, 4)] [(1, 4), (5, 7)] := by
  refine ⟨⟨by decide, by simp, by decide, by simp, trivial⟩, fun d => ?_⟩
  simp only [hit_cons, inn_iff, hit_nil, or_false]
  omega
theorem al_parts : Parted (1, 10) [7, 3, 7, 1] [(1, 3), (3, 7), (7, 10)] := by
  refine ⟨fun h => (by cases (show has (1, 10) = true by decide).symm.trans h), fun _ => ⟨rfl, by decide, rfl, by decide, rfl, by decide, rfl⟩, fun _ d => ?_⟩
  simp only [fst_cons, fst_nil, or_false, List.mem_cons, List.not_mem_nil]
  omega
theorem al_less : ls (1, 10) (3, 5) = [(1, 3), (5, 10)] := by decide +kernel
theorem al_cut1 : ct (1, 10) (5, 20) = (5, 10) := by decide +kernel
theorem al_cut2 : ct (1, 5) (5, 9) = (0, 0) := by decide +kernel

theorem ints_new (w : World) (xs : List Int) (cs : Array Value) (e : cs.toList = xs.map (Value.int .i64)) : Ints (w.alloc (.cells cs 3)) (w.alloc (.cells cs 3)).heap.size (some ⟨w.heap.size, 0, none⟩) xs.length xs := by
  refine ⟨rfl, fun _ => ⟨_, rfl, by simp, fun j z hz => ?_⟩⟩
  have hh : (w.alloc (.cells cs 3)).heap[w.heap.size]? = some (.cells cs 3 (0, 0)) := heap_alloc_new w _
  have ea : (⟨w.heap.size, 0, none⟩ : Addr).add j = ⟨w.heap.size, j, none⟩ := by unfold Addr.add; split <;> simp_all
  have e2 : cs[j]? = cs.toList[j]? := by simp
  rw [ea, cell_of_row _ _ j _ _ _ hh, e2, e]
  simp [hz]

theorem al_right (x : Sp) (r : Bool) (h : rt x = r) (w : World) : Calls Try.prog 12 #[ag x] w fun e w' => e = .returned (.bool r) ∧ Below w.heap.size w w' := by rw [← h]; exact right x w
theorem al_many (x : Sp) (r : Int) (h : mn x = r) (w : World) : Calls Try.prog 14 #[ag x] w fun e w' => e = .returned (.int .i64 r) ∧ Below w.heap.size w w' := by rw [← h]; exact many x w
theorem al_in (x : Sp) (d : Int) (r : Bool) (h : inn x d = r) (w : World) : Calls Try.prog 16 #[ag x, .int .i64 d] w fun e w' => e = .returned (.bool r) ∧ Below w.heap.size w w' := by rw [← h]; exact inn_ x d w
theorem al_cut (x y r : Sp) (h : ct x y = r) (w : World) : Calls Try.prog 18 #[ag x, ag y] w fun e w' => e = .returned (ag r) ∧ Below w.heap.size w w' := by rw [← h]; exact cut x y w

/-- A row that was made. -/
structure RowAt (w : World) (A : Option Addr) (n : Nat) (xs : List Sp) : Prop where
  mk ::
  spans : Spans w w.heap.size A n xs
theorem RowAt.len {w : World} {A : Option Addr} {n : Nat} {xs : List Sp} (h : RowAt w A n xs) : xs.length = n := h.spans.1
theorem RowAt.keep_ {w w' : World} {A : Option Addr} {n : Nat} {xs : List Sp} (h : RowAt w A n xs) (hb : Below w.heap.size w w') : RowAt w' A n xs := ⟨(h.spans.below hb (Nat.le_refl _)).wide hb.size⟩

set_option maxRecDepth 100000 in
set_option maxHeartbeats 4000000 in
theorem alive (w : World) : Calls Try.prog 11 #[] w fun e w' => e = .returned (.bool true) ∧ Below w.heap.size w w' := by
  go_enter Try.func11, Try.ntmps11
  go_wp2_with fail
  refine (of_ 5 7 _).mono ?_
  rintro e w1 ⟨rfl, hb⟩
  have B1 := Lib.hid ((Below.refl w.heap.size w).trans (hb.mono (Below.refl w.heap.size w).size))
  clear hb
  go_wp2_with fail
  refine (of_ 1 3 _).mono ?_
  rintro e w2 ⟨rfl, hb⟩
  have B2 := Lib.hid (B1.out.trans (hb.mono B1.out.size))
  clear hb B1
  go_wp2_with fail
  refine (of_ 3 4 _).mono ?_
  rintro e w3 ⟨rfl, hb⟩
  have B3 := Lib.hid (B2.out.trans (hb.mono B2.out.size))
  clear hb B2
  have S0 := Lib.hid (spans_new w3 [(5, 7), (1, 3), (3, 4)] #[.int .i64 5, .int .i64 7, .int .i64 1, .int .i64 3, .int .i64 3, .int .i64 4] rfl)
  go_wp2_with fail
  refine (join (some ⟨w3.heap.size, 0, none⟩) 3 3 [(5, 7), (1, 3), (3, 4)] _ S0.out (fun h => by cases h) (by omega)).mono ?_
  rintro e w4 ⟨zs, hj, _, AJ, kJ, cJ, rfl, hJ, hcJ, hb⟩
  have B4 := Lib.hid ((B3.out.alloc B3.out.size (.cells #[.int .i64 5, .int .i64 7, .int .i64 1, .int .i64 3, .int .i64 3, .int .i64 4] 23)).trans (hb.mono (B3.out.alloc B3.out.size (.cells #[.int .i64 5, .int .i64 7, .int .i64 1, .int .i64 3, .int .i64 3, .int .i64 4] 23)).size))
  clear hb B3
  obtain rfl : zs = [(1, 4), (5, 7)] := hj.unique al_join fun d => Iff.rfl
  have RJ := Lib.hid (RowAt.mk hJ)
  clear hj hJ S0
  obtain rfl : kJ = 2 := RJ.out.len.symm
  go_wp2_with fail
  refine (of_ 1 1 _).mono ?_
  rintro e w5 ⟨rfl, hb⟩
  have B5 := Lib.hid (B4.out.trans (hb.mono B4.out.size))
  have RJx := Lib.hid (RJ.out.keep_ hb)
  clear RJ
  have RJ := RJx
  clear RJx
  clear hb B4
  go_wp2_with fail
  refine (al_right (1, 1) true (by decide) _).mono ?_
  rintro e w6 ⟨rfl, hb⟩
  have B6 := Lib.hid (B5.out.trans (hb.mono B5.out.size))
  have RJx := Lib.hid (RJ.out.keep_ hb)
  clear RJ
  have RJ := RJx
  clear RJx
  clear hb B5
  go_wp2_with fail
  refine (of_ 0 5 _).mono ?_
  rintro e w7 ⟨rfl, hb⟩
  have B7 := Lib.hid (B6.out.trans (hb.mono B6.out.size))
  have RJx := Lib.hid (RJ.out.keep_ hb)
  clear RJ
  have RJ := RJx
  clear RJx
  clear hb B6
  go_wp2_with fail
  refine (al_right (0, 5) false (by decide) _).mono ?_
  rintro e w8 ⟨rfl, hb⟩
  have B8 := Lib.hid (B7.out.trans (hb.mono B7.out.size))
  have RJx := Lib.hid (RJ.out.keep_ hb)
  clear RJ
  have RJ := RJx
  clear RJx
  clear hb B7
  go_wp2_with fail
  refine (of_ 3 10 _).mono ?_
  rintro e w9 ⟨rfl, hb⟩
  have B9 := Lib.hid (B8.out.trans (hb.mono B8.out.size))
  have RJx := Lib.hid (RJ.out.keep_ hb)
  clear RJ
  have RJ := RJx
  clear RJx
  clear hb B8
  go_wp2_with fail
  refine (al_many (3, 10) 7 (by decide) _).mono ?_
  rintro e w10 ⟨rfl, hb⟩
  have B10 := Lib.hid (B9.out.trans (hb.mono B9.out.size))
  have RJx := Lib.hid (RJ.out.keep_ hb)
  clear RJ
  have RJ := RJx
  clear RJx
  clear hb B9
  go_wp2_with fail
  refine (of_ 9 3 _).mono ?_
  rintro e w11 ⟨rfl, hb⟩
  have B11 := Lib.hid (B10.out.trans (hb.mono B10.out.size))
  have RJx := Lib.hid (RJ.out.keep_ hb)
  clear RJ
  have RJ := RJx
  clear RJx
  clear hb B10
  go_wp2_with fail
  refine (al_many (9, 3) 0 (by decide) _).mono ?_
  rintro e w12 ⟨rfl, hb⟩
  have B12 := Lib.hid (B11.out.trans (hb.mono B11.out.size))
  have RJx := Lib.hid (RJ.out.keep_ hb)
  clear RJ
  have RJ := RJx
  clear RJx
  clear hb B11
  go_wp2_with fail
  refine (of_ 3 10 _).mono ?_
  rintro e w13 ⟨rfl, hb⟩
  have B13 := Lib.hid (B12.out.trans (hb.mono B12.out.size))
  have RJx := Lib.hid (RJ.out.keep_ hb)
  clear RJ
  have RJ := RJx
  clear RJx
  clear hb B12
  go_wp2_with fail
  refine (al_in (3, 10) 9 true (by decide) _).mono ?_
  rintro e w14 ⟨rfl, hb⟩
  have B14 := Lib.hid (B13.out.trans (hb.mono B13.out.size))
  have RJx := Lib.hid (RJ.out.keep_ hb)
  clear RJ
  have RJ := RJx
  clear RJx
  clear hb B13
  go_wp2_with fail
  refine (of_ 3 10 _).mono ?_
  rintro e w15 ⟨rfl, hb⟩
  have B15 := Lib.hid (B14.out.trans (hb.mono B14.out.size))
  have RJx := Lib.hid (RJ.out.keep_ hb)
  clear RJ
  have RJ := RJx
  clear RJx
  clear hb B14
  go_wp2_with fail
  refine (al_in (3, 10) 10 false (by decide) _).mono ?_
  rintro e w16 ⟨rfl, hb⟩
  have B16 := Lib.hid (B15.out.trans (hb.mono B15.out.size))
  have RJx := Lib.hid (RJ.out.keep_ hb)
  clear RJ
  have RJ := RJx
  clear RJx
  clear hb B15
  go_wp2_with fail
  refine (of_ 1 10 _).mono ?_
  rintro e w17 ⟨rfl, hb⟩
  have B17 := Lib.hid (B16.out.trans (hb.mono B16.out.size))
  have RJx := Lib.hid (RJ.out.keep_ hb)
  clear RJ
  have RJ := RJx
  clear RJx
  clear hb B16
  go_wp2_with fail
  refine (of_ 5 20 _).mono ?_
  rintro e w18 ⟨rfl, hb⟩
  have B18 := Lib.hid (B17.out.trans (hb.mono B17.out.size))
  have RJx := Lib.hid (RJ.out.keep_ hb)
  clear RJ
  have RJ := RJx
  clear RJx
  clear hb B17
  go_wp2_with fail
  refine (al_cut (1, 10) (5, 20) (5, 10) al_cut1 _).mono ?_
  rintro e w19 ⟨rfl, hb⟩
  have B19 := Lib.hid (B18.out.trans (hb.mono B18.out.size))
  have RJx := Lib.hid (RJ.out.keep_ hb)
  clear RJ
  have RJ := RJx
  clear RJx
  clear hb B18
  go_wp2_with fail
  refine (of_ 5 10 _).mono ?_
  rintro e w20 ⟨rfl, hb⟩
  have B20 := Lib.hid (B19.out.trans (hb.mono B19.out.size))
  have RJx := Lib.hid (RJ.out.keep_ hb)
  clear RJ
  have RJ := RJx
  clear RJx
  clear hb B19
  go_wp2_with fail
  refine (of_ 1 5 _).mono ?_
  rintro e w21 ⟨rfl, hb⟩
  have B21 := Lib.hid (B20.out.trans (hb.mono B20.out.size))
  have RJx := Lib.hid (RJ.out.keep_ hb)
  clear RJ
  have RJ := RJx
  clear RJx
  clear hb B20
  go_wp2_with fail
  refine (of_ 5 9 _).mono ?_
  rintro e w22 ⟨rfl, hb⟩
  have B22 := Lib.hid (B21.out.trans (hb.mono B21.out.size))
  have RJx := Lib.hid (RJ.out.keep_ hb)
  clear RJ
  have RJ := RJx
  clear RJx
  clear hb B21
  go_wp2_with fail
  refine (al_cut (1, 5) (5, 9) (0, 0) al_cut2 _).mono ?_
  rintro e w23 ⟨rfl, hb⟩
  have B23 := Lib.hid (B22.out.trans (hb.mono B22.out.size))
  have RJx := Lib.hid (RJ.out.keep_ hb)
  clear RJ
  have RJ := RJx
  clear RJx
  clear hb B22
  go_wp2_with fail
  refine (of_ 1 10 _).mono ?_
  rintro e w24 ⟨rfl, hb⟩
  have B24 := Lib.hid (B23.out.trans (hb.mono B23.out.size))
  have RJx := Lib.hid (RJ.out.keep_ hb)
  clear RJ
  have RJ := RJx
  clear RJx
  clear hb B23
  go_wp2_with fail
  refine (of_ 3 5 _).mono ?_
  rintro e w25 ⟨rfl, hb⟩
  have B25 := Lib.hid (B24.out.trans (hb.mono B24.out.size))
  have RJx := Lib.hid (RJ.out.keep_ hb)
  clear RJ
  have RJ := RJx
  clear RJx
  clear hb B24
  go_wp2_with fail
  refine (less (1, 10) (3, 5) _).mono ?_
  rintro e w26 ⟨AL, kL, cL, rfl, hL, hcL, hb⟩
  have B26 := Lib.hid (B25.out.trans (hb.mono B25.out.size))
  have RJx := Lib.hid (RJ.out.keep_ hb)
  clear RJ
  have RJ := RJx
  clear RJx
  clear hb B25
  rw [al_less] at hL
  have RL := Lib.hid (RowAt.mk hL)
  clear hL
  obtain rfl : kL = 2 := RL.out.len.symm
  go_wp2_with fail
  refine (of_ 1 3 _).mono ?_
  rintro e w27 ⟨rfl, hb⟩
  have B27 := Lib.hid (B26.out.trans (hb.mono B26.out.size))
  have RJx := Lib.hid (RJ.out.keep_ hb)
  clear RJ
  have RJ := RJx
  clear RJx
  have RLx := Lib.hid (RL.out.keep_ hb)
  clear RL
  have RL := RLx
  clear RLx
  clear hb B26
  go_wp2_with fail
  refine (of_ 5 10 _).mono ?_
  rintro e w28 ⟨rfl, hb⟩
  have B28 := Lib.hid (B27.out.trans (hb.mono B27.out.size))
  have RJx := Lib.hid (RJ.out.keep_ hb)
  clear RJ
  have RJ := RJx
  clear RJx
  have RLx := Lib.hid (RL.out.keep_ hb)
  clear RL
  have RL := RLx
  clear RLx
  clear hb B27
  go_wp2_with fail
  refine (same AL (some ⟨w28.heap.size, 0, none⟩) 2 cL 2 (w28.alloc (.cells #[.int .i64 1, .int .i64 3, .int .i64 5, .int .i64 10] 23)).heap.size (w28.alloc (.cells #[.int .i64 1, .int .i64 3, .int .i64 5, .int .i64 10] 23)).heap.size [(1, 3), (5, 10)] _ (RL.out.keep_ ((Below.refl _ _).alloc (Nat.le_refl _) _)).spans (spans_new w28 [(1, 3), (5, 10)] _ rfl) (by unfold maxLen; omega)).mono ?_
  rintro e w29 ⟨rfl, hb⟩
  have B29 := Lib.hid ((B28.out.alloc B28.out.size (.cells #[.int .i64 1, .int .i64 3, .int .i64 5, .int .i64 10] 23)).trans (hb.mono (B28.out.alloc B28.out.size (.cells #[.int .i64 1, .int .i64 3, .int .i64 5, .int .i64 10] 23)).size))
  have RJx := Lib.hid (RJ.out.keep_ (((Below.refl _ _).alloc (Nat.le_refl _) (.cells #[.int .i64 1, .int .i64 3, .int .i64 5, .int .i64 10] 23)).trans (hb.mono (by simp))))
  clear RJ
  have RJ := RJx
  clear RJx
  have RLx := Lib.hid (RL.out.keep_ (((Below.refl _ _).alloc (Nat.le_refl _) (.cells #[.int .i64 1, .int .i64 3, .int .i64 5, .int .i64 10] 23)).trans (hb.mono (by simp))))
  clear RL
  have RL := RLx
  clear RLx
  clear hb B28
  clear RL
  go_wp2_with fail
  refine (of_ 1 4 _).mono ?_
  rintro e w30 ⟨rfl, hb⟩
  have B30 := Lib.hid (B29.out.trans (hb.mono B29.out.size))
  have RJx := Lib.hid (RJ.out.keep_ hb)
  clear RJ
  have RJ := RJx
  clear RJx
  clear hb B29
  go_wp2_with fail
  refine (of_ 5 7 _).mono ?_
  rintro e w31 ⟨rfl, hb⟩
  have B31 := Lib.hid (B30.out.trans (hb.mono B30.out.size))
  have RJx := Lib.hid (RJ.out.keep_ hb)
  clear RJ
  have RJ := RJx
  clear RJx
  clear hb B30
  go_wp2_with fail
  refine (same AJ (some ⟨w31.heap.size, 0, none⟩) 2 cJ 2 (w31.alloc (.cells #[.int .i64 1, .int .i64 4, .int .i64 5, .int .i64 7] 23)).heap.size (w31.alloc (.cells #[.int .i64 1, .int .i64 4, .int .i64 5, .int .i64 7] 23)).heap.size [(1, 4), (5, 7)] _ (RJ.out.keep_ ((Below.refl _ _).alloc (Nat.le_refl _) _)).spans (spans_new w31 [(1, 4), (5, 7)] _ rfl) (by unfold maxLen; omega)).mono ?_
  rintro e w32 ⟨rfl, hb⟩
  have B32 := Lib.hid ((B31.out.alloc B31.out.size (.cells #[.int .i64 1, .int .i64 4, .int .i64 5, .int .i64 7] 23)).trans (hb.mono (B31.out.alloc B31.out.size (.cells #[.int .i64 1, .int .i64 4, .int .i64 5, .int .i64 7] 23)).size))
  have RJx := Lib.hid (RJ.out.keep_ (((Below.refl _ _).alloc (Nat.le_refl _) (.cells #[.int .i64 1, .int .i64 4, .int .i64 5, .int .i64 7] 23)).trans (hb.mono (by simp))))
  clear RJ
  have RJ := RJx
  clear RJx
  clear hb B31
  clear RJ
  go_wp2_with fail
  refine (of_ 1 10 _).mono ?_
  rintro e w33 ⟨rfl, hb⟩
  have B33 := Lib.hid (B32.out.trans (hb.mono B32.out.size))
  clear hb B32
  have S1 := Lib.hid (ints_new w33 [7, 3, 7, 1] #[.int .i64 7, .int .i64 3, .int .i64 7, .int .i64 1] rfl)
  go_wp2_with fail
  refine (parts (1, 10) (some ⟨w33.heap.size, 0, none⟩) 4 4 [7, 3, 7, 1] _ S1.out (fun h => by cases h) (by omega)).mono ?_
  rintro e w34 ⟨zs, hj, AP, kP, cP, rfl, hP, hcP, hb⟩
  have B34 := Lib.hid ((B33.out.alloc B33.out.size (.cells #[.int .i64 7, .int .i64 3, .int .i64 7, .int .i64 1] 3)).trans (hb.mono (B33.out.alloc B33.out.size (.cells #[.int .i64 7, .int .i64 3, .int .i64 7, .int .i64 1] 3)).size))
  clear hb B33
  obtain rfl : zs = [(1, 3), (3, 7), (7, 10)] := hj.unique al_parts fun d => Iff.rfl
  have RP := Lib.hid (RowAt.mk hP)
  clear hj hP S1
  obtain rfl : kP = 3 := RP.out.len.symm
  go_wp2_with fail
  refine (of_ 1 3 _).mono ?_
  rintro e w35 ⟨rfl, hb⟩
  have B35 := Lib.hid (B34.out.trans (hb.mono B34.out.size))
  have RPx := Lib.hid (RP.out.keep_ hb)
  clear RP
  have RP := RPx
  clear RPx
  clear hb B34
  go_wp2_with fail
  refine (of_ 3 7 _).mono ?_
  rintro e w36 ⟨rfl, hb⟩
  have B36 := Lib.hid (B35.out.trans (hb.mono B35.out.size))
  have RPx := Lib.hid (RP.out.keep_ hb)
  clear RP
  have RP := RPx
  clear RPx
  clear hb B35
  go_wp2_with fail
  refine (of_ 7 10 _).mono ?_
  rintro e w37 ⟨rfl, hb⟩
  have B37 := Lib.hid (B36.out.trans (hb.mono B36.out.size))
  have RPx := Lib.hid (RP.out.keep_ hb)
  clear RP
  have RP := RPx
  clear RPx
  clear hb B36
  go_wp2_with fail
  refine (same AP (some ⟨w37.heap.size, 0, none⟩) 3 cP 3 (w37.alloc (.cells #[.int .i64 1, .int .i64 3, .int .i64 3, .int .i64 7, .int .i64 7, .int .i64 10] 23)).heap.size (w37.alloc (.cells #[.int .i64 1, .int .i64 3, .int .i64 3, .int .i64 7, .int .i64 7, .int .i64 10] 23)).heap.size [(1, 3), (3, 7), (7, 10)] _ (RP.out.keep_ ((Below.refl _ _).alloc (Nat.le_refl _) _)).spans (spans_new w37 [(1, 3), (3, 7), (7, 10)] _ rfl) (by unfold maxLen; omega)).mono ?_
  rintro e w38 ⟨rfl, hb⟩
  have B38 := Lib.hid ((B37.out.alloc B37.out.size (.cells #[.int .i64 1, .int .i64 3, .int .i64 3, .int .i64 7, .int .i64 7, .int .i64 10] 23)).trans (hb.mono (B37.out.alloc B37.out.size (.cells #[.int .i64 1, .int .i64 3, .int .i64 3, .int .i64 7, .int .i64 7, .int .i64 10] 23)).size))
  have RPx := Lib.hid (RP.out.keep_ (((Below.refl _ _).alloc (Nat.le_refl _) (.cells #[.int .i64 1, .int .i64 3, .int .i64 3, .int .i64 7, .int .i64 7, .int .i64 10] 23)).trans (hb.mono (by simp))))
  clear RP
  have RP := RPx
  clear RPx
  clear hb B37
  go_wp2
  go_ret
  exact ⟨rfl, B38.out⟩

end Spn
end Go.Proofs.Ytbollbbanmdbhaa
