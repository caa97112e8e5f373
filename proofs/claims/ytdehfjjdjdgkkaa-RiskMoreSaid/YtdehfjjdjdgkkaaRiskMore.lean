/-
  The statement RiskMore holds: for every input the call returns true, and each argument reads afterwards as it read before. Conditions: none beside those that the row itself bears.
-/
import Derived.Test.YtdehfjjdjdgkkaaApp
namespace Go.Proofs.Ytdehfjjdjdgkkaa.riskMore
open Go.ChangeShapes Go.WideShapes Go.ChangeAt Go.RowKit Ba Rsk
set_option linter.unusedVariables false


theorem below_dg {B : Nat} {w w' w2 : World} {row : Option Nat} (h : Below B w w') (hB : B ≤ w'.heap.size) (hg : w'.drew.grownBy w2 row) (hr : ∀ k, row = some k → B ≤ k) : Below B w w2 :=
  h.grown ⟨hg.os, hg.tape, hg.output, hg.size, hg.block⟩ hB hr
theorem Own.made' (w : World) {base : Nat} (h : base ≤ w.heap.size) : Rsk.Own (w.alloc (.cells #[] 31)) base (some ⟨w.heap.size, 0, none⟩) 0 0 [] := World.ownsRow_made w #[] 0 h (Nat.zero_le _) (by simp)
/-- The bands with one more behind them, made. -/
structure Beh (w W : World) (A : Option Addr) (m c : Nat) (ls : List Pr) : Prop where
  b : Below w.heap.size w W
  l : Lns W (· < W.heap.size) A m ls
/-- One band in a block of its own is kept where another row grows. -/
theorem one_kept {W W' : World} {g : Nat} {row : Option Nat} {x y : Int} (h : Bx W g 31 #[.int .i64 x, .int .i64 y]) (hg : W.drew.grownBy W' row) (hne : row ≠ some g) : Bx W' g 31 #[.int .i64 x, .int .i64 y] :=
  (hg.block g h.lt (fun e => hne e.symm)).trans h
theorem one_lns {W : World} {g : Nat} {x y : Int} (h : Bx W g 31 #[.int .i64 x, .int .i64 y]) : Lns W (fun _ => True) (some ⟨g, 0, none⟩) 1 [(x, y)] := by
  refine ⟨rfl, fun _ => ⟨_, rfl, trivial, fun j z hz => ?_⟩⟩
  match j, hz with
  | 0, hz => simp at hz; subst hz; rw [Addr.add_lit, Addr.add_lit, h.c, h.c]; exact ⟨rfl, rfl⟩

set_option maxRecDepth 100000 in
set_option maxHeartbeats 4000000 in
theorem walk (L : Option Addr) (m c : Nat) (ls : List Pr) {w : World} (G : Given w L m c ls) (x y : Int) (age : Int) (_ : -9223372036854775808 ≤ age ∧ age ≤ 9223372036854775807) :
    Calls Try.prog 7 #[.slice L m c, .agg #[.int .i64 x, .int .i64 y], .int .i64 age] w (Yes w true) := by
  have HG := Lib.hid G
  have hm := G.m
  unfold maxLen at hm
  clear G
  by_cases g1 : 99 < m
  · have t1 : decide (99 < (m : Int)) = true := by simpa using (show 99 < (m : Int) by omega)
    have t1' : decide (99 < m) = true := by simpa using g1
    clear g1
    go_enter Try.func7, Try.ntmps7
    go_wp2_with fail
    refine (awake _).mono ?_
    rintro e w1 ⟨rfl, hb1⟩
    have HB := Lib.hid (below_alloc hb1)
    clear hb1
    go_wp2
    go_ret
    exact ⟨rfl, HB.out⟩
  have t1 : decide (99 < (m : Int)) = false := by simpa using (show ¬ 99 < (m : Int) by omega)
  have t1' : decide (99 < m) = false := by simpa using g1
  have hm2 : m ≤ 99 := by omega
  clear g1 hm
  have HL := Lib.hid HG.out.l.1
  go_enter Try.func7, Try.ntmps7
  go_wp2_with fail
  refine (awake _).mono ?_
  rintro e w1 ⟨rfl, hb1⟩
  have HX1 := Lib.hid ((Bx.new w 31 #[.int .i64 x, .int .i64 y]).keep hb1)
  have HB1 := Lib.hid (below_alloc hb1)
  have HK := Lib.hid (HG.out.l.below HB1.out)
  clear hb1
  obtain ⟨b, hb⟩ : ∃ b, w.heap.size = b := ⟨_, rfl⟩
  have HBB := Lib.hid hb
  rw [hb] at HX1
  rw [hb]
  clear hb
  go_wp2
  go_loop [8, 9] (fun h i => ∃ (k : Nat) (q : Bool), k ≤ m ∧ i = .int .i64 (k : Int) ∧ h = .bool q ∧ Hid (hs age (ls.take k) = q)) (fun _ i => m - (intOf i).toNat)
  case atStart => exact ⟨0, false, Nat.zero_le _, rfl, rfl, Lib.hid rfl⟩
  case round =>
    obtain ⟨k, q, hk, rfl, rfl, HI⟩ := hrel
    by_cases hlt : k < m
    · obtain ⟨ad, u, v, rfl, hb, hx, hc0, hc1⟩ := HK.out.get hlt
      have HD := Lib.hid (take_get hx)
      have hlt2 : (k : Int) < (m : Int) := by omega
      clear hx hb
      by_cases h1 : age ≤ u
      · have t3 : decide (age ≤ u) = true := by simpa using h1
        have HN := Lib.hid (show hs age (ls.take (k + 1)) = true by rw [HD.out, hs_snoc]; simp only; rw [t3, Bool.or_true])
        clear h1
        go_wp2
        go_round
        case rel => exact ⟨k + 1, true, by omega, by go_num, rfl, HN⟩
        case measure => simp [intOf]; omega
      · have t3 : decide (age ≤ u) = false := by simpa using h1
        have HN := Lib.hid (show hs age (ls.take (k + 1)) = q by rw [HD.out, hs_snoc]; simp only; rw [t3, Bool.or_false]; exact HI.out)
        clear h1
        go_wp2
        go_round
        case rel => exact ⟨k + 1, q, by omega, by go_num, rfl, HN⟩
        case measure => simp [intOf]; omega
    · have HQ := Lib.hid (show hs age ls = q by have := HI.out; rwa [List.take_of_length_le (by rw [HL.out]; omega)] at this)
      clear HI
      have x0 := HX1.out.c 0
      have x1 := HX1.out.c 1
      simp at x0 x1
      have xl := HX1.out.lt
      go_wp2
      go_cut [10] (fun s10 wx => ∃ (Wz : World) (A2 : Option Addr) (c2 : Nat), Wz = wx ∧ s10 = .slice A2 (m + 1) c2 ∧ Hid (Beh w1 Wz A2 (m + 1) c2 (ls ++ [(x, y)])))
      case first =>
        have HSX := Lib.hid (fun (W' : World) (h : Below w1.heap.size w1 W') => show W'.cell? ⟨b, 0, none⟩ = some (.int .i64 x) ∧ W'.cell? ⟨b, 1, none⟩ = some (.int .i64 y) by have h0 := (HX1.out.keep h).c 0; have h1 := (HX1.out.keep h).c 1; simp at h0 h1; exact ⟨h0, h1⟩)
        have HBd := Lib.hid (show Below w1.heap.size w1 w1.drew from ⟨rfl, rfl, rfl, Nat.le_refl _, fun _ _ => rfl⟩)
        have HBe := Lib.hid (fun o => show Below w1.heap.size w1 (w1.alloc o).drew from ⟨(alloc_ w1 o).os, (alloc_ w1 o).tape, (alloc_ w1 o).output, (alloc_ w1 o).size, (alloc_ w1 o).block⟩)
        have HBf := Lib.hid (fun o => fun o' => (have h := (alloc_ w1 o).alloc (alloc_ w1 o).size o'; show Below w1.heap.size w1 ((w1.alloc o).alloc o').drew from ⟨h.os, h.tape, h.output, h.size, h.block⟩))
        go_region_held3 (fun w' => w'.cell? ⟨b, 0, none⟩ = some (.int .i64 x) ∧ w'.cell? ⟨b, 1, none⟩ = some (.int .i64 y))
          (first | exact HSX.out _ HBd.out | exact HSX.out _ (HBe.out _) | exact HSX.out _ (HBf.out _ _) | exact HSX.out _ HB3.out | exact HSX.out _ HB2.out | exact HSX.out _ (HB2.out.alloc HB2.out.size _) | fail)
          (first
          | (refine step_app (w1.alloc (.cells #[] 31)).drew (by rfl) (.tmp 32) (.tmp 33) (by rfl) w1.heap.size (some ⟨w1.heap.size, 0, none⟩) 0 0 [] (by rfl) (Own.made' w1 (Nat.le_refl _)).drew _ L m c ls (by rfl) (HK.out.below (alloc_ w1 _)).drew HG.out.n m (Nat.zero_add _) (by omega) (by simp) ?_; intro A2 c2 w2 hO2 hg2; have HO2 := Lib.hid (show Rsk.Own w2 w1.heap.size A2 m c2 ls from hO2); have HB2 := Lib.hid (below_dg (alloc_ w1 _) (alloc_ w1 _).size hg2 (fun k hk => by simp [Value.ownBlock] at hk; omega)); clear hO2 hg2)
          | (refine step_app ((w1.alloc (.cells #[] 31)).alloc (.cells #[.int .i64 x, .int .i64 y] 31)).drew (by rfl) (.tmp 32) (.tmp 33) (by rfl) w1.heap.size (some ⟨w1.heap.size, 0, none⟩) 0 0 [] (by rfl) ((Own.made' w1 (Nat.le_refl _)).below (alloc_ _ _)).drew _ L m c ls (by rfl) ((HK.out.below (alloc_ w1 _)).below (alloc_ _ _)).drew HG.out.n m (Nat.zero_add _) (by omega) (by simp; omega) ?_; intro A2 c2 w2 hO2 hg2; have HO2 := Lib.hid (show Rsk.Own w2 w1.heap.size A2 m c2 ls from hO2); have HX2 := Lib.hid (show Bx w2 (w1.heap.size + 1) 31 #[.int .i64 x, .int .i64 y] by have h := one_kept (Bx.new (w1.alloc (.cells #[] 31)) 31 #[.int .i64 x, .int .i64 y]) hg2 (by simp [Value.ownBlock]); rw [World.size_alloc] at h; exact h); have HB2 := Lib.hid (below_dg ((alloc_ w1 _).alloc (alloc_ w1 _).size _) (by simp; omega) hg2 (fun k hk => by simp [Value.ownBlock] at hk; omega)); clear hO2 hg2)
          | (refine step_app ((w1.alloc (.cells #[.int .i64 x, .int .i64 y] 31)).alloc (.cells #[] 31)).drew (by rfl) (.tmp 32) (.tmp 33) (by rfl) w1.heap.size (some ⟨w1.heap.size + 1, 0, none⟩) 0 0 [] (by rfl) (by have h := (Own.made' (w1.alloc (.cells #[.int .i64 x, .int .i64 y] 31)) (alloc_ w1 _).size).drew; rw [World.size_alloc] at h; exact h) _ L m c ls (by rfl) ((HK.out.below (alloc_ w1 _)).below (alloc_ _ _)).drew HG.out.n m (Nat.zero_add _) (by omega) (by simp; omega) ?_; intro A2 c2 w2 hO2 hg2; have HO2 := Lib.hid (show Rsk.Own w2 w1.heap.size A2 m c2 ls from hO2); have HX2 := Lib.hid (one_kept ((Bx.new w1 31 #[.int .i64 x, .int .i64 y]).keep (alloc_ _ _)) hg2 (by simp [Value.ownBlock])); have HB2 := Lib.hid (below_dg ((alloc_ w1 _).alloc (alloc_ w1 _).size _) (by simp; omega) hg2 (fun k hk => by simp [Value.ownBlock] at hk; omega)); clear hO2 hg2)
          | (refine step_app (w2.alloc (.cells #[.int .i64 x, .int .i64 y] 31)) (by rfl) (.tmp 34) (.tmp 36) (by rfl) w1.heap.size A2 m c2 ls (by rfl) (HO2.out.below (alloc_ _ _)) _ (some ⟨w2.heap.size, 0, none⟩) 1 1 [(x, y)] (by rfl) (one_lns (Bx.new w2 31 #[.int .i64 x, .int .i64 y])) (fun h => by cases h) (m + 1) rfl (by omega) (by have := HB2.out.size; simp; omega) ?_; intro A3 c3 w3 hO3 hg3; have HB3 := Lib.hid ((HB2.out.alloc HB2.out.size _).grown hg3 (by have := HB2.out.size; simp; omega) (fun k hk => (HO2.out.lt k hk).1)); have HE := Lib.hid (show Beh w1 w3 A3 (m + 1) c3 (ls ++ [(x, y)]) from ⟨HB3.out, hO3.lns.keep (ok' := (· < w3.heap.size)) (fun _ _ => rfl) fun _ h => h.2⟩); clear hO3 hg3)
          | (refine step_app w2 (by rfl) (.tmp 34) (.tmp 36) (by rfl) w1.heap.size A2 m c2 ls (by rfl) HO2.out _ _ 1 1 [(x, y)] (by rfl) (one_lns HX2.out) (fun h => by cases h) (m + 1) rfl (by omega) HB2.out.size ?_; intro A3 c3 w3 hO3 hg3; have HB3 := Lib.hid (HB2.out.grown hg3 HB2.out.size (fun k hk => (HO2.out.lt k hk).1)); have HE := Lib.hid (show Beh w1 w3 A3 (m + 1) c3 (ls ++ [(x, y)]) from ⟨HB3.out, hO3.lns.keep (ok' := (· < w3.heap.size)) (fun _ _ => rfl) fun _ h => h.2⟩); clear hO3 hg3)
          | fail)
        all_goals
          go_wp2_with fail
          go_meet
          exact ⟨_, A3, c3, rfl, rfl, HE⟩
      case rest =>
        clear x0 x1 xl
        obtain ⟨W2, A2, c2, rfl, rfl, HE⟩ := hcut
        have HX2 := Lib.hid (HX1.out.keep HE.out.b)
        have x0 := HX2.out.c 0
        have x1 := HX2.out.c 1
        simp at x0 x1
        have xl := HX2.out.lt
        have HK2 := Lib.hid (HK.out.below HE.out.b)
        go_wp2_with (at_builtin; refine wpList_app (W2.alloc (.cells #[.int .i64 x, .int .i64 y] 31)) (by rfl) (.tmp 39) (.tmp 40) (by rfl) W2.heap.size (some ⟨W2.heap.size, 0, none⟩) 1 1 [(x, y)] (by rfl) (Own.one W2 x y) _ L m c ls (by rfl) (HK2.out.below (alloc_ W2 _)) HG.out.n (m + 1) (Nat.add_comm _ _) (by omega) (by simp) ?_; intro A4 c4 W4 hO4 hg4; have HB4 := Lib.hid ((alloc_ W2 _).grown hg4 (alloc_ W2 _).size (fun k hk => by simp [Value.ownBlock] at hk; omega)); have HA4 := Lib.hid (show Lns W4 (· < W4.heap.size) A4 (m + 1) ((x, y) :: ls) from hO4.lns.keep (ok' := (· < W4.heap.size)) (fun _ _ => rfl) fun _ h => h.2); clear hO4 hg4)
        have HBE := Lib.hid (HB1.out.trans ((HE.out.b.trans (HB4.out.mono HE.out.b.size)).mono HB1.out.size))
        have HX4 := Lib.hid (HX2.out.keep HB4.out)
        have HE4 := Lib.hid (HE.out.l.below HB4.out)
        have HK4 := Lib.hid (HK2.out.below HB4.out)
        clear x0 x1 xl HX1 HX2 HK HK2 HB1 HB4 HE
        obtain ⟨n, hn⟩ : ∃ n, bnd age ls = n := ⟨_, rfl⟩
        have HN := Lib.hid hn
        have hml : m + 1 ≤ maxLen := by unfold maxLen; omega
        have CB := fun w' (h : Below W4.heap.size W4 w') => Lib.hid (band L m c ls age w' _ (HK4.out.below h) HG.out.m)
        have CH := fun w' (h : Below W4.heap.size W4 w') => Lib.hid (band A2 (m + 1) c2 (ls ++ [(x, y)]) age w' _ (HE4.out.below h) hml)
        have CA := fun w' (h : Below W4.heap.size W4 w') => Lib.hid (band A4 (m + 1) c4 ((x, y) :: ls) age w' _ (HA4.out.below h) hml)
        have CR := fun w' (h : Below W4.heap.size W4 w') => Lib.hid (bands_ A2 (m + 1) c2 (ls ++ [(x, y)]) w' (HE4.out.below h) hml)
        have CL := fun w' (h : Below W4.heap.size W4 w') => Lib.hid (bands_ L m c ls w' (HK4.out.below h) HG.out.m)
        rw [hn] at CB
        clear hn hml
        cases hr : bds (ls ++ [(x, y)])
        · rw [hr] at CR
          clear hr
          cases q
          · by_cases hu : age ≤ x
            · obtain ⟨f1, f2⟩ := bnd_append_not (m := [(x, y)]) HQ.out
              have e2 : bnd age ((x, y) :: ls) = y := bnd_at (by simp only; omega)
              have e1 : bnd age (ls ++ [(x, y)]) = y := f1.trans (bnd_at (by simp only; omega))
              rw [e1] at CH
              rw [e2] at CA
              have t9 : decide (age ≤ x) = true := by simpa using hu
              clear e1 e2 hu f1 f2
              refine (CB _ (Below.refl _ _)).out.mono ?_
              rintro e w' ⟨rfl, rfl⟩
              go_wp2_with fail
              refine (CR _ (Below.refl _ _)).out.mono ?_
              rintro e W5 ⟨rfl, hb5⟩
              have HB5 := Lib.hid hb5
              clear hb5
              have x0 := (HX4.out.keep HB5.out).c 0
              have x1 := (HX4.out.keep HB5.out).c 1
              simp at x0 x1
              go_wp2_with fail
              refine (CA _ HB5.out).out.mono ?_
              rintro e w' ⟨rfl, rfl⟩
              go_wp2_with fail
              refine (CH _ HB5.out).out.mono ?_
              rintro e w' ⟨rfl, rfl⟩
              go_wp2
              go_ret
              exact ⟨rfl, HBE.out.trans (HB5.out.mono HBE.out.size)⟩
            · obtain ⟨f1, f2⟩ := bnd_append_not (m := [(x, y)]) HQ.out
              have e2 : bnd age ((x, y) :: ls) = n := (bnd_up (by simp only; omega)).trans HN.out
              have e1 : bnd age (ls ++ [(x, y)]) = n := (f1.trans (bnd_up (by simp only; omega))).trans (f2.symm.trans HN.out)
              rw [e1] at CH
              rw [e2] at CA
              have t9 : decide (age ≤ x) = false := by simpa using hu
              clear e1 e2 hu f1 f2
              refine (CB _ (Below.refl _ _)).out.mono ?_
              rintro e w' ⟨rfl, rfl⟩
              go_wp2_with fail
              refine (CR _ (Below.refl _ _)).out.mono ?_
              rintro e W5 ⟨rfl, hb5⟩
              have HB5 := Lib.hid hb5
              clear hb5
              have x0 := (HX4.out.keep HB5.out).c 0
              have x1 := (HX4.out.keep HB5.out).c 1
              simp at x0 x1
              go_wp2_with fail
              refine (CA _ HB5.out).out.mono ?_
              rintro e w' ⟨rfl, rfl⟩
              go_wp2_with fail
              refine (CH _ HB5.out).out.mono ?_
              rintro e w' ⟨rfl, rfl⟩
              go_wp2
              go_ret
              exact ⟨rfl, HBE.out.trans (HB5.out.mono HBE.out.size)⟩
          · by_cases hu : age ≤ x
            · have e1 : bnd age (ls ++ [(x, y)]) = n := (bnd_append_has HQ.out).trans HN.out
              have e2 : bnd age ((x, y) :: ls) = y := bnd_at (by simp only; omega)
              rw [e1] at CH
              rw [e2] at CA
              have t9 : decide (age ≤ x) = true := by simpa using hu
              clear e1 e2 hu
              refine (CB _ (Below.refl _ _)).out.mono ?_
              rintro e w' ⟨rfl, rfl⟩
              go_wp2_with fail
              refine (CH _ (Below.refl _ _)).out.mono ?_
              rintro e w' ⟨rfl, rfl⟩
              go_wp2_with fail
              refine (CR _ (Below.refl _ _)).out.mono ?_
              rintro e W5 ⟨rfl, hb5⟩
              have HB5 := Lib.hid hb5
              clear hb5
              have x0 := (HX4.out.keep HB5.out).c 0
              have x1 := (HX4.out.keep HB5.out).c 1
              simp at x0 x1
              go_wp2_with fail
              refine (CA _ HB5.out).out.mono ?_
              rintro e w' ⟨rfl, rfl⟩
              go_wp2
              go_ret
              exact ⟨rfl, HBE.out.trans (HB5.out.mono HBE.out.size)⟩
            · have e1 : bnd age (ls ++ [(x, y)]) = n := (bnd_append_has HQ.out).trans HN.out
              have e2 : bnd age ((x, y) :: ls) = n := (bnd_up (by simp only; omega)).trans HN.out
              rw [e1] at CH
              rw [e2] at CA
              have t9 : decide (age ≤ x) = false := by simpa using hu
              clear e1 e2 hu
              refine (CB _ (Below.refl _ _)).out.mono ?_
              rintro e w' ⟨rfl, rfl⟩
              go_wp2_with fail
              refine (CH _ (Below.refl _ _)).out.mono ?_
              rintro e w' ⟨rfl, rfl⟩
              go_wp2_with fail
              refine (CR _ (Below.refl _ _)).out.mono ?_
              rintro e W5 ⟨rfl, hb5⟩
              have HB5 := Lib.hid hb5
              clear hb5
              have x0 := (HX4.out.keep HB5.out).c 0
              have x1 := (HX4.out.keep HB5.out).c 1
              simp at x0 x1
              go_wp2_with fail
              refine (CA _ HB5.out).out.mono ?_
              rintro e w' ⟨rfl, rfl⟩
              go_wp2
              go_ret
              exact ⟨rfl, HBE.out.trans (HB5.out.mono HBE.out.size)⟩
        · rw [hr] at CR
          rw [bds_append hr] at CL
          clear hr
          cases q
          · by_cases hu : age ≤ x
            · obtain ⟨f1, f2⟩ := bnd_append_not (m := [(x, y)]) HQ.out
              have e2 : bnd age ((x, y) :: ls) = y := bnd_at (by simp only; omega)
              have e1 : bnd age (ls ++ [(x, y)]) = y := f1.trans (bnd_at (by simp only; omega))
              rw [e1] at CH
              rw [e2] at CA
              have t9 : decide (age ≤ x) = true := by simpa using hu
              clear e1 e2 hu f1 f2
              refine (CB _ (Below.refl _ _)).out.mono ?_
              rintro e w' ⟨rfl, rfl⟩
              go_wp2_with fail
              refine (CR _ (Below.refl _ _)).out.mono ?_
              rintro e W5 ⟨rfl, hb5⟩
              have HB5 := Lib.hid hb5
              clear hb5
              go_wp2_with fail
              refine (CL _ HB5.out).out.mono ?_
              rintro e W6 ⟨rfl, hb6⟩
              have HB6 := Lib.hid (HB5.out.trans (hb6.mono HB5.out.size))
              clear hb6 HB5
              have x0 := (HX4.out.keep HB6.out).c 0
              have x1 := (HX4.out.keep HB6.out).c 1
              simp at x0 x1
              go_wp2_with fail
              refine (CA _ HB6.out).out.mono ?_
              rintro e w' ⟨rfl, rfl⟩
              go_wp2_with fail
              refine (CH _ HB6.out).out.mono ?_
              rintro e w' ⟨rfl, rfl⟩
              go_wp2
              go_ret
              exact ⟨rfl, HBE.out.trans (HB6.out.mono HBE.out.size)⟩
            · obtain ⟨f1, f2⟩ := bnd_append_not (m := [(x, y)]) HQ.out
              have e2 : bnd age ((x, y) :: ls) = n := (bnd_up (by simp only; omega)).trans HN.out
              have e1 : bnd age (ls ++ [(x, y)]) = n := (f1.trans (bnd_up (by simp only; omega))).trans (f2.symm.trans HN.out)
              rw [e1] at CH
              rw [e2] at CA
              have t9 : decide (age ≤ x) = false := by simpa using hu
              clear e1 e2 hu f1 f2
              refine (CB _ (Below.refl _ _)).out.mono ?_
              rintro e w' ⟨rfl, rfl⟩
              go_wp2_with fail
              refine (CR _ (Below.refl _ _)).out.mono ?_
              rintro e W5 ⟨rfl, hb5⟩
              have HB5 := Lib.hid hb5
              clear hb5
              go_wp2_with fail
              refine (CL _ HB5.out).out.mono ?_
              rintro e W6 ⟨rfl, hb6⟩
              have HB6 := Lib.hid (HB5.out.trans (hb6.mono HB5.out.size))
              clear hb6 HB5
              have x0 := (HX4.out.keep HB6.out).c 0
              have x1 := (HX4.out.keep HB6.out).c 1
              simp at x0 x1
              go_wp2_with fail
              refine (CA _ HB6.out).out.mono ?_
              rintro e w' ⟨rfl, rfl⟩
              go_wp2_with fail
              refine (CH _ HB6.out).out.mono ?_
              rintro e w' ⟨rfl, rfl⟩
              go_wp2
              go_ret
              exact ⟨rfl, HBE.out.trans (HB6.out.mono HBE.out.size)⟩
          · by_cases hu : age ≤ x
            · have e1 : bnd age (ls ++ [(x, y)]) = n := (bnd_append_has HQ.out).trans HN.out
              have e2 : bnd age ((x, y) :: ls) = y := bnd_at (by simp only; omega)
              rw [e1] at CH
              rw [e2] at CA
              have t9 : decide (age ≤ x) = true := by simpa using hu
              clear e1 e2 hu
              refine (CB _ (Below.refl _ _)).out.mono ?_
              rintro e w' ⟨rfl, rfl⟩
              go_wp2_with fail
              refine (CH _ (Below.refl _ _)).out.mono ?_
              rintro e w' ⟨rfl, rfl⟩
              go_wp2_with fail
              refine (CR _ (Below.refl _ _)).out.mono ?_
              rintro e W5 ⟨rfl, hb5⟩
              have HB5 := Lib.hid hb5
              clear hb5
              go_wp2_with fail
              refine (CL _ HB5.out).out.mono ?_
              rintro e W6 ⟨rfl, hb6⟩
              have HB6 := Lib.hid (HB5.out.trans (hb6.mono HB5.out.size))
              clear hb6 HB5
              have x0 := (HX4.out.keep HB6.out).c 0
              have x1 := (HX4.out.keep HB6.out).c 1
              simp at x0 x1
              go_wp2_with fail
              refine (CA _ HB6.out).out.mono ?_
              rintro e w' ⟨rfl, rfl⟩
              go_wp2
              go_ret
              exact ⟨rfl, HBE.out.trans (HB6.out.mono HBE.out.size)⟩
            · have e1 : bnd age (ls ++ [(x, y)]) = n := (bnd_append_has HQ.out).trans HN.out
              have e2 : bnd age ((x, y) :: ls) = n := (bnd_up (by simp only; omega)).trans HN.out
              rw [e1] at CH
              rw [e2] at CA
              have t9 : decide (age ≤ x) = false := by simpa using hu
              clear e1 e2 hu
              refine (CB _ (Below.refl _ _)).out.mono ?_
              rintro e w' ⟨rfl, rfl⟩
              go_wp2_with fail
              refine (CH _ (Below.refl _ _)).out.mono ?_
              rintro e w' ⟨rfl, rfl⟩
              go_wp2_with fail
              refine (CR _ (Below.refl _ _)).out.mono ?_
              rintro e W5 ⟨rfl, hb5⟩
              have HB5 := Lib.hid hb5
              clear hb5
              go_wp2_with fail
              refine (CL _ HB5.out).out.mono ?_
              rintro e W6 ⟨rfl, hb6⟩
              have HB6 := Lib.hid (HB5.out.trans (hb6.mono HB5.out.size))
              clear hb6 HB5
              have x0 := (HX4.out.keep HB6.out).c 0
              have x1 := (HX4.out.keep HB6.out).c 1
              simp at x0 x1
              go_wp2_with fail
              refine (CA _ HB6.out).out.mono ?_
              rintro e w' ⟨rfl, rfl⟩
              go_wp2
              go_ret
              exact ⟨rfl, HBE.out.trans (HB6.out.mono HBE.out.size)⟩

set_option maxRecDepth 100000 in
theorem lifted (os : Os) (started : os.Started) (H : Type) (enc : TypeId × Value → H) :
    ReturnsInHanded {} Try.checked os 7 .any (Rows.riskMoreSpec.pre6 enc Try.prog Try.f7 Rows.riskMoreRow.domain false) (Rows.riskMoreSpec.post enc Try.prog Try.f7 false true false false) := by
  refine returnsInHanded_of_change (C := Try.checked) Rsk.own started (by kernel_rfl) Try.func7
    (ChangeSpec.witness6 (enc := enc) (C := Try.checked) false ⟨#[], #[.slice none 0 0, .agg #[.int .i64 0, .int .i64 0], .int .i64 0], []⟩ 8 (by kernel_rfl) (by kernel_rfl) (by kernel_rfl) (by kernel_rfl)) ?_
  intro W base args ds gs before hval0 hW hcnd _
  have hval : ∀ (j : Nat) t v, Try.f7.params[j]? = some t → args[j]? = some v → Value.okWide Try.prog W .any base t v := hval0
  have hW' := hW
  obtain ⟨p, q, hA0, hV, rfl, hfz, hnd⟩ := hW
  have hA : DataW.TrodAll enc Try.prog W 0 (fun _ => true) true Try.f7.params.toList args.toList ds p := hA0
  rw [Try.params7] at hA hval
  obtain ⟨v0, vs0, d0, ds0, p0, q0, hargs, rfl, rfl, h0, r0⟩ := trodAll_cons hA
  obtain ⟨v1, vs1, d1, ds1, p1, q1, rfl, rfl, rfl, h1, r1⟩ := trodAll_cons r0
  obtain ⟨v2, vs2, d2, ds2, p2, q2, rfl, rfl, rfl, h2, r2⟩ := trodAll_cons r1
  obtain ⟨rfl, rfl, rfl⟩ := trodAll_nil r2
  obtain rfl : args = #[v0, v1, v2] := by cases args; simp_all
  obtain ⟨rfl, rfl⟩ := trodVars_none hV
  have k0 := h0
  have lt0 : ∀ x ∈ p0, x.block < W.heap.size := by obtain ⟨m, hm⟩ := k0; exact DataW.trod_lt m _ _ _ hm
  obtain ⟨L0, m0, c0, l0, rfl, g0⟩ := Rsk.open_bands (hval 0 26 v0 rfl rfl) h0
  have k1 := h1
  have lt1 : ∀ x ∈ p1, x.block < W.heap.size := by obtain ⟨m, hm⟩ := k1; exact DataW.trod_lt m _ _ _ hm
  obtain ⟨x1, y1, rfl⟩ := Rsk.open_band (hval 1 31 v1 rfl rfl) h1
  obtain ⟨a2, rfl, rfl, rfl, w2⟩ := open_int Try.underlying3 (hval 2 3 v2 rfl rfl) h2
  clear hA0 hval0
  refine (walk L0 m0 c0 l0 g0 x1 y1 a2 (Rsk.i64_of w2)).mono fun e W' ⟨he, bel⟩ => ?_
  subst he
  exact ⟨_, rfl, _, _, _, [], _, [], hW', trodAll_mk1 (shut_bool Try.underlying4 _), (trodAll_cons_mk (Below.trod Rsk.laidOut (by kernel_rfl) (of_decide_eq_true (by kernel_rfl)) k0 bel lt0) (trodAll_cons_mk (Below.trod Rsk.laidOut (by kernel_rfl) (of_decide_eq_true (by kernel_rfl)) k1 bel lt1) (trodAll_cons_mk (shut_int Try.underlying3 w2) trodAll_mk0))), rfl, bel.frame _, fun h => by cases h⟩

theorem over : Rows.riskMoreRow.holds Try.pinned (OpenSpec.ofChange Rows.riskMoreSpec) :=
  OpenClaim.holds_of_wide 7 Try.f7 rfl rfl rfl rfl rfl rfl rfl ⟨rfl, rfl, rfl, rfl, rfl⟩ rfl rfl rfl rfl rfl (by kernel_rfl) Try.func7 (by kernel_rfl)
    (of_decide_eq_true (by kernel_rfl)) (by unfold Func.isWrapper; first | (rw [if_pos (by decide +kernel)]; kernel_rfl) | (rw [if_neg (by decide +kernel)]; exact ⟨rfl, rfl⟩))
    (fun os started H enc _ => lifted os started H enc)

theorem proved : Rows.RiskMoreSaid := over
end Go.Proofs.Ytdehfjjdjdgkkaa.riskMore
