/-
  The statement NumEnds holds: for every input the call returns true, and each argument reads afterwards as it read before. Conditions: none beside those that the row itself bears.
-/
import Derived.Test.YtdamojbjamolaaaGiven
import Derived.Test.YtdamojbjamolaaaEnds
import Derived.Deep.RegionHeld3
namespace Go.Proofs.Ytdamojbjamolaaa.numEnds
open Go.ChangeShapes Go.WideShapes Go.ChangeAt Go.RowKit
set_option linter.unusedVariables false

theorem own : ownKnob Try.prog.godebug = none := by kernel_rfl
theorem laidOut : laidOutB Try.prog = true := by kernel_rfl

set_option maxRecDepth 100000 in
set_option maxHeartbeats 2000000 in
theorem out (w : World) (m q : Int) (A : Option Addr) (n c : Nat) (hn : n ≤ 9223372036854775807) (h : 300 < n ∨ q < 1 ∨ (n : Int) ≤ q) :
    Calls Try.prog 11 #[.int .i64 m, .slice A n c, .int .i64 q] w fun e w' => e = .returned (.bool true) ∧ Below w.heap.size w w' := by
  by_cases h1 : 300 < n
  · have t1 : decide (300 < n) = true := by simpa using h1
    clear h
    go_enter Try.func11, Try.ntmps11
    go_wp2_with (go_at_call 14; refine (Num.alive _).mono ?_; rintro e w1 ⟨rfl, hb1⟩)
    go_ret
    exact ⟨rfl, hb1⟩
  · have t1 : decide (300 < n) = false := by simpa using h1
    by_cases h2 : q < 1
    · have t2 : decide (q < 1) = true := by simpa using h2
      clear h
      go_enter Try.func11, Try.ntmps11
      go_wp2_with (go_at_call 14; refine (Num.alive _).mono ?_; rintro e w1 ⟨rfl, hb1⟩)
      go_ret
      exact ⟨rfl, hb1⟩
    · have t2 : decide (q < 1) = false := by simpa using h2
      have h3 : (n : Int) ≤ q := by omega
      have t3 : decide ((n : Int) ≤ q) = true := by simpa using h3
      clear h
      go_enter Try.func11, Try.ntmps11
      go_wp2_with (go_at_call 14; refine (Num.alive _).mono ?_; rintro e w1 ⟨rfl, hb1⟩)
      go_ret
      exact ⟨rfl, hb1⟩

set_option maxRecDepth 100000 in
set_option maxHeartbeats 2000000 in
theorem ends_no (w : World) (m : Int) (ad : Addr) (n c r : Nat) (xs : List Int) (G : Num.GivenN w (some ad) n c xs) (hn : n ≤ 300) (hr : 1 ≤ r) (hr2 : r < n) (HN : Hid (Num.nonneg (xs.take r) ∧ Num.sumL (xs.take r) ≤ 4000000000000000000)) (hE : Num.splitE m xs ≠ 0) :
    Calls Try.prog 11 #[.int .i64 m, .slice (some ad) n c, .int .i64 (r : Int)] w fun e w' => e = .returned (.bool true) ∧ Below w.heap.size w w' := by
  have t4 : (Num.splitE m xs != 0) = true := by simpa using hE
  have C := Lib.hid (Num.split (some ad) n c xs m w G.given.ints G.given.len)
  generalize Num.splitE m xs = ec at *
  clear hE
  have t1 : decide (300 < n) = false := by simpa using hn
  have t1' : decide ((300 : Int) < (n : Int)) = false := by simp; omega
  have t2 : decide ((r : Int) < 1) = false := by simp; omega
  have t3 : decide (n ≤ r) = false := by simp; omega
  have t3' : decide ((n : Int) ≤ (r : Int)) = false := by simp; omega
  have hrc : r ≤ c := by have := G.given.cap; omega
  have HG := Lib.hid G
  clear G
  go_enter Try.func11, Try.ntmps11
  go_wp2
  go_loop [7, 8, 36] (fun s b i => ∃ (k : Nat) (t : Int), k ≤ r ∧ i = .int .i64 (k : Int) ∧ s = .int .i64 t ∧ b = .bool true ∧ 0 ≤ t ∧ t ≤ 4000000000000000000 ∧ Hid (t = Num.sumL (xs.take k))) (fun _ _ i => r - (intOf i).toNat)
  case atStart => exact ⟨0, 0, Nat.zero_le _, rfl, rfl, rfl, by omega, by omega, Lib.hid (by simp [Num.sumL])⟩
  case round =>
    obtain ⟨k, t, hk, rfl, rfl, rfl, ht0, ht1, HT⟩ := hrel
    by_cases hlt : k < r
    · obtain ⟨ad', x, e, hb, hx, hc⟩ := HG.out.given.ints.get (show k < n by omega)
      injection e with e
      subst e
      have hxr : (xs.take r)[k]? = some x := by rw [List.getElem?_take_of_lt hlt]; exact hx
      have hx0 : 0 ≤ x := HN.out.1 x (Num.mem_of_get hxr)
      have hs : t + x = Num.sumL (xs.take (k + 1)) := by rw [Num.take_more hx, Num.sumL_snoc, HT.out]
      have hle : Num.sumL (xs.take (k + 1)) ≤ Num.sumL (xs.take r) := by
        have e : xs.take (k + 1) = (xs.take r).take (k + 1) := by rw [List.take_take, Nat.min_eq_left (by omega)]
        rw [e]; exact Num.sumL_take_le HN.out.1 _
      have hb1 : t + x ≤ 4000000000000000000 := by have := HN.out.2; omega
      obtain ⟨d, hd⟩ : ∃ d : Int, d = 4000000000000000000 - t := ⟨_, rfl⟩
      have ed : 4000000000000000000 - t = d := hd.symm
      have tx : decide (x < 0) = false := by simpa using hx0
      have td : decide (d < x) = false := by simp; omega
      have HS := Lib.hid hs
      clear hs hle hd hx hxr
      go_wp2
      go_round
      case rel => exact ⟨k + 1, t + x, by omega, by go_num, rfl, rfl, by omega, by omega, HS⟩
      case measure => simp [intOf]; omega
    · obtain rfl : r = k := by omega
      go_wp2_with fail
      refine C.out.mono ?_
      rintro e w1 ⟨X, kx, cx, rfl, hix, hkx, hb1⟩
      have B1 := Lib.hid hb1
      clear hb1 hix
      go_wp2_with fail
      refine (Num.alive _).mono ?_
      rintro e w2 ⟨rfl, hb2⟩
      have B2 := Lib.hid (B1.out.trans (hb2.mono B1.out.size))
      clear hb2
      go_wp2
      go_ret
      exact ⟨rfl, B2.out⟩

set_option maxRecDepth 100000 in
set_option maxHeartbeats 2000000 in
theorem ends_bad (w : World) (m : Int) (ad : Addr) (n c r : Nat) (xs : List Int) (G : Num.GivenN w (some ad) n c xs) (hn : n ≤ 300) (hr : 1 ≤ r) (hr2 : r < n) (HN : Hid (¬ (Num.nonneg (xs.take r) ∧ Num.sumL (xs.take r) ≤ 4000000000000000000))) :
    Calls Try.prog 11 #[.int .i64 m, .slice (some ad) n c, .int .i64 (r : Int)] w fun e w' => e = .returned (.bool true) ∧ Below w.heap.size w w' := by
  have hE : Num.splitE m xs ≠ 0 := fun h => HN.out (Num.made_good (Num.made_of h) r)
  have t4 : (Num.splitE m xs != 0) = true := by simpa using hE
  have C := Lib.hid (Num.split (some ad) n c xs m w G.given.ints G.given.len)
  generalize Num.splitE m xs = ec at *
  clear hE
  have t1 : decide (300 < n) = false := by simpa using hn
  have t1' : decide ((300 : Int) < (n : Int)) = false := by simp; omega
  have t2 : decide ((r : Int) < 1) = false := by simp; omega
  have t3 : decide (n ≤ r) = false := by simp; omega
  have t3' : decide ((n : Int) ≤ (r : Int)) = false := by simp; omega
  have hrc : r ≤ c := by have := G.given.cap; omega
  have HG := Lib.hid G
  clear G
  go_enter Try.func11, Try.ntmps11
  go_wp2
  go_loop [7, 8, 36] (fun s b i => ∃ (k : Nat) (t : Int), k ≤ r ∧ i = .int .i64 (k : Int) ∧ s = .int .i64 t ∧ b = .bool true ∧ 0 ≤ t ∧ t ≤ 4000000000000000000 ∧ Hid (t = Num.sumL (xs.take k) ∧ Num.nonneg (xs.take k))) (fun _ _ i => r - (intOf i).toNat)
  case atStart => exact ⟨0, 0, Nat.zero_le _, rfl, rfl, rfl, by omega, by omega, Lib.hid (by simp [Num.sumL, Num.nonneg])⟩
  case round =>
    obtain ⟨k, t, hk, rfl, rfl, rfl, ht0, ht1, HT⟩ := hrel
    by_cases hlt : k < r
    · obtain ⟨ad', x, e, hb, hx, hc⟩ := HG.out.given.ints.get (show k < n by omega)
      injection e with e
      subst e
      have HX := Lib.hid hx
      clear hx
      obtain ⟨d, hd⟩ : ∃ d : Int, d = 4000000000000000000 - t := ⟨_, rfl⟩
      have ed : 4000000000000000000 - t = d := hd.symm
      have HDD := Lib.hid hd
      clear hd
      by_cases hx0 : x < 0
      · have tx : decide (x < 0) = true := by simpa using hx0
        go_wp2_with (first
          | (go_at_call 19; refine C.out.mono ?_; rintro e w1 ⟨X, kx, cx, rfl, hix, hkx, hb1⟩; have B1 := Lib.hid hb1; clear hb1 hix)
          | (go_at_call 14; refine (Num.alive _).mono ?_; rintro e w2 ⟨rfl, hb2⟩; have B2 := Lib.hid (B1.out.trans (hb2.mono B1.out.size)); clear hb2))
        go_ret
        exact ⟨rfl, B2.out⟩
      · have tx : decide (x < 0) = false := by simpa using hx0
        by_cases hd1 : d < x
        · have td : decide (d < x) = true := by simpa using hd1
          go_wp2_with (first
            | (go_at_call 19; refine C.out.mono ?_; rintro e w1 ⟨X, kx, cx, rfl, hix, hkx, hb1⟩; have B1 := Lib.hid hb1; clear hb1 hix)
            | (go_at_call 14; refine (Num.alive _).mono ?_; rintro e w2 ⟨rfl, hb2⟩; have B2 := Lib.hid (B1.out.trans (hb2.mono B1.out.size)); clear hb2))
          go_ret
          exact ⟨rfl, B2.out⟩
        · have td : decide (d < x) = false := by simpa using hd1
          have hb1 : t + x ≤ 4000000000000000000 := by have := HDD.out; omega
          go_wp2
          go_round
          case rel =>
            refine ⟨k + 1, t + x, by omega, by go_num, rfl, rfl, by omega, by omega, Lib.hid ⟨by rw [Num.take_more HX.out, Num.sumL_snoc, HT.out.1], ?_⟩⟩
            rw [Num.take_more HX.out]
            intro y hy
            rcases List.mem_append.1 hy with h | h
            · exact HT.out.2 y h
            · simp at h; omega
          case measure => simp [intOf]; omega
    · obtain rfl : r = k := by omega
      exact absurd ⟨HT.out.2, by rw [← HT.out.1]; exact ht1⟩ HN.out

set_option maxRecDepth 100000 in
set_option maxHeartbeats 2000000 in
theorem ends_ok (w : World) (m : Int) (ad : Addr) (n c r : Nat) (xs : List Int) (G : Num.GivenN w (some ad) n c xs) (hn : n ≤ 300) (hr : 1 ≤ r) (hr2 : r < n) (M : Num.Made m xs) :
    Calls Try.prog 11 #[.int .i64 m, .slice (some ad) n c, .int .i64 (r : Int)] w fun e w' => e = .returned (.bool true) ∧ Below w.heap.size w w' := by
  have hE := Num.made_to M
  have C := Lib.hid (Num.split (some ad) n c xs m w G.given.ints G.given.len)
  rw [Num.splitL_ok hE, hE] at C
  have HN := Lib.hid (Num.made_good M r)
  have hm0 := M.m0
  have hm1 := M.m1
  have HM := Lib.hid M
  have hlen := G.given.ints.1
  have HL := Lib.hid hlen
  have Jn := Lib.hid (Num.join_made M hr (by rw [hlen]; exact hr2))
  have tcr : (c = r) = False := by have := G.given.cap; simp; omega
  clear M hE hlen
  have t1 : decide (300 < n) = false := by simpa using hn
  have t1' : decide ((300 : Int) < (n : Int)) = false := by simp; omega
  have t2 : decide ((r : Int) < 1) = false := by simp; omega
  have t3 : decide (n ≤ r) = false := by simp; omega
  have t3' : decide ((n : Int) ≤ (r : Int)) = false := by simp; omega
  have hrc : r ≤ c := by have := G.given.cap; omega
  have HG := Lib.hid G
  clear G
  go_enter Try.func11, Try.ntmps11
  go_wp2
  go_loop [7, 8, 36] (fun s b i => ∃ (k : Nat) (t : Int), k ≤ r ∧ i = .int .i64 (k : Int) ∧ s = .int .i64 t ∧ b = .bool true ∧ 0 ≤ t ∧ t ≤ 4000000000000000000 ∧ Hid (t = Num.sumL (xs.take k))) (fun _ _ i => r - (intOf i).toNat)
  case atStart => exact ⟨0, 0, Nat.zero_le _, rfl, rfl, rfl, by omega, by omega, Lib.hid (by simp [Num.sumL])⟩
  case round =>
    obtain ⟨k, t, hk, rfl, rfl, rfl, ht0, ht1, HT⟩ := hrel
    by_cases hlt : k < r
    · obtain ⟨ad', x, e, hb, hx, hc⟩ := HG.out.given.ints.get (show k < n by omega)
      injection e with e
      subst e
      have hxr : (xs.take r)[k]? = some x := by rw [List.getElem?_take_of_lt hlt]; exact hx
      have hx0 : 0 ≤ x := HN.out.1 x (Num.mem_of_get hxr)
      have hs : t + x = Num.sumL (xs.take (k + 1)) := by rw [Num.take_more hx, Num.sumL_snoc, HT.out]
      have hle : Num.sumL (xs.take (k + 1)) ≤ Num.sumL (xs.take r) := by
        have e : xs.take (k + 1) = (xs.take r).take (k + 1) := by rw [List.take_take, Nat.min_eq_left (by omega)]
        rw [e]; exact Num.sumL_take_le HN.out.1 _
      have hb1 : t + x ≤ 4000000000000000000 := by have := HN.out.2; omega
      obtain ⟨d, hd⟩ : ∃ d : Int, d = 4000000000000000000 - t := ⟨_, rfl⟩
      have ed : 4000000000000000000 - t = d := hd.symm
      have tx : decide (x < 0) = false := by simpa using hx0
      have td : decide (d < x) = false := by simp; omega
      have HS := Lib.hid hs
      clear hs hle hd hx hxr
      go_wp2
      go_round
      case rel => exact ⟨k + 1, t + x, by omega, by go_num, rfl, rfl, by omega, by omega, HS⟩
      case measure => simp [intOf]; omega
    · obtain rfl : r = k := by omega
      go_wp2_with fail
      refine C.out.mono ?_
      rintro e w1 ⟨X, kx, cx, rfl, hix, hkx, hb1⟩
      have B1 := Lib.hid hb1
      have X1 := Lib.hid hix
      clear hb1 hix C
      obtain rfl : kx = n := by rw [← X1.out.1, Num.shares_len, HL.out]
      have S1 := Lib.hid B1.out.size
      go_wp2_with (at_builtin
                   refine Num.wpList_app _ rfl (.tmp 75) (.tmp 78) rfl w1.heap.size (some ⟨w1.heap.size, 0, none⟩) 1 1 [t] rfl (Num.Own.lit w1 [t] (Nat.le_refl _) (by simp)) w1.heap.size (some (ad.add r)) (kx - r) (c - r) (xs.drop r) rfl ((((HG.out.given.ints.below B1.out (Nat.le_refl _)).wide S1.out).keep fun p hp => World.cell?_alloc_lt _ _ _ hp).drop_) (fun h => by cases h) (by omega) (by simp) ?_
                   intro A2 c2 w2 hown2 hg2
                   have O2 := Lib.hid hown2
                   have hb2 := ((Below.refl w1.heap.size w1).alloc (Nat.le_refl _) (.cells (List.map (Value.int .i64) [t]).toArray 3)).grown hg2 (by simp) (fun k hk => by simp [Value.ownBlock] at hk; omega)
                   have B2 := Lib.hid hb2
                   clear hown2 hg2 hb2)
      have ej : [t] ++ xs.drop r = Num.joinF r xs := by rw [HT.out]; rfl
      rw [ej] at O2
      have HJ := Num.made_to Jn.out
      have hky0 : 1 + (kx - r) ≤ maxLen := by unfold maxLen; omega
      have C2 := Lib.hid (Num.split A2 (1 + (kx - r)) c2 (Num.joinF r xs) m w2 O2.out.ints.1 hky0)
      rw [Num.splitL_ok HJ, HJ] at C2
      refine C2.out.mono ?_
      rintro e w3 ⟨Y, ky, cy, rfl, hiy, hky, hb3⟩
      have hkyn : ky = 1 + (kx - r) := by rw [← hiy.1, Num.shares_len, O2.out.len]
      have hX3 := (((X1.out.below B2.out (Nat.le_refl _)).wide B2.out.size).below hb3 (Nat.le_refl _)).wide hb3.size
      have P3 := Lib.hid ((B1.out.trans (B2.out.mono S1.out)).trans (hb3.mono (Nat.le_trans S1.out B2.out.size)))
      obtain ⟨ax, rfl, hxb, _⟩ := hX3.2 (by omega)
      obtain ⟨ay, rfl, hyb, _⟩ := hiy.2 (by omega)
      have X3 := Lib.hid hX3
      have Y3 := Lib.hid hiy
      have hky1 : 1 ≤ ky := by omega
      have hky2 : ky ≤ 301 := by omega
      have ty : ((ky : Int) == 0) = false := by rw [beq_eq_false_iff_ne]; omega
      have HK := Lib.hid hkyn
      have hrx : r ≤ cx := by omega
      clear hb3 hiy hX3 hkyn C2 B2 O2 X1 HJ ej
      go_wp2_with fail
      go_loop [15, 101] (fun s i => ∃ (k : Nat) (t : Int), k ≤ r ∧ i = .int .i64 (k : Int) ∧ s = .int .i64 t ∧ 0 ≤ t ∧ t ≤ 4000000000000000000 ∧ Hid (t = Num.cum m xs k)) (fun _ i => r - (intOf i).toNat)
      case atStart => exact ⟨0, 0, Nat.zero_le _, rfl, rfl, by omega, by omega, Lib.hid HM.out.cum_zero.symm⟩
      case round =>
        clear hk hlt
        obtain ⟨k, s, hk, rfl, rfl, hs0, hs1, HS⟩ := hrel
        by_cases hlt : k < r
        · obtain ⟨ax', v, e, hb, hx, hc⟩ := X3.out.get (show k < kx by omega)
          injection e with e
          subst e
          obtain ⟨hv, _⟩ := Num.shares_get hx
          have sp := HM.out.share_pos k
          rw [← hv] at sp
          have cv := HM.out.cum_val (k + 1)
          have hst : s + v = Num.cum m xs (k + 1) := by rw [hv, Num.share_cum, HS.out]; omega
          have hv0 : 0 ≤ v := sp.1
          have hsv : s + v ≤ 4000000000000000000 := by rw [hst]; omega
          have HST := Lib.hid hst
          clear hst hv sp cv hx
          go_wp2
          go_round
          case rel => exact ⟨k + 1, s + v, by omega, by go_num, rfl, by omega, by omega, HST⟩
          case measure => simp [intOf]; omega
        · obtain rfl : r = k := by omega
          have hy0 : Hid ((Num.shares m (Num.joinF r xs))[0]? = some s) := Lib.hid (by rw [HS.out]; exact Num.join_first HM.out hr (by rw [HL.out]; exact hr2))
          have tcx : (cx = r) = False := by simp; omega
          have tcy : (cy = 1) = False := by have := HK.out; simp; omega
          have hlen2 : ky - 1 = kx - r := by have := HK.out; omega
          have HL2 := Lib.hid hlen2
          clear hlen2
          have AR := fun (w4 : World) (hb4 : Below w3.heap.size w3 w4) => Lib.hid (Num.same (some ⟨ay.block, ay.off + 1, none⟩) (some (ax.add r)) (kx - r) (cy - 1) (cx - r) w3.heap.size w3.heap.size ((Num.shares m xs).drop r) w4
            (by
              have h := (Y3.out.below hb4 (Nat.le_refl _)).drop_ (r := 1)
              have ea : ay.add 1 = ⟨ay.block, ay.off + 1, none⟩ := by simp [Addr.add]
              rw [Num.join_rest (by rw [HL.out]; exact hr2), HL2.out, ea] at h
              exact h)
            ((X3.out.below hb4 (Nat.le_refl _)).drop_) (by unfold maxLen; omega))
          have K0 := fun (w4 : World) (hb4 : Below w3.heap.size w3 w4) => Lib.hid (p := w4.cell? ay = some (.int .i64 s)) (by
            obtain ⟨ay', e, _, hc⟩ := (Y3.out.below hb4 (Nat.le_refl _)).2 (by omega)
            injection e with e
            subst e
            have h := hc 0 s hy0.out
            simpa [Addr.add] using h)
          have HAR := Lib.hid AR
          have HK0 := Lib.hid K0
          clear AR K0
          go_wp2_with fail
          have k3 : w3.cell? ay = some (.int .i64 s) := (HK0.out w3 (Below.refl _ _)).out
          have i0 : 0 < ky := by omega
          have i1 : (0 : Int) < (ky : Int) := by omega
          have i2 : (1 : Int) ≤ (ky : Int) := by omega
          have i3 : (ky : Int) ≤ (cy : Int) := by omega
          have i4 : (r : Int) ≤ (kx : Int) := by omega
          have i5 : (kx : Int) ≤ (cx : Int) := by omega
          have i6 : (0 : Int) ≤ (r : Int) := by omega
          have i7 : 1 ≤ cy := by omega
          have i8 : (1 : Int) ≤ (cy : Int) := by omega
          have i9 : (r : Int) ≤ (cx : Int) := by omega
          go_region_held3 (fun w' => w'.cell? ay = some (.int .i64 s)) (first | exact k3 | exact k0 | exact k5)
            (first
            | (go_at_call 14; refine (Num.alive _).mono ?_; rintro e w4 ⟨rfl, hb4⟩; have B4 := Lib.hid (p := Below w3.heap.size w3 w4) ⟨hb4.os, hb4.tape, hb4.output, hb4.size, hb4.block⟩; have k0 := (HK0.out w4 B4.out).out; clear hb4)
            | (go_at_call 21; rw [HL2.out]; ((with_reducible refine (HAR.out _ B4.out).out.mono ?_); rintro e w5 ⟨rfl, hb5⟩; have B5 := Lib.hid (p := Below w3.heap.size w3 w5) (B4.out.trans (hb5.mono B4.out.size)); have k5 := (HK0.out w5 B5.out).out; clear hb5)))
          all_goals (go_wp2; go_ret; exact ⟨rfl, P3.out.trans (B5.out.mono P3.out.size)⟩)
theorem walk (m : Int) (_hm : -9223372036854775808 ≤ m ∧ m ≤ 9223372036854775807) (A : Option Addr) (n c : Nat) (xs : List Int) {w : World} (G : Num.GivenN w A n c xs) (q : Int) (_hq : -9223372036854775808 ≤ q ∧ q ≤ 9223372036854775807) (w0 : World) (hw : w = w0) :
    Calls Try.prog 11 #[.int .i64 m, .slice A n c, .int .i64 q] w0 fun e w' => e = .returned (.bool true) ∧ Below w0.heap.size w0 w' := by
  subst hw
  by_cases h : 300 < n ∨ q < 1 ∨ (n : Int) ≤ q
  · exact out w m q A n c (by have := G.given.len; unfold maxLen at this; omega) h
  · obtain ⟨r, rfl⟩ := Int.eq_ofNat_of_zero_le (a := q) (by omega)
    obtain ⟨ad, rfl, _⟩ := G.given.ints.2 (by omega)
    by_cases hN : Num.nonneg (xs.take r) ∧ Num.sumL (xs.take r) ≤ 4000000000000000000
    · by_cases hE : Num.splitE m xs = 0
      · exact ends_ok w m ad n c r xs G (by omega) (by omega) (by omega) (Num.made_of hE)
      · exact ends_no w m ad n c r xs G (by omega) (by omega) (by omega) (Lib.hid hN) hE
    · exact ends_bad w m ad n c r xs G (by omega) (by omega) (by omega) (Lib.hid hN)


set_option maxRecDepth 100000 in
theorem lifted (os : Os) (started : os.Started) (H : Type) (enc : TypeId × Value → H) :
    ReturnsInHanded {} Try.checked os 11 .any (Rows.numEndsSpec.pre6 enc Try.prog Try.f11 Rows.numEndsRow.domain false) (Rows.numEndsSpec.post enc Try.prog Try.f11 false true false false) := by
  refine returnsInHanded_of_change (C := Try.checked) own started (by kernel_rfl) Try.func11
    (ChangeSpec.witness6 (enc := enc) (C := Try.checked) false ⟨#[], #[.int .i64 0, .slice none 0 0, .int .i64 0], []⟩ 8 (by kernel_rfl) (by kernel_rfl) (by kernel_rfl) (by kernel_rfl)) ?_
  intro W base args ds gs before hval0 hW hcnd _
  have hval : ∀ (j : Nat) t v, Try.f11.params[j]? = some t → args[j]? = some v → Value.okWide Try.prog W .any base t v := hval0
  have hW' := hW
  obtain ⟨p, q, hA0, hV, rfl, hfz, hnd⟩ := hW
  have hA : DataW.TrodAll enc Try.prog W 0 (fun _ => true) true Try.f11.params.toList args.toList ds p := hA0
  rw [Try.params11] at hA hval
  obtain ⟨v0, vs0, d0, ds0, p0, q0, hargs, rfl, rfl, h0, r0⟩ := trodAll_cons hA
  obtain ⟨v1, vs1, d1, ds1, p1, q1, rfl, rfl, rfl, h1, r1⟩ := trodAll_cons r0
  obtain ⟨v2, vs2, d2, ds2, p2, q2, rfl, rfl, rfl, h2, r2⟩ := trodAll_cons r1
  obtain ⟨rfl, rfl, rfl⟩ := trodAll_nil r2
  obtain rfl : args = #[v0, v1, v2] := by cases args; simp_all
  obtain ⟨rfl, rfl⟩ := trodVars_none hV
  obtain ⟨a0, rfl, rfl, rfl, w0⟩ := open_int Try.underlying3 (hval 0 3 v0 rfl rfl) h0
  obtain ⟨a1, len1, cap1, rfl⟩ := okWide_slice Try.underlying28 (hval 1 28 v1 rfl rfl)
  have k1 := h1
  have lt1 : ∀ x ∈ p1, x.block < W.heap.size := by obtain ⟨m, hm⟩ := k1; exact DataW.trod_lt m _ _ _ hm
  obtain ⟨z1, w1⟩ : ∃ zs, Num.GivenN W a1 len1 cap1 zs := by
    obtain ⟨fuel, hf⟩ := h1
    rcases open_ints Try.underlying28 Try.underlying3 (by kernel_rfl) hf with ⟨hcs, _⟩ | ⟨x, l, c, zs, hcs, _, hl, hm, hz, _, hcell, hwz⟩
    · simp [Value.cells] at hcs
      obtain ⟨rfl, rfl, rfl⟩ := hcs
      exact ⟨[], Num.GivenN.nil⟩
    · simp [Value.cells] at hcs
      obtain ⟨rfl, rfl, rfl⟩ := hcs
      exact ⟨zs.take len1, Num.GivenN.of hl hm (by simpa using hz) hcell hwz⟩
  obtain ⟨a2, rfl, rfl, rfl, w2⟩ := open_int Try.underlying3 (hval 2 3 v2 rfl rfl) h2
  clear hA0 hval0
  refine (walk a0 (Num.i64_of w0) a1 len1 cap1 z1 w1 a2 (Num.i64_of w2) W rfl).mono fun e W' ⟨he, bel⟩ => ?_
  subst he
  exact ⟨_, rfl, _, _, _, [], _, [], hW', trodAll_mk1 (shut_bool Try.underlying4 _), (trodAll_cons_mk (shut_int Try.underlying3 w0) (trodAll_cons_mk (Below.trod laidOut (by kernel_rfl) (of_decide_eq_true (by kernel_rfl)) k1 bel lt1) (trodAll_cons_mk (shut_int Try.underlying3 w2) trodAll_mk0))), rfl, bel.frame _, fun h => by cases h⟩

theorem over : Rows.numEndsRow.holds Try.pinned (OpenSpec.ofChange Rows.numEndsSpec) :=
  OpenClaim.holds_of_wide 11 Try.f11 rfl rfl rfl rfl rfl rfl rfl ⟨rfl, rfl, rfl, rfl, rfl⟩ rfl rfl rfl rfl rfl (by kernel_rfl) Try.func11 (by kernel_rfl)
    (of_decide_eq_true (by kernel_rfl)) (by unfold Func.isWrapper; first | (rw [if_pos (by decide +kernel)]; kernel_rfl) | (rw [if_neg (by decide +kernel)]; exact ⟨rfl, rfl⟩))
    (fun os started H enc _ => lifted os started H enc)

theorem proved : Rows.NumEndsSaid := over
end Go.Proofs.Ytdamojbjamolaaa.numEnds
