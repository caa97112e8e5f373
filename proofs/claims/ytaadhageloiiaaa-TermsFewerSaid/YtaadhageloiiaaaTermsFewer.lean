/-
  The statement TermsFewer holds: for every input the call returns true, and each argument reads afterwards as it read before. Conditions: none beside those that the row itself bears.
-/
import Derived.Test.YtaadhageloiiaaaGiven
import Derived.Test.YtaadhageloiiaaaApp
import Derived.Deep.RegionLaw
namespace Go.Proofs.Ytaadhageloiiaaa.termsFewer
open Go.ChangeShapes Go.WideShapes Go.ChangeAt Go.RowKit Ba Cv Sp Te Tm
set_option linter.unusedVariables false

set_option maxRecDepth 100000 in
set_option maxHeartbeats 4000000 in
theorem way_far (w : World) (A : Option Addr) (n c : Nat) (ls : List Co) (g : GivenC w A n c ls) (y : Int) (hy : 0 ≤ y ∧ y ≤ 255) (h1 : 50 < n) : Calls Try.prog 5 #[.slice A n c, .int .u8 y] w (Yes w true) := by
  have t1 : decide (50 < n) = true := decide_eq_true h1
  have t1' : decide (50 < (n : Int)) = true := decide_eq_true (by omega)
  go_enter Try.func5, Try.ntmps5
  go_wp2_with fail
  refine (awake_ _).mono ?_
  rintro e w1 ⟨rfl, hb1⟩
  have H1 := Lib.hid hb1
  clear hb1
  go_wp2
  go_ret
  exact ⟨rfl, H1.out⟩

set_option maxRecDepth 100000 in
set_option maxHeartbeats 4000000 in
theorem way_no (w : World) (A : Option Addr) (n c : Nat) (ls : List Co) (g : GivenC w A n c ls) (y : Int) (hy : 0 ≤ y ∧ y ≤ 255) (h1 : ¬ 50 < n) (C : ∀ W : World, Below w.heap.size w W → Hid (Calls Try.prog 11 #[.slice A n c] W (Yes W false))) : Calls Try.prog 5 #[.slice A n c, .int .u8 y] w (Yes w true) := by
  have t1 : decide (50 < n) = false := decide_eq_false h1
  have t1' : decide (50 < (n : Int)) = false := decide_eq_false (by omega)
  go_enter Try.func5, Try.ntmps5
  go_wp2_with fail
  refine (awake_ _).mono ?_
  rintro e w1 ⟨rfl, hb1⟩
  have H1 := Lib.hid hb1
  clear hb1
  go_wp2_with fail
  refine (C _ H1.out).out.mono ?_
  rintro e w2 ⟨rfl, hb2⟩
  have H2 := Lib.hid (H1.out.trans (hb2.mono H1.out.size))
  clear hb2 H1
  go_wp2
  go_ret
  exact ⟨rfl, H2.out⟩

theorem below_made {w1 w2 : World} (hg : (w1.alloc (.cells #[] 31)).drew.grownBy w2 (Value.slice (some (⟨w1.heap.size, 0, none⟩ : Addr)) 0 0).ownBlock) : Below w1.heap.size w1 w2 := by
  have hg' : (w1.alloc (.cells #[] 31)).grownBy w2 (Value.slice (some (⟨w1.heap.size, 0, none⟩ : Addr)) 0 0).ownBlock := ⟨hg.os, hg.tape, hg.output, hg.size, hg.block⟩
  exact ((Below.refl w1.heap.size w1).alloc (Nat.le_refl _) _).grown hg' (by simp) (fun j hj => by simp [Value.ownBlock] at hj; omega)
theorem cvs_drew {w : World} {ok : Nat → Prop} {A : Option Addr} {n : Nat} {cs : List Co} (h : Cvs w ok A n cs) : Cvs w.drew ok A n cs := h.keep (fun _ _ => rfl) fun _ h => h
theorem own_lower {w : World} {base base' n c : Nat} {A : Option Addr} {xs : List Co} (h : COwn w base A n c xs) (hb : base' ≤ base) : COwn w base' A n c xs := by
  rcases h with ⟨h1, h2 | ⟨g, cap, cur, e, hbg, hr⟩⟩
  · exact ⟨h1, .inl h2⟩
  · exact ⟨h1, .inr ⟨g, cap, cur, e, by omega, hr⟩⟩
theorem cvs_bx {w : World} {b : Nat} {x : Co} (h : Bx w b 31 (cc x)) : Cvs w (fun _ => True) (some ⟨b, 0, none⟩) 1 [x] := by
  refine ⟨rfl, fun _ => ⟨_, rfl, trivial, fun j z hz => ?_⟩⟩
  match j, hz with
  | 0, hz => simp at hz; subst hz; rw [Addr.add_lit]; exact ⟨h.c 0, h.c 1, h.c 2, h.c 3, h.c 4⟩
/-- The two blocks of the second row, in either order. -/
theorem own_d (w : World) (o : Obj) : COwn ((w.alloc (.cells #[] 31)).alloc o) w.heap.size (some ⟨w.heap.size, 0, none⟩) 0 0 [] := (COwn.made w).below (alloc_ _ _)
theorem own_e (w : World) (o : Obj) : COwn ((w.alloc o).alloc (.cells #[] 31)) w.heap.size (some ⟨w.heap.size + 1, 0, none⟩) 0 0 [] := by
  have := own_lower (COwn.made (w.alloc o)) (base' := w.heap.size) (by simp)
  rw [World.size_alloc] at this
  exact this
theorem one_d {w w' : World} {x : Co} (hg : ((w.alloc (.cells #[] 31)).alloc (.cells (cc x) 31)).drew.grownBy w' (Value.slice (some (⟨w.heap.size, 0, none⟩ : Addr)) 0 0).ownBlock) : Cvs w' (fun _ => True) (some ⟨w.heap.size + 1, 0, none⟩) 1 [x] := by
  have h := Bx.new (w.alloc (.cells #[] 31)) 31 (cc x)
  rw [World.size_alloc] at h
  exact cvs_bx ((hg.block _ (by simp) (by simp [Value.ownBlock])).trans h)
theorem one_e {w w' : World} {x : Co} (hg : ((w.alloc (.cells (cc x) 31)).alloc (.cells #[] 31)).drew.grownBy w' (Value.slice (some (⟨w.heap.size + 1, 0, none⟩ : Addr)) 0 0).ownBlock) : Cvs w' (fun _ => True) (some ⟨w.heap.size, 0, none⟩) 1 [x] := by
  have h := (Bx.new w 31 (cc x)).alloc (.cells #[] 31)
  exact cvs_bx ((hg.block _ (by simp; omega) (by simp [Value.ownBlock])).trans h)
theorem rev_get {cs : List Co} {n k j : Nat} {c : Co} (hl : cs.length = n) (hk : k < n) (hj : j = n - 1 - k) (h : cs[j]? = some c) : cs.reverse.take (k + 1) = cs.reverse.take k ++ [c] := by
  refine take_get ?_
  rw [List.getElem?_reverse (by omega), hl, ← hj]
  exact h
theorem drew_b {B : Nat} {w w' : World} (h : Below B w w') : Below B w.drew w' := ⟨h.os, h.tape, h.output, h.size, h.block⟩
set_option maxRecDepth 100000 in
set_option maxHeartbeats 4000000 in
theorem way_yes (w : World) (A : Option Addr) (n c : Nat) (ls : List Co) (g : GivenC w A n c ls) (y : Int) (hy : 0 ≤ y ∧ y ≤ 255) (h1 : ¬ 50 < n) (C : ∀ W : World, Below w.heap.size w W → Hid (Calls Try.prog 11 #[.slice A n c] W (Yes W true))) (hv : cvr ls = true) (hn : 1 ≤ n) (k : Nat) (hk : k < n) (ek : y % (n : Int) = (k : Int)) : Calls Try.prog 5 #[.slice A n c, .int .u8 y] w (Yes w true) := by
  have t1 : decide (50 < n) = false := decide_eq_false h1
  have t1' : decide (50 < (n : Int)) = false := decide_eq_false (by omega)
  have t3 : ((n : Int) == 0) = false := by rw [beq_eq_false_iff_ne]; omega
  have t3' : (n == 0) = false := by rw [beq_eq_false_iff_ne]; omega
  have t4 : ¬ ((n : Int) = 0) := by omega
  go_enter Try.func5, Try.ntmps5
  go_wp2_with fail
  refine (awake_ _).mono ?_
  rintro e w1 ⟨rfl, hb1⟩
  have H1 := Lib.hid hb1
  clear hb1
  go_wp2_with fail
  refine (C _ H1.out).out.mono ?_
  rintro e w2 ⟨rfl, hb2⟩
  have H2 := Lib.hid (H1.out.trans (hb2.mono H1.out.size))
  clear hb2 H1
  have hA : ∃ ad, A = some ad := by
    obtain ⟨ad, _, e, _⟩ := g.r.get hk
    exact ⟨ad, e⟩
  obtain ⟨ad, rfl⟩ := hA
  obtain ⟨h, hh⟩ : ∃ h, h = k + 1 := ⟨_, rfl⟩
  have hcap := g.cap
  have e5 : wrap64 ((k : Int) + 1) = (h : Int) := by rw [IntWalk.wrap64_in _ ⟨by omega, by omega⟩]; omega
  have e6 : IntKind.i64.wrap ((k : Int) + 1) = (h : Int) := (IntWalk.i64_left _).trans e5
  have i1 : (k : Int) ≤ (n : Int) := by omega
  have i2 : (n : Int) ≤ (c : Int) := by omega
  have i7 : (k : Int) < (n : Int) := by omega
  have i3 : (0 : Int) ≤ (k : Int) := by omega
  have i4 : (k : Int) ≤ (c : Int) := by omega
  have i5 : (h : Int) ≤ (n : Int) := by omega
  have i6 : (0 : Int) ≤ (h : Int) := by omega
  have i8 : (h : Int) ≤ (c : Int) := by omega
  have j1 : k ≤ n := by omega
  have j2 : h ≤ n := by omega
  have j3 : k ≤ c := by omega
  have j4 : h ≤ c := by omega
  have HO0 := Lib.hid (COwn.made w2)
  have HA0 := Lib.hid (alloc_ w2 (.cells #[] 31))
  have HR : ∀ W : World, Below w.heap.size w W → Hid (Cvs W (· < W.heap.size) (some ad) n ls) := fun W h => Lib.hid (g.r.below h)
  have HRA := Lib.hid ((HR _ (H2.out.trans (HA0.out.mono H2.out.size))).out.take j1)
  have HLS := Lib.hid g.r.1
  have HN := Lib.hid (show k + (n - h) = n - 1 by omega)
  have HH := Lib.hid hh
  have HCAP := Lib.hid hcap
  have HK := Lib.hid hk
  have HN50 := Lib.hid h1
  clear g hh hk hn h1 C
  go_wp2
  rw [ek]
  go_cut [7] (fun s7 wx => ∃ (Wz : World) (A5 : Option Addr) (c5 : Nat), Wz = wx ∧ s7 = .slice A5 (n - 1) c5 ∧ Hid (COwn Wz w2.heap.size A5 (n - 1) c5 (ls.take k ++ ls.drop h)) ∧ Hid (Below w2.heap.size w2 Wz))
  case first =>
    by_cases hc : c = h
    · obtain rfl : n = c := by omega
      obtain rfl : n = h := hc
      have z0 : n - n = 0 := Nat.sub_self n
      go_region_law (first
        | (refine step_app_c _ rfl (.tmp 31) (.tmp 34) rfl w2.heap.size (some ⟨w2.heap.size, 0, none⟩) 0 0 [] rfl HO0.out.drew _ (some ad) k n (ls.take k) rfl (cvs_drew HRA.out) (fun e => by cases e) k (Nat.zero_add _) (by have := HN50.out; omega) (by simp) ?_; intro A3 c3 w3 hO3 hg3; have HO3 := Lib.hid hO3; have HW3 := Lib.hid (below_made hg3); clear hO3 hg3)
        | (refine step_app_c _ rfl (.tmp 35) (.tmp 39) rfl w2.heap.size A3 k c3 ([] ++ ls.take k) rfl HO3.out (· < w3.heap.size) (some ad) 0 0 (ls.drop n) rfl (by rw [List.drop_of_length_le (Nat.le_of_eq HLS.out)]; exact Cvs.nil) (fun e => by cases e) (n - 1) (by have := HN.out; omega) (by have := HN50.out; omega) HW3.out.size ?_; intro A4 c4 w4 hO4 hg4; have HO4 := Lib.hid hO4; rw [List.nil_append] at HO4; have HW4 := Lib.hid (HW3.out.grown hg4 HW3.out.size (fun j hj => (HO3.out.lt j hj).1)); clear hO4 hg4)
        | fail)
      go_wp2
      go_meet
      exact ⟨_, A4, c4, rfl, rfl, HO4, HW4⟩
    · go_region_law (first
        | (refine step_app_c _ rfl (.tmp 31) (.tmp 34) rfl w2.heap.size (some ⟨w2.heap.size, 0, none⟩) 0 0 [] rfl HO0.out.drew _ (some ad) k c (ls.take k) rfl (cvs_drew HRA.out) (fun e => by cases e) k (Nat.zero_add _) (by have := HN50.out; omega) (by simp) ?_; intro A3 c3 w3 hO3 hg3; have HO3 := Lib.hid hO3; have HW3 := Lib.hid (below_made hg3); clear hO3 hg3)
        | (refine step_app_c _ rfl (.tmp 35) (.tmp 39) rfl w2.heap.size A3 k c3 ([] ++ ls.take k) rfl HO3.out (· < w3.heap.size) (some (ad.add (h * 5))) (n - h) (c - h) (ls.drop h) rfl ((HR _ (H2.out.trans (HW3.out.mono H2.out.size))).out.drop j2) (fun e => by cases e) (n - 1) HN.out (by have := HN50.out; omega) HW3.out.size ?_; intro A4 c4 w4 hO4 hg4; have HO4 := Lib.hid hO4; rw [List.nil_append] at HO4; have HW4 := Lib.hid (HW3.out.grown hg4 HW3.out.size (fun j hj => (HO3.out.lt j hj).1)); clear hO4 hg4)
        | fail)
      go_wp2
      go_meet
      exact ⟨_, A4, c4, rfl, rfl, HO4, HW4⟩
  case rest =>
    obtain ⟨W5, A5, c5, rfl, rfl, HO5, HW5⟩ := hcut
    obtain ⟨ad', x, ead, _, hx, _⟩ := (HR _ H2.out).out.get HK.out
    have HX := Lib.hid hx
    have hck : ¬ c = k := by have := HCAP.out; have := HK.out; omega
    have HBW := Lib.hid (H2.out.trans (HW5.out.mono H2.out.size))
    have HSV := Lib.hid (fun (W' : World) (h : Below W5.heap.size W5 W') => (show W'.cell? (ad.add (k * 5)) = some (.int .i64 x.p) ∧ W'.cell? ⟨(ad.add (k * 5)).block, (ad.add (k * 5)).off + 1, none⟩ = some (.int .i64 x.l) ∧ W'.cell? ⟨(ad.add (k * 5)).block, (ad.add (k * 5)).off + 2, none⟩ = some (.int .i64 x.g) ∧ W'.cell? ⟨(ad.add (k * 5)).block, (ad.add (k * 5)).off + 3, none⟩ = some (.int .i64 x.d) ∧ W'.cell? ⟨(ad.add (k * 5)).block, (ad.add (k * 5)).off + 4, none⟩ = some (.int .i64 x.s) by
      obtain ⟨ad'', x', e1, _, hx', hF⟩ := (HR W' (HBW.out.trans (h.mono HBW.out.size))).out.get HK.out
      injection e1 with e1
      subst e1
      rw [HX.out] at hx'
      injection hx' with hx'
      subst hx'
      exact ⟨hF.c0, hF.c1, hF.c2, hF.c3, hF.c4⟩))
    have HTK := Lib.hid (fun (W' : World) (h : Below W5.heap.size W5 W') => (HR W' (HBW.out.trans (h.mono HBW.out.size))).out.take j1)
    have HDR := Lib.hid (fun (W' : World) (h : Below W5.heap.size W5 W') => (HR W' (HBW.out.trans (h.mono HBW.out.size))).out.drop j1)
    have hd := Lib.hid (show Below W5.heap.size W5 W5.drew from ⟨rfl, rfl, rfl, Nat.le_refl _, fun _ _ => rfl⟩)
    have HOb := Lib.hid (COwn.made W5.drew)
    have HOd := Lib.hid (own_d W5.drew (.cells (cc x) 31))
    have HOe := Lib.hid (own_e W5.drew (.cells (cc x) 31))
    have HBb := Lib.hid (hd.out.alloc (Nat.le_refl _) (.cells #[] 31))
    have HBc := Lib.hid (hd.out.alloc (Nat.le_refl _) (.cells (cc x) 31))
    have HBd := Lib.hid (HBb.out.alloc (by simp) (.cells (cc x) 31))
    have HBe := Lib.hid (HBc.out.alloc (by simp) (.cells #[] 31))
    have HM := Lib.hid (show k + 1 + (n - k) = n + 1 by have := HK.out; omega)
    have HMX := Lib.hid (show n ≤ 50 by have := HN50.out; omega)
    clear HO0 HRA HA0 HN HCAP hx ead
    have HRW := Lib.hid (fun (W' : World) (h : Below w.heap.size w W') => (HR W' h).out)
    have HH2 := HH
    clear HH HR
    go_wp2
    go_cut [8] (fun s8 wx => ∃ (Wz : World) (A8 : Option Addr) (c8 : Nat), Wz = wx ∧ s8 = .slice A8 (n + 1) c8 ∧ Hid (COwn Wz W5.heap.size A8 (n + 1) c8 (ls.take k ++ [x] ++ ls.drop k)) ∧ Hid (Below W5.heap.size W5 Wz))
    case first =>
      go_region_held3 (fun w' => w'.cell? (ad.add (k * 5)) = some (.int .i64 x.p) ∧ w'.cell? ⟨(ad.add (k * 5)).block, (ad.add (k * 5)).off + 1, none⟩ = some (.int .i64 x.l) ∧ w'.cell? ⟨(ad.add (k * 5)).block, (ad.add (k * 5)).off + 2, none⟩ = some (.int .i64 x.g) ∧ w'.cell? ⟨(ad.add (k * 5)).block, (ad.add (k * 5)).off + 3, none⟩ = some (.int .i64 x.d) ∧ w'.cell? ⟨(ad.add (k * 5)).block, (ad.add (k * 5)).off + 4, none⟩ = some (.int .i64 x.s)) (first | exact HSV.out _ hd.out | exact HSV.out _ HBb.out | exact HSV.out _ HBc.out | exact HSV.out _ HBd.out | exact HSV.out _ HBe.out | exact HSV.out _ HW6.out | exact HSV.out _ (HW6.out.alloc HW6.out.size _) | exact HSV.out _ HW7.out | exact HSV.out _ HW8.out)
        (first
        | (refine step_app_c _ (by rfl) (.tmp 41) (.tmp 44) (by rfl) W5.heap.size _ 0 0 [] (by rfl) (by first | exact HOb.out | exact HOd.out | exact HOe.out) (· < _) (some ad) k c (ls.take k) (by rfl) (HTK.out _ (by first | exact HBb.out | exact HBd.out | exact HBe.out)) (fun e => by cases e) k (Nat.zero_add _) (by have := HMX.out; omega) (by first | exact HBb.out.size | exact HBd.out.size | exact HBe.out.size) ?_; intro A6 c6 w6 hO6 hg6; have HO6 := Lib.hid hO6; have HG6 := Lib.hid hg6; have HW6 := Lib.hid (show Below W5.heap.size W5 w6 by first | exact HBb.out.grown hg6 HBb.out.size (fun j hj => (HOb.out.lt j hj).1) | exact HBd.out.grown hg6 HBd.out.size (fun j hj => (HOd.out.lt j hj).1) | exact HBe.out.grown hg6 HBe.out.size (fun j hj => (HOe.out.lt j hj).1)); clear hO6 hg6)
        | (refine step_app_c _ (by rfl) (.tmp 45) (.tmp 50) (by rfl) W5.heap.size A6 k c6 ([] ++ ls.take k) (by rfl) (by first | exact HO6.out | exact HO6.out.below (alloc_ _ _)) (fun _ => True) (some _) 1 1 [x] (by rfl) (by first | exact cvs_bx (Bx.new w6 31 (cc x)) | exact one_d HG6.out | exact one_e HG6.out) (fun e => by cases e) (k + 1) rfl (by have := HMX.out; omega) (by first | exact HW6.out.size | exact (HW6.out.alloc HW6.out.size _).size) ?_; intro A7 c7 w7 hO7 hg7; have HO7 := Lib.hid hO7; have HW7 := Lib.hid (show Below W5.heap.size W5 w7 by first | exact HW6.out.grown hg7 HW6.out.size (fun j hj => (HO6.out.lt j hj).1) | exact (HW6.out.alloc HW6.out.size _).grown hg7 (HW6.out.alloc HW6.out.size _).size (fun j hj => (HO6.out.lt j hj).1)); clear hO7 hg7)
        | (refine step_app_c _ (by rfl) (.tmp 51) (.tmp 54) (by rfl) W5.heap.size A7 (k + 1) c7 ([] ++ ls.take k ++ [x]) (by rfl) HO7.out (· < w7.heap.size) (some (ad.add (k * 5))) (n - k) (c - k) (ls.drop k) (by rfl) (HDR.out _ HW7.out) (fun e => by cases e) (n + 1) HM.out (by have := HMX.out; omega) HW7.out.size ?_; intro A8 c8 w8 hO8 hg8; have HO8 := Lib.hid hO8; rw [List.nil_append] at HO8; have HW8 := Lib.hid (HW7.out.grown hg8 HW7.out.size (fun j hj => (HO7.out.lt j hj).1)); clear hO8 hg8)
        | fail)
      all_goals
        go_wp2
        go_meet
        exact ⟨_, A8, c8, rfl, rfl, HO8, HW8⟩
    case rest =>
      clear hd HOb HOd HOe HBb HBc HBd HBe HSV HTK HDR HM
      obtain ⟨W8, A8, c8, rfl, rfl, HO8, HW8⟩ := hcut
      have HF := Lib.hid (And.intro (HW8.out.size) (HO5.out.below HW8.out))
      have HB8 := Lib.hid (HBW.out.trans (HW8.out.mono HBW.out.size))
      clear HW8 HO5 HBW HW5
      obtain ⟨m, hm⟩ : ∃ m : Int, m = (n : Int) - 1 := ⟨_, rfl⟩
      have em : wrap64 ((n : Int) - 1) = m := by rw [hm]; exact IntWalk.wrap64_in _ ⟨by omega, by have := HMX.out; omega⟩
      have HMM := Lib.hid hm
      clear hm
      have HT0 := Lib.hid (show COwn W8 W8.heap.size none 0 0 (ls.reverse.take 0) from COwn.nil)
      go_wp2
      rw [em]
      go_loopw [9, 10] (fun s9 i w' => ∃ (j : Nat) (AT : Option Addr) (ct : Nat) (q : Int) (Wz : World), j ≤ n ∧ i = .int .i64 q ∧ q = (n : Int) - 1 - (j : Int) ∧ s9 = .slice AT j ct ∧ Wz = w' ∧ Hid (COwn Wz W8.heap.size AT j ct (ls.reverse.take j)) ∧ Hid (Below W8.heap.size W8 Wz)) (fun _ i _ => (intOf i + 1).toNat)
      case atStart => exact ⟨0, none, 0, m, _, Nat.zero_le _, rfl, by rw [HMM.out]; omega, rfl, rfl, HT0, Lib.hid (Below.refl _ _)⟩
      case round =>
        obtain ⟨j, AT, ct, q, W9, hj, rfl, hq, rfl, rfl, HT, HB9⟩ := hrel
        clear HT0
        by_cases hlt : j < n
        · obtain ⟨i0, hi0⟩ : ∃ i0 : Nat, i0 = n - 1 - j := ⟨_, rfl⟩
          obtain rfl : q = (i0 : Int) := by omega
          obtain ⟨ad', z, ead, hb, hz, hF⟩ := (HRW.out W9 (HB8.out.trans (HB9.out.mono HB8.out.size))).get (show i0 < n by omega)
          injection ead with ead
          subst ead
          obtain ⟨c0, c1, c2, c3, c4⟩ := hF
          have HRV := Lib.hid (rev_get HLS.out hlt hi0 hz)
          have hi1 : (i0 : Int) < (n : Int) := by omega
          have t7 : decide (0 ≤ (i0 : Int)) = true := decide_eq_true (by omega)
          have e7 : wrap64 ((i0 : Int) - 1) = (i0 : Int) - 1 := IntWalk.wrap64_in _ ⟨by omega, by have := HMX.out; omega⟩
          have HT3 := Lib.hid (HT.out.below (alloc_ W9 (.cells (cc z) 31)))
          have HB3 := Lib.hid (HB9.out.alloc HB9.out.size (.cells (cc z) 31))
          have HI := Lib.hid (cvs_bx (Bx.new W9 31 (cc z)))
          have hk2 : j + 1 ≤ 4000000 := by have := HMX.out; omega
          have hbase : W8.heap.size ≤ (W9.alloc (.cells (cc z) 31)).heap.size := HB3.out.size
          have HQ := Lib.hid (show (i0 : Int) - 1 = (n : Int) - 1 - ((j + 1 : Nat) : Int) by omega)
          have HJ := Lib.hid hlt
          clear hb hz hi0 hq HT
          go_wp2_with (at_builtin; refine wpList_app_c (W9.alloc (.cells (cc z) 31)) (by rfl) (.tmp 63) (.tmp 68) (by rfl) W8.heap.size AT j ct (ls.reverse.take j) (by rfl) HT3.out _ (some ⟨W9.heap.size, 0, none⟩) 1 1 [z] (by rfl) HI.out (fun h => by cases h) (j + 1) rfl hk2 hbase ?_; intro A4 c4' W4 hO4 hg4; have HO4 := Lib.hid hO4; have HB4 := Lib.hid (HB3.out.grown hg4 HB3.out.size (fun j' hj' => (HT3.out.lt j' hj').1)); clear hO4 hg4)
          go_roundw
          case rel => exact ⟨j + 1, A4, c4', (i0 : Int) - 1, _, HJ.out, by rw [e7], HQ.out, rfl, rfl, Lib.hid (by rw [HRV.out]; exact HO4.out), HB4⟩
          case measure => simp [intOf]; omega
        · obtain rfl : n = j := by omega
          have t7 : decide (0 ≤ q) = false := decide_eq_false (by omega)
          have HBT := Lib.hid (HB8.out.trans (HB9.out.mono HB8.out.size))
          have HR5 := Lib.hid (((HF.out.2.below HB9.out).row).keep (ok' := (· < W9.heap.size)) (fun _ _ => rfl) fun b hb => hb.2)
          have HR8 := Lib.hid (((HO8.out.below HB9.out).row).keep (ok' := (· < W9.heap.size)) (fun _ _ => rfl) fun b hb => hb.2)
          have HRT := Lib.hid ((HT.out.row).keep (ok' := (· < W9.heap.size)) (fun _ _ => rfl) fun b hb => hb.2)
          rw [List.take_of_length_le (by rw [List.length_reverse]; exact Nat.le_of_eq HLS.out)] at HRT
          have C1 : ∀ W : World, Below W9.heap.size W9 W → Hid (Calls Try.prog 11 #[.slice A5 (n - 1) c5] W (Yes W (decide (1 < n)))) := fun W h => Lib.hid (by
            have := covers_ A5 (n - 1) c5 _ W (HR5.out.below h) (by have := HMX.out; unfold maxLen; omega)
            rwa [HH2.out, less_ok hv (by rw [HLS.out]; exact HK.out), HLS.out] at this)
          have C2 : ∀ W : World, Below W9.heap.size W9 W → Hid (Calls Try.prog 11 #[.slice A8 (n + 1) c8] W (Yes W false)) := fun W h => Lib.hid (by
            have := covers_ A8 (n + 1) c8 _ W (HR8.out.below h) (by have := HMX.out; unfold maxLen; omega)
            rwa [more_no HX.out] at this)
          have C3 : ∀ W : World, Below W9.heap.size W9 W → Hid (Calls Try.prog 11 #[.slice AT n ct] W (Yes W (decide (n = 1)))) := fun W h => Lib.hid (by
            have := covers_ AT n ct _ W (HRT.out.below h) (by have := HMX.out; unfold maxLen; omega)
            rwa [turn_ok hv, HLS.out] at this)
          clear HF HO8 HT HR5 HR8 HRT HB8 HB9 hq e5 e6 i1 i2 i3 i4 i5 i6 i7 i8 j1 j2 j3 j4 hlt
          obtain ⟨g1, hg1⟩ : ∃ g1, decide (1 < n) = g1 := ⟨_, rfl⟩
          obtain ⟨g2, hg2⟩ : ∃ g2, decide (n = 1) = g2 := ⟨_, rfl⟩
          have t8 : decide (1 < (n : Int)) = g1 := by rw [← hg1]; exact decide_eq_decide.2 ⟨fun h => by omega, fun h => by omega⟩
          have t9 : ((n : Int) == 1) = g2 := by rw [← hg2, Bool.eq_iff_iff, beq_iff_eq, decide_eq_true_eq]; exact ⟨fun h => by omega, fun h => by omega⟩
          have t9' : (n == 1) = g2 := by rw [← hg2, Bool.eq_iff_iff, beq_iff_eq, decide_eq_true_eq]
          rw [hg1] at C1
          rw [hg2] at C3
          go_wp2_with fail
          refine (C1 _ (Below.refl _ _)).out.mono ?_
          rintro e w10 ⟨rfl, hb10⟩
          have HB10 := Lib.hid hb10
          clear hb10 C1
          go_wp2_with fail
          refine (C2 _ HB10.out).out.mono ?_
          rintro e w11 ⟨rfl, hb11⟩
          have HB11 := Lib.hid (HB10.out.trans (hb11.mono HB10.out.size))
          clear hb11 C2 HB10
          go_wp2_with fail
          refine (C3 _ HB11.out).out.mono ?_
          rintro e w12 ⟨rfl, hb12⟩
          have HB12 := Lib.hid (HBT.out.trans ((HB11.out.trans (hb12.mono HB11.out.size)).mono HBT.out.size))
          clear hb12 C3 HB11
          go_wp2
          go_ret
          exact ⟨rfl, HB12.out⟩

theorem walk {w : World} (A : Option Addr) (n c : Nat) (ls : List Co) (g : GivenC w A n c ls) (y : Int) (hy : 0 ≤ y ∧ y ≤ 255) : Calls Try.prog 5 #[.slice A n c, .int .u8 y] w (Yes w true) := by
  by_cases h1 : 50 < n
  · exact way_far w A n c ls g y hy h1
  have C : ∀ W : World, Below w.heap.size w W → Hid (Calls Try.prog 11 #[.slice A n c] W (Yes W (cvr ls))) := fun W h => Lib.hid (covers_ A n c ls W (g.r.below h) g.m)
  cases hv : cvr ls
  · rw [hv] at C
    exact way_no w A n c ls g y hy h1 C
  · rw [hv] at C
    obtain ⟨⟨k1, _⟩, _⟩ := cvr_iff.1 hv
    have hl := g.r.1
    have hn : 1 ≤ n := by omega
    obtain ⟨z, rfl⟩ := Int.eq_ofNat_of_zero_le hy.1
    exact way_yes w A n c ls g z hy h1 C hv hn (z % n) (Nat.mod_lt _ hn) (Int.natCast_emod z n).symm

set_option maxRecDepth 100000 in
theorem lifted (os : Os) (started : os.Started) (H : Type) (enc : TypeId × Value → H) :
    ReturnsInHanded {} Try.checked os 5 .any (Rows.termsFewerSpec.pre6 enc Try.prog Try.f5 Rows.termsFewerRow.domain false) (Rows.termsFewerSpec.post enc Try.prog Try.f5 false true false false) := by
  refine returnsInHanded_of_change (C := Try.checked) Tm.own started (by kernel_rfl) Try.func5
    (ChangeSpec.witness6 (enc := enc) (C := Try.checked) false ⟨#[], #[.slice none 0 0, .int .u8 0], []⟩ 8 (by kernel_rfl) (by kernel_rfl) (by kernel_rfl) (by kernel_rfl)) ?_
  intro W base args ds gs before hval0 hW hcnd _
  have hval : ∀ (j : Nat) t v, Try.f5.params[j]? = some t → args[j]? = some v → Value.okWide Try.prog W .any base t v := hval0
  have hW' := hW
  obtain ⟨p, q, hA0, hV, rfl, hfz, hnd⟩ := hW
  have hA : DataW.TrodAll enc Try.prog W 0 (fun _ => true) true Try.f5.params.toList args.toList ds p := hA0
  rw [Try.params5] at hA hval
  obtain ⟨v0, vs0, d0, ds0, p0, q0, hargs, rfl, rfl, h0, r0⟩ := trodAll_cons hA
  obtain ⟨v1, vs1, d1, ds1, p1, q1, rfl, rfl, rfl, h1, r1⟩ := trodAll_cons r0
  obtain ⟨rfl, rfl, rfl⟩ := trodAll_nil r1
  obtain rfl : args = #[v0, v1] := by cases args; simp_all
  obtain ⟨rfl, rfl⟩ := trodVars_none hV
  have k0 := h0
  have lt0 : ∀ x ∈ p0, x.block < W.heap.size := by obtain ⟨m, hm⟩ := k0; exact DataW.trod_lt m _ _ _ hm
  obtain ⟨A0, n0, e0, l0, rfl, g0⟩ := Tm.open_covers (hval 0 26 v0 rfl rfl) h0
  obtain ⟨a1, rfl, rfl, rfl, w1⟩ := open_int Try.underlying5 (hval 1 5 v1 rfl rfl) h1
  clear hA0 hval0
  refine (walk A0 n0 e0 l0 g0 a1 (Tm.u8_of w1)).mono fun e W' ⟨he, bel⟩ => ?_
  subst he
  exact ⟨_, rfl, _, _, _, [], _, [], hW', trodAll_mk1 (shut_bool Try.underlying4 _), (trodAll_cons_mk (Below.trod Tm.laidOut (by kernel_rfl) (of_decide_eq_true (by kernel_rfl)) k0 bel lt0) (trodAll_cons_mk (shut_int Try.underlying5 w1) trodAll_mk0)), rfl, bel.frame _, fun h => by cases h⟩

theorem over : Rows.termsFewerRow.holds Try.pinned (OpenSpec.ofChange Rows.termsFewerSpec) :=
  OpenClaim.holds_of_wide 5 Try.f5 rfl rfl rfl rfl rfl rfl rfl ⟨rfl, rfl, rfl, rfl, rfl⟩ rfl rfl rfl rfl rfl (by kernel_rfl) Try.func5 (by kernel_rfl)
    (of_decide_eq_true (by kernel_rfl)) (by unfold Func.isWrapper; first | (rw [if_pos (by decide +kernel)]; kernel_rfl) | (rw [if_neg (by decide +kernel)]; exact ⟨rfl, rfl⟩))
    (fun os started H enc _ => lifted os started H enc)

theorem proved : Rows.TermsFewerSaid := over
end Go.Proofs.Ytaadhageloiiaaa.termsFewer
