/-
  Few and awake of the laws. Conditions: those of each theorem.
-/
import Derived.Test.YtkdhcloaeifbdaaGreatMOb
import Derived.Test.YtkdhcloaeifbdaaGreatMGi
import Derived.Test.YtkdhcloaeifbdaaGreatMRe
import Derived.Lib.Hide
namespace Go.Proofs.YtkdhcloaeifbdaaGreat
open Go.RowKit Ba Cv Sp Te Ag Tf Sl Tm
namespace Slc
set_option linter.unusedVariables false

/-- All lists are short. -/
structure Small (h : Hr) (nt : Nat) (vs : List Trf.Rw) : Prop where
  m : h.m ≤ 60
  t : nt ≤ 100
  n : h.n ≤ 50
  k : ∀ r ∈ h.rs, r.n ≤ 50
  v : ∀ r ∈ vs, r.la ≤ 200 ∧ r.lz ≤ 200 ∧ r.lp ≤ 200
/-- What Few gives. -/
def FewTo (w : World) (h : Hr) (nt : Nat) (vs : List Trf.Rw) (e : Ending) (w' : World) : Prop := ∃ b : Bool, e = .returned (.bool b) ∧ Below w.heap.size w w' ∧ (b = true → Small h nt vs)
theorem Small.hs {w : World} {h : Hr} {nt : Nat} {vs : List Trf.Rw} (s : Small h nt vs) (g : GivenH w h) : HS h := g.small (Nat.le_trans s.n (by omega)) (Nat.le_trans s.m (by omega)) (fun r hr => Nat.le_trans (s.k r hr) (by omega))
theorem Small.vers {w : World} {T : Option Addr} {ct : Nat} {h : Hr} {nt : Nat} {vs : List Trf.Rw} (s : Small h nt vs) (g : Trf.GivenT w T nt ct vs) : Trf.Vers w T nt vs := ⟨g.r, g.m, fun r hr => ⟨Nat.le_trans (s.v r hr).1 (by omega), Nat.le_trans (s.v r hr).2.1 (by omega), Nat.le_trans (s.v r hr).2.2 (by omega)⟩⟩
theorem Small.cov {h : Hr} {nt : Nat} {vs : List Trf.Rw} (s : Small h nt vs) : h.n ≤ 1000 ∧ ∀ r ∈ h.rs, r.n ≤ 1000 := ⟨Nat.le_trans s.n (by omega), fun r hr => Nat.le_trans (s.k r hr) (by omega)⟩
set_option maxRecDepth 100000 in
set_option maxHeartbeats 4000000 in
theorem few12 (h : Hr) (T : Option Addr) (nt ct : Nat) (vs : List Trf.Rw) (w : World) (G : GivenH w h) (GT : Trf.GivenT w T nt ct vs) : Calls Tryz.prog 11 #[hg h, Trf.tg T nt ct] w (FewTo w h nt vs) := by
  obtain ⟨W, hW⟩ : ∃ W, (w.alloc (.cells (hc h) 31)).alloc (.cells #[.slice T nt ct] 34) = W := ⟨_, rfl⟩
  have H0 := Lib.hid (show O2 w W h T nt ct by rw [← hW]; exact O2.start w h T nt ct)
  have HW := Lib.hid hW
  have HG := Lib.hid G
  have HGT := Lib.hid GT
  have bm := G.m
  have bn := G.n
  have bt := GT.big
  obtain ⟨Bv, hBv⟩ : ∃ Bv, h.B = Bv := ⟨_, rfl⟩
  have HBv := Lib.hid hBv
  have x0 := H0.out.x.c 0
  have x1 := H0.out.x.c 1
  have x2 := H0.out.x.c 2
  have x3 := H0.out.x.c 3
  have x4 := H0.out.x.c 4
  have x5 := H0.out.x.c 5
  have x6 := H0.out.x.c 6
  have x7 := H0.out.x.c 7
  have x8 := H0.out.x.c 8
  have x9 := H0.out.x.c 9
  simp at x0 x1 x2 x3 x4 x5 x6 x7 x8 x9
  have y0 := H0.out.y.c 0
  simp at y0
  rw [hBv] at x9
  clear hW G GT hBv
  by_cases h1 : h.m ≤ 60
  case neg =>
    have t1 : decide ((60 : Int) < (h.m : Int)) = true := decide_eq_true (by omega)
    go_enter Tryz.func11, Tryz.ntmps11
    go_upto_region 1 with fail
    rw [HW.out]
    go_wp2
    go_ret
    exact ⟨false, rfl, H0.out.b, fun e => by cases e⟩
  have t1 : decide ((60 : Int) < (h.m : Int)) = false := decide_eq_false (by omega)
  by_cases h2 : nt ≤ 100
  case neg =>
    have t2 : decide ((100 : Int) < (nt : Int)) = true := decide_eq_true (by omega)
    go_enter Tryz.func11, Tryz.ntmps11
    go_upto_region 1 with fail
    rw [HW.out]
    go_wp2
    go_ret
    exact ⟨false, rfl, H0.out.b, fun e => by cases e⟩
  have t2 : decide ((100 : Int) < (nt : Int)) = false := decide_eq_false (by omega)
  by_cases h3 : h.n ≤ 50
  case neg =>
    have t3 : decide ((50 : Int) < (h.n : Int)) = true := decide_eq_true (by omega)
    go_enter Tryz.func11, Tryz.ntmps11
    go_upto_region 1 with fail
    rw [HW.out]
    go_wp2
    go_ret
    exact ⟨false, rfl, H0.out.b, fun e => by cases e⟩
  have t3 : decide ((50 : Int) < (h.n : Int)) = false := decide_eq_false (by omega)
  have HS := Lib.hid (And.intro h1 (And.intro h2 h3))
  go_enter Tryz.func11, Tryz.ntmps11
  go_upto_region 1 with fail
  rw [HW.out]
  clear h1 h2 h3 HW
  go_wp2
  clear x0 x1 x2 x3 x4 x5 x6 x7 x8 x9 y0
  go_loopw [5] (fun vi w' => ∃ (k : Nat) (W : World), k ≤ h.m ∧ vi = .int .i64 (k : Int) ∧ W = w' ∧ Hid (O2 w W h T nt ct) ∧ Hid (∀ r ∈ h.rs.take k, r.n ≤ 50)) (fun vi _ => h.m - (intOf vi).toNat)
  case atStart => exact ⟨0, _, Nat.zero_le _, rfl, rfl, H0, Lib.hid (fun r hr => by simp at hr)⟩
  case round =>
    obtain ⟨k, W, hk, rfl, rfl, H, HK⟩ := hrel
    clear H0
    have x9 := H.out.x.c 9
    have y0 := H.out.y.c 0
    simp at x9 y0
    rw [HBv.out] at x9
    by_cases hlt : k < h.m
    · obtain ⟨ad, r, hB, hb, hr, N, hcv, hv⟩ := (HG.out.M.below H.out.b).get hlt
      rw [HBv.out] at hB
      subst hB
      have hlt2 : (k : Int) < (h.m : Int) := by omega
      obtain ⟨c0, c1, c2, c3, c4, c5, c6, c7, c8⟩ := N
      have bk := HG.out.k r (List.mem_of_getElem? hr)
      by_cases hr5 : r.n ≤ 50
      · have t5 : decide ((50 : Int) < (r.n : Int)) = false := decide_eq_false (by omega)
        have HK2 := Lib.hid (show ∀ r ∈ h.rs.take (k + 1), r.n ≤ 50 from fun q hq => by
          rw [take_get hr] at hq
          rcases List.mem_append.1 hq with hq | hq
          · exact HK.out q hq
          · rw [List.mem_singleton] at hq; subst hq; exact hr5)
        clear hr hcv hv hb
        go_wp2
        go_roundw
        case rel => exact ⟨k + 1, W, by omega, by go_num, rfl, H, HK2⟩
        case measure => simp [intOf]; omega
      · have t5 : decide ((50 : Int) < (r.n : Int)) = true := decide_eq_true (by omega)
        clear hr hcv hv hb
        go_wp2
        go_ret
        exact ⟨false, rfl, H.out.b, fun e => by cases e⟩
    · obtain rfl : k = h.m := by omega
      have HKK := Lib.hid (show ∀ r ∈ h.rs, r.n ≤ 50 from fun r hr => HK.out r (by rw [List.take_of_length_le (Nat.le_of_eq HG.out.M.r.1)]; exact hr))
      clear HK
      go_wp2
      clear x9 y0
      go_loopw [6] (fun vi w' => ∃ (k : Nat) (W : World), k ≤ nt ∧ vi = .int .i64 (k : Int) ∧ W = w' ∧ Hid (O2 w W h T nt ct) ∧ Hid (∀ r ∈ vs.take k, r.la ≤ 200 ∧ r.lz ≤ 200 ∧ r.lp ≤ 200)) (fun vi _ => nt - (intOf vi).toNat)
      case atStart => exact ⟨0, _, Nat.zero_le _, rfl, rfl, H, Lib.hid (fun r hr => by simp at hr)⟩
      case round =>
        obtain ⟨k, W, hk, rfl, rfl, H2, HK⟩ := hrel
        clear H
        have y0 := H2.out.y.c 0
        simp at y0
        by_cases hlt : k < nt
        · obtain ⟨ad, r, rfl, hb, hr, N⟩ := (HGT.out.r.below H2.out.b).get hlt
          have hlt2 : (k : Int) < (nt : Int) := by omega
          obtain ⟨c0, c1, c2, c3, c4, c5, c6, c7, c8⟩ := N
          have lo := HGT.out.l r (List.mem_of_getElem? hr)
          have l1 := lo.a
          have l2 := lo.z
          have l3 := lo.p
          have HR := Lib.hid hr
          have HB3 := Lib.hid (show O2 w (W.alloc (.cells (Trf.vc r) 58)) h (some ad) nt ct from H2.out.next (alloc_ _ _))
          clear hr hb lo
          by_cases q1 : r.la ≤ 200
          case neg =>
            have u1 : decide ((200 : Int) < (r.la : Int)) = true := decide_eq_true (by omega)
            go_wp2
            go_ret
            exact ⟨false, rfl, HB3.out.b, fun e => by cases e⟩
          have u1 : decide ((200 : Int) < (r.la : Int)) = false := decide_eq_false (by omega)
          by_cases q2 : r.lz ≤ 200
          case neg =>
            have u2 : decide ((200 : Int) < (r.lz : Int)) = true := decide_eq_true (by omega)
            go_wp2
            go_ret
            exact ⟨false, rfl, HB3.out.b, fun e => by cases e⟩
          have u2 : decide ((200 : Int) < (r.lz : Int)) = false := decide_eq_false (by omega)
          by_cases q3 : r.lp ≤ 200
          case neg =>
            have u3 : decide ((200 : Int) < (r.lp : Int)) = true := decide_eq_true (by omega)
            go_wp2
            go_ret
            exact ⟨false, rfl, HB3.out.b, fun e => by cases e⟩
          have u3 : decide ((200 : Int) < (r.lp : Int)) = false := decide_eq_false (by omega)
          have HK2 := Lib.hid (show ∀ r ∈ vs.take (k + 1), r.la ≤ 200 ∧ r.lz ≤ 200 ∧ r.lp ≤ 200 from fun q hq => by
            rw [take_get HR.out] at hq
            rcases List.mem_append.1 hq with hq | hq
            · exact HK.out q hq
            · rw [List.mem_singleton] at hq; subst hq; exact ⟨q1, q2, q3⟩)
          clear q1 q2 q3
          go_wp2
          go_roundw
          case rel => exact ⟨k + 1, _, by omega, by go_num, rfl, HB3, HK2⟩
          case measure => simp [intOf]; omega
        · obtain rfl : k = nt := by omega
          go_wp2
          go_ret
          exact ⟨true, rfl, H2.out.b, fun _ => ⟨HS.out.1, HS.out.2.1, HS.out.2.2, HKK.out, fun r hr => HK.out r (by rw [List.take_of_length_le (Nat.le_of_eq HGT.out.r.1)]; exact hr)⟩⟩

end Slc
end Go.Proofs.YtkdhcloaeifbdaaGreat

namespace Go.Proofs.YtkdhcloaeifbdaaGreat
open Go.RowKit Ba Cv Sp Te Ag Tf Sl Tm
namespace Slc
set_option linter.unusedVariables false

abbrev co1 : Co := ⟨1, 1000, 1000, 0, 10000⟩
abbrev ri1 : Ri := ⟨0, 36500, 0, 0⟩
abbrev sV : Ve := ⟨1, 100, 100, 100, 100, [], [10000], [10000, 10000, 10000, 10000, 10000, 10000, 10000, 10000], 0⟩
abbrev sR (s : Nat) : Trf.Rw := ⟨sV, none, 0, 0, some ⟨s + 1 + 1, 0, none⟩, 1, 1, some ⟨s + 1 + 1 + 1, 0, none⟩, 8, 8⟩
theorem cvs_one {w : World} {b : Nat} {c : Co} (h : Bx w b 88 (cc c)) (ok : Nat → Prop) (hb : ok b) : Cvs w ok (some ⟨b, 0, none⟩) 1 [c] := by
  refine ⟨rfl, fun _ => ⟨_, rfl, hb, fun j x hj => ?_⟩⟩
  match j, hj with
  | 0, hj => simp at hj; subst hj; rw [Addr.add_lit]; exact ⟨h.c 0, h.c 1, h.c 2, h.c 3, h.c 4⟩
theorem ins_row {w : World} {b : Nat} {xs : List Int} (h : Bx w b 3 (xs.map (Value.int .i64)).toArray) (ok : Nat → Prop) (hb : ok b) : Trf.Ins w ok (some ⟨b, 0, none⟩) xs.length xs :=
  ⟨rfl, fun _ => ⟨_, rfl, hb, fun j x hj => by
    rw [Addr.add_lit, Nat.zero_add]
    have := h.c j
    rw [this]; simp [hj]⟩⟩
/-- Seven boxes. -/
structure S7 (w W : World) : Prop where
  b : Below w.heap.size w W
  x0 : Bx W (w.heap.size) 34 (#[.slice (some ⟨w.heap.size + 1 + 1 + 1 + 1 + 1 + 1, 0, none⟩) 1 1])
  x1 : Bx W (w.heap.size + 1) 28 ((tc (1, 101) ri1 (some ⟨w.heap.size + 1 + 1 + 1 + 1 + 1, 0, none⟩) 1 1))
  x2 : Bx W (w.heap.size + 1 + 1) 3 (#[.int .i64 10000])
  x3 : Bx W (w.heap.size + 1 + 1 + 1) 3 (#[.int .i64 10000, .int .i64 10000, .int .i64 10000, .int .i64 10000, .int .i64 10000, .int .i64 10000, .int .i64 10000, .int .i64 10000])
  x4 : Bx W (w.heap.size + 1 + 1 + 1 + 1) 58 ((Trf.vc (sR w.heap.size)))
  x5 : Bx W (w.heap.size + 1 + 1 + 1 + 1 + 1) 88 ((cc co1))
  x6 : Bx W (w.heap.size + 1 + 1 + 1 + 1 + 1 + 1) 58 ((Trf.vc (sR w.heap.size)))
theorem S7.start (w : World) : S7 w (((((((w.alloc (.cells #[.slice (some ⟨w.heap.size + 1 + 1 + 1 + 1 + 1 + 1, 0, none⟩) 1 1] 34)).alloc (.cells (tc (1, 101) ri1 (some ⟨w.heap.size + 1 + 1 + 1 + 1 + 1, 0, none⟩) 1 1) 28)).alloc (.cells #[.int .i64 10000] 3)).alloc (.cells #[.int .i64 10000, .int .i64 10000, .int .i64 10000, .int .i64 10000, .int .i64 10000, .int .i64 10000, .int .i64 10000, .int .i64 10000] 3)).alloc (.cells (Trf.vc (sR w.heap.size)) 58)).alloc (.cells (cc co1) 88)).alloc (.cells (Trf.vc (sR w.heap.size)) 58)) := by
  have h0 := Bx.new w 34 (#[.slice (some ⟨w.heap.size + 1 + 1 + 1 + 1 + 1 + 1, 0, none⟩) 1 1])
  have h1 := Bx.new (w.alloc (.cells #[.slice (some ⟨w.heap.size + 1 + 1 + 1 + 1 + 1 + 1, 0, none⟩) 1 1] 34)) 28 ((tc (1, 101) ri1 (some ⟨w.heap.size + 1 + 1 + 1 + 1 + 1, 0, none⟩) 1 1))
  have h2 := Bx.new ((w.alloc (.cells #[.slice (some ⟨w.heap.size + 1 + 1 + 1 + 1 + 1 + 1, 0, none⟩) 1 1] 34)).alloc (.cells (tc (1, 101) ri1 (some ⟨w.heap.size + 1 + 1 + 1 + 1 + 1, 0, none⟩) 1 1) 28)) 3 (#[.int .i64 10000])
  have h3 := Bx.new (((w.alloc (.cells #[.slice (some ⟨w.heap.size + 1 + 1 + 1 + 1 + 1 + 1, 0, none⟩) 1 1] 34)).alloc (.cells (tc (1, 101) ri1 (some ⟨w.heap.size + 1 + 1 + 1 + 1 + 1, 0, none⟩) 1 1) 28)).alloc (.cells #[.int .i64 10000] 3)) 3 (#[.int .i64 10000, .int .i64 10000, .int .i64 10000, .int .i64 10000, .int .i64 10000, .int .i64 10000, .int .i64 10000, .int .i64 10000])
  have h4 := Bx.new ((((w.alloc (.cells #[.slice (some ⟨w.heap.size + 1 + 1 + 1 + 1 + 1 + 1, 0, none⟩) 1 1] 34)).alloc (.cells (tc (1, 101) ri1 (some ⟨w.heap.size + 1 + 1 + 1 + 1 + 1, 0, none⟩) 1 1) 28)).alloc (.cells #[.int .i64 10000] 3)).alloc (.cells #[.int .i64 10000, .int .i64 10000, .int .i64 10000, .int .i64 10000, .int .i64 10000, .int .i64 10000, .int .i64 10000, .int .i64 10000] 3)) 58 ((Trf.vc (sR w.heap.size)))
  have h5 := Bx.new (((((w.alloc (.cells #[.slice (some ⟨w.heap.size + 1 + 1 + 1 + 1 + 1 + 1, 0, none⟩) 1 1] 34)).alloc (.cells (tc (1, 101) ri1 (some ⟨w.heap.size + 1 + 1 + 1 + 1 + 1, 0, none⟩) 1 1) 28)).alloc (.cells #[.int .i64 10000] 3)).alloc (.cells #[.int .i64 10000, .int .i64 10000, .int .i64 10000, .int .i64 10000, .int .i64 10000, .int .i64 10000, .int .i64 10000, .int .i64 10000] 3)).alloc (.cells (Trf.vc (sR w.heap.size)) 58)) 88 ((cc co1))
  have h6 := Bx.new ((((((w.alloc (.cells #[.slice (some ⟨w.heap.size + 1 + 1 + 1 + 1 + 1 + 1, 0, none⟩) 1 1] 34)).alloc (.cells (tc (1, 101) ri1 (some ⟨w.heap.size + 1 + 1 + 1 + 1 + 1, 0, none⟩) 1 1) 28)).alloc (.cells #[.int .i64 10000] 3)).alloc (.cells #[.int .i64 10000, .int .i64 10000, .int .i64 10000, .int .i64 10000, .int .i64 10000, .int .i64 10000, .int .i64 10000, .int .i64 10000] 3)).alloc (.cells (Trf.vc (sR w.heap.size)) 58)).alloc (.cells (cc co1) 88)) 58 ((Trf.vc (sR w.heap.size)))
  simp only [World.size_alloc] at h1 h2 h3 h4 h5 h6
  refine ⟨((((((alloc_ _ _).alloc (by simp; try omega) _).alloc (by simp; try omega) _).alloc (by simp; try omega) _).alloc (by simp; try omega) _).alloc (by simp; try omega) _).alloc (by simp; try omega) _, ((((((h0).alloc _).alloc _).alloc _).alloc _).alloc _).alloc _, (((((h1).alloc _).alloc _).alloc _).alloc _).alloc _, ((((h2).alloc _).alloc _).alloc _).alloc _, (((h3).alloc _).alloc _).alloc _, ((h4).alloc _).alloc _, (h5).alloc _, h6⟩
theorem S7.vers {w W : World} (H : S7 w W) : Trf.Vers W (some ⟨w.heap.size + 1 + 1 + 1 + 1 + 1 + 1, 0, none⟩) 1 [sR w.heap.size] := by
  refine ⟨⟨rfl, fun _ => ⟨_, rfl, H.x6.lt, fun j r hj => ?_⟩⟩, fun r hr => ?_, fun r hr => ?_⟩
  · match j, hj with
    | 0, hj =>
      simp at hj; subst hj
      rw [Addr.add_lit]
      have h := H.x6
      exact ⟨h.c 0, h.c 1, h.c 2, h.c 3, h.c 4, h.c 5, h.c 6, h.c 7, h.c 8⟩
  · rw [List.mem_singleton] at hr; subst hr
    exact ⟨Trf.Lns.nil, ins_row (xs := [10000]) H.x2 _ H.x2.lt, ins_row (xs := [10000, 10000, 10000, 10000, 10000, 10000, 10000, 10000]) H.x3 _ H.x3.lt⟩
  · rw [List.mem_singleton] at hr; subst hr
    exact ⟨by show 0 ≤ 3000; omega, by show 1 ≤ 3000; omega, by show 8 ≤ 3000; omega⟩
/-- What some gives. -/
def SomeTo (w : World) (e : Ending) (w' : World) : Prop := ∃ (A T : Option Addr) (r : Trf.Rw), e = .returned (.tuple #[Trf.tg T 1 1, tg (1, 101) ri1 A 1 1]) ∧ r.v = sV ∧ Trf.Vers w' T 1 [r] ∧ Cvs w' (· < w'.heap.size) A 1 [co1] ∧ (T = none → False) ∧ Below w.heap.size w w'
set_option maxRecDepth 100000 in
set_option maxHeartbeats 4000000 in
theorem some_ (w : World) : Calls Tryz.prog 23 #[] w (SomeTo w) := by
  obtain ⟨W, hW⟩ : ∃ W, (((((((w.alloc (.cells #[.slice (some ⟨w.heap.size + 1 + 1 + 1 + 1 + 1 + 1, 0, none⟩) 1 1] 34)).alloc (.cells (tc (1, 101) ri1 (some ⟨w.heap.size + 1 + 1 + 1 + 1 + 1, 0, none⟩) 1 1) 28)).alloc (.cells #[.int .i64 10000] 3)).alloc (.cells #[.int .i64 10000, .int .i64 10000, .int .i64 10000, .int .i64 10000, .int .i64 10000, .int .i64 10000, .int .i64 10000, .int .i64 10000] 3)).alloc (.cells (Trf.vc (sR w.heap.size)) 58)).alloc (.cells (cc co1) 88)).alloc (.cells (Trf.vc (sR w.heap.size)) 58)) = W := ⟨_, rfl⟩
  have H := Lib.hid (show S7 w W by rw [← hW]; exact S7.start w)
  have HW := Lib.hid hW
  have x0 := H.out.x0.c 0
  have y0 := H.out.x1.c 0
  have y1 := H.out.x1.c 1
  have y2 := H.out.x1.c 2
  have y3 := H.out.x1.c 3
  have y4 := H.out.x1.c 4
  have y5 := H.out.x1.c 5
  have y6 := H.out.x1.c 6
  simp at x0 y0 y1 y2 y3 y4 y5 y6
  have HX := Lib.hid (And.intro x0 (And.intro y0 (And.intro y1 (And.intro y2 (And.intro y3 (And.intro y4 (And.intro y5 y6)))))))
  clear hW x0 y0 y1 y2 y3 y4 y5 y6
  go_enter Tryz.func23, Tryz.ntmps23
  go_wp2
  change bodyPost _ _ _ _ _ (((((((w.alloc (.cells #[.slice (some ⟨w.heap.size + 1 + 1 + 1 + 1 + 1 + 1, 0, none⟩) 1 1] 34)).alloc (.cells (tc (1, 101) ri1 (some ⟨w.heap.size + 1 + 1 + 1 + 1 + 1, 0, none⟩) 1 1) 28)).alloc (.cells #[.int .i64 10000] 3)).alloc (.cells #[.int .i64 10000, .int .i64 10000, .int .i64 10000, .int .i64 10000, .int .i64 10000, .int .i64 10000, .int .i64 10000, .int .i64 10000] 3)).alloc (.cells (Trf.vc (sR w.heap.size)) 58)).alloc (.cells (cc co1) 88)).alloc (.cells (Trf.vc (sR w.heap.size)) 58))
  rw [HW.out]
  obtain ⟨x0, y0, y1, y2, y3, y4, y5, y6⟩ := HX.out
  exact bodyPost_ret (v := .tuple #[Trf.tg (some ⟨w.heap.size + 1 + 1 + 1 + 1 + 1 + 1, 0, none⟩) 1 1, tg (1, 101) ri1 (some ⟨w.heap.size + 1 + 1 + 1 + 1 + 1, 0, none⟩) 1 1]) (by simp [results, Tryz.results23, go_sem, x0, y0, y1, y2, y3, y4, y5, y6]) rfl ⟨_, _, _, rfl, rfl, H.out.vers, cvs_one H.out.x5 _ H.out.x5.lt, (fun e => by cases e), H.out.b⟩
abbrev chA : Ch := ⟨1, 41, 3, zri, [], 0⟩
abbrev chB : Ch := ⟨2, 61, 4, zri, [], 0⟩
abbrev hiA : Hi := ⟨1, 1, (1, 101), ri1, [co1], [chA, chB]⟩
abbrev hdN : Hd := ⟨true, ri1, [co1]⟩
abbrev hdF : Hd := ⟨false, ri1, [co1]⟩
abbrev cutA : List (Sp × Hd) := [((1, 41), hdN), ((41, 61), hdF), ((61, 101), hdN)]
abbrev slA : List Sc := [⟨(1, 41), hdN, 365⟩, ⟨(41, 61), hdF, 0⟩, ⟨(61, 101), hdN, 365⟩]
theorem ordA : Ag.Ord hiA.hs [0, 1] := by
  refine ⟨?_, ?_⟩
  · show List.Perm [0, 1] [0, 1]
    exact List.Perm.refl _
  · show List.Pairwise _ [0, 1]
    rw [List.pairwise_cons]
    refine ⟨fun y hy => ?_, List.pairwise_singleton _ _⟩
    simp at hy
    subst hy
    exact .inl (by decide +kernel)
theorem hldA (d : Int) : hld (ini hiA) (ordl hiA.hs [0, 1]) d = if d < 41 then hdN else if d < 61 then hdF else hdN := by
  show ((List.filter (fun c : Ch => decide (c.dy ≤ d)) [chA, chB]).foldl don (ini hiA)) = _
  by_cases h1 : d < 41
  · rw [if_pos h1, List.filter_cons_of_neg (by simp; omega), List.filter_cons_of_neg (by simp; omega)]; rfl
  · by_cases h2 : d < 61
    · rw [if_neg h1, if_pos h2, List.filter_cons_of_pos (by simp; omega), List.filter_cons_of_neg (by simp; omega)]; rfl
    · rw [if_neg h1, if_neg h2, List.filter_cons_of_pos (by simp; omega), List.filter_cons_of_pos (by simp; omega)]; rfl
theorem cutdA : Cutd (hld (ini hiA) (ordl hiA.hs [0, 1])) 1 101 cutA := by
  refine ⟨⟨rfl, by decide, rfl, by decide, rfl, by decide, rfl⟩, fun x hx d h1 h2 => ?_, fun i x y h0 h1 => ?_⟩
  · rw [hldA]
    rcases List.mem_cons.1 hx with rfl | hx
    · rw [if_pos h2]
    · rcases List.mem_cons.1 hx with rfl | hx
      · have h1 : (41 : Int) ≤ d := h1
        rw [if_neg (by omega), if_pos h2]
      · rw [List.mem_singleton] at hx; subst hx
        have h1 : (61 : Int) ≤ d := h1
        rw [if_neg (by omega), if_neg (by omega)]
  · match i, h0, h1 with
    | 0, h0, h1 => simp at h0 h1; subst h0 h1; decide +kernel
    | 1, h0, h1 => simp at h0 h1; subst h0 h1; decide +kernel
    | n + 2, h0, h1 => simp at h1
theorem isA : OfIs hiA [sV] 0 slA := by
  have hb : bad (qf (Trf.tol hiA.s.1 [sV])) cutA = 0 := by decide +kernel
  refine .some (by decide +kernel) (by decide +kernel) [0, 1] cutA ordA cutdA hb.symm ?_
  rw [if_pos hb]
  decide +kernel
abbrev rwO (c : Ch) : Tm.Rw := ⟨c, none, 0, 0⟩
abbrev hrA (A B : Option Addr) : Hr := ⟨1, 1, (1, 101), ri1, A, 1, 1, [co1], B, 2, 2, [rwO chA, rwO chB]⟩
/-- The boxes of the example. -/
structure AB (w W : World) (p : Nat) (A T : Option Addr) (r : Trf.Rw) : Prop where
  b : Below w.heap.size w W
  t : Bx W p 34 #[.slice T 1 1]
  x : Bx W (p + 1 + 1 + 1) 31 (hc (hrA A (some ⟨p + 1 + 1, 0, none⟩)))
  g : Bx W (p + 1 + 1) 52 #[.int .i64 1, .int .i64 41, .int .i64 3, .int .i64 0, .int .i64 0, .int .i64 0, .int .i64 0, .slice none 0 0, .int .i64 0, .int .i64 2, .int .i64 61, .int .i64 4, .int .i64 0, .int .i64 0, .int .i64 0, .int .i64 0, .slice none 0 0, .int .i64 0]
  v : Trf.Vers W T 1 [r]
  c : Cvs W (· < W.heap.size) A 1 [co1]
theorem AB.hm {w W : World} {p : Nat} {A T : Option Addr} {r : Trf.Rw} (H : AB w W p A T r) : HM W (· < W.heap.size) (hrA A (some ⟨p + 1 + 1, 0, none⟩)) := by
  refine ⟨H.c, ⟨rfl, fun _ => ⟨_, rfl, H.g.lt, fun j r hj => ?_⟩⟩, fun r hr => ?_⟩
  · have h := H.g
    match j, hj with
    | 0, hj => simp at hj; subst hj; rw [Addr.add_lit]; exact ⟨h.c 0, h.c 1, h.c 2, h.c 3, h.c 4, h.c 5, h.c 6, h.c 7, h.c 8⟩
    | 1, hj => simp at hj; subst hj; rw [Addr.add_lit]; exact ⟨h.c 9, h.c 10, h.c 11, h.c 12, h.c 13, h.c 14, h.c 15, h.c 16, h.c 17⟩
  · rcases List.mem_cons.1 hr with rfl | hr
    · exact Cvs.nil
    · rw [List.mem_singleton] at hr; subst hr; exact Cvs.nil
theorem hsA (A : Option Addr) (a : Addr) : HS (hrA A (some a)) := ⟨by show 1 ≤ 3000; omega, by show 2 ≤ 2000; omega, (fun r hr => by
  rcases List.mem_cons.1 hr with rfl | hr
  · exact Nat.zero_le _
  · rw [List.mem_singleton] at hr; subst hr; exact Nat.zero_le _), (fun e => by cases e), Nat.le_refl _⟩
set_option maxRecDepth 100000 in
set_option maxHeartbeats 4000000 in
theorem AB.start (w w1 : World) (A T : Option Addr) (r : Trf.Rw) (hb : Below w.heap.size w w1) (hv : Trf.Vers w1 T 1 [r]) (hc1 : Cvs w1 (· < w1.heap.size) A 1 [co1]) : AB w ((((w1.alloc (.cells #[.slice T 1 1] 34)).alloc (.cells (tc (1, 101) ri1 A 1 1) 28)).alloc (.cells #[.int .i64 1, .int .i64 41, .int .i64 3, .int .i64 0, .int .i64 0, .int .i64 0, .int .i64 0, .slice none 0 0, .int .i64 0, .int .i64 2, .int .i64 61, .int .i64 4, .int .i64 0, .int .i64 0, .int .i64 0, .int .i64 0, .slice none 0 0, .int .i64 0] 52)).alloc (.cells (hc (hrA A (some ⟨w1.heap.size + 1 + 1, 0, none⟩))) 31)) w1.heap.size A T r := by
  have h0 := Bx.new w1 34 #[.slice T 1 1]
  have h2 := Bx.new ((w1.alloc (.cells #[.slice T 1 1] 34)).alloc (.cells (tc (1, 101) ri1 A 1 1) 28)) 52 #[.int .i64 1, .int .i64 41, .int .i64 3, .int .i64 0, .int .i64 0, .int .i64 0, .int .i64 0, .slice none 0 0, .int .i64 0, .int .i64 2, .int .i64 61, .int .i64 4, .int .i64 0, .int .i64 0, .int .i64 0, .int .i64 0, .slice none 0 0, .int .i64 0]
  have h3 := Bx.new (((w1.alloc (.cells #[.slice T 1 1] 34)).alloc (.cells (tc (1, 101) ri1 A 1 1) 28)).alloc (.cells #[.int .i64 1, .int .i64 41, .int .i64 3, .int .i64 0, .int .i64 0, .int .i64 0, .int .i64 0, .slice none 0 0, .int .i64 0, .int .i64 2, .int .i64 61, .int .i64 4, .int .i64 0, .int .i64 0, .int .i64 0, .int .i64 0, .slice none 0 0, .int .i64 0] 52)) 31 (hc (hrA A (some ⟨w1.heap.size + 1 + 1, 0, none⟩)))
  simp only [World.size_alloc] at h2 h3
  have hal : Below w1.heap.size w1 ((((w1.alloc (.cells #[.slice T 1 1] 34)).alloc (.cells (tc (1, 101) ri1 A 1 1) 28)).alloc (.cells #[.int .i64 1, .int .i64 41, .int .i64 3, .int .i64 0, .int .i64 0, .int .i64 0, .int .i64 0, .slice none 0 0, .int .i64 0, .int .i64 2, .int .i64 61, .int .i64 4, .int .i64 0, .int .i64 0, .int .i64 0, .int .i64 0, .slice none 0 0, .int .i64 0] 52)).alloc (.cells (hc (hrA A (some ⟨w1.heap.size + 1 + 1, 0, none⟩))) 31)) := (((alloc_ _ _).alloc (by simp) _).alloc (by simp; omega) _).alloc (by simp; omega) _
  exact ⟨hb.trans (hal.mono hb.size), ((h0.alloc _).alloc _).alloc _, h3, h2.alloc _, hv.below hal, hc1.below hal⟩
set_option maxRecDepth 100000 in
set_option maxHeartbeats 4000000 in
theorem awake12 (w : World) : Calls Tryz.prog 10 #[] w (Yes w true) := by
  have q1 : ∀ w : World, (Op.equalIn 10000 23 (.agg #[.int .i64 1, .int .i64 41]) (.agg #[.int .i64 1, .int .i64 41])).run Tryz.prog w = .ok true w := fun w => by rw [run_span (1, 41) (1, 41)]; rfl
  have q2 : ∀ w : World, (Op.equalIn 10000 23 (.agg #[.int .i64 41, .int .i64 61]) (.agg #[.int .i64 41, .int .i64 61])).run Tryz.prog w = .ok true w := fun w => by rw [run_span (41, 61) (41, 61)]; rfl
  go_enter Tryz.func10, Tryz.ntmps10
  go_wp2_with fail
  refine (some_ w).mono ?_
  rintro e w1 ⟨A, T, r, rfl, hr, hv, hc1, hT, hb1⟩
  obtain ⟨W, hW⟩ : ∃ W, ((((w1.alloc (.cells #[.slice T 1 1] 34)).alloc (.cells (tc (1, 101) ri1 A 1 1) 28)).alloc (.cells #[.int .i64 1, .int .i64 41, .int .i64 3, .int .i64 0, .int .i64 0, .int .i64 0, .int .i64 0, .slice none 0 0, .int .i64 0, .int .i64 2, .int .i64 61, .int .i64 4, .int .i64 0, .int .i64 0, .int .i64 0, .int .i64 0, .slice none 0 0, .int .i64 0] 52)).alloc (.cells (hc (hrA A (some ⟨w1.heap.size + 1 + 1, 0, none⟩))) 31)) = W := ⟨_, rfl⟩
  have H := Lib.hid (show AB w W w1.heap.size A T r by rw [← hW]; exact AB.start w w1 A T r hb1 hv hc1)
  have HR := Lib.hid hr
  have HW := Lib.hid hW
  have C := Lib.hid (of_ (hrA A (some ⟨w1.heap.size + 1 + 1, 0, none⟩)) T 1 1 [r] W H.out.hm (hsA _ _) (by show 2 ≤ 100; omega) H.out.v (by omega))
  have y0 := H.out.t.c 0
  have x0 := H.out.x.c 0
  have x1 := H.out.x.c 1
  have x2 := H.out.x.c 2
  have x3 := H.out.x.c 3
  have x4 := H.out.x.c 4
  have x5 := H.out.x.c 5
  have x6 := H.out.x.c 6
  have x7 := H.out.x.c 7
  have x8 := H.out.x.c 8
  have x9 := H.out.x.c 9
  simp at x0 x1 x2 x3 x4 x5 x6 x7 x8 x9
  simp at y0
  clear hr hv hc1 hT hb1 hW
  go_upto_region 3 with fail
  rw [HW.out]
  clear HW
  go_wp2_with fail
  refine C.out.mono ?_
  rintro e w2 ⟨A2, n2, c2, rs, code, rfl, hS, hn, hIs, hb2⟩
  have hIs2 : OfIs hiA [sV] code (rs.map Rw.v) := by rw [← HR.out]; exact hIs
  obtain ⟨rfl, hmap⟩ := hIs2.one isA
  have hl : rs.length = 3 := by have := congrArg List.length hmap; simpa using this
  have hn3 : n2 = 3 := by have := hS.r.1; omega
  subst hn3
  obtain ⟨ad, rfl, hbl, hcel⟩ := hS.r.2 (by omega)
  match rs, hl with
  | [r0, r1, r2], _ =>
    simp only [List.map_cons, List.map_nil, List.cons.injEq, and_true] at hmap
    obtain ⟨v0, v1, v2⟩ := hmap
    have N0 := hcel 0 r0 rfl
    have N1 := hcel 1 r1 rfl
    have N2 := hcel 2 r2 rfl
    obtain ⟨a0, a1, a2, a3, a4, a5, a6, a7, a8⟩ := N0
    obtain ⟨b0, b1, b2, b3, b4, b5, b6, b7, b8⟩ := N1
    obtain ⟨d0, d1, d2, d3, d4, d5, d6, d7, d8⟩ := N2
    rw [v0] at a0 a1 a2 a8
    rw [v1] at b0 b1 b2 b8
    rw [v2] at d1 d2
    have HB := Lib.hid (H.out.b.trans (hb2.mono H.out.b.size))
    clear hIs hIs2 hS hcel hn hbl hb2 v0 v1 v2 C H y0 x0 x1 x2 x3 x4 x5 x6 x7 x8 x9 a3 a4 a5 a6 a7 b3 b4 b5 b6 b7 d0 d3 d4 d5 d6 d7 d8
    simp [Addr.add] at a0 a1 a2 a8 b0 b1 b2 b8 d1 d2
    go_wp2
    go_ret
    exact ⟨rfl, HB.out⟩

end Slc
end Go.Proofs.YtkdhcloaeifbdaaGreat

namespace Go.Proofs.YtkdhcloaeifbdaaGreat
open Go.RowKit Ba Cv Sp Te Ag Tf Sl Tm
namespace Slc
set_option linter.unusedVariables false

theorem gh_below {w W : World} {h : Hr} (g : GivenH w h) (hb : Below w.heap.size w W) : GivenH W h := ⟨g.M.below hb, g.n, g.k, g.m, g.f, g.z⟩
theorem gt_below {w W : World} {A : Option Addr} {n c : Nat} {rs : List Trf.Rw} (g : Trf.GivenT w A n c rs) (hb : Below w.heap.size w W) : Trf.GivenT W A n c rs := ⟨g.r.below hb, fun r hr => (g.m r hr).below hb, g.l, g.big, g.cap, g.nil⟩
theorem cod_le (d : Int) (vs : List Ve) : Trf.cod d vs = 0 ∨ Trf.cod d vs = 7 := by unfold Trf.cod; split <;> simp

end Slc
end Go.Proofs.YtkdhcloaeifbdaaGreat
