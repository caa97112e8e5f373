/-
  The document's Parts. Conditions: the days read as a list of at most 100 ints.
-/
import Derived.Test.YtjmbccdcnmmhgaaAcK
import Derived.Test.YtjmbccdcnmmhgaaZSum
namespace Go.Proofs.Ytjmbccdcnmmhgaa
open Go.RowKit Ba Cv Sp Te Ag Sl Tm Slc
namespace Acr
set_option linter.unusedVariables false

set_option maxHeartbeats 1000000 in
theorem rmany (x : Sp) (w : World) : Calls Try.prog 24 #[sg x] w fun e w' => e = .returned (.int .i64 (mn x)) ∧ Below w.heap.size w w' := by
  have C := fun w => Lib.hid (right3 x w)
  obtain ⟨a, b⟩ := x
  by_cases hr : rt (a, b) = true
  · have hm : mn (a, b) = b - a := by rw [mn, if_pos hr]
    rw [hm]
    rw [hr] at C
    rw [rt_iff] at hr
    obtain ⟨h1, h2, h3⟩ := hr
    simp only at h1 h2 h3
    clear hm
    go_enter Try.func24, Try.ntmps24
    go_wp2_with fail
    refine (C _).out.mono ?_
    rintro e w1 ⟨rfl, hb⟩
    obtain ⟨hc, hf⟩ := bcell hb
    have HB := Lib.hid hb
    clear hb
    go_wp2
    go_ret
    exact ⟨rfl, ((Below.refl _ _).alloc (Nat.le_refl _) _).trans (HB.out.mono (by simp))⟩
  · have hm : mn (a, b) = 0 := by rw [mn, if_neg hr]
    rw [hm]
    have hr' : rt (a, b) = false := by simpa using hr
    rw [hr'] at C
    clear hm hr hr'
    go_enter Try.func24, Try.ntmps24
    go_wp2_with fail
    refine (C _).out.mono ?_
    rintro e w1 ⟨rfl, hb⟩
    have HB := Lib.hid hb
    clear hb
    go_wp2
    go_ret
    exact ⟨rfl, ((Below.refl _ _).alloc (Nat.le_refl _) _).trans (HB.out.mono (by simp))⟩

set_option maxRecDepth 100000 in
set_option maxHeartbeats 2000000 in
theorem rparts_no (s : Sp) (A : Option Addr) (n c : Nat) (w : World) (hs : has s = false) (hr : rt s = true) :
    Calls Try.prog 12 #[sg s, .slice A n c] w (PaTo w s) := by
  have C := fun w => Lib.hid (rmany s w)
  rw [mn_no hs] at C
  have HS := Lib.hid (show s.1 = s.2 by
    have h1 := (rt_iff s).1 hr
    have h2 : ¬ (1 ≤ s.1 ∧ s.1 < s.2 ∧ s.2 ≤ 292195) := fun h => by have := (has_iff s).2 h; rw [hs] at this; cases this
    omega)
  clear hs hr
  obtain ⟨a1, a2⟩ := s
  go_enter Try.func12, Try.ntmps12
  go_wp2
  go_loopw [5] (fun so w' => so = .slice none 0 0 ∧ w' = w.alloc (.cells #[.int .i64 a1, .int .i64 a2] 30)) (fun _ _ => 0)
  case atStart => exact ⟨rfl, rfl⟩
  case round =>
    obtain ⟨rfl, rfl⟩ := hrel
    go_wp2_with fail
    refine (C _).out.mono ?_
    rintro e w1 ⟨rfl, hb⟩
    have HB := Lib.hid ((alloc_ w (.cells #[.int .i64 a1, .int .i64 a2] 30)).trans (hb.mono (by simp)))
    clear hb C
    go_wp2
    go_ret
    exact ⟨none, 0, 0, [], rfl, by omega, rfl, (fun k x hx => by cases hx), HS.out, HB.out⟩

/-- How many days are left, by what the box holds. -/
def leftOf (b : Nat) (t : Int) (w : World) : Nat := match w.cell? ⟨b, 0, none⟩ with
  | some (.int _ f) => (t - f).toNat
  | _ => 0
theorem leftOf_eq {b : Nat} {t f : Int} {w : World} (h : w.cell? ⟨b, 0, none⟩ = some (.int .i64 f)) : leftOf b t w = (t - f).toNat := by unfold leftOf; rw [h]

/-- What holds at the head of each round. -/
structure RP (w w' : World) (A : Option Addr) (n c : Nat) (s : Sp) (ds : List Int) (zs : List Sp) (f : Int) : Prop where
  own : Stp.OwnP w' (w.heap.size + 1) A n c zs
  box : Stp.Bx w' w.heap.size 30 (.int .i64 f) (.int .i64 s.2)
  goes : Goes s ds zs f
  below : Below w.heap.size w w'

set_option maxRecDepth 100000 in
set_option maxHeartbeats 2000000 in
theorem rparts_yes (s : Sp) (A : Option Addr) (n c : Nat) (xs : List Int) (w : World) (hS : Stp.Ints w w.heap.size A n xs) (hn : n ≤ 100) (hs : has s = true) :
    Calls Try.prog 12 #[sg s, .slice A n c] w (PaTo w s) := by
  have hsd := (has_iff s).1 hs
  have HG := Lib.hid (goes_start hs xs)
  have HS := Lib.hid hS
  have HH := Lib.hid hs
  obtain ⟨a1, a2⟩ := s
  simp only at hsd
  obtain ⟨d1, d2, d3⟩ := hsd
  clear hS hs
  go_enter Try.func12, Try.ntmps12
  go_wp2
  go_loopw [5] (fun so w' => ∃ (A1 : Option Addr) (n1 c1 : Nat) (zs : List Sp) (f : Int), so = .slice A1 n1 c1 ∧ a1 ≤ f ∧ f ≤ a2 ∧ n1 ≤ 292195 ∧ Hid (RP w w' A1 n1 c1 (a1, a2) xs zs f)) (fun _ w' => leftOf w.heap.size a2 w')
  case atStart => exact ⟨none, 0, 0, [], a1, rfl, by omega, by omega, by omega, Lib.hid ⟨Stp.OwnP.nil, Stp.Bx.new w _ _ _, HG.out, (Below.refl _ _).alloc (Nat.le_refl _) _⟩⟩
  case round =>
    obtain ⟨A1, n1, c1, zs, f, rfl, f1, f2, hn1, HR⟩ := hrel
    have x0 := HR.out.box.c0
    have x1 := HR.out.box.c1
    have HL := Lib.hid (leftOf_eq (t := a2) x0)
    simp only at x1
    have C := fun w => Lib.hid (rmany (f, a2) w)
    by_cases hf : f < a2
    · have hh : Sp.has (f, a2) = true := (has_iff _).2 (by simp only; omega)
      have tm : decide (0 < mn (f, a2)) = true := hh
      clear hh
      generalize mn (f, a2) = m at tm C
      go_wp2_with fail
      refine (C _).out.mono ?_
      rintro e w1 ⟨rfl, hb1⟩
      have HB1 := Lib.hid hb1
      have HX1 := Lib.hid (HR.out.box.keep hb1)
      have HO1 := Lib.hid (HR.out.own.below hb1)
      have HW1 := Lib.hid (HR.out.below.trans (hb1.mono HR.out.below.size))
      clear hb1 C x0 x1
      have x0 := HX1.out.c0
      have x1 := HX1.out.c1
      have xl := HX1.out.lt
      have xf := HX1.out.f 0
      simp only at x1
      go_wp2
      go_loopw [6, 7] (fun sm i w' => ∃ (k nd : Nat) (m : Int), k ≤ n ∧ i = .int .i64 (k : Int) ∧ sm = .int .i64 m ∧ w' = w1.drewN nd ∧ Hid (m = nx f a2 (xs.take k))) (fun _ i _ => n - (intOf i).toNat)
      case atStart => exact ⟨0, 0, a2, Nat.zero_le _, rfl, rfl, rfl, Lib.hid rfl⟩
      case round =>
        obtain ⟨k, nd, m, hk, rfl, rfl, rfl, HM⟩ := hrel
        by_cases hlt : k < n
        · obtain ⟨ad, d, rfl, hb, hx, hc⟩ := (HS.out.below HW1.out (Nat.le_refl _)).get hlt
          have HTK := Lib.hid (Stm.take_more hx)
          have hlt2 : (k : Int) < (n : Int) := by omega
          clear hx
          by_cases g1 : f < d
          · have t1 : decide (f < d) = true := by simpa using g1
            by_cases g2 : d < m
            · have t2 : decide (d < m) = true := by simpa using g2
              have HE := Lib.hid (show d = nx f a2 (xs.take (k + 1)) by rw [HTK.out, nx_snoc, ← HM.out, if_pos ⟨g1, g2⟩])
              clear g1 g2
              go_wp2
              go_quiet (fail)
              go_wp2
              go_roundw
              case rel => exact ⟨k + 1, _, d, by omega, by go_num, rfl, rfl, HE⟩
              case measure => simp [intOf]; omega
            · have t2 : decide (d < m) = false := by simpa using g2
              have HE := Lib.hid (show m = nx f a2 (xs.take (k + 1)) by rw [HTK.out, nx_snoc, ← HM.out, if_neg (fun h => g2 h.2)])
              clear g1 g2
              go_wp2
              go_quiet (fail)
              go_wp2
              go_roundw
              case rel => exact ⟨k + 1, _, m, by omega, by go_num, rfl, rfl, HE⟩
              case measure => simp [intOf]; omega
          · have t1 : decide (f < d) = false := by simpa using g1
            have HE := Lib.hid (show m = nx f a2 (xs.take (k + 1)) by rw [HTK.out, nx_snoc, ← HM.out, if_neg (fun h => g1 h.1)])
            clear g1
            go_wp2
            go_quiet (fail)
            go_wp2
            go_roundw
            case rel => exact ⟨k + 1, _, m, by omega, by go_num, rfl, rfl, HE⟩
            case measure => simp [intOf]; omega
        · obtain rfl : n = k := by omega
          have he : xs.take n = xs := List.take_of_length_le (by rw [HS.out.1]; exact Nat.le_refl _)
          have hm := HM.out
          rw [he] at hm
          obtain ⟨m1, m2, m3, m4⟩ := nx_facts f a2 hf xs
          rw [← hm] at m1 m2 m3 m4
          have HGS := Lib.hid (show Goes (a1, a2) xs (zs ++ [(f, m)]) m by have := goes_step HR.out.goes (by simpa using hf); simp only at this; rwa [← hm] at this)
          clear he hm m3 m4
          obtain ⟨W, hW⟩ : ∃ W, w1.drewN nd = W := ⟨_, rfl⟩
          have HXW := Lib.hid (show Stp.Bx W w.heap.size 30 (.int .i64 f) (.int .i64 a2) by rw [← hW]; exact HX1.out)
          have HOW := Lib.hid (show Stp.OwnP W (w.heap.size + 1) A1 n1 c1 zs by rw [← hW]; exact HO1.out)
          have HWW := Lib.hid (show Below w.heap.size w W by rw [← hW]; exact ⟨HW1.out.os, HW1.out.tape, HW1.out.output, HW1.out.size, HW1.out.block⟩)
          rw [hW]
          clear x0 x1 xl xf hW
          have x0 := HXW.out.c0
          have x1 := HXW.out.c1
          have xl := HXW.out.lt
          go_wp2_with (at_builtin; refine Stp.wpList_appP _ rfl (.tmp 38) (.tmp 43) rfl (w.heap.size + 1) A1 n1 c1 zs rfl (HOW.out.alloc _) (W.heap.size + 1) ⟨W.heap.size, 0, none⟩ 1 1 [(f, m)] rfl (Stp.spans_new1 W f m _ rfl) (by omega) (by have := HXW.out.lt; simp; omega) ?_; intro A4 c4 w4 hO4 hg4; have HO4 := Lib.hid hO4; have HX4 := Lib.hid (show Stp.Bx w4 w.heap.size 30 (.int .i64 f) (.int .i64 a2) from (hg4.block w.heap.size (by have := HXW.out.lt; simp; omega) (fun e => by have := (HOW.out.lt _ e.symm).1; omega)).trans (HXW.out.alloc _)); have HW4 := Lib.hid ((HWW.out.alloc HWW.out.size _).grown hg4 (by have := HWW.out.size; simp; omega) (fun j hj => by have := (HOW.out.lt j hj).1; omega)); have y0 := HX4.out.c0; have yf := HX4.out.f 0; clear hO4 hg4)
          have hlen := HGS.out.chain.length
          have hO4l := HO4.out.len
          simp only at hlen
          go_roundw
          case rel =>
            refine ⟨_, _, _, _, m, rfl, by omega, by omega, ?_, Lib.hid ⟨HO4.out.far (Stp.low_neP HO4.out (by simp)) _, HX4.out.set0 _, HGS.out, HW4.out.setCell (p := ⟨w.heap.size, 0, none⟩) (Nat.le_refl _) _⟩⟩
            omega
          case measure =>
            rw [leftOf_eq (HX4.out.set0 _).c0]
            rw [HL.out]
            omega
    · obtain rfl : f = a2 := by omega
      have hm : mn (f, f) = 0 := by unfold mn; split <;> simp
      rw [hm] at C
      clear hm
      go_wp2_with fail
      refine (C _).out.mono ?_
      rintro e w1 ⟨rfl, hb1⟩
      have HB1 := Lib.hid hb1
      clear hb1 C
      go_wp2
      go_ret
      have hsp := (HR.out.own.below HB1.out).spans.1
      refine ⟨A1, n1, c1, zs, rfl, hn1, hsp.1, fun k x hx => ?_, HR.out.goes.chain, HR.out.below.trans (HB1.out.mono HR.out.below.size)⟩
      obtain ⟨ad, x1', y1', e1, e2, e3, e4, e5⟩ := hsp.get (k := k) (by have := (List.getElem?_eq_some_iff.1 hx).1; have := hsp.1; omega)
      rw [hx] at e3
      injection e3 with e3
      subst e3
      exact ⟨ad, e1, e2, e4, e5⟩

theorem rparts (s : Sp) (A : Option Addr) (n c : Nat) (xs : List Int) (w : World) (hS : Stp.Ints w w.heap.size A n xs) (hn : n ≤ 100) (hr : rt s = true) :
    Calls Try.prog 12 #[sg s, .slice A n c] w (PaTo w s) := by
  cases hs : has s
  · exact rparts_no s A n c w hs hr
  · exact rparts_yes s A n c xs w hS hn hs

end Acr
end Go.Proofs.Ytjmbccdcnmmhgaa
