/-
  At of package tariff. Conditions: the version's lists read as lists, and are short.
-/
import Derived.Test.YthjlhjbblnoldaaOwn
namespace Go.Proofs.Ythjlhjbblnoldaa
open Go.RowKit Ba Tf
namespace Trf
set_option linter.unusedVariables false

/-- The version that is told, and the code. -/
def tol (day : Int) (vs : List Ve) : Ve := (lst day vs).getD zeroV
def cod (day : Int) (vs : List Ve) : Int := if (lst day vs).isSome = true then 0 else 7
theorem tol_some {day : Int} {vs : List Ve} {x : Ve} (h : lst day vs = some x) : tol day vs = x ∧ cod day vs = 0 := by unfold tol cod; rw [h]; exact ⟨rfl, rfl⟩
theorem tol_none {day : Int} {vs : List Ve} (h : lst day vs = none) : tol day vs = zeroV ∧ cod day vs = 7 := by unfold tol cod; rw [h]; exact ⟨rfl, rfl⟩
/-- What At gives. -/
def AtTo (w : World) (day : Int) (vs : List Ve) (e : Ending) (w' : World) : Prop := ∃ r : Rw, e = .returned (.tuple #[vg r, .int .i64 (cod day vs)]) ∧ r.v = tol day vs ∧ Mean w' (· < w'.heap.size) r ∧ Sm r ∧ Below w.heap.size w w'

set_option maxRecDepth 100000 in
set_option maxHeartbeats 2000000 in
theorem held (b2 b3 : Nat) (ad : Addr) (n c k : Nat) (r : Rw) (day : Int) (W : World) (h2 : W.cell? ⟨b2, 0, none⟩ = some (.slice (some ad) n c)) (h3 : W.cell? ⟨b3, 0, none⟩ = some (.int .i64 day)) (hN : Nin W (ad.add (k * 9)) r) (hk : k < n) (hn : n ≤ 1000) :
    Calls Try.prog 25 #[.int .i64 (k : Int), .pointer (some ⟨b2, 0, none⟩), .pointer (some ⟨b3, 0, none⟩)] W (Yes W (decide (r.v.fr ≤ day))) := by
  have c0 := hN.c0
  have hk2 : (k : Int) < (n : Int) := by omega
  obtain ⟨q, hq⟩ : ∃ q, decide (r.v.fr ≤ day) = q := ⟨_, rfl⟩
  rw [hq]
  clear hN
  go_enter Try.func25, Try.ntmps25
  go_wp2
  go_quiet (fail)
  go_wp2
  go_ret
  exact ⟨rfl, below_drewN (Below.refl _ _) _⟩

/-- The three boxes. -/
structure A0 (w w1 : World) (A : Option Addr) (n c : Nat) (day : Int) : Prop where
  b : Below w.heap.size w w1
  x : Bx w1 w.heap.size 29 #[.slice A n c]
  y : Bx w1 (w.heap.size + 1) 3 #[.int .i64 day]
  z : Bx w1 (w.heap.size + 2) 26 zc
section
variable {w w1 w2 : World} {A : Option Addr} {n c : Nat} {day : Int}
theorem A0.start : A0 w (((w.alloc (.cells #[.slice A n c] 29)).alloc (.cells #[.int .i64 day] 3)).alloc (.cells zc 26)) A n c day := by
  refine ⟨((alloc_ _ _).alloc (by simp) _).alloc (by simp; omega) _, ((Bx.new _ _ _).alloc _).alloc _, ?_, ?_⟩
  · have := (Bx.new (w.alloc (.cells #[.slice A n c] 29)) 3 #[.int .i64 day]).alloc (.cells zc 26)
    rw [World.size_alloc] at this
    exact this
  · have := Bx.new ((w.alloc (.cells #[.slice A n c] 29)).alloc (.cells #[.int .i64 day] 3)) 26 zc
    rw [World.size_alloc, World.size_alloc] at this
    exact this
theorem A0.next (h : A0 w w1 A n c day) (hb : Below w1.heap.size w1 w2) : A0 w w2 A n c day := ⟨h.b.trans (hb.mono h.b.size), h.x.keep hb, h.y.keep hb, h.z.keep hb⟩
end

set_option maxRecDepth 100000 in
set_option maxHeartbeats 4000000 in
theorem at_ (A : Option Addr) (n c : Nat) (rs : List Rw) (day : Int) (w : World) (hS : Vers w A n rs) (hn : n ≤ 1000) :
    Calls Try.prog 14 #[tg A n c, .int .i64 day] w (AtTo w day (rs.map Rw.v)) := by
  have hl := hS.len
  have HS := Lib.hid hS
  have HL := Lib.hid hl
  have H0 := Lib.hid (A0.start (w := w) (A := A) (n := n) (c := c) (day := day))
  clear hS hl
  go_enter Try.func14, Try.ntmps14
  go_wp2
  go_loopw [7] (fun i w' => ∃ (k : Nat) (w1 : World), k ≤ n ∧ i = .int .i64 ((k : Int) - 1) ∧ w1 = w' ∧ Hid (lst day ((rs.map Rw.v).drop k) = none) ∧ Hid (A0 w w1 A n c day)) (fun i _ => ((intOf i) + 1).toNat)
  case atStart => exact ⟨n, _, Nat.le_refl _, rfl, rfl, Lib.hid (by rw [List.drop_of_length_le (by rw [HL.out]; omega)]; rfl), H0⟩
  case round =>
    obtain ⟨k, w1, hk, rfl, rfl, HB, HW⟩ := hrel
    cases k with
    | zero =>
      have HT := Lib.hid (tol_none (show lst day (rs.map Rw.v) = none from HB.out))
      have HZ := Lib.hid (nine_bx HW.out.z zr)
      have HK := Lib.hid (nine_below HW.out.b (b := w.heap.size + 2) (by omega) 0 zr)
      have v0 := HW.out.z.c 0
      have g0 := HW.out.z.f 0
      have v1 := HW.out.z.c 1
      have g1 := HW.out.z.f 1
      have v2 := HW.out.z.c 2
      have g2 := HW.out.z.f 2
      have v3 := HW.out.z.c 3
      have g3 := HW.out.z.f 3
      have v4 := HW.out.z.c 4
      have g4 := HW.out.z.f 4
      have v5 := HW.out.z.c 5
      have g5 := HW.out.z.f 5
      have v6 := HW.out.z.c 6
      have g6 := HW.out.z.f 6
      have v7 := HW.out.z.c 7
      have g7 := HW.out.z.f 7
      have v8 := HW.out.z.c 8
      have g8 := HW.out.z.f 8
      simp at v0 v1 v2 v3 v4 v5 v6 v7 v8
      rw [show ((0 : Nat) : Int) - 1 = -1 from rfl]
      go_wp2
      change bodyPost _ _ _ _ _ (nine w1 (w.heap.size + 2) 0 zr)
      refine bodyPost_ret (v := .tuple #[vg zr, .int .i64 7]) ?_ rfl ⟨zr, by rw [HT.out.2], HT.out.1.symm, zr_mean _ _, zr_sm, HK.out⟩
      have hx : Bx (nine w1 (w.heap.size + 2) 0 zr) (w.heap.size + 2) 26 zc := HZ.out
      have x0 := hx.c 0
      have x1 := hx.c 1
      have x2 := hx.c 2
      have x3 := hx.c 3
      have x4 := hx.c 4
      have x5 := hx.c 5
      have x6 := hx.c 6
      have x7 := hx.c 7
      have x8 := hx.c 8
      simp at x0 x1 x2 x3 x4 x5 x6 x7 x8
      simp [results, Try.results14, go_sem, x0, x1, x2, x3, x4, x5, x6, x7, x8]
      exact ⟨rfl, rfl, rfl, rfl, rfl, ⟨rfl, rfl, rfl⟩, ⟨rfl, rfl, rfl⟩, ⟨rfl, rfl, rfl⟩, rfl⟩
    | succ j =>
      have hj : j < n := by omega
      obtain ⟨ad, r, rfl, hb, hx, hN0, hM, hSm⟩ := HS.out.get hj
      have hN : Nin w1 (ad.add (j * 9)) r := hN0.keep fun p hp => HW.out.b.cell (by rw [hp, add_block]; exact hb)
      clear hN0
      have hj2 : (j : Int) < (n : Int) := by omega
      have e1 : ((j + 1 : Nat) : Int) - 1 = (j : Int) := by omega
      rw [e1]
      have x0 := HW.out.x.c 0
      have y0 := HW.out.y.c 0
      simp at x0 y0
      have C := Lib.hid (held w.heap.size (w.heap.size + 1) ad n c j r day w1 x0 y0 hN hj hn)
      clear e1
      by_cases h1 : r.v.fr ≤ day
      · have HT := Lib.hid (tol_some (lst_at (map_get hx) HB.out h1))
        rw [decide_eq_true h1] at C
        have HM := Lib.hid hM
        have HN := Lib.hid hN
        have hbl := hb
        clear hx h1 hN hM
        go_wp2_with fail
        refine C.out.mono ?_
        rintro e w2 ⟨rfl, hb2⟩
        have HW2 := Lib.hid (HW.out.next hb2)
        have x1 := HW2.out.x.c 0
        simp at x1
        obtain ⟨c0, c1, c2, c3, c4, c5, c6, c7, c8⟩ := HN.out.keep (w' := w2) (fun p hp => hb2.cell (by rw [hp, add_block]; exact Nat.lt_of_lt_of_le hbl HW.out.b.size))
        have CO := Lib.hid (own_ r w2 (· < w.heap.size) (HM.out.keep (fun p hp => HW2.out.b.cell hp) fun _ h => h) (fun _ h => Nat.lt_of_lt_of_le h HW2.out.b.size) hSm)
        clear hb2 C x0 y0 hb hbl
        go_wp2_with fail
        refine CO.out.mono ?_
        rintro e w3 ⟨r3, rfl, e3, s3, m3, hb3⟩
        have HW3 := Lib.hid (HW2.out.next hb3)
        have HM3 := Lib.hid m3
        have HE3 := Lib.hid e3
        have v0 := HW3.out.z.c 0
        have g0 := HW3.out.z.f 0
        have v1 := HW3.out.z.c 1
        have g1 := HW3.out.z.f 1
        have v2 := HW3.out.z.c 2
        have g2 := HW3.out.z.f 2
        have v3 := HW3.out.z.c 3
        have g3 := HW3.out.z.f 3
        have v4 := HW3.out.z.c 4
        have g4 := HW3.out.z.f 4
        have v5 := HW3.out.z.c 5
        have g5 := HW3.out.z.f 5
        have v6 := HW3.out.z.c 6
        have g6 := HW3.out.z.f 6
        have v7 := HW3.out.z.c 7
        have g7 := HW3.out.z.f 7
        have v8 := HW3.out.z.c 8
        have g8 := HW3.out.z.f 8
        simp at v0 v1 v2 v3 v4 v5 v6 v7 v8
        have HZ := Lib.hid (nine_bx HW3.out.z r3)
        have HK := Lib.hid (nine_below HW3.out.b (b := w.heap.size + 2) (by omega) 0 r3)
        have HF := Lib.hid (show Mean (nine w3 (w.heap.size + 2) 0 r3) (· < (nine w3 (w.heap.size + 2) 0 r3).heap.size) r3 by
          have h2 := HW2.out.z.lt
          refine m3.keep (fun p hp => nine_other _ _ _ _ _ fun k _ e => ?_) fun b hb => by rw [nine_size]; exact hb.2
          have := hp.1
          rw [e] at this
          simp only at this
          omega)
        clear hb3 m3 e3 CO x1 c0 c1 c2 c3 c4 c5 c6 c7 c8
        go_wp2
        change bodyPost _ _ _ _ _ (nine w3 (w.heap.size + 2) 0 r3)
        refine bodyPost_ret (v := .tuple #[vg r3, .int .i64 0]) ?_ rfl ⟨r3, by rw [HT.out.2], by rw [HT.out.1, HE3.out], HF.out, s3, HK.out⟩
        have hx := HZ.out
        have x0 := hx.c 0
        have x1 := hx.c 1
        have x2 := hx.c 2
        have x3 := hx.c 3
        have x4 := hx.c 4
        have x5 := hx.c 5
        have x6 := hx.c 6
        have x7 := hx.c 7
        have x8 := hx.c 8
        simp at x0 x1 x2 x3 x4 x5 x6 x7 x8
        simp [results, Try.results14, go_sem, x0, x1, x2, x3, x4, x5, x6, x7, x8]
      · have HN := Lib.hid (lst_not (map_get hx) HB.out h1)
        rw [decide_eq_false h1] at C
        clear hx h1 hN hM
        go_wp2_with fail
        refine C.out.mono ?_
        rintro e w2 ⟨rfl, hb2⟩
        have HW2 := Lib.hid (HW.out.next hb2)
        clear hb2 C
        go_wp2
        go_roundw
        case rel => exact ⟨j, _, by omega, rfl, rfl, HN, HW2⟩
        case measure => simp [intOf]

end Trf
end Go.Proofs.Ythjlhjbblnoldaa
