/-
  The document's At. Conditions: those of each theorem.
-/
import Derived.Test.YtkdhcloaeifbdaaGreatKTAt
namespace Go.Proofs.YtkdhcloaeifbdaaGreat
open Go.RowKit Ba Tf
namespace Trf
set_option linter.unusedVariables false

/-- The two boxes. -/
structure D0 (w w1 : World) (A : Option Addr) (n c : Nat) : Prop where
  b : Below w.heap.size w w1
  x : Bx w1 w.heap.size 34 #[.slice A n c]
  z : Bx w1 (w.heap.size + 1) 58 zc
theorem D0.start {w : World} {A : Option Addr} {n c : Nat} : D0 w ((w.alloc (.cells #[.slice A n c] 34)).alloc (.cells zc 58)) A n c := by
  refine ⟨(alloc_ _ _).alloc (by simp) _, (Bx.new _ _ _).alloc _, ?_⟩
  have := Bx.new (w.alloc (.cells #[.slice A n c] 34)) 58 zc
  rw [World.size_alloc] at this
  exact this

set_option maxRecDepth 100000 in
set_option maxHeartbeats 4000000 in
theorem rat (A : Option Addr) (n c : Nat) (rs : List Rw) (day : Int) (w : World) (hS : Vers w A n rs) (hn : n ≤ 1000) :
    Calls Tryz.prog 29 #[tg A n c, .int .i64 day] w (AtTo w day (rs.map Rw.v)) := by
  have hl := hS.len
  have HS := Lib.hid hS
  have HL := Lib.hid hl
  obtain ⟨W, hW⟩ : ∃ W, (w.alloc (.cells #[.slice A n c] 34)).alloc (.cells zc 58) = W := ⟨_, rfl⟩
  have HW := Lib.hid (show D0 w W A n c by rw [← hW]; exact D0.start)
  have HE := Lib.hid hW
  clear hS hl hW
  go_enter Tryz.func29, Tryz.ntmps29
  go_wp2
  rw [HE.out]
  have x0 := HW.out.x.c 0
  simp at x0
  have v0 := HW.out.z.c 0
  have g0 := HW.out.z.f 0
  have v1 := HW.out.z.c 1
  have g1 := HW.out.z.f 1
  have v2 := HW.out.z.c 2
  have g2 := HW.out.z.f 2
  have v3 := HW.out.z.c 3
  have g3 := HW.out.z.f 3
  have v4 := HW.out.z.c 4
  have g4 := HW.out.z.f 4
  have v5 := HW.out.z.c 5
  have g5 := HW.out.z.f 5
  have v6 := HW.out.z.c 6
  have g6 := HW.out.z.f 6
  have v7 := HW.out.z.c 7
  have g7 := HW.out.z.f 7
  have v8 := HW.out.z.c 8
  have g8 := HW.out.z.f 8
  simp at v0 v1 v2 v3 v4 v5 v6 v7 v8
  go_loop [6] (fun i => ∃ (k : Nat), k ≤ n ∧ i = .int .i64 ((k : Int) - 1) ∧ Hid (lst day ((rs.map Rw.v).drop k) = none)) (fun i => ((intOf i) + 1).toNat)
  case atStart => exact ⟨n, Nat.le_refl _, rfl, Lib.hid (by rw [List.drop_of_length_le (by rw [HL.out]; omega)]; rfl)⟩
  case round =>
    obtain ⟨k, hk, rfl, HB⟩ := hrel
    cases k with
    | zero =>
      have HT := Lib.hid (tol_none (show lst day (rs.map Rw.v) = none from HB.out))
      have HZ := Lib.hid (nine_bx HW.out.z zr)
      have HK := Lib.hid (nine_below HW.out.b (b := w.heap.size + 1) (by omega) 0 zr)
      rw [show ((0 : Nat) : Int) - 1 = -1 from rfl]
      go_wp2
      change bodyPost _ _ _ _ _ (nine W (w.heap.size + 1) 0 zr)
      refine bodyPost_ret (v := .tuple #[vg zr, .int .i64 7]) ?_ rfl ⟨zr, by rw [HT.out.2], HT.out.1.symm, zr_mean _ _, zr_sm, HK.out⟩
      have hx : Bx (nine W (w.heap.size + 1) 0 zr) (w.heap.size + 1) 58 zc := HZ.out
      have x0 := hx.c 0
      have x1 := hx.c 1
      have x2 := hx.c 2
      have x3 := hx.c 3
      have x4 := hx.c 4
      have x5 := hx.c 5
      have x6 := hx.c 6
      have x7 := hx.c 7
      have x8 := hx.c 8
      simp at x0 x1 x2 x3 x4 x5 x6 x7 x8
      simp [results, Tryz.results29, go_sem, x0, x1, x2, x3, x4, x5, x6, x7, x8]
      exact ⟨rfl, rfl, rfl, rfl, rfl, ⟨rfl, rfl, rfl⟩, ⟨rfl, rfl, rfl⟩, ⟨rfl, rfl, rfl⟩, rfl⟩
    | succ j =>
      have hj : j < n := by omega
      obtain ⟨ad, r, rfl, hb, hx, hN0, hM, hSm⟩ := HS.out.get hj
      have hN : Nin W (ad.add (j * 9)) r := hN0.keep fun p hp => HW.out.b.cell (by rw [hp, add_block]; exact hb)
      have hj2 : (j : Int) < (n : Int) := by omega
      have e1 : ((j + 1 : Nat) : Int) - 1 = (j : Int) := by omega
      rw [e1]
      clear e1 hN0
      by_cases h1 : r.v.fr ≤ day
      · have HT := Lib.hid (tol_some (lst_at (map_get hx) HB.out h1))
        have t1 : decide (r.v.fr ≤ day) = true := decide_eq_true h1
        obtain ⟨c0, c1, c2, c3, c4, c5, c6, c7, c8⟩ := hN
        have HZ := Lib.hid (nine_bx HW.out.z r)
        have HK := Lib.hid (nine_below HW.out.b (b := w.heap.size + 1) (by omega) 0 r)
        have HF := Lib.hid (show Mean (nine W (w.heap.size + 1) 0 r) (· < (nine W (w.heap.size + 1) 0 r).heap.size) r by
          have h2 := HW.out.z.lt
          refine hM.keep (fun p hp => (nine_other _ _ _ _ _ fun k _ e => ?_).trans (HW.out.b.cell hp)) fun b hb => by rw [nine_size]; exact Nat.lt_of_lt_of_le hb HW.out.b.size
          rw [e] at hp
          simp only at hp
          omega)
        clear h1 hx hM hb
        go_wp2
        change bodyPost _ _ _ _ _ (nine W (w.heap.size + 1) 0 r)
        refine bodyPost_ret (v := .tuple #[vg r, .int .i64 0]) ?_ rfl ⟨r, by rw [HT.out.2], HT.out.1.symm, HF.out, hSm, HK.out⟩
        have hx := HZ.out
        have x0 := hx.c 0
        have x1 := hx.c 1
        have x2 := hx.c 2
        have x3 := hx.c 3
        have x4 := hx.c 4
        have x5 := hx.c 5
        have x6 := hx.c 6
        have x7 := hx.c 7
        have x8 := hx.c 8
        simp at x0 x1 x2 x3 x4 x5 x6 x7 x8
        simp [results, Tryz.results29, go_sem, x0, x1, x2, x3, x4, x5, x6, x7, x8]
      · have HN := Lib.hid (lst_not (map_get hx) HB.out h1)
        have t1 : decide (r.v.fr ≤ day) = false := decide_eq_false h1
        have c0 := hN.c0
        clear h1 hx hM hb hN
        go_wp2
        go_round
        case rel => exact ⟨j, by omega, rfl, HN⟩
        case measure => simp [intOf]

end Trf
end Go.Proofs.YtkdhcloaeifbdaaGreat
