/-
  Year of package quote: what a year of all covers costs. Conditions: the version's lists and the row of covers read as lists, and are no longer than memory.
-/
import Derived.Test.YtinhhphnbbdoeaaCost
import Derived.Test.YtinhhphnbbdoeaaAdder
import Derived.Test.YtinhhphnbbdoeaaCovers
namespace Go.Proofs.Ytinhhphnbbdoeaa
open Go.RowKit Ba Tf Cv Qm
namespace Qo
set_option linter.unusedVariables false

/-- A version's and a risk's box, and the closure's two cells behind them. -/
structure YB (w W : World) (r : Rw) (x : Ri) (s : Int) (q : Bool) : Prop where
  b : Below w.heap.size w W
  v : Bx W w.heap.size 26 (vc r)
  r : Bx W (w.heap.size + 1) 28 (rc x)
  a : Adds W (w.heap.size + 1 + 1) s q
section
variable {w W W' : World} {r : Rw} {x : Ri} {s t : Int} {b d : Bool}
theorem YB.next (h : YB w W r x s b) (hb : Below W.heap.size W W') : YB w W' r x s b := ⟨h.b.trans (hb.mono h.b.size), h.v.keep hb, h.r.keep hb, h.a.keep hb⟩
theorem YB.turn (h : YB w W r x s b) (hA : Adds W' (w.heap.size + 1 + 1) t d) (hT : Turned (w.heap.size + 1 + 1) W W') : YB w W' r x t d :=
  ⟨hT.below h.b (by omega), (hT.block _ h.v.lt (by omega) (by omega)).trans h.v, (hT.block _ h.r.lt (by omega) (by omega)).trans h.r, hA⟩
theorem YB.start {w1 : World} (w : World) (r : Rw) (x : Ri) (hA : Adds w1 ((w.alloc (.cells (vc r) 26)).alloc (.cells (rc x) 28)).heap.size 0 true)
    (hb : Below ((w.alloc (.cells (vc r) 26)).alloc (.cells (rc x) 28)).heap.size ((w.alloc (.cells (vc r) 26)).alloc (.cells (rc x) 28)) w1) : YB w w1 r x 0 true := by
  have e : ((w.alloc (.cells (vc r) 26)).alloc (.cells (rc x) 28)).heap.size = w.heap.size + 1 + 1 := by simp
  have hw : Below w.heap.size w ((w.alloc (.cells (vc r) 26)).alloc (.cells (rc x) 28)) := (alloc_ _ _).alloc (by simp) _
  refine ⟨hw.trans (hb.mono hw.size), ((Bx.new _ _ _).alloc _).keep hb, ?_, by rw [← e]; exact hA⟩
  have := Bx.new (w.alloc (.cells (vc r) 26)) 28 (rc x)
  rw [World.size_alloc] at this
  exact Bx.keep this hb
end
/-- The sum so far is what the closure keeps, as far as it fits. -/
def Sf (t s : Int) (b : Bool) : Prop := (b = true ∧ t = s) ∨ (b = false ∧ 4000000000000000000 < t)
theorem Sf.next {t s a : Int} {b : Bool} (h : Sf t s b) (hs : 0 ≤ s ∧ s ≤ 4000000000000000000) (ha : 0 ≤ a) : Sf (t + a) (nxs s a b) (nxb s a b) ∧ 0 ≤ nxs s a b ∧ nxs s a b ≤ 4000000000000000000 := by
  rcases h with ⟨rfl, rfl⟩ | ⟨rfl, h⟩
  · by_cases h1 : a ≤ 4000000000000000000 - t
    · rw [show nxs t a true = t + a by unfold nxs; rw [if_pos ⟨rfl, h1⟩], show nxb t a true = true by unfold nxb; rw [decide_eq_true h1]; rfl]
      exact ⟨.inl ⟨rfl, rfl⟩, by omega, by omega⟩
    · rw [show nxs t a true = t by unfold nxs; rw [if_neg (fun e => h1 e.2)], show nxb t a true = false by unfold nxb; rw [decide_eq_false h1]; rfl]
      exact ⟨.inr ⟨rfl, by omega⟩, by omega, by omega⟩
  · rw [show nxs s a false = s by unfold nxs; rw [if_neg (fun e => by cases e.1)], show nxb s a false = false from rfl]
    exact ⟨.inr ⟨rfl, by omega⟩, by omega, by omega⟩
theorem Sf.done {f : Co → Int × Int} {t s : Int} {b : Bool} (h : Sf t s b) (hs : s ≤ 4000000000000000000) : yr f t [] = if b = true then (s, 0) else (0, 5) := by
  rcases h with ⟨rfl, rfl⟩ | ⟨rfl, h⟩
  · rw [yr_done (by omega)]; rfl
  · rw [yr_over h]; rfl

set_option maxRecDepth 100000 in
set_option maxHeartbeats 4000000 in
theorem year (r : Rw) (x : Ri) (A : Option Addr) (n d : Nat) (cs : List Co) (w : World) (M : Mean w (· < w.heap.size) r) (S : Lo r) (hC : Cvs w (· < w.heap.size) A n cs) (hn : n ≤ maxLen) :
    Calls Try.prog 13 #[vg r, rg x, .slice A n d] w (Tells w (yr (qd r.v x) 0 cs)) := by
  unfold maxLen at hn
  have HC := Lib.hid hC
  have C := fun (c : Co) (W : World) (h : Below w.heap.size w W) => Lib.hid (cost r x c W (M.below h) S)
  have HQ := Lib.hid (qd_bd r.v x)
  generalize qd r.v x = f at C HQ ⊢
  obtain ⟨R, hR⟩ : ∃ R, yr f 0 cs = R := ⟨_, rfl⟩
  rw [hR]
  have HR := Lib.hid hR
  clear M S hC hR
  go_enter Try.func13, Try.ntmps13
  go_wp2_with fail
  refine (adder _).mono ?_
  rintro e w1 ⟨rfl, hA1, hB1⟩
  have HY := Lib.hid (YB.start w r x hA1 hB1)
  clear hA1 hB1
  go_wp2
  go_loopw [8, 9, 12, 18] (fun s8 s9 s12 i w' => ∃ (k : Nat) (s t : Int) (b : Bool) (W : World), k ≤ n ∧ i = .int .i64 (k : Int) ∧ s8 = .int .i64 s ∧ s9 = .bool b ∧ W = w' ∧ 0 ≤ s ∧ s ≤ 4000000000000000000 ∧ Hid (YB w W r x s b) ∧ Hid (yr f t (cs.drop k) = R) ∧ Hid (Sf t s b)) (fun _ _ _ i _ => n - (intOf i).toNat)
  case atStart => exact ⟨0, 0, 0, true, _, Nat.zero_le _, rfl, rfl, rfl, rfl, by omega, by omega, HY, HR, Lib.hid (.inl ⟨rfl, rfl⟩)⟩
  case round =>
    obtain ⟨k, s, t, b, W, hk, rfl, rfl, rfl, rfl, hs0, hs1, HB, HT, HF⟩ := hrel
    clear HY
    by_cases hlt : k < n
    · obtain ⟨ad, c, rfl, hb, hc, hN⟩ := (HC.out.below HB.out.b).get hlt
      have HD := Lib.hid (drop_get hc)
      obtain ⟨c0, c1, c2, c3, c4⟩ := hN
      have hlt2 : (k : Int) < (n : Int) := by omega
      obtain ⟨q1, q2, q3, q4, q5⟩ := HQ.out c
      have C1 := C c (W.alloc (.cells #[.int .i64 c.p, .int .i64 c.l, .int .i64 c.g, .int .i64 c.d, .int .i64 c.s] 30)) (HB.out.b.alloc HB.out.b.size _)
      have HB1 := Lib.hid (HB.out.next (alloc_ W (.cells #[.int .i64 c.p, .int .i64 c.l, .int .i64 c.g, .int .i64 c.d, .int .i64 c.s] 30)))
      obtain ⟨⟨m, cd⟩, hp⟩ : ∃ p, f c = p := ⟨_, rfl⟩
      rw [hp] at C1 q1 q2 q3 q4 q5
      simp only at q1 q2 q3 q4 q5
      have HE := Lib.hid (fun h : cd ≠ 0 => show R = (0, cd) by rw [← HT.out, HD.out, yr_err (by rw [hp]; exact h), hp])
      have HO := Lib.hid (fun h : cd = 0 => show yr f (t + m) (cs.drop (k + 1)) = R by rw [← HT.out, HD.out, yr_step (by rw [hp]; exact h), hp])
      clear hb hc C HT HD hp
      have x0 := HB1.out.v.c 0
      have x1 := HB1.out.v.c 1
      have x2 := HB1.out.v.c 2
      have x3 := HB1.out.v.c 3
      have x4 := HB1.out.v.c 4
      have x5 := HB1.out.v.c 5
      have x6 := HB1.out.v.c 6
      have x7 := HB1.out.v.c 7
      have x8 := HB1.out.v.c 8
      have y0 := HB1.out.r.c 0
      have y1 := HB1.out.r.c 1
      have y2 := HB1.out.r.c 2
      have y3 := HB1.out.r.c 3
      simp at x0 x1 x2 x3 x4 x5 x6 x7 x8 y0 y1 y2 y3
      go_wp2_with fail
      refine C1.out.mono ?_
      rintro e w2 ⟨rfl, hb2⟩
      have HB2 := Lib.hid (HB1.out.next hb2)
      clear hb2 HB1 C1 HB c0 c1 c2 c3 c4 x0 x1 x2 x3 x4 x5 x6 x7 x8 y0 y1 y2 y3
      by_cases hcd : cd = 0
      · subst hcd
        have C2 := Lib.hid (add _ s m b w2 HB2.out.a ⟨hs0, hs1⟩ ⟨q1, q2⟩)
        have HG := Lib.hid (HF.out.next ⟨hs0, hs1⟩ q1)
        have HO2 := Lib.hid (HO.out rfl)
        generalize nxs s m b = s' at C2 HG
        generalize nxb s m b = b' at C2 HG
        clear HE HO HF q5
        go_wp2_with fail
        refine C2.out.mono ?_
        rintro e w3 ⟨rfl, hA3, hT3⟩
        have HB3 := Lib.hid (HB2.out.turn hA3 hT3)
        clear hA3 hT3 C2 HB2
        go_wp2
        go_roundw
        case rel => exact ⟨k + 1, s', _, b', _, by omega, by go_num, rfl, rfl, rfl, HG.out.2.1, HG.out.2.2, HB3, HO2, Lib.hid HG.out.1⟩
        case measure => simp [intOf]; omega
      · have t1 : (cd == 0) = false := by rw [beq_eq_false_iff_ne]; exact hcd
        have HE2 := Lib.hid (HE.out hcd)
        clear HO HE hcd
        go_wp2
        go_ret2
        exact ⟨by rw [HE2.out]; rfl, HB2.out.b⟩
    · have HE := Lib.hid (show R = if b = true then (s, 0) else (0, 5) by rw [← HT.out, List.drop_of_length_le (by rw [HC.out.1]; omega)]; exact HF.out.done hs1)
      cases b with
      | true =>
        go_wp2
        go_ret2
        exact ⟨by rw [HE.out]; rfl, HB.out.b⟩
      | false =>
        go_wp2
        go_ret2
        exact ⟨by rw [HE.out]; rfl, HB.out.b⟩
end Qo
end Go.Proofs.Ytinhhphnbbdoeaa
