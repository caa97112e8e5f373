/-
  slices.Concat of three rows of versions. Conditions: the version's lists read as lists, and are short.
-/
import Derived.Test.YthjlhjbblnoldaaApp
namespace Go.Proofs.Ythjlhjbblnoldaa
open Go.RowKit Ba Tf
namespace Trf
set_option linter.unusedVariables false

/-- What Concat gives. -/
def ConTo (w : World) (N : Nat) (rs : List Rw) (e : Ending) (w' : World) : Prop := ∃ g c, e = .returned (.slice (some ⟨g, 0, none⟩) N c) ∧ Own w' w.heap.size (some ⟨g, 0, none⟩) N c rs ∧ w.heap.size ≤ g ∧ g < w'.heap.size ∧ Below w.heap.size w w'
theorem Own.grown {w w1 w2 : World} {A : Option Addr} {n c : Nat} {xs : List Rw} (h : Own w1 w.heap.size A n c xs) (hb : Below w.heap.size w w1) (hg : w1.grownBy w2 (Value.slice A n c).ownBlock) : Below w.heap.size w w2 :=
  hb.grown hg hb.size fun j hj => (h.lt j hj).1

set_option maxRecDepth 100000 in
set_option maxHeartbeats 4000000 in
theorem concat (s : Nat) (A B C : Option Addr) (n1 c1 n2 c2 n3 c3 N : Nat) (r1 r2 r3 : List Rw) (w : World) (hs : Bx w s 27 #[.slice A n1 c1, .slice B n2 c2, .slice C n3 c3])
    (hA : Raws w (· < w.heap.size) A n1 r1) (hB : Raws w (· < w.heap.size) B n2 r2) (hC : Raws w (· < w.heap.size) C n3 r3) (zA : A = none → n1 = 0 ∧ c1 = 0) (zB : B = none → n2 = 0 ∧ c2 = 0) (zC : C = none → n3 = 0 ∧ c3 = 0) (hN : n1 + n2 + n3 = N) (h0 : 0 < N) (hn : N ≤ 1000) :
    Calls Try.prog 31 #[.slice (some ⟨s, 0, none⟩) 3 3] w (ConTo w N (r1 ++ r2 ++ r3)) := by
  have y0 := hs.c 0
  have y1 := hs.c 1
  have y2 := hs.c 2
  simp at y0 y1 y2
  have HS := Lib.hid hs
  have HA := Lib.hid hA
  have HB := Lib.hid hB
  have HC := Lib.hid hC
  have HZ := Lib.hid (And.intro zA (And.intro zB zC))
  obtain ⟨M, hM⟩ : ∃ M, n1 + n2 = M := ⟨_, rfl⟩
  have a1 : (n1 : Int) + (n2 : Int) = (M : Int) := by omega
  have a2 : (M : Int) + (n3 : Int) = (N : Int) := by omega
  have b1 : n1 ≤ 1000 := by omega
  have b2 : M ≤ 1000 := by omega
  have t1 : decide ((n1 : Int) < 0) = false := decide_eq_false (by omega)
  have t2 : decide ((M : Int) < 0) = false := decide_eq_false (by omega)
  have t3 : decide ((N : Int) < 0) = false := decide_eq_false (by omega)
  have HM := Lib.hid hM
  have HN := Lib.hid hN
  clear hs hA hB hC zA zB zC hM hN
  go_enter Try.func31, Try.ntmps31
  go_wp2
  go_loop [3, 5, 11] (fun z s5 i => (i = .int .i64 0 ∧ z = .int .i64 0) ∨ (i = .int .i64 1 ∧ z = .int .i64 (n1 : Int)) ∨ (i = .int .i64 2 ∧ z = .int .i64 (M : Int)) ∨ (i = .int .i64 3 ∧ z = .int .i64 (N : Int))) (fun _ _ i => 3 - (intOf i).toNat)
  case atStart => exact .inl ⟨rfl, rfl⟩
  case round =>
    rcases hrel with ⟨rfl, rfl⟩ | ⟨rfl, rfl⟩ | ⟨rfl, rfl⟩ | ⟨rfl, rfl⟩
    · go_wp2
      go_round
      case rel => exact .inr (.inl ⟨rfl, rfl⟩)
      case measure => simp [intOf]
    · go_wp2
      go_round
      case rel => exact .inr (.inr (.inl ⟨rfl, rfl⟩))
      case measure => simp [intOf]
    · go_wp2
      go_round
      case rel => exact .inr (.inr (.inr ⟨rfl, rfl⟩))
      case measure => simp [intOf]
    · go_wp2_with fail
      refine (grow_ N h0 hn w).mono ?_
      rintro e w1 ⟨cg, rfl, hO, hb⟩
      have HO := Lib.hid hO
      have HB1 := Lib.hid hb
      clear hO hb y0 y1 y2
      go_wp2
      go_loopw [6, 8, 27] (fun z s8 i w' => ∃ (w2 : World) (D : Option Addr) (d : Nat), w2 = w' ∧ Hid (Below w.heap.size w w2) ∧ ((i = .int .i64 0 ∧ z = .slice D 0 d ∧ Hid (Own w2 w.heap.size D 0 d [])) ∨ (i = .int .i64 1 ∧ z = .slice D n1 d ∧ Hid (Own w2 w.heap.size D n1 d r1)) ∨ (i = .int .i64 2 ∧ z = .slice D M d ∧ Hid (Own w2 w.heap.size D M d (r1 ++ r2))) ∨ (i = .int .i64 3 ∧ z = .slice D N d ∧ Hid (Own w2 w.heap.size D N d (r1 ++ r2 ++ r3))))) (fun _ _ i _ => 3 - (intOf i).toNat)
      case atStart => exact ⟨_, _, _, rfl, HB1, .inl ⟨rfl, rfl, HO⟩⟩
      case round =>
        obtain ⟨w2, D, d, rfl, HB2, hrel⟩ := hrel
        have y0 := (HS.out.keep HB2.out).c 0
        have y1 := (HS.out.keep HB2.out).c 1
        have y2 := (HS.out.keep HB2.out).c 2
        simp at y0 y1 y2
        clear HO HB1
        rcases hrel with ⟨rfl, rfl, HO⟩ | ⟨rfl, rfl, HO⟩ | ⟨rfl, rfl, HO⟩ | ⟨rfl, rfl, HO⟩
        · go_wp2_with (at_builtin; refine wpList_app _ rfl _ _ rfl w.heap.size D 0 d [] rfl HO.out (· < w.heap.size) A n1 c1 r1 rfl (HA.out.keep (fun p hp => HB2.out.cell hp) fun _ h => h) HZ.out.1 n1 (by omega) (by omega) HB2.out.size ?_; intro D2 d2 w3 hO3 hg3; have HO3 := Lib.hid hO3; have HB3 := Lib.hid (HO.out.grown HB2.out hg3); clear hO3 hg3)
          go_roundw
          case rel => exact ⟨_, _, _, rfl, HB3, .inr (.inl ⟨rfl, rfl, HO3⟩)⟩
          case measure => simp [intOf]
        · go_wp2_with (at_builtin; refine wpList_app _ rfl _ _ rfl w.heap.size D n1 d r1 rfl HO.out (· < w.heap.size) B n2 c2 r2 rfl (HB.out.keep (fun p hp => HB2.out.cell hp) fun _ h => h) HZ.out.2.1 M (HM.out) (by omega) HB2.out.size ?_; intro D2 d2 w3 hO3 hg3; have HO3 := Lib.hid hO3; have HB3 := Lib.hid (HO.out.grown HB2.out hg3); clear hO3 hg3)
          go_roundw
          case rel => exact ⟨_, _, _, rfl, HB3, .inr (.inr (.inl ⟨rfl, rfl, HO3⟩))⟩
          case measure => simp [intOf]
        · go_wp2_with (at_builtin; refine wpList_app _ rfl _ _ rfl w.heap.size D M d (r1 ++ r2) rfl HO.out (· < w.heap.size) C n3 c3 r3 rfl (HC.out.keep (fun p hp => HB2.out.cell hp) fun _ h => h) HZ.out.2.2 N (by have := HN.out; have := HM.out; omega) (by omega) HB2.out.size ?_; intro D2 d2 w3 hO3 hg3; have HO3 := Lib.hid hO3; have HB3 := Lib.hid (HO.out.grown HB2.out hg3); clear hO3 hg3)
          go_roundw
          case rel => exact ⟨_, _, _, rfl, HB3, .inr (.inr (.inr ⟨rfl, rfl, HO3⟩))⟩
          case measure => simp [intOf]
        · go_wp2
          go_ret
          obtain ⟨g, cap, e, hlo, hlt⟩ := HO.out.form h0
          injection e with e1 e2 e3
          subst e1 e3
          exact ⟨g, d, rfl, HO.out, hlo, hlt, HB2.out⟩

end Trf
end Go.Proofs.Ythjlhjbblnoldaa
