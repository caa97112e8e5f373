/-
  The parts R15o, R15v, R15t, R15q, R15n, R15f of this proof. Conditions: those of each theorem.
-/
import Derived.Test.YtfidmphajohljaaGreatHq
import Derived.Test.YtfidmphajohljaaGreatKChP
import Derived.Lib.AppendZeros
import Derived.Test.YtfidmphajohljaaGreatMRda
import Derived.Test.YtfidmphajohljaaGreatMPl
import Derived.Test.YtfidmphajohljaaGreatMQb
import Derived.WalkMore
import Derived.ScopeJumps
set_option maxRecDepth 100000
set_option maxHeartbeats 4000000
set_option linter.unusedVariables false
namespace Go.Proofs.YtfidmphajohljaaGreat
open Go.RowKit Ba Cv Sp Te Ag Tm
namespace Tm
theorem run_zeros (w : World) (ty : TypeId) (n : Nat) (h0 : 0 < n) (hn : n ≤ 3000) : ∃ cap w', (Builtin.append_ #[29, 3] ty #[.slice none 0 0, .int .i64 (n : Int)]).run Tryz.prog w = .ok (.slice (some ⟨w.heap.size, 0, none⟩) n cap) w' ∧ Own w' w.heap.size (some ⟨w.heap.size, 0, none⟩) 0 cap [] ∧ n ≤ cap ∧ Below w.heap.size w w' := by
 obtain ⟨i, hi, hz, h1, h2⟩ := info_parts info_change; refine ⟨_, _, Lib.run_append_nil_zeros (P := Tryz.prog) w 29 3 ty 41 i _ .i64 .i64 Tryz.underlying29 Tryz.underlying3 hi hz n h0 (by omega) (by omega) (by rw [h2]; omega), ?_, grownCap_ge _ _ _ _, ?_⟩
 ·refine ⟨rfl, .inr ⟨w.heap.size, _, _, rfl, Nat.le_refl _, heap_alloc_new w.drew _, Nat.zero_le _, grownCap_le_maxLen _ _ _ _ (by unfold maxLen; omega), ?_, by simp [cel]⟩⟩; have := grownCap_ge w n 0 41; simp only [Array.size_append, size_zeroCells]; rw [show (Value.agg zc).cells.size = 9 from rfl]; omega
 ·exact (⟨rfl, rfl, rfl, Nat.le_refl _, fun _ _ => rfl⟩ : Below w.heap.size w w.drew).alloc (Nat.le_refl _) _
def GrTo (w : World) (e : Ending) (w' : World) : Prop := ∃ A c, e = .returned (.slice A 0 c) ∧ Own w' w.heap.size A 0 c [] ∧ Below w.heap.size w w'
theorem grow_ (n : Nat) (hn : n ≤ 3000) (w : World) :
  Calls Tryz.prog 90 #[.slice none 0 0, .int .i64 (n : Int)] w (GrTo w) := by
 have t1 : decide ((n : Int) < 0) = false := decide_eq_false (by omega); rcases Nat.eq_zero_or_pos n with rfl | h0
 ·have t2 : decide (0 < ((0 : Nat) : Int)) = false := by decide
  have R := qh (show GrTo w (.returned (.slice none 0 0)) w from ⟨none, 0, rfl, Own.nil, Below.refl _ _⟩); go_enter Tryz.func90, Tryz.ntmps90; go_wp2; go_ret; exact R.out
 have t2 : decide (0 < (n : Int)) = true := decide_eq_true (by omega); have t2' : decide (0 < n) = true := decide_eq_true h0; go_enter Tryz.func90, Tryz.ntmps90
 go_wp2_with (at_builtin; obtain ⟨cap, w', hr, hO, hcap, hB⟩ := run_zeros w 29 n h0 hn; have HO := qh hO; have HB := qh hB; refine Lib.wpList_append_run _ rfl _ _ _ _ rfl _ _ rfl rfl _ _ hr ?_; clear hr hO hB)
 go_ret; exact ⟨some ⟨w.heap.size, 0, none⟩, cap, rfl, HO.out, HB.out⟩
def ConTo (w : World) (N : Nat) (rs : List Rw) (e : Ending) (w' : World) : Prop := ∃ A c, e = .returned (.slice A N c) ∧ Own w' w.heap.size A N c rs ∧ Below w.heap.size w w'
theorem Own.grown {w w1 w2 : World} {A : Option Addr} {n c : Nat} {xs : List Rw} (h : Own w1 w.heap.size A n c xs) (hb : Below w.heap.size w w1) (hg : w1.grownBy w2 (Value.slice A n c).ownBlock) : Below w.heap.size w w2 :=
 hb.grown hg hb.size fun j hj => (h.lt j hj).1
theorem concat2 (s : Nat) (A B : Option Addr) (n1 c1 n2 c2 N : Nat) (r1 r2 : List Rw) (w : World) (hs : Bx w s 29 #[.slice A n1 c1, .slice B n2 c2])
  (hA : Raws w (· < w.heap.size) A n1 r1) (hB : Raws w (· < w.heap.size) B n2 r2) (zA : A = none → n1 = 0 ∧ c1 = 0) (zB : B = none → n2 = 0 ∧ c2 = 0) (hN : n1 + n2 = N) (hn : N ≤ 2000) :
  Calls Tryz.prog 54 #[.slice (some ⟨s, 0, none⟩) 2 2] w (ConTo w N (r1 ++ r2)) := by
 have y0 := hs.c 0; have y1 := hs.c 1; simp at y0 y1; have HS := qh hs; have HA := qh hA; have HB := qh hB; have HZ := qh (And.intro zA zB); have a1 : (n1 : Int) + (n2 : Int) = (N : Int) := by omega
 have b1 : n1 ≤ 2000 := by omega
 have b3 : N ≤ 2000 := hn; have t1 : decide ((n1 : Int) < 0) = false := decide_eq_false (by omega); have t3 : decide ((N : Int) < 0) = false := decide_eq_false (by omega); have HN := qh hN; clear hs hA hB zA zB hN; go_enter Tryz.func54, Tryz.ntmps54; go_wp2
 go_loop [3, 5, 11] (fun z s5 i => (i = .int .i64 0 ∧ z = .int .i64 0) ∨ (i = .int .i64 1 ∧ z = .int .i64 (n1 : Int)) ∨ (i = .int .i64 2 ∧ z = .int .i64 (N : Int))) (fun _ _ i => 2 - (intOf i).toNat)
 case atStart => exact .inl ⟨rfl, rfl⟩
 case round =>
  rcases hrel with ⟨rfl, rfl⟩ | ⟨rfl, rfl⟩ | ⟨rfl, rfl⟩
  ·go_wp2
   go_round
   case rel => exact .inr (.inl ⟨rfl, rfl⟩)
   case measure => simp [intOf]
  ·go_wp2
   go_round
   case rel => exact .inr (.inr ⟨rfl, rfl⟩)
   case measure => simp [intOf]
  ·go_wp2_with fail
   refine (grow_ N (by omega) w).mono ?_; rintro e w1 ⟨Ag, cg, rfl, hO, hb⟩; have HO := qh hO; have HB1 := qh hb; clear hO hb y0 y1; go_wp2
   go_loopw [6, 8, 27] (fun z s8 i w' => ∃ (w2 : World) (D : Option Addr) (d : Nat), w2 = w' ∧ Hid (Below w.heap.size w w2) ∧ ((i = .int .i64 0 ∧ z = .slice D 0 d ∧ Hid (Own w2 w.heap.size D 0 d [])) ∨ (i = .int .i64 1 ∧ z = .slice D n1 d ∧ Hid (Own w2 w.heap.size D n1 d r1)) ∨ (i = .int .i64 2 ∧ z = .slice D N d ∧ Hid (Own w2 w.heap.size D N d (r1 ++ r2))))) (fun _ _ i _ => 2 - (intOf i).toNat)
   case atStart => exact ⟨_, _, _, rfl, HB1, .inl ⟨rfl, rfl, HO⟩⟩
   case round =>
    obtain ⟨w2, D, d, rfl, HB2, hrel⟩ := hrel; have y0 := (HS.out.keep HB2.out).c 0; have y1 := (HS.out.keep HB2.out).c 1; simp at y0 y1; clear HO HB1; rcases hrel with ⟨rfl, rfl, HO⟩ | ⟨rfl, rfl, HO⟩ | ⟨rfl, rfl, HO⟩
    ·go_wp2_with (at_builtin; refine wpList_app _ rfl _ _ rfl w.heap.size D 0 d [] rfl HO.out (· < w.heap.size) A n1 c1 r1 rfl (HA.out.keep (fun p hp => HB2.out.cell hp) fun _ h => h) HZ.out.1 n1 (by omega) (by omega) HB2.out.size ?_; intro D2 d2 w3 hO3 hg3; have HO3 := qh hO3; have HB3 := qh (HO.out.grown HB2.out hg3); clear hO3 hg3)
     go_roundw
     case rel => exact ⟨_, _, _, rfl, HB3, .inr (.inl ⟨rfl, rfl, HO3⟩)⟩
     case measure => simp [intOf]
    ·go_wp2_with (at_builtin; refine wpList_app _ rfl _ _ rfl w.heap.size D n1 d r1 rfl HO.out (· < w.heap.size) B n2 c2 r2 rfl (HB.out.keep (fun p hp => HB2.out.cell hp) fun _ h => h) HZ.out.2 N (HN.out) (by omega) HB2.out.size ?_; intro D2 d2 w3 hO3 hg3; have HO3 := qh hO3; have HB3 := qh (HO.out.grown HB2.out hg3); clear hO3 hg3)
     go_roundw
     case rel => exact ⟨_, _, _, rfl, HB3, .inr (.inr ⟨rfl, rfl, HO3⟩)⟩
     case measure => simp [intOf]
    ·go_wp2; go_ret; exact ⟨D, d, rfl, HO.out, HB2.out⟩
end Tm
end Go.Proofs.YtfidmphajohljaaGreat
namespace Go.Proofs.YtfidmphajohljaaGreat
open Go.RowKit Ba Cv Sp Te Ag Tf Sl Tm
namespace Rfd
structure F2 (w W : World) (h : Hr) : Prop where
 b : Below w.heap.size w W
 x : Bx W w.heap.size 31 (hc h)
 y : Bx W (w.heap.size + 1) 31 zhc
theorem F2.start (w : World) (h : Hr) : F2 w ((w.alloc (.cells (hc h) 31)).alloc (.cells zhc 31)) h := by
 refine ⟨(alloc_ _ _).alloc (by simp) _, (Bx.new _ _ _).alloc _, ?_⟩; have := Bx.new (w.alloc (.cells (hc h) 31)) 31 zhc; rw [World.size_alloc] at this; exact this
theorem rw_take {w : World} {ok : Nat → Prop} {A : Option Addr} {n p : Nat} {rs : List Rw} (h : Raws w ok A n rs) (hp : p ≤ n) : Raws w ok A p (rs.take p) := by
 refine ⟨by rw [List.length_take, h.1]; omega, fun h0 => ?_⟩; obtain ⟨ad, e, hb, hc⟩ := h.2 (by omega); refine ⟨ad, e, hb, fun j x hx => hc j x ?_⟩; rw [List.getElem?_take] at hx; split at hx
 ·exact hx
 ·cases hx
theorem rw_drop {w : World} {ok : Nat → Prop} {ad : Addr} {n p d : Nat} {rs : List Rw} (h : Raws w ok (some ad) n rs) (hp : p ≤ n) (hd : n ≤ d) : Raws w ok (some (if d = p then ad else ad.add (p * 9))) (n - p) (rs.drop p) := by
 refine ⟨by rw [List.length_drop, h.1], fun h0 => ?_⟩; rw [if_neg (show ¬ d = p by omega)]; obtain ⟨ad', e, hb, hc⟩ := h.2 (by omega); injection e with e
 subst e; refine ⟨_, rfl, by rw [add_block]; exact hb, fun j x hx => ?_⟩; rw [List.getElem?_drop] at hx; have := hc _ _ hx; rw [add_add]; rwa [show p * 9 + j * 9 = (p + j) * 9 by omega]
structure V12 (w : World) (h : Hr) (ad : Addr) (j q : Nat) (P : Addr) (M D N : Nat) (rs : List Rw) (L : Nat → Bool) (w' : World) (v5 v6 v7 v8 v9 v10 v11 v12 v13 v14 v15 v16 : Value) : Prop where
 b : Below w.heap.size w w'
 sz : w.heap.size + 2 ≤ w'.heap.size
 y : Bx w' (w.heap.size + 1) 31 zhc
 x : L 12 = false → Bx w' w.heap.size 31 (hc h)
 f0 : L 0 = true → v5 = .pointer (some ⟨w.heap.size, 9, none⟩)
 f1 : L 1 = true → v6 = .slice (some ad) h.m h.d
 f2 : L 2 = true → v7 = .int .i64 (j : Int)
 f3 : L 3 = true → v8 = .slice (some ad) j h.d
 f4 : L 4 = true → v9 = .pointer (some ⟨w.heap.size, 9, none⟩)
 f5 : L 5 = true → v10 = .slice (some ad) h.m h.d
 f6 : L 6 = true → v11 = .int .i64 (j : Int)
 f7 : L 7 = true → v12 = .int .i64 (q : Int)
 f8 : L 8 = true → v13 = .slice (some P) M D
 f9 : L 9 = true → ∃ g, v14 = .slice (some ⟨g, 0, none⟩) 2 2 ∧ (L 10 = false → Bx w' g 29 #[.slice (some ad) j h.d, .slice (some P) M D])
 f10 : L 10 = true → ∃ A c, v15 = .slice A N c ∧ Tm.Own w' (w.heap.size + 2) A N c rs ∧ (L 12 = true → Bx w' w.heap.size 31 (hc (h.more A N c rs)))
 f11 : L 11 = true → v16 = .pointer (some ⟨w.heap.size, 9, none⟩)
 f12 : L 12 = true → True
 d3_1 : L 3 = true → L 1 = true
 d8_5 : L 8 = true → L 5 = true
 d9_3 : L 9 = true → L 3 = true
 d9_8 : L 9 = true → L 8 = true
 d10_9 : L 10 = true → L 9 = true
 d12_10 : L 12 = true → L 10 = true
section
variable {w : World} {h : Hr} {ad : Addr} {j q : Nat} {P : Addr} {M D N : Nat} {rs : List Rw} {L : Nat → Bool} {w' w2 : World} {v5 v6 v7 v8 v9 v10 v11 v12 v13 v14 v15 v16 : Value}
theorem V12.up (H : V12 w h ad j q P M D N rs L w' v5 v6 v7 v8 v9 v10 v11 v12 v13 v14 v15 v16) (hb : Below w'.heap.size w' w2) : V12 w h ad j q P M D N rs L w2 v5 v6 v7 v8 v9 v10 v11 v12 v13 v14 v15 v16 :=
 ⟨H.b.trans (hb.mono H.b.size), Nat.le_trans H.sz hb.size, H.y.keep hb, (fun l => (H.x l).keep hb), H.f0, H.f1, H.f2, H.f3, H.f4, H.f5, H.f6, H.f7, H.f8, (fun l => by obtain ⟨g, e, h1⟩ := H.f9 l; exact ⟨g, e, fun l3 => (h1 l3).keep hb⟩), (fun l => by obtain ⟨A1, c1, e, h1, h2⟩ := H.f10 l; exact ⟨A1, c1, e, h1.below hb, fun l3 => (h2 l3).keep hb⟩), H.f11, H.f12, H.d3_1, H.d8_5, H.d9_3, H.d9_8, H.d10_9, H.d12_10⟩
theorem V12.s0 (H : V12 w h ad j q P M D N rs L w' v5 v6 v7 v8 v9 v10 v11 v12 v13 v14 v15 v16) {z : Value} (k : z = .pointer (some ⟨w.heap.size, 9, none⟩)) : V12 w h ad j q P M D N rs (fun j => j == 0 || L j) w' z v6 v7 v8 v9 v10 v11 v12 v13 v14 v15 v16 := ⟨H.b, H.sz, H.y, H.x, fun _ => k, H.f1, H.f2, H.f3, H.f4, H.f5, H.f6, H.f7, H.f8, H.f9, H.f10, H.f11, H.f12, H.d3_1, H.d8_5, H.d9_3, H.d9_8, H.d10_9, H.d12_10⟩
theorem V12.s1 (H : V12 w h ad j q P M D N rs L w' v5 v6 v7 v8 v9 v10 v11 v12 v13 v14 v15 v16) {z : Value} (k : z = .slice (some ad) h.m h.d) : V12 w h ad j q P M D N rs (fun j => j == 1 || L j) w' v5 z v7 v8 v9 v10 v11 v12 v13 v14 v15 v16 := ⟨H.b, H.sz, H.y, H.x, H.f0, fun _ => k, H.f2, H.f3, H.f4, H.f5, H.f6, H.f7, H.f8, H.f9, H.f10, H.f11, H.f12, fun _ => rfl, H.d8_5, H.d9_3, H.d9_8, H.d10_9, H.d12_10⟩
theorem V12.s2 (H : V12 w h ad j q P M D N rs L w' v5 v6 v7 v8 v9 v10 v11 v12 v13 v14 v15 v16) {z : Value} (k : z = .int .i64 (j : Int)) : V12 w h ad j q P M D N rs (fun j => j == 2 || L j) w' v5 v6 z v8 v9 v10 v11 v12 v13 v14 v15 v16 := ⟨H.b, H.sz, H.y, H.x, H.f0, H.f1, fun _ => k, H.f3, H.f4, H.f5, H.f6, H.f7, H.f8, H.f9, H.f10, H.f11, H.f12, H.d3_1, H.d8_5, H.d9_3, H.d9_8, H.d10_9, H.d12_10⟩
theorem V12.s3 (H : V12 w h ad j q P M D N rs L w' v5 v6 v7 v8 v9 v10 v11 v12 v13 v14 v15 v16) {z : Value} (k : z = .slice (some ad) j h.d) (d3_13 : L 1 = true) : V12 w h ad j q P M D N rs (fun j => j == 3 || L j) w' v5 v6 v7 z v9 v10 v11 v12 v13 v14 v15 v16 := ⟨H.b, H.sz, H.y, H.x, H.f0, H.f1, H.f2, fun _ => k, H.f4, H.f5, H.f6, H.f7, H.f8, H.f9, H.f10, H.f11, H.f12, fun _ => d3_13, H.d8_5, fun _ => rfl, H.d9_8, H.d10_9, H.d12_10⟩
theorem V12.s4 (H : V12 w h ad j q P M D N rs L w' v5 v6 v7 v8 v9 v10 v11 v12 v13 v14 v15 v16) {z : Value} (k : z = .pointer (some ⟨w.heap.size, 9, none⟩)) : V12 w h ad j q P M D N rs (fun j => j == 4 || L j) w' v5 v6 v7 v8 z v10 v11 v12 v13 v14 v15 v16 := ⟨H.b, H.sz, H.y, H.x, H.f0, H.f1, H.f2, H.f3, fun _ => k, H.f5, H.f6, H.f7, H.f8, H.f9, H.f10, H.f11, H.f12, H.d3_1, H.d8_5, H.d9_3, H.d9_8, H.d10_9, H.d12_10⟩
theorem V12.s5 (H : V12 w h ad j q P M D N rs L w' v5 v6 v7 v8 v9 v10 v11 v12 v13 v14 v15 v16) {z : Value} (k : z = .slice (some ad) h.m h.d) : V12 w h ad j q P M D N rs (fun j => j == 5 || L j) w' v5 v6 v7 v8 v9 z v11 v12 v13 v14 v15 v16 := ⟨H.b, H.sz, H.y, H.x, H.f0, H.f1, H.f2, H.f3, H.f4, fun _ => k, H.f6, H.f7, H.f8, H.f9, H.f10, H.f11, H.f12, H.d3_1, fun _ => rfl, H.d9_3, H.d9_8, H.d10_9, H.d12_10⟩
theorem V12.s6 (H : V12 w h ad j q P M D N rs L w' v5 v6 v7 v8 v9 v10 v11 v12 v13 v14 v15 v16) {z : Value} (k : z = .int .i64 (j : Int)) : V12 w h ad j q P M D N rs (fun j => j == 6 || L j) w' v5 v6 v7 v8 v9 v10 z v12 v13 v14 v15 v16 := ⟨H.b, H.sz, H.y, H.x, H.f0, H.f1, H.f2, H.f3, H.f4, H.f5, fun _ => k, H.f7, H.f8, H.f9, H.f10, H.f11, H.f12, H.d3_1, H.d8_5, H.d9_3, H.d9_8, H.d10_9, H.d12_10⟩
theorem V12.s7 (H : V12 w h ad j q P M D N rs L w' v5 v6 v7 v8 v9 v10 v11 v12 v13 v14 v15 v16) {z : Value} (k : z = .int .i64 (q : Int)) : V12 w h ad j q P M D N rs (fun j => j == 7 || L j) w' v5 v6 v7 v8 v9 v10 v11 z v13 v14 v15 v16 := ⟨H.b, H.sz, H.y, H.x, H.f0, H.f1, H.f2, H.f3, H.f4, H.f5, H.f6, fun _ => k, H.f8, H.f9, H.f10, H.f11, H.f12, H.d3_1, H.d8_5, H.d9_3, H.d9_8, H.d10_9, H.d12_10⟩
theorem V12.s8 (H : V12 w h ad j q P M D N rs L w' v5 v6 v7 v8 v9 v10 v11 v12 v13 v14 v15 v16) {z : Value} (k : z = .slice (some P) M D) (d8_58 : L 5 = true) : V12 w h ad j q P M D N rs (fun j => j == 8 || L j) w' v5 v6 v7 v8 v9 v10 v11 v12 z v14 v15 v16 := ⟨H.b, H.sz, H.y, H.x, H.f0, H.f1, H.f2, H.f3, H.f4, H.f5, H.f6, H.f7, fun _ => k, H.f9, H.f10, H.f11, H.f12, H.d3_1, fun _ => d8_58, H.d9_3, fun _ => rfl, H.d10_9, H.d12_10⟩
theorem V12.s9 (H : V12 w h ad j q P M D N rs L w' v5 v6 v7 v8 v9 v10 v11 v12 v13 v14 v15 v16) {z : Value} (k : ∃ g, z = .slice (some ⟨g, 0, none⟩) 2 2 ∧ (L 10 = false → Bx w' g 29 #[.slice (some ad) j h.d, .slice (some P) M D])) (d9_39 : L 3 = true) (d9_89 : L 8 = true) : V12 w h ad j q P M D N rs (fun j => j == 9 || L j) w' v5 v6 v7 v8 v9 v10 v11 v12 v13 z v15 v16 := ⟨H.b, H.sz, H.y, H.x, H.f0, H.f1, H.f2, H.f3, H.f4, H.f5, H.f6, H.f7, H.f8, fun _ => k, H.f10, H.f11, H.f12, H.d3_1, H.d8_5, fun _ => d9_39, fun _ => d9_89, fun _ => rfl, H.d12_10⟩
theorem V12.s10 (H : V12 w h ad j q P M D N rs L w' v5 v6 v7 v8 v9 v10 v11 v12 v13 v14 v15 v16) (h10 : L 10 = false) (h9 : L 9 = true) {z : Value} {A : Option Addr} {c : Nat} (e : z = .slice A N c) (hO : Tm.Own w' (w.heap.size + 2) A N c rs) : V12 w h ad j q P M D N rs (fun j => j == 10 || L j) w' v5 v6 v7 v8 v9 v10 v11 v12 v13 v14 z v16 :=
 ⟨H.b, H.sz, H.y, H.x, H.f0, H.f1, H.f2, H.f3, H.f4, H.f5, H.f6, H.f7, H.f8, (fun l => by obtain ⟨g, e, h1⟩ := H.f9 l; exact ⟨g, e, fun l3 => by cases l3⟩), fun _ => ⟨A, c, e, hO, fun l => absurd (H.d12_10 l) (by rw [h10]; decide)⟩, H.f11, H.f12, H.d3_1, H.d8_5, H.d9_3, H.d9_8, fun _ => h9, fun _ => rfl⟩
theorem V12.s11 (H : V12 w h ad j q P M D N rs L w' v5 v6 v7 v8 v9 v10 v11 v12 v13 v14 v15 v16) {z : Value} (k : z = .pointer (some ⟨w.heap.size, 9, none⟩)) : V12 w h ad j q P M D N rs (fun j => j == 11 || L j) w' v5 v6 v7 v8 v9 v10 v11 v12 v13 v14 v15 z := ⟨H.b, H.sz, H.y, H.x, H.f0, H.f1, H.f2, H.f3, H.f4, H.f5, H.f6, H.f7, H.f8, H.f9, H.f10, fun _ => k, H.f12, H.d3_1, H.d8_5, H.d9_3, H.d9_8, H.d10_9, H.d12_10⟩
theorem V12.s12 (H : V12 w h ad j q P M D N rs L w' v5 v6 v7 v8 v9 v10 v11 v12 v13 v14 v15 v16) (h12 : L 12 = false) (h10 : L 10 = true) : V12 w h ad j q P M D N rs (fun j => j == 12 || L j) (w'.setCell ⟨w.heap.size, 9, none⟩ v15) v5 v6 v7 v8 v9 v10 v11 v12 v13 v14 v15 v16 := by
 have hq := H.sz; have hset : ∀ k, k ≠ w.heap.size → (w'.setCell ⟨w.heap.size, 9, none⟩ v15).heap[k]? = w'.heap[k]? := fun k hk => Below.heap_setCell w' _ _ k hk
 refine ⟨H.b.setCell (p := ⟨w.heap.size, 9, none⟩) (Nat.le_refl _) _, by rw [World.size_setCell]; exact hq, (hset _ (by omega)).trans H.y, (fun l => by cases l), H.f0, H.f1, H.f2, H.f3, H.f4, H.f5, H.f6, H.f7, H.f8, (fun l => by obtain ⟨g, e, h1⟩ := H.f9 l; exact ⟨g, e, fun l3 => absurd (show L 10 = false from l3) (by rw [h10]; decide)⟩), fun _ => ?_, H.f11, fun _ => trivial, H.d3_1, H.d8_5, H.d9_3, H.d9_8, H.d10_9, fun _ => h10⟩; obtain ⟨A, c, e, hO, _⟩ := H.f10 h10; refine ⟨A, c, e, hO.far (by show w.heap.size < _; omega) _, fun _ => ?_⟩; have := (H.x h12).set 9 v15; rw [e] at this ⊢; exact this
end
theorem without_ (h : Hr) (j : Nat) (w : World) (M0 : HM w (· < w.heap.size) h) (S : HS h) (hj : j < h.m) : Calls Tryz.prog 30 #[hg h, .int .i64 (j : Int)] w (WoTo w h j) := by
 obtain ⟨W, hW⟩ : ∃ W, (w.alloc (.cells (hc h) 31)).alloc (.cells zhc 31) = W := ⟨_, rfl⟩; have H0 := qh (show F2 w W h by rw [← hW]; exact F2.start w h); have HW := qh hW; obtain ⟨ad, _, hB, _⟩ := M0.get hj; have HBB := qh hB; have HMM := qh M0; have HSS := qh S; have hmb : h.m ≤ 2000 := S.m; have hfd : h.m ≤ h.d := S.f; obtain ⟨q, hq⟩ : ∃ q, j + 1 = q := ⟨_, rfl⟩; obtain ⟨M, hM⟩ : ∃ M, h.m - q = M := ⟨_, rfl⟩; obtain ⟨D, hD⟩ : ∃ D, h.d - q = D := ⟨_, rfl⟩; obtain ⟨N, hN⟩ : ∃ N, j + M = N := ⟨_, rfl⟩; obtain ⟨P, hP⟩ : ∃ P, (if h.d = q then ad else ad.add (q * 9)) = P := ⟨_, rfl⟩; obtain ⟨rs, hrs⟩ : ∃ rs, h.rs.take j ++ h.rs.drop q = rs := ⟨_, rfl⟩; have HRS := qh hrs; have HQQ := qh hq; have HP := qh hP; have HMD := qh (show h.m - q = M ∧ h.d - q = D from ⟨hM, hD⟩); have HNN := qh (show j + M = N ∧ N ≤ h.m ∧ N ≤ 2000 by omega)
 have HRA := qh (show ∀ W', Below w.heap.size w W' → Raws W' (· < W'.heap.size) (some ad) j (h.rs.take j) ∧ Raws W' (· < W'.heap.size) (some P) M (h.rs.drop q) by
  intro W' hb'; have h1 := (HMM.out.below hb').r; rw [HBB.out] at h1; exact ⟨rw_take h1 (by omega), by rw [← hP, ← hM]; exact rw_drop h1 (by omega) hfd⟩)
 have hj1 : j ≤ h.d := by omega
 have hj2 : q ≤ h.m := by omega
 have hj3 : q ≤ h.d := by omega
 have ew : wrap64 ((j : Int) + 1) = (q : Int) := by rw [IntWalk.wrap64_in _ ⟨by omega, by omega⟩]; omega
 have ew2 : IntKind.i64.wrap ((j : Int) + 1) = (q : Int) := (IntWalk.i64_left _).trans ew; obtain ⟨x0, x1, x2, x3, x4, x5, x6, x7, x8, x9⟩ := qc10 H0.out.x; clear hW M0 S hB hP hM hD hN hrs hq; go_enter Tryz.func30, Tryz.ntmps30
 go_upto_region 1 with fail
 rw [HW.out]; clear HW; clear x0 x1 x2 x3 x4 x5 x6 x7 x8 x9; refine wp_region_steps (fun L_ a_ w_ => ∃ (v5 v6 v7 v8 v9 v10 v11 v12 v13 v14 v15 v16 : Value), a_ = { tmps := #[hg h, .int .i64 (j : Int), .pointer (some ⟨w.heap.size, 0, none⟩), undef, .pointer (some ⟨w.heap.size + 1, 0, none⟩), v5, v6, v7, v8, v9, v10, v11, v12, v13, v14, v15, v16, undef], defers := [] } ∧ Hid (V12 w h ad j q P M D N rs L_ w_ v5 v6 v7 v8 v9 v10 v11 v12 v13 v14 v15 v16)) (by kernel_rfl) (by kernel_rfl) ?_ (AllSteps.cons ?_ (AllSteps.cons ?_ (AllSteps.cons ?_ (AllSteps.cons ?_ (AllSteps.cons ?_ (AllSteps.cons ?_ (AllSteps.cons ?_ (AllSteps.cons ?_ (AllSteps.cons ?_ (AllSteps.cons ?_ (AllSteps.cons ?_ (AllSteps.cons ?_ (AllSteps.cons ?_ AllSteps.nil))))))))))))) ?_
 ·exact ⟨_, _, _, _, _, _, _, _, _, _, _, _, rfl, qh ⟨(H0.out.b.trans (show Below w.heap.size W W.drew from ⟨rfl, rfl, rfl, Nat.le_refl _, fun _ _ => rfl⟩)), H0.out.y.lt, H0.out.y, (fun _ => H0.out.x), (fun h => by cases h), (fun h => by cases h), (fun h => by cases h), (fun h => by cases h), (fun h => by cases h), (fun h => by cases h), (fun h => by cases h), (fun h => by cases h), (fun h => by cases h), (fun h => by cases h), (fun h => by cases h), (fun h => by cases h), (fun h => by cases h), (fun h => by cases h), (fun h => by cases h), (fun h => by cases h), (fun h => by cases h), (fun h => by cases h), (fun h => by cases h)⟩⟩
 ·rintro L_ a_ w_ hL hd ⟨v5, v6, v7, v8, v9, v10, v11, v12, v13, v14, v15, v16, rfl, HR⟩ K hK; clear hd; go_simp; exact hK.out _ _ ⟨_, _, _, _, _, _, _, _, _, _, _, _, rfl, qh (HR.out.s0 rfl)⟩
 ·rintro L_ a_ w_ hL hd ⟨v5, v6, v7, v8, v9, v10, v11, v12, v13, v14, v15, v16, rfl, HR⟩ K hK; have e0 := HR.out.f0 (hd ⟨0, .data⟩ (by simp) rfl); subst e0
  have h12 : L_ 12 = false := by
   cases h : L_ 12 with
   | false => rfl
   | true =>
    have h1 := HR.out.d3_1 (HR.out.d9_3 (HR.out.d10_9 (HR.out.d12_10 h))); rw [hL] at h1; cases h1
  have hx := HR.out.x h12; obtain ⟨x0, x1, x2, x3, x4, x5, x6, x7, x8, x9⟩ := qc10 hx; rw [HBB.out] at x9; clear hx; clear hd h12; go_simp; exact hK.out _ _ ⟨_, _, _, _, _, _, _, _, _, _, _, _, rfl, qh (HR.out.s1 rfl)⟩
 ·rintro L_ a_ w_ hL hd ⟨v5, v6, v7, v8, v9, v10, v11, v12, v13, v14, v15, v16, rfl, HR⟩ K hK; clear hd; go_simp; exact hK.out _ _ ⟨_, _, _, _, _, _, _, _, _, _, _, _, rfl, qh (HR.out.s2 rfl)⟩
 ·rintro L_ a_ w_ hL hd ⟨v5, v6, v7, v8, v9, v10, v11, v12, v13, v14, v15, v16, rfl, HR⟩ K hK; have l1 := hd ⟨1, .data⟩ (by simp) rfl; have e1 := HR.out.f1 (hd ⟨1, .data⟩ (by simp) rfl); subst e1; have e2 := HR.out.f2 (hd ⟨2, .data⟩ (by simp) rfl); subst e2; clear hd; go_simp; exact hK.out _ _ ⟨_, _, _, _, _, _, _, _, _, _, _, _, rfl, qh (HR.out.s3 rfl l1)⟩
 ·rintro L_ a_ w_ hL hd ⟨v5, v6, v7, v8, v9, v10, v11, v12, v13, v14, v15, v16, rfl, HR⟩ K hK; clear hd; go_simp; exact hK.out _ _ ⟨_, _, _, _, _, _, _, _, _, _, _, _, rfl, qh (HR.out.s4 rfl)⟩
 ·rintro L_ a_ w_ hL hd ⟨v5, v6, v7, v8, v9, v10, v11, v12, v13, v14, v15, v16, rfl, HR⟩ K hK; have e4 := HR.out.f4 (hd ⟨4, .data⟩ (by simp) rfl); subst e4
  have h12 : L_ 12 = false := by
   cases h : L_ 12 with
   | false => rfl
   | true =>
    have h1 := HR.out.d8_5 (HR.out.d9_8 (HR.out.d10_9 (HR.out.d12_10 h))); rw [hL] at h1; cases h1
  have hx := HR.out.x h12; obtain ⟨x0, x1, x2, x3, x4, x5, x6, x7, x8, x9⟩ := qc10 hx; rw [HBB.out] at x9; clear hx; clear hd h12; go_simp; exact hK.out _ _ ⟨_, _, _, _, _, _, _, _, _, _, _, _, rfl, qh (HR.out.s5 rfl)⟩
 ·rintro L_ a_ w_ hL hd ⟨v5, v6, v7, v8, v9, v10, v11, v12, v13, v14, v15, v16, rfl, HR⟩ K hK; clear hd; go_simp; exact hK.out _ _ ⟨_, _, _, _, _, _, _, _, _, _, _, _, rfl, qh (HR.out.s6 rfl)⟩
 ·rintro L_ a_ w_ hL hd ⟨v5, v6, v7, v8, v9, v10, v11, v12, v13, v14, v15, v16, rfl, HR⟩ K hK; have e6 := HR.out.f6 (hd ⟨6, .data⟩ (by simp) rfl); subst e6; clear hd; go_simp; exact hK.out _ _ ⟨_, _, _, _, _, _, _, _, _, _, _, _, rfl, qh (HR.out.s7 rfl)⟩
 ·rintro L_ a_ w_ hL hd ⟨v5, v6, v7, v8, v9, v10, v11, v12, v13, v14, v15, v16, rfl, HR⟩ K hK; have l5 := hd ⟨5, .data⟩ (by simp) rfl; have e5 := HR.out.f5 (hd ⟨5, .data⟩ (by simp) rfl); subst e5; have e7 := HR.out.f7 (hd ⟨7, .data⟩ (by simp) rfl); subst e7; clear hd; go_simp; exact hK.out _ _ ⟨_, _, _, _, _, _, _, _, _, _, _, _, rfl, qh (HR.out.s8 (by rw [← HP.out, ← HMD.out.1, ← HMD.out.2, apply_ite some]) l5)⟩
 ·rintro L_ a_ w_ hL hd ⟨v5, v6, v7, v8, v9, v10, v11, v12, v13, v14, v15, v16, rfl, HR⟩ K hK; have l3 := hd ⟨3, .data⟩ (by simp) rfl; have l8 := hd ⟨8, .data⟩ (by simp) rfl; have e3 := HR.out.f3 (hd ⟨3, .data⟩ (by simp) rfl); subst e3; have e8 := HR.out.f8 (hd ⟨8, .data⟩ (by simp) rfl); subst e8; have HX := qh (Bx.new w_ 29 #[.slice (some ad) j h.d, .slice (some P) M D]); have HR2 := qh (HR.out.up (alloc_ w_ (.cells #[.slice (some ad) j h.d, .slice (some P) M D] 29))); clear hd; go_simp; exact hK.out _ _ ⟨_, _, _, _, _, _, _, _, _, _, _, _, rfl, qh (HR2.out.s9 ⟨_, rfl, fun _ => HX.out⟩ l3 l8)⟩
 ·rintro L_ a_ w_ hL hd ⟨v5, v6, v7, v8, v9, v10, v11, v12, v13, v14, v15, v16, rfl, HR⟩ K hK; have l9 := hd ⟨9, .data⟩ (by simp) rfl; obtain ⟨g, e9, hx⟩ := HR.out.f9 (hd ⟨9, .data⟩ (by simp) rfl); subst e9; have hr := HRA.out w_ HR.out.b; have CC := qh (concat2 g (some ad) (some P) j h.d M D N _ _ w_ (hx hL) hr.1 hr.2 (fun e => by cases e) (fun e => by cases e) HNN.out.1 HNN.out.2.2); rw [HRS.out] at CC; have HL := qh hL; have HQ := qh HR.out.sz; clear hd hx hr hL; go_simp; refine CC.out.mono ?_; rintro e w5 ⟨A5, c5, rfl, hO5, hb5⟩; have HR2 := qh (HR.out.up hb5); have HO5 := qh (hO5.low HQ.out); clear hO5 hb5 CC
  try go_simp
  exact hK.out _ _ ⟨_, _, _, _, _, _, _, _, _, _, _, _, rfl, qh (HR2.out.s10 HL.out l9 rfl HO5.out)⟩
 ·rintro L_ a_ w_ hL hd ⟨v5, v6, v7, v8, v9, v10, v11, v12, v13, v14, v15, v16, rfl, HR⟩ K hK; clear hd; go_simp; exact hK.out _ _ ⟨_, _, _, _, _, _, _, _, _, _, _, _, rfl, qh (HR.out.s11 rfl)⟩
 ·rintro L_ a_ w_ hL hd ⟨v5, v6, v7, v8, v9, v10, v11, v12, v13, v14, v15, v16, rfl, HR⟩ K hK; have e11 := HR.out.f11 (hd ⟨11, .data⟩ (by simp) rfl); subst e11; have h10 := hd ⟨10, .data⟩ (by simp) rfl; obtain ⟨A5, c5, e10, h5, _⟩ := HR.out.f10 h10; subst e10; have HL := qh (And.intro hL h10); have fz := (HR.out.x hL).f; have hx := HR.out.x hL; obtain ⟨x0, x1, x2, x3, x4, x5, x6, x7, x8, x9⟩ := qc10 hx; rw [HBB.out] at x9; clear hx; clear hd h5 hL h10; go_simp; exact hK.out _ _ ⟨_, _, _, _, _, _, _, _, _, _, _, _, rfl, qh (HR.out.s12 HL.out.1 HL.out.2)⟩
 rintro L_ a_ w_ hL ⟨v5, v6, v7, v8, v9, v10, v11, v12, v13, v14, v15, v16, rfl, HR⟩; obtain ⟨A7, c7, rfl, hO7, hz7⟩ := HR.out.f10 (hL 10 (by decide)); obtain ⟨g9, rfl, _⟩ := HR.out.f9 (hL 9 (by decide)); obtain rfl := HR.out.f0 (hL 0 (by decide)); obtain rfl := HR.out.f1 (hL 1 (by decide)); obtain rfl := HR.out.f2 (hL 2 (by decide)); obtain rfl := HR.out.f3 (hL 3 (by decide)); obtain rfl := HR.out.f4 (hL 4 (by decide)); obtain rfl := HR.out.f5 (hL 5 (by decide)); obtain rfl := HR.out.f6 (hL 6 (by decide)); obtain rfl := HR.out.f7 (hL 7 (by decide)); obtain rfl := HR.out.f8 (hL 8 (by decide)); obtain rfl := HR.out.f11 (hL 11 (by decide)); have HZ := qh (hz7 (hL 12 (by decide))); have HY := qh HR.out.y; have HB := qh HR.out.b; have HO := qh hO7; clear HR hL hz7 hO7 H0; dsimp only [Exit.then]; go_step; obtain ⟨z0, z1, z2, z3, z4, z5, z6, z7, z8, z9⟩ := qc10 HZ.out; obtain ⟨y0, y1, y2, y3, y4, y5, y6, y7, y8, y9⟩ := qc10 HY.out; have fy := HY.out.f; go_wp2; clear z0 z1 z2 z3 z4 z5 z6 z7 z8 z9 y0 y1 y2 y3 y4 y5 y6 y7 y8 y9 fy; change bodyPost _ _ _ _ _ (puth (w.heap.size + 1) (h.more A7 N c7 rs) w_); have hx := Bx.puth (h' := zhr) HY.out (h.more A7 N c7 rs); have hset : ∀ k, k ≠ w.heap.size + 1 → (puth (w.heap.size + 1) (h.more A7 N c7 rs) w_).heap[k]? = w_.heap[k]? := fun k hk => sets_heap _ hk 0 w_
 have hsz : (puth (w.heap.size + 1) (h.more A7 N c7 rs) w_).heap.size = w_.heap.size := sets_size _ 0 w_; have hbel : Below w.heap.size w (puth (w.heap.size + 1) (h.more A7 N c7 rs) w_) := sets_below _ (by omega) 0 w_ HB.out; have hO := HO.out.of fun g hg => hset g (by omega)
 have hfit := hO.fits; have e1 : rs = h.rs.eraseIdx j := by rw [← HRS.out, ← HQQ.out]; exact (List.eraseIdx_eq_take_drop_succ ..).symm
 have hmem : ∀ r ∈ rs, r ∈ h.rs := fun r hr => by rw [e1] at hr; exact List.mem_of_mem_eraseIdx hr
 refine bodyPost_ret (v := hg (h.more A7 N c7 rs)) ?res rfl ⟨(h.more A7 N c7 rs), rfl, ?val, ⟨HMM.out.t.keep (fun _ hp => hbel.cell hp) fun k hk => Nat.lt_of_lt_of_le hk hbel.size, hO.raws.keep (fun _ _ => rfl) fun k hk => hk.2, fun r hr => (HMM.out.k r (hmem r hr)).keep (fun _ hp => hbel.cell hp) fun k hk => Nat.lt_of_lt_of_le hk hbel.size⟩, ⟨HSS.out.n, HNN.out.2.2, fun r hr => HSS.out.k r (hmem r hr), hfit.2, hfit.1⟩, HNN.out.2.1, ⟨rfl, hmem⟩, hbel⟩
 case res =>
  obtain ⟨x0, x1, x2, x3, x4, x5, x6, x7, x8, x9⟩ := qc10 hx; simp [results, Tryz.results30, go_sem, x0, x1, x2, x3, x4, x5, x6, x7, x8, x9]
 case val =>
  have e2 : rs.map Rw.v = h.v.hs.eraseIdx j := by
   rw [e1]; exact er_map _ _ _
  unfold Hr.v wo; rw [show (h.more A7 N c7 rs).rs = rs from rfl, e2]; rfl
theorem isTurn_ (r : Rw) (w : World) : Calls Tryz.prog 53 #[vg r] w (Yes w (tk r.v)) := by
 obtain ⟨⟨bk, dy, kd, rr, cs, wy⟩, rA, rn, rc⟩ := r; have HX := qh (Bx.new w 41 (vc ⟨⟨bk, dy, kd, rr, cs, wy⟩, rA, rn, rc⟩)); have HB := qh (show Below w.heap.size w (w.alloc (.cells (vc ⟨⟨bk, dy, kd, rr, cs, wy⟩, rA, rn, rc⟩) 41)) from alloc_ _ _); obtain ⟨x0, x1, x2, x3, x4, x5, x6, x7, x8⟩ := qc9 HX.out; by_cases e3 : kd = 3
 ·have HV := qh (show Yes w (tk ⟨bk, dy, kd, rr, cs, wy⟩) (.returned (.bool true)) _ from ⟨by rw [show tk ⟨bk, dy, kd, rr, cs, wy⟩ = true from decide_eq_true (.inl e3)], HB.out⟩); have t1 : (kd == 3) = true := beq_iff_eq.2 e3; clear e3; go_enter Tryz.func53, Tryz.ntmps53; go_wp2; go_ret; exact HV.out
 have t1 : (kd == 3) = false := beq_eq_false_iff_ne.2 e3; by_cases e4 : kd = 4
 ·have HV := qh (show Yes w (tk ⟨bk, dy, kd, rr, cs, wy⟩) (.returned (.bool true)) _ from ⟨by rw [show tk ⟨bk, dy, kd, rr, cs, wy⟩ = true from decide_eq_true (.inr e4)], HB.out⟩); have t2 : (kd == 4) = true := beq_iff_eq.2 e4; clear e3 e4; go_enter Tryz.func53, Tryz.ntmps53; go_wp2; go_ret; exact HV.out
 ·have HV := qh (show Yes w (tk ⟨bk, dy, kd, rr, cs, wy⟩) (.returned (.bool false)) _ from ⟨by rw [show tk ⟨bk, dy, kd, rr, cs, wy⟩ = false from decide_eq_false (by simp only; omega)], HB.out⟩); have t2 : (kd == 4) = false := beq_eq_false_iff_ne.2 e4; clear e3 e4; go_enter Tryz.func53, Tryz.ntmps53; go_wp2; go_ret; exact HV.out
theorem isShort_ (r : Rw) (w : World) : Calls Tryz.prog 29 #[vg r] w (Yes w (sh r.v)) := by
 obtain ⟨⟨bk, dy, kd, rr, cs, wy⟩, rA, rn, rc⟩ := r; have HX := qh (Bx.new w 41 (vc ⟨⟨bk, dy, kd, rr, cs, wy⟩, rA, rn, rc⟩)); have HB := qh (show Below w.heap.size w (w.alloc (.cells (vc ⟨⟨bk, dy, kd, rr, cs, wy⟩, rA, rn, rc⟩) 41)) from alloc_ _ _); obtain ⟨x0, x1, x2, x3, x4, x5, x6, x7, x8⟩ := qc9 HX.out; by_cases e3 : kd = 3
 case neg =>
  have HV := qh (show Yes w (sh ⟨bk, dy, kd, rr, cs, wy⟩) (.returned (.bool false)) _ from ⟨by rw [show sh ⟨bk, dy, kd, rr, cs, wy⟩ = false from decide_eq_false (by simp only; omega)], HB.out⟩); have t1 : (kd == 3) = false := beq_eq_false_iff_ne.2 e3; clear e3; go_enter Tryz.func29, Tryz.ntmps29; go_wp2; go_ret; exact HV.out
 have t1 : (kd == 3) = true := beq_iff_eq.2 e3; by_cases e1 : wy = 1
 ·have HV := qh (show Yes w (sh ⟨bk, dy, kd, rr, cs, wy⟩) (.returned (.bool true)) _ from ⟨by rw [show sh ⟨bk, dy, kd, rr, cs, wy⟩ = true from decide_eq_true (⟨e3, e1⟩)], HB.out⟩); have t2 : (wy == 1) = true := beq_iff_eq.2 e1; clear e3 e1; go_enter Tryz.func29, Tryz.ntmps29; go_wp2; go_ret; exact HV.out
 ·have HV := qh (show Yes w (sh ⟨bk, dy, kd, rr, cs, wy⟩) (.returned (.bool false)) _ from ⟨by rw [show sh ⟨bk, dy, kd, rr, cs, wy⟩ = false from decide_eq_false (by simp only; omega)], HB.out⟩); have t2 : (wy == 1) = false := beq_eq_false_iff_ne.2 e1; clear e3 e1; go_enter Tryz.func29, Tryz.ntmps29; go_wp2; go_ret; exact HV.out
def lv (q : Option Int) : Value := .tuple #[.int .i64 (q.getD 0), .bool q.isSome]
def LtTo (w : World) (hs : List Ch) (e : Ending) (w' : World) : Prop := ∃ o, Ag.Ord hs o ∧ e = .returned (lv (lt hs o)) ∧ Below w.heap.size w w'
structure LJ (w W : World) (h : Hr) (A : Option Addr) (o : List Int) (k : Nat) : Prop where
 x : HX w W h
 r : Ag.Ord h.v.hs o
 n : o.length = h.m
 i : Ins W (· < W.heap.size) A h.m o
 l : lt h.v.hs o = ltk h.v.hs o k
section
variable {w W W' : World} {h : Hr} {A : Option Addr} {o : List Int} {k q : Nat}
theorem LJ.next (H : LJ w W h A o k) (hb : Below W.heap.size W W') : LJ w W' h A o k := ⟨H.x.next hb, H.r, H.n, H.i.keep (fun _ hp => hb.cell hp) fun _ hk => Nat.lt_of_lt_of_le hk hb.size, H.l⟩
theorem LJ.down (H : LJ w W h A o k) (e : ltk h.v.hs o k = ltk h.v.hs o q) : LJ w W h A o q := ⟨H.x, H.r, H.n, H.i, H.l.trans e⟩
end
theorem lastTurn_ (h : Hr) (w : World) (M : HM w (· < w.heap.size) h) (hm : h.m ≤ 2000) : Calls Tryz.prog 28 #[hg h] w (LtTo w h.v.hs) := by
 obtain ⟨W, hW⟩ : ∃ W, w.alloc (.cells (hc h) 31) = W := ⟨_, rfl⟩; have H0 := qh (show HX w W h by rw [← hW]; exact HX.start w h); have HW := qh hW; have HMM := qh M; have HL := qh hm; have HLE := qh M.len; have C := qh (order_ h W (M.below H0.out.b) (by omega)); clear hW M hm; go_enter Tryz.func28, Tryz.ntmps28
 go_upto_region 1 with fail
 rw [HW.out]; clear HW; refine Qo.scope_from 0 (fun a' w' => ∃ (W2 : World) (k : Nat) (i : Int) (A : Option Addr) (c : Nat) (o : List Int) (u5 u6 u7 u8 u9 u10 u11 u12 u13 u14 u15 u16 u17 u18 u19 u20 u21 u22 u23 u24 : Value), a' = { tmps := #[hg h, .pointer (some ⟨w.heap.size, 0, none⟩), .int .i64 0, .bool false, .slice A h.m c, u5, u6, u7, u8, u9, u10, u11, u12, u13, u14, u15, u16, u17, u18, u19, u20, u21, u22, u23, u24, undef, undef, undef, undef], defers := [] } ∧ W2 = w' ∧ u5 = .int .i64 i ∧ i + 1 = (k : Int) ∧ k ≤ h.m ∧ Hid (LJ w W2 h A o k)) (fun a' _ => (intOf (a'.tmps.getD 5 undef) + 1).toNat) rfl (fun HP => ?_) ?_
 ·obtain ⟨x0, x1, x2, x3, x4, x5, x6, x7, x8, x9⟩ := qc10 H0.out.x
  go_wp2_with fail
  refine C.out.mono ?_; rintro e w1 ⟨A, c, o, rfl, hi, hg, hb, hmc⟩; have HJ := qh (show LJ w w1 h A o h.m from ⟨H0.out.next hb, hg, hi.1, hi.keep (fun _ _ => rfl) fun _ h => h.2, (ltk_all (Nat.le_of_eq hi.1)).symm⟩); have ew : wrap64 ((h.m : Int) - 1) = (h.m : Int) - 1 := IntWalk.wrap64_in _ ⟨by omega, by have := HL.out; omega⟩; have ew2 : IntKind.i64.wrap ((h.m : Int) - 1) = (h.m : Int) - 1 := (IntWalk.i64_left _).trans ew; clear C hb hi hg H0 hmc x0 x1 x2 x3 x4 x5 x6 x7 x8 x9; go_wp2; go_step3
  rename_i hK
  exact hK _ _ (HP.out _ _ ⟨w1, h.m, (h.m : Int) - 1, A, c, o, _, _, _, _, _, _, _, _, _, _, _, _, _, _, _, _, _, _, _, _, rfl, rfl, rfl, by omega, Nat.le_refl _, HJ⟩)
 ·rintro a' w' ⟨W2, k, i, A, c, o, u5, u6, u7, u8, u9, u10, u11, u12, u13, u14, u15, u16, u17, u18, u19, u20, u21, u22, u23, u24, rfl, rfl, rfl, hi, hk, HB⟩; clear C H0; have HO := qh HB.out.r; rcases k with _ | q
  ·obtain rfl : i = -1 := by omega
   have HF := qh (show lt h.v.hs o = none by rw [HB.out.l]; rfl); go_wp2; simp only [Exit.jump]; go_ret2; exact ⟨o, HO.out, by rw [HF.out]; rfl, HB.out.x.b⟩
  obtain rfl : i = (q : Int) := by omega
  have hlt : q < h.m := by omega
  obtain ⟨ad, z, rfl, hb, hz, hcz⟩ := HB.out.i.get hlt; have hat := ord_at HO.out (List.mem_of_getElem? hz); have hlen : h.v.hs.length = h.m := HLE.out; obtain ⟨j, rfl⟩ : ∃ j : Nat, z = (j : Int) := ⟨z.toNat, by omega⟩; obtain ⟨ad2, r, hB, hb2, hr, N, _, hv⟩ := (HMM.out.below HB.out.x.b).get (k := j) (by omega); have t0 : decide ((q : Int) < 0) = false := decide_eq_false (by omega); have hlt2 : (q : Int) < (h.m : Int) := by omega
  have hj2 : (j : Int) < (h.m : Int) := by omega
  have HS := qh (show ltk h.v.hs o (q + 1) = if tk r.v = true then some (j : Int) else ltk h.v.hs o q by
   rw [ltk_more hz]; unfold chg; rw [Int.toNat_natCast, hv]; rfl)
  have HR9 := qh hr; have HBB := qh hB
  have HN := qh (show ∀ W', Below w.heap.size w W' → Nin W' (ad2.add (j * 9)) r by
   intro W' hb'; obtain ⟨ad', r', e', _, hr', N', _, _⟩ := (HMM.out.below hb').get (k := j) (by omega); rw [HBB.out] at e'; injection e' with e'
   rw [HR9.out] at hr'; injection hr' with hr'
   subst e' hr'; exact N')
  have HZ := qh (show ∀ W', Below W2.heap.size W2 W' → W'.cell? (ad.add q) = some (.int .i64 (j : Int)) from fun W' hb' => (hb'.cell (by rw [add_block]; exact hb)).trans hcz); clear hr hB N hv hat hlen hb hb2 hz hcz; have X9 : ∀ p : Ext W2, p.W.cell? ⟨w.heap.size, 9, none⟩ = some (.slice (some ad2) h.m h.d) := fun p => by rw [← HBB.out]; exact HB.out.x.x.ext p 9
  have Z0 : ∀ p : Ext W2, p.W.cell? (ad.add q) = some (.int .i64 (j : Int)) := fun p => HZ.out p.W p.b
  have Q0 : ∀ p : Ext W2, p.W.cell? (ad2.add (j * 9)) = some (.int .i64 r.v.bk) := fun p => (HN.out p.W (HB.out.x.b.trans (p.b.mono HB.out.x.b.size))).c0
  have Q1 : ∀ p : Ext W2, p.W.cell? ⟨(ad2.add (j * 9)).block, (ad2.add (j * 9)).off + 1, none⟩ = some (.int .i64 r.v.dy) := fun p => (HN.out p.W (HB.out.x.b.trans (p.b.mono HB.out.x.b.size))).c1
  have Q2 : ∀ p : Ext W2, p.W.cell? ⟨(ad2.add (j * 9)).block, (ad2.add (j * 9)).off + 2, none⟩ = some (.int .i64 r.v.kd) := fun p => (HN.out p.W (HB.out.x.b.trans (p.b.mono HB.out.x.b.size))).c2
  have Q3 : ∀ p : Ext W2, p.W.cell? ⟨(ad2.add (j * 9)).block, (ad2.add (j * 9)).off + 3, none⟩ = some (.int .i64 r.v.r.k) := fun p => (HN.out p.W (HB.out.x.b.trans (p.b.mono HB.out.x.b.size))).c3
  have Q4 : ∀ p : Ext W2, p.W.cell? ⟨(ad2.add (j * 9)).block, (ad2.add (j * 9)).off + 4, none⟩ = some (.int .i64 r.v.r.v) := fun p => (HN.out p.W (HB.out.x.b.trans (p.b.mono HB.out.x.b.size))).c4
  have Q5 : ∀ p : Ext W2, p.W.cell? ⟨(ad2.add (j * 9)).block, (ad2.add (j * 9)).off + 5, none⟩ = some (.int .i64 r.v.r.a) := fun p => (HN.out p.W (HB.out.x.b.trans (p.b.mono HB.out.x.b.size))).c5
  have Q6 : ∀ p : Ext W2, p.W.cell? ⟨(ad2.add (j * 9)).block, (ad2.add (j * 9)).off + 6, none⟩ = some (.int .i64 r.v.r.z) := fun p => (HN.out p.W (HB.out.x.b.trans (p.b.mono HB.out.x.b.size))).c6
  have Q7 : ∀ p : Ext W2, p.W.cell? ⟨(ad2.add (j * 9)).block, (ad2.add (j * 9)).off + 7, none⟩ = some (.slice r.A r.n r.c) := fun p => (HN.out p.W (HB.out.x.b.trans (p.b.mono HB.out.x.b.size))).c7
  have Q8 : ∀ p : Ext W2, p.W.cell? ⟨(ad2.add (j * 9)).block, (ad2.add (j * 9)).off + 8, none⟩ = some (.int .i64 r.v.wy) := fun p => (HN.out p.W (HB.out.x.b.trans (p.b.mono HB.out.x.b.size))).c8
  have CB := fun (p : Ext W2) => qh (isTurn_ r p.W)
  unfold Yes at CB; obtain ⟨b, hbt⟩ : ∃ b, tk r.v = b := ⟨_, rfl⟩; have HTB := qh hbt; rw [hbt] at CB; clear hbt
  go_upto_region 5 with fail
  have ne : Nonempty (Ext W2) := ⟨⟨W2, Below.refl _ _⟩⟩; refine quietE (by kernel_rfl) (by kernel_rfl) ?_
  repeat (first | go_big_quiet_skip | quiet_step (first
   | (go_at_call 53; with_reducible exact ext_of (CB _).out)
   | fail))
  refine wpQuiet_nil ?_; rintro _ ⟨p, rfl⟩; have HB2 := qh (HB.out.next p.b); have HZ2 := qh (show ∀ W', Below p.W.heap.size p.W W' → W'.cell? (ad.add q) = some (.int .i64 (j : Int)) from fun W' hb' => HZ.out W' (p.b.trans (hb'.mono p.b.size))); generalize p.W = W3 at HB2 HZ2 ⊢; clear CB ne X9 Z0 HZ Q0 Q1 Q2 Q3 Q4 Q5 Q6 Q7 Q8 HB; cases b
  ·have HE := qh (show ltk h.v.hs o (q + 1) = ltk h.v.hs o q by rw [HS.out, if_neg (by rw [HTB.out]; decide)]); have ew : wrap64 ((q : Int) - 1) = (q : Int) - 1 := IntWalk.wrap64_in _ ⟨by omega, by have := HL.out; omega⟩; have ew2 : IntKind.i64.wrap ((q : Int) - 1) = (q : Int) - 1 := (IntWalk.i64_left _).trans ew; go_wp2; go_step3; refine ⟨rfl, ⟨_, q, (q : Int) - 1, some ad, c, o, _, _, _, _, _, _, _, _, _, _, _, _, _, _, _, _, _, _, _, _, rfl, rfl, rfl, by omega, by omega, qh (HB2.out.down HE.out)⟩, ?_⟩
   ·simp [intOf]
  ·have HE := qh (show lt h.v.hs o = some (j : Int) by rw [HB2.out.l, HS.out, if_pos HTB.out]); have z1 := HZ2.out W3 (Below.refl _ _); go_wp2; simp only [Exit.jump]; go_ret2; exact ⟨o, HO.out, by rw [HE.out]; rfl, HB2.out.x.b⟩
end Rfd
end Go.Proofs.YtfidmphajohljaaGreat
namespace Go.Proofs.YtfidmphajohljaaGreat
open Go.RowKit Ba Cv Sp Te Ag Tf Sl Tm
open Slc (OfIs OfTo Sls O2)
namespace Rfd
theorem of' {w : World} {h : Hr} {T : Option Addr} {nt : Nat} {vs : List Trf.Rw} (H : Arg w h T nt vs) (ct : Nat) : Calls Tryz.prog 20 #[hg h, Trf.tg T nt ct] w (OfTo w h.v (vs.map Trf.Rw.v)) := Slc.of_ h T nt ct vs w H.m H.s H.hm H.v H.hv
theorem kept_ (h : Hr) (T : Option Addr) (nt ct : Nat) (vs : List Trf.Rw) (w : World) (G : Arg w h T nt vs) : Calls Tryz.prog 12 #[hg h, Trf.tg T nt ct] w (KpTo w h.v (vs.map Trf.Rw.v)) := by
 obtain ⟨W, hW⟩ : ∃ W, (w.alloc (.cells (hc h) 31)).alloc (.cells #[.slice T nt ct] 34) = W := ⟨_, rfl⟩; have H0 := qh (show O2 w W h T nt ct by rw [← hW]; exact Slc.O2.start w h T nt ct); have HW := qh hW; have HG := qh G; have C1 := qh (of' (G.below H0.out.b) ct); obtain ⟨x0, x1, x2, x3, x4, x5, x6, x7, x8, x9⟩ := qc10 H0.out.x; have y0 := H0.out.y.c 0; simp at y0; clear hW G; go_enter Tryz.func12, Tryz.ntmps12
 go_upto_region 1 with fail
 rw [HW.out]; clear HW
 go_wp2_with fail
 refine C1.out.mono ?_; rintro e w1 ⟨A1, n1, c1, rs1, cd1, rfl, hS1, hn1, hc1, hO1, hb1⟩; have H1 := qh (H0.out.next hb1); have HO1 := qh hO1; clear hb1 C1 H0 x0 x1 x2 x3 x4 x5 x6 x7 x8 x9 y0 hS1 hc1 hn1 hO1; by_cases hk : cd1 = 0
 case neg =>
  have t1 : decide (cd1 = 0) = false := decide_eq_false hk; have t2 : (cd1 == 0) = false := beq_eq_false_iff_ne.2 hk; have t3 : (cd1 != 0) = true := bne_iff_ne.2 hk; have HK := qh hk; clear hk; go_wp2; go_ret2; exact ⟨0, cd1, rfl, .bad _ _ HO1.out HK.out rfl rfl, H1.out.b⟩
 subst hk; have C2 := qh (lastTurn_ h w1 (HG.out.m.below H1.out.b) HG.out.s.m); obtain ⟨x0, x1, x2, x3, x4, x5, x6, x7, x8, x9⟩ := qc10 H1.out.x; have y0 := H1.out.y.c 0; simp at y0
 go_wp2_with fail
 refine C2.out.mono ?_; rintro e w2 ⟨o, ho, rfl, hb2⟩; have H2 := qh (H1.out.next hb2); have HOO := qh ho; clear hb2 C2 H1 x0 x1 x2 x3 x4 x5 x6 x7 x8 x9 y0 ho; cases hlt : lt h.v.hs o
 ·have HN := qh hlt; clear hlt; unfold lv; simp only [Option.getD_none, Option.isSome_none]; go_wp2; go_ret2; exact ⟨0, 0, rfl, .none _ HO1.out o HOO.out (fun z hz => by rw [HN.out] at hz; cases hz) rfl rfl, H2.out.b⟩
 rename_i z
 have HZ := qh hlt; obtain ⟨hz0, hz1⟩ := lt_at HOO.out hlt; obtain ⟨j, rfl⟩ : ∃ j : Nat, z = (j : Int) := ⟨z.toNat, by omega⟩; have hlen : h.v.hs.length = h.m := HG.out.m.len; have hjm : j < h.m := by omega
 unfold lv; simp only [Option.getD_some, Option.isSome_some]
 have HMN := qh (show ∃ (ad : Addr) (r : Rw), h.B = some ad ∧ h.rs[j]? = some r ∧ chg h.v.hs (j : Int) = r.v ∧ ∀ W', Below w.heap.size w W' → Nin W' (ad.add (j * 9)) r by
  obtain ⟨ad, r, e, hb, hr, N, _, hv⟩ := HG.out.m.get hjm; refine ⟨ad, r, e, hr, by unfold chg; rw [Int.toNat_natCast, hv]; rfl, fun W' hb' => ?_⟩; obtain ⟨ad', r', e', _, hr', N', _, _⟩ := (HG.out.m.below hb').get hjm; rw [e] at e'; injection e' with e'
  rw [hr] at hr'; injection hr' with hr'
  subst e' hr'; exact N')
 obtain ⟨ad, r, hB, hr, hch, hN⟩ := HMN.out; have HN := qh hN; have HC := qh hch; have HBB := qh hB; clear hB hr hch hN HMN hlt; have tz : decide ((j : Int) < 0) = false := decide_eq_false (by omega); have hjZ : (j : Int) < (h.m : Int) := by omega
 obtain ⟨⟨bk, dy, kd, rr, cs, wy⟩, rA, rn, rc⟩ := r; have HJM := qh hjm
 have HDY := qh (show (-9223372036854775808 ≤ dy ∧ dy ≤ 9223372036854775807) ∧ (-9223372036854775808 ≤ h.s.2 ∧ h.s.2 ≤ 9223372036854775807) by
  have a := Slc.hrt_span (h := h.v) HO1.out.ok.1; have b := (hrt_iff.1 HO1.out.ok.1).2.2 (chg h.v.hs (j : Int)) (chg_mem (by omega) (by omega)); rw [HC.out] at b; have c := (inn_iff _ _).1 b.2; have a1 : 1 ≤ h.s.1 := a.1; have a2 : h.s.2 ≤ 292195 := a.2.2.1; have c1 : h.s.1 ≤ dy := c.2.2.1; have c2 : dy < h.s.2 := c.2.2.2; omega)
 have none0 := qh (fun (hs : sh ⟨bk, dy, kd, rr, cs, wy⟩ = false) => KpIs.none _ HO1.out o HOO.out (fun z hz => by rw [HZ.out] at hz; injection hz with hz; rw [← hz, HC.out]; exact hs) (show (0 : Int) = 0 from rfl) (show (0 : Int) = 0 from rfl)); obtain ⟨q0, q1, q2, q3, q4, q5, q6, q7, q8⟩ := HN.out w2 H2.out.b; obtain ⟨x0, x1, x2, x3, x4, x5, x6, x7, x8, x9⟩ := qc10 H2.out.x; have y0 := H2.out.y.c 0; simp at y0; rw [HBB.out] at x9; have C3 := qh (isShort_ ⟨⟨bk, dy, kd, rr, cs, wy⟩, rA, rn, rc⟩ w2); obtain ⟨b, hsb⟩ : ∃ b, sh ⟨bk, dy, kd, rr, cs, wy⟩ = b := ⟨_, rfl⟩; have HSB := qh hsb; rw [hsb] at C3; clear hsb; cases b
 ·have HQ := qh (none0.out HSB.out); clear none0
  go_wp2_with fail
  refine C3.out.mono ?_; rintro e w3 ⟨rfl, hb3⟩; have H3 := qh (H2.out.next hb3); clear hb3; go_wp2; go_ret2; exact ⟨0, 0, rfl, HQ.out, H3.out.b⟩
 clear none0; have CS := qh (fun v k s2 c H2 H3 H4 => KpIs.some (v := v) (k := k) _ HO1.out o HOO.out (j : Int) HZ.out (by rw [HC.out]; exact HSB.out) s2 c H2 H3 H4)
 go_wp2_with fail
 refine C3.out.mono ?_; rintro e w3' ⟨rfl, hb3⟩; have H2' := qh (H2.out.next hb3); clear hb3 C3 H2 x0 x1 x2 x3 x4 x5 x6 x7 x8 x9 y0 q0 q1 q2 q3 q4 q5 q6 q7 q8; have H2 := qh H2'.out; clear H2'
 go_upto_region 7 with fail
 refine wp_region_steps (fun L_ a_ w_ => ∃ (v45 v46 v47 v48 v49 v44 v50 v51 v9 v10 : Value), a_ = { tmps := #[hg h, Trf.tg T nt ct, .pointer (some ⟨w.heap.size, 0, none⟩), .pointer (some ⟨w.heap.size + 1, 0, none⟩), .int .i64 0, .int .i64 0, .slice A1 n1 c1, .int .i64 0, .int .i64 (j : Int), .bool true, v9, v10, undef, .tuple #[.slice A1 n1 c1, .int .i64 0], .agg #[.int .i64 h.id, .int .i64 h.bk, .int .i64 h.s.fst, .int .i64 h.s.snd, .int .i64 h.r.k, .int .i64 h.r.v, .int .i64 h.r.a, .int .i64 h.r.z, .slice h.A h.n h.c, .slice h.B h.m h.d], .agg #[.slice T nt ct], .tuple #[.slice A1 n1 c1, .int .i64 0], .slice A1 n1 c1, .int .i64 0, .int .i64 0, .bool false, undef, .tuple #[.int .i64 (j : Int), .bool true], .agg #[.int .i64 h.id, .int .i64 h.bk, .int .i64 h.s.fst, .int .i64 h.s.snd, .int .i64 h.r.k, .int .i64 h.r.v, .int .i64 h.r.a, .int .i64 h.r.z, .slice h.A h.n h.c, .slice h.B h.m h.d], .tuple #[.int .i64 (j : Int), .bool true], .int .i64 (j : Int), .bool true, .bool true, .bool false, .bool false, .pointer (some ⟨w.heap.size, 9, none⟩), .slice (some ad) h.m h.d, .int .i64 (j : Int), .pointer (some (ad.add (j * 9))), .agg #[.int .i64 bk, .int .i64 dy, .int .i64 kd, .int .i64 rr.k, .int .i64 rr.v, .int .i64 rr.a, .int .i64 rr.z, .slice rA rn rc, .int .i64 wy], .bool true, .bool false, .bool false, v44, v45, v46, v47, v48, v49, v50, v51, undef, undef, undef, undef, undef, undef, undef, undef, undef, undef, undef, undef, undef, undef, undef, undef, undef, undef, undef, undef, undef, undef, undef, undef, undef, undef], defers := [] } ∧ Hid (K7 w h T nt ct j (vs.map Trf.Rw.v) L_ w_ v45 v46 v47 v48 v49 v44 v50 v51 v9 v10)) (by kernel_rfl) (by kernel_rfl) ?_ (AllSteps.cons ?_ (AllSteps.cons ?_ (AllSteps.cons ?_ (AllSteps.cons ?_ (AllSteps.cons ?_ (AllSteps.cons ?_ (AllSteps.cons ?_ (AllSteps.cons ?_ (AllSteps.cons ?_ (AllSteps.cons ?_ AllSteps.nil)))))))))) ?_
 ·exact ⟨_, _, _, _, _, _, _, _, _, _, rfl, qh ⟨H2.out.next (show Below _ _ (World.drew _) from ⟨rfl, rfl, rfl, Nat.le_refl _, fun _ _ => rfl⟩), (fun h => by cases h), (fun h => by cases h), (fun h => by cases h), (fun h => by cases h), (fun h => by cases h), (fun h => by cases h), (fun h => by cases h), (fun h => by cases h), (fun h => by cases h), (fun h => by cases h), (fun h => by cases h), (fun h => by cases h), (fun h => by cases h), (fun h => by cases h), (fun h => by cases h)⟩⟩
 ·rintro L_ a_ w_ hL hd ⟨v45, v46, v47, v48, v49, v44, v50, v51, v9, v10, rfl, HR⟩ K hK; have hx := HR.out.o.x; have hy := HR.out.o.y; obtain ⟨x0, x1, x2, x3, x4, x5, x6, x7, x8, x9⟩ := qc10 hx; have y0 := hy.c 0; simp at y0; clear hx hy; clear hd; go_simp; exact hK.out _ _ ⟨_, _, _, _, _, _, _, _, _, _, rfl, qh (HR.out.s0 rfl)⟩
 ·rintro L_ a_ w_ hL hd ⟨v45, v46, v47, v48, v49, v44, v50, v51, v9, v10, rfl, HR⟩ K hK; clear hd; go_simp; exact hK.out _ _ ⟨_, _, _, _, _, _, _, _, _, _, rfl, qh (HR.out.s1 rfl)⟩
 ·rintro L_ a_ w_ hL hd ⟨v45, v46, v47, v48, v49, v44, v50, v51, v9, v10, rfl, HR⟩ K hK; have e0 := HR.out.f0 (hd ⟨0, .data⟩ (by simp) rfl); subst e0; have e1 := HR.out.f1 (hd ⟨1, .data⟩ (by simp) rfl); subst e1; have CW := qh (without_ h j w_ (HG.out.m.below HR.out.o.b) HG.out.s HJM.out); clear hd; go_simp; refine CW.out.mono ?_; rintro e w5 ⟨k, rfl, a1, a2, a3, a4, a5, hb5⟩; have HR2 := qh (HR.out.up hb5); have FF := qh (And.intro a1 (And.intro a2 (And.intro a3 (And.intro a4 a5)))); clear a1 a2 a3 a4 a5 hb5 CW
  try go_simp
  exact hK.out _ _ ⟨_, _, _, _, _, _, _, _, _, _, rfl, qh (HR2.out.s2 ⟨_, rfl, FF.out⟩)⟩
 ·rintro L_ a_ w_ hL hd ⟨v45, v46, v47, v48, v49, v44, v50, v51, v9, v10, rfl, HR⟩ K hK; have hx := HR.out.o.x; have hy := HR.out.o.y; obtain ⟨x0, x1, x2, x3, x4, x5, x6, x7, x8, x9⟩ := qc10 hx; have y0 := hy.c 0; simp at y0; clear hx hy; clear hd; go_simp; exact hK.out _ _ ⟨_, _, _, _, _, _, _, _, _, _, rfl, qh (HR.out.s3 rfl)⟩
 ·rintro L_ a_ w_ hL hd ⟨v45, v46, v47, v48, v49, v44, v50, v51, v9, v10, rfl, HR⟩ K hK; obtain ⟨k, e2, k1, k2, k3, k4, k5, k6⟩ := HR.out.f2 (hd ⟨2, .data⟩ (by simp) rfl); subst e2; have e3 := HR.out.f3 (hd ⟨3, .data⟩ (by simp) rfl); subst e3; have CF := qh (of' (show Arg w_ k T nt vs from ⟨k2, k3, Nat.le_trans k4 HG.out.hm, ⟨by rw [k5]; exact HG.out.hn.1, fun r hr => HG.out.hn.2 r (k6 r hr)⟩, (HG.out.below HR.out.o.b).v, HG.out.hv⟩) ct); rw [k1] at CF; clear hd; go_simp; refine CF.out.mono ?_; rintro e w5 ⟨A5, n5, c5, rs5, cd5, rfl, a1, a2, a3, a4, hb5⟩; have HR2 := qh (HR.out.up hb5); have FF := qh (And.intro a1 (And.intro a2 (And.intro a3 a4))); clear a1 a2 a3 a4 hb5 CF k1 k2 k3 k4 k5 k6
  try go_simp
  exact hK.out _ _ ⟨_, _, _, _, _, _, _, _, _, _, rfl, qh (HR2.out.s4 ⟨_, _, _, _, _, rfl, FF.out⟩ hL)⟩
 ·rintro L_ a_ w_ hL hd ⟨v45, v46, v47, v48, v49, v44, v50, v51, v9, v10, rfl, HR⟩ K hK; have l4 := hd ⟨4, .data⟩ (by simp) rfl; clear hd; go_simp; exact hK.out _ _ ⟨_, _, _, _, _, _, _, _, _, _, rfl, qh (HR.out.s5 rfl l4)⟩
 ·rintro L_ a_ w_ hL hd ⟨v45, v46, v47, v48, v49, v44, v50, v51, v9, v10, rfl, HR⟩ K hK; have l4 := HR.out.d5_4 (hd ⟨5, .data⟩ (by simp) rfl); obtain ⟨A5, n5, c5, rs5, cd5, e4, h4⟩ := HR.out.f4 l4; have e5 := HR.out.f5 (hd ⟨5, .data⟩ (by simp) rfl); subst e5; subst e4; clear hd h4; go_simp; exact hK.out _ _ ⟨_, _, _, _, _, _, _, _, _, _, rfl, qh (HR.out.s6 rfl l4)⟩
 ·rintro L_ a_ w_ hL hd ⟨v45, v46, v47, v48, v49, v44, v50, v51, v9, v10, rfl, HR⟩ K hK; have l4 := HR.out.d5_4 (hd ⟨5, .data⟩ (by simp) rfl); obtain ⟨A5, n5, c5, rs5, cd5, e4, h4⟩ := HR.out.f4 l4; have e5 := HR.out.f5 (hd ⟨5, .data⟩ (by simp) rfl); subst e5; subst e4; clear hd h4; go_simp; exact hK.out _ _ ⟨_, _, _, _, _, _, _, _, _, _, rfl, qh (HR.out.s7 rfl l4)⟩
 ·rintro L_ a_ w_ hL hd ⟨v45, v46, v47, v48, v49, v44, v50, v51, v9, v10, rfl, HR⟩ K hK; have e6 := HR.out.f6 (hd ⟨6, .data⟩ (by simp) rfl); subst e6; have l4 := HR.out.d6_4 (hd ⟨6, .data⟩ (by simp) rfl); clear hd; go_simp; exact hK.out _ _ ⟨_, _, _, _, _, _, _, _, _, _, rfl, qh (HR.out.s8 rfl l4)⟩
 ·rintro L_ a_ w_ hL hd ⟨v45, v46, v47, v48, v49, v44, v50, v51, v9, v10, rfl, HR⟩ K hK; have e7 := HR.out.f7 (hd ⟨7, .data⟩ (by simp) rfl); subst e7; have l4 := HR.out.d7_4 (hd ⟨7, .data⟩ (by simp) rfl); clear hd; go_simp; exact hK.out _ _ ⟨_, _, _, _, _, _, _, _, _, _, rfl, qh (HR.out.s9 rfl l4)⟩
 rintro L_ a_ w_ hL ⟨v45, v46, v47, v48, v49, v44, v50, v51, v9, v10, rfl, HR⟩; obtain rfl := HR.out.f0 (hL 0 (by decide)); obtain rfl := HR.out.f1 (hL 1 (by decide)); obtain ⟨k, rfl, _⟩ := HR.out.f2 (hL 2 (by decide)); obtain rfl := HR.out.f3 (hL 3 (by decide)); obtain ⟨A5, n5, c5, rs5, cd5, rfl, hS5, hn5, hc5, hO5⟩ := HR.out.f4 (hL 4 (by decide)); obtain rfl := HR.out.f5 (hL 5 (by decide)); obtain rfl := show v50 = .slice A5 n5 c5 from HR.out.f6 (hL 6 (by decide))
 obtain rfl := show v51 = .int .i64 cd5 from HR.out.f7 (hL 7 (by decide))
 obtain rfl := show v9 = .slice A5 n5 c5 from HR.out.f8 (hL 8 (by decide))
 obtain rfl := show v10 = .int .i64 cd5 from HR.out.f9 (hL 9 (by decide))
 have H3 := qh HR.out.o; have HO5 := qh hO5; have HS5 := qh hS5; have HN5 := qh hn5; have HC5 := qh hc5; clear HR hL hO5 hS5 hn5 hc5 H2; dsimp only [Exit.then]; go_step; by_cases hk : cd5 = 0
 case neg =>
  have t1 : decide (cd5 = 0) = false := decide_eq_false hk; have t2 : (cd5 == 0) = false := beq_eq_false_iff_ne.2 hk; have t3 : (cd5 != 0) = true := bne_iff_ne.2 hk; have HK := qh hk; clear hk; go_wp2; go_ret2; exact ⟨0, cd5, rfl, CS.out _ _ _ _ HO5.out (fun _ => ⟨rfl, rfl⟩) (fun h => absurd h HK.out), H3.out.b⟩
 subst hk; obtain ⟨l5, hl5⟩ : ∃ l5, rs5.map Slc.Rw.v = l5 := ⟨_, rfl⟩; have HL5 := qh hl5; rw [hl5] at HO5; clear hl5; obtain ⟨bv, hbv⟩ : ∃ bv, Acr.btv l5 (dy, h.s.2) = bv := ⟨_, rfl⟩; obtain ⟨bc, hbc⟩ : ∃ bc, Acr.btc l5 (dy, h.s.2) = bc := ⟨_, rfl⟩; have HBV := qh hbv; have HBC := qh hbc; have CB := fun (p : Ext w_) => qh (Acr.between_ A5 n5 c5 rs5 (dy, h.s.2) p.W (HS5.out.r.below p.b) HN5.out HC5.out HDY.out.1 HDY.out.2)
 unfold Acr.BtTo at CB; rw [HL5.out, hbv, hbc] at CB; clear hbv hbc; have X9 : ∀ p : Ext w_, p.W.cell? ⟨w.heap.size, 9, none⟩ = some (.slice (some ad) h.m h.d) := fun p => by rw [← HBB.out]; exact H3.out.x.ext p 9
 have X3 : ∀ p : Ext w_, p.W.cell? ⟨w.heap.size, 3, none⟩ = some (.int .i64 h.s.2) := fun p => H3.out.x.ext p 3
 have Q1 : ∀ p : Ext w_, p.W.cell? ⟨(ad.add (j * 9)).block, (ad.add (j * 9)).off + 1, none⟩ = some (.int .i64 dy) := fun p => (HN.out p.W (H3.out.b.trans (p.b.mono H3.out.b.size))).c1
 go_upto_region 10 with fail
 have ne : Nonempty (Ext w_) := ⟨⟨w_, Below.refl _ _⟩⟩; refine quietE (by kernel_rfl) (by kernel_rfl) ?_
 repeat (first | go_big_quiet_skip | quiet_step (first
  | (go_at_call 21; with_reducible exact ext_of (CB _).out)
  | fail))
 refine wpQuiet_nil ?_; rintro _ ⟨p, rfl⟩; have H4 := qh (H3.out.next p.b); generalize p.W = w4 at H4 ⊢; clear CB ne X9 X3 Q1; by_cases hk : bc = 0
 case neg =>
  have t1 : decide (bc = 0) = false := decide_eq_false hk; have t2 : (bc == 0) = false := beq_eq_false_iff_ne.2 hk; have t3 : (bc != 0) = true := bne_iff_ne.2 hk; have HK := qh hk; clear hk; go_wp2; go_ret2; exact ⟨0, bc, rfl, CS.out _ _ _ _ HO5.out (fun h => absurd rfl h) (fun _ => by rw [HC.out]; show kq l5 (dy, h.s.2) _ _; unfold kq; rw [if_neg (by rw [HBC.out]; exact HK.out), HBC.out]; exact ⟨rfl, rfl⟩), H4.out.b⟩
 subst hk; have hbb := bt_bd HBC.out; rw [HBV.out] at hbb; have CE := qh (Num.bp bv 1000 w4 hbb (by omega)); clear hbb
 go_wp2_with fail
 refine CE.out.mono ?_; rintro e w5 ⟨rfl, hb5⟩; have H5 := qh (H4.out.next hb5); clear hb5; go_wp2; go_ret2; exact ⟨_, _, rfl, CS.out _ _ _ _ HO5.out (fun h => absurd rfl h) (fun _ => by rw [HC.out]; show kq l5 (dy, h.s.2) _ _; unfold kq; rw [if_pos HBC.out, HBV.out]; exact ⟨rfl, rfl⟩), H5.out.b⟩
theorem due_ (h : Hr) (T : Option Addr) (nt ct : Nat) (vs : List Trf.Rw) (w : World) (G : Arg w h T nt vs) : Calls Tryz.prog 14 #[hg h, Trf.tg T nt ct] w (DuTo w h.v (vs.map Trf.Rw.v)) := by
 obtain ⟨W, hW⟩ : ∃ W, (w.alloc (.cells (hc h) 31)).alloc (.cells #[.slice T nt ct] 34) = W := ⟨_, rfl⟩; have H0 := qh (show O2 w W h T nt ct by rw [← hW]; exact Slc.O2.start w h T nt ct); have HW := qh hW; have HG := qh G; have C1 := qh (kept_ h T nt ct vs W (G.below H0.out.b)); obtain ⟨x0, x1, x2, x3, x4, x5, x6, x7, x8, x9⟩ := qc10 H0.out.x; have y0 := H0.out.y.c 0; simp at y0; clear hW G; go_enter Tryz.func14, Tryz.ntmps14
 go_upto_region 1 with fail
 rw [HW.out]; clear HW
 go_wp2_with fail
 refine C1.out.mono ?_; rintro e w1 ⟨a, k, rfl, hK, hb1⟩; have H1 := qh (H0.out.next hb1); have HKp := qh hK; clear hb1 C1 H0 x0 x1 x2 x3 x4 x5 x6 x7 x8 x9 y0 hK; by_cases hk : k = 0
 case neg =>
  have t1 : decide (k = 0) = false := decide_eq_false hk; have t2 : (k == 0) = false := beq_eq_false_iff_ne.2 hk; have t3 : (k != 0) = true := bne_iff_ne.2 hk; have HK := qh hk; clear hk; go_wp2; go_ret2; exact ⟨0, k, rfl, ⟨a, k, HKp.out, fun _ => ⟨rfl, rfl⟩, fun h => absurd h HK.out⟩, H1.out.b⟩
 subst hk; have C2 := qh (of' (HG.out.below H1.out.b) ct); obtain ⟨x0, x1, x2, x3, x4, x5, x6, x7, x8, x9⟩ := qc10 H1.out.x; have y0 := H1.out.y.c 0; simp at y0
 go_wp2_with fail
 refine C2.out.mono ?_; rintro e w2 ⟨A2, n2, c2, rs2, cd2, rfl, hS2, hn2, hc2, hO2, hb2⟩; have H2 := qh (H1.out.next hb2); obtain ⟨ss, hss⟩ := HKp.out.of; obtain ⟨rfl, rfl⟩ := hss.one hO2; obtain ⟨l, hl⟩ : ∃ l, rs2.map Slc.Rw.v = l := ⟨_, rfl⟩; have C3 := qh (Acr.written_ A2 n2 c2 rs2 w2 hS2.r hn2 hc2); unfold Acr.UpTo at C3; rw [hl] at C3 hss; have HS := qh hss; clear hb2 C2 H1 x0 x1 x2 x3 x4 x5 x6 x7 x8 x9 y0 hss hO2 hS2 hn2 hc2 hl; obtain ⟨u, hu⟩ : ∃ u, Acr.upv l 292195 = u := ⟨_, rfl⟩; obtain ⟨c, hc⟩ : ∃ c, Acr.upc l 292195 = c := ⟨_, rfl⟩; have HU := qh hu; have HC := qh hc; rw [hu, hc] at C3; clear hu hc
 go_wp2_with fail
 refine C3.out.mono ?_; rintro e w3 ⟨rfl, hb3⟩; have H3 := qh (H2.out.next hb3); clear hb3 C3 H2; by_cases hk : c = 0
 case neg =>
  have t1 : decide (c = 0) = false := decide_eq_false hk; have t2 : (c == 0) = false := beq_eq_false_iff_ne.2 hk; have t3 : (c != 0) = true := bne_iff_ne.2 hk; have HK := qh hk; clear hk; go_wp2; go_ret2; exact ⟨0, c, rfl, ⟨a, 0, HKp.out, fun h => absurd rfl h, fun _ => ⟨l, HS.out, by unfold dq; rw [if_neg (by rw [HC.out]; exact HK.out), HC.out]; exact ⟨rfl, rfl⟩⟩⟩, H3.out.b⟩
 subst hk; have b1 := HKp.out.bd; have b2 := up_bd HC.out; rw [HU.out] at b2; have HLE := qh (show u + a ≤ 4000000000000000000 by omega); obtain ⟨m, hm⟩ : ∃ m : Int, 4000000000000000000 - a = m := ⟨_, rfl⟩; have t1 : decide (m < u) = false := decide_eq_false (by omega); have hw : wrap64 (u + a) = u + a := IntWalk.wrap64_in _ (by omega); have hw2 : wrap64 (4000000000000000000 - a) = m := by rw [hm]; exact IntWalk.wrap64_in _ (by omega)
 have hw3 : IntKind.i64.wrap (4000000000000000000 - a) = m := (IntWalk.i64_left _).trans hw2; clear b1 b2 hm; go_wp2; go_ret2; exact ⟨u + a, 0, by show Ending.returned (.tuple #[.int .i64 (wrap64 (u + a)), .int .i64 0]) = _; rw [hw], ⟨a, 0, HKp.out, fun h => absurd rfl h, fun _ => ⟨l, HS.out, by unfold dq; rw [if_pos HC.out, HU.out, if_pos HLE.out]; exact ⟨rfl, rfl⟩⟩⟩, H3.out.b⟩
theorem given_ (h : Hr) (T : Option Addr) (nt ct : Nat) (vs : List Trf.Rw) (r : Rw) (w : World) (G : Arg w h T nt vs) (hm : h.m ≤ 99) (hS : Cvs w (· < w.heap.size) r.A r.n r.v.cs) (hn : r.n ≤ 1000) : Calls Tryz.prog 16 #[hg h, Trf.tg T nt ct, vg r] w (GiTo w h.v (vs.map Trf.Rw.v) r.v) := by
 obtain ⟨W, hW⟩ : ∃ W, ((w.alloc (.cells (hc h) 31)).alloc (.cells #[.slice T nt ct] 34)).alloc (.cells (vc r) 41) = W := ⟨_, rfl⟩; have H0 := qh (show G3 w W h T nt ct r by rw [← hW]; exact G3.start w h T nt ct r); have HW := qh hW; have HG := qh G; have HN := qh (And.intro hm hn); have HCV := qh hS; have C1 := qh (put_ h r W (G.m.below H0.out.b) G.s (hS.below H0.out.b) (by omega)); obtain ⟨x0, x1, x2, x3, x4, x5, x6, x7, x8, x9⟩ := qc10 H0.out.x; have y0 := H0.out.y.c 0; obtain ⟨z0, z1, z2, z3, z4, z5, z6, z7, z8⟩ := qc9 H0.out.z; simp at y0; clear hW G hS hm hn; obtain ⟨cd, hcd⟩ : ∃ cd, Ag.code h.s h.bk h.v.hs r.v = cd := ⟨_, rfl⟩; have HCD := qh hcd; rw [hcd] at C1; clear hcd; go_enter Tryz.func16, Tryz.ntmps16
 go_upto_region 1 with fail
 rw [HW.out]; clear HW
 go_wp2_with fail
 refine C1.out.mono ?_; rintro e w1 ⟨k, rfl, hR⟩; have H1 := qh (H0.out.next hR.b); have HKV := qh hR.v; have HKM := qh (hR.m.keep (ok' := (· < w1.heap.size)) (fun _ _ => rfl) fun _ hx => hx.2); have HKS := qh hR.s; clear C1 H0 x0 x1 x2 x3 x4 x5 x6 x7 x8 x9 y0 z0 z1 z2 z3 z4 z5 z6 z7 z8 hR; obtain ⟨W2, hW2⟩ : ∃ W2, w1.alloc (.cells (hc k) 31) = W2 := ⟨_, rfl⟩; have hb2 : Below w1.heap.size w1 W2 := hW2 ▸ alloc_ _ _; have HX2 := qh (show Bx W2 w1.heap.size 31 (hc k) from hW2 ▸ Bx.new w1 31 (hc k)); have H2 := qh (H1.out.next hb2); have HM2 := qh (HKM.out.below hb2); have HW2 := qh hW2; clear hb2 hW2; by_cases hk : cd = 0
 case neg =>
  have t1 : decide (cd = 0) = false := decide_eq_false hk; have t2 : (cd == 0) = false := beq_eq_false_iff_ne.2 hk; have t3 : (cd != 0) = true := bne_iff_ne.2 hk; have HK := qh hk; clear hk
  go_upto_region 2 with fail
  rw [HW2.out]; clear HW2 H1 HKM; go_wp2; go_ret2; exact ⟨0, cd, rfl, ⟨fun _ => ⟨rfl, HCD.out.symm⟩, fun h => absurd (HCD.out.symm.trans h) HK.out⟩, H2.out.b⟩
 subst hk; have HWI := qh (show k.v = wi h.v r.v by rw [HKV.out]; unfold phi; rw [if_pos (show Ag.code h.v.s h.v.bk h.v.hs r.v = 0 from HCD.out)]; rfl)
 have HA2 := qh (show Arg W2 k T nt vs by
  have e1 : k.v.hs = h.v.hs ++ [r.v] := by rw [HWI.out]; rfl
  have e2 : k.v.cs = h.v.cs := by rw [HWI.out]; rfl
  refine Arg.of HM2.out HKS.out (HG.out.below H2.out.b).v HG.out.hv ?_ ?_ ?_
  ·rw [e1, List.length_append, HG.out.m.len, List.length_singleton]; have := HN.out.1; omega
  ·rw [e2]; show h.cs.length ≤ 1000; rw [HG.out.m.t.1]; exact HG.out.hn.1
  ·intro c hc; rw [e1] at hc; rcases List.mem_append.1 hc with hc | hc
   ·obtain ⟨x, hx, rfl⟩ := List.mem_map.1 hc; rw [(HG.out.m.k x hx).1]; exact HG.out.hn.2 x hx
   ·obtain rfl := List.mem_singleton.1 hc; rw [HCV.out.1]; exact HN.out.2)
 go_upto_region 4 with fail
 rw [HW2.out]; clear HW2 H1 HKM; have C2 := qh (due_ h T nt ct vs W2 (HG.out.below H2.out.b)); obtain ⟨x0, x1, x2, x3, x4, x5, x6, x7, x8, x9⟩ := qc10 H2.out.x; have y0 := H2.out.y.c 0; obtain ⟨z0, z1, z2, z3, z4, z5, z6, z7, z8⟩ := qc9 H2.out.z; simp at y0
 go_wp2_with fail
 refine C2.out.mono ?_; rintro e w3 ⟨a, x, rfl, hD, hb3⟩; have H3 := qh (H2.out.next hb3); have HX3 := qh (HX2.out.keep hb3); have HA3 := qh (HA2.out.below hb3); have HD := qh hD; clear hb3 C2 H2 HX2 HA2 HM2 hD x0 x1 x2 x3 x4 x5 x6 x7 x8 x9 y0 z0 z1 z2 z3 z4 z5 z6 z7 z8; by_cases hk : x = 0
 case neg =>
  have t1 : decide (x = 0) = false := decide_eq_false hk; have t2 : (x == 0) = false := beq_eq_false_iff_ne.2 hk; have t3 : (x != 0) = true := bne_iff_ne.2 hk; have HK := qh hk; clear hk; go_wp2; go_ret2; exact ⟨0, x, rfl, ⟨fun h => absurd HCD.out h, fun _ => ⟨a, x, HD.out, fun _ => ⟨rfl, rfl⟩, fun h => absurd h HK.out⟩⟩, H3.out.b⟩
 subst hk; have C3 := qh (due_ k T nt ct vs w3 HA3.out); rw [HWI.out] at C3; obtain ⟨x0, x1, x2, x3, x4, x5, x6, x7, x8, x9⟩ := qc10 HX3.out; have y0 := H3.out.y.c 0; simp at y0
 go_wp2_with fail
 refine C3.out.mono ?_; rintro e w4 ⟨b, y, rfl, hD, hb4⟩; have H4 := qh (H3.out.next hb4); have HE := qh hD; clear hb4 C3 H3 HX3 HA3 hD x0 x1 x2 x3 x4 x5 x6 x7 x8 x9 y0; by_cases hk : y = 0
 case neg =>
  have t1 : decide (y = 0) = false := decide_eq_false hk; have t2 : (y == 0) = false := beq_eq_false_iff_ne.2 hk; have t3 : (y != 0) = true := bne_iff_ne.2 hk; have HK := qh hk; clear hk; go_wp2; go_ret2; exact ⟨0, y, rfl, ⟨fun h => absurd HCD.out h, fun _ => ⟨a, 0, HD.out, fun h => absurd rfl h, fun _ => ⟨b, y, HE.out, fun _ => ⟨rfl, rfl⟩, fun h => absurd h HK.out⟩⟩⟩, H4.out.b⟩
 subst hk; have b1 := HD.out.zz; have b2 := HE.out.zz; have hw : wrap64 (a - b) = a - b := IntWalk.wrap64_in _ (by omega); clear b1 b2; go_wp2; go_ret2; exact ⟨a - b, 0, by show Ending.returned (.tuple #[.int .i64 (wrap64 (a - b)), .int .i64 0]) = _; rw [hw], ⟨fun h => absurd HCD.out h, fun _ => ⟨a, 0, HD.out, fun h => absurd rfl h, fun _ => ⟨b, 0, HE.out, fun h => absurd rfl h, fun _ => ⟨rfl, rfl⟩⟩⟩⟩, H4.out.b⟩
theorem kpC : KpC := fun h T nt ct vs w H => kept_ h T nt ct vs w H
theorem duC : DuC := fun h T nt ct vs w H => due_ h T nt ct vs w H
theorem giC : GiC := fun h T nt ct vs r w H hm hC hn => given_ h T nt ct vs r w H hm hC hn
end Rfd
end Go.Proofs.YtfidmphajohljaaGreat
namespace Go.Proofs.YtfidmphajohljaaGreat
open Go.RowKit Ba Cv Sp Te Ag Tf Sl Tm Slc
namespace Rfd
theorem arg_small {w : World} {h : Hr} {T : Option Addr} {nt ct : Nat} {vs : List Trf.Rw} (G : GivenH w h) (GT : Trf.GivenT w T nt ct vs) (s : Small h nt vs) : Arg w h T nt vs :=
 ⟨G.M, s.hs G, Nat.le_trans s.m (by omega), s.cov, s.vers GT, Nat.le_trans s.t (by omega)⟩
end Rfd
end Go.Proofs.YtfidmphajohljaaGreat
namespace Go.Proofs.YtfidmphajohljaaGreat
open Go.ChangeShapes Go.WideShapes Go.ChangeAt Go.RowKit Ba Cv Sp Te Ag Tf Sl Tm
namespace Rfd
set_option maxRecDepth 100000
theorem own : ownKnob Tryz.prog.godebug = none := Slc.own
theorem laidOut : laidOutB Tryz.prog = true := Slc.laidOut
section
variable {H : Type} {enc : TypeId × Value → H} {W : World} {base : Nat} {sp : Nat → Bool} {v : Value} {d : DataW H} {p : List MemPlace}
theorem open_history (hv : Value.okWide Tryz.prog W .any base 31 v) (h : DataW.Trod enc Tryz.prog W 0 sp true 31 v d p) (hw : ∀ k ∈ d.weights Tryz.prog 31, k ≤ reachBytes) : ∃ h, v = hg h ∧ GivenH W h := Tm.open_history hv h hw
theorem open_tariff (hv : Value.okWide Tryz.prog W .any base 34 v) (h : DataW.Trod enc Tryz.prog W 0 sp true 34 v d p) (hw : ∀ k ∈ d.weights Tryz.prog 34, k ≤ reachBytes) : ∃ A n c rs, v = Trf.tg A n c ∧ Trf.GivenT W A n c rs := Trf.open_tariff hv h hw
theorem open_change (hv : Value.okWide Tryz.prog W .any base 41 v) (h : DataW.Trod enc Tryz.prog W 0 sp true 41 v d p) (hw : ∀ k ∈ d.weights Tryz.prog 41, k ≤ reachBytes) : ∃ r, v = Tm.vg r ∧ GivenR W r := Tm.open_change hv h hw
end
end Rfd
end Go.Proofs.YtfidmphajohljaaGreat
