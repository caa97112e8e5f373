/-
  The parts Fits, Right of this proof. Conditions: those of each theorem.
-/
import Derived.Test.YtplenoaajokpjaaGreatMCh
import Derived.Test.YtplenoaajokpjaaGreatMFns
import Derived.Test.YtplenoaajokpjaaGreatKInv
namespace Go.Proofs.YtplenoaajokpjaaGreat
open Go.RowKit Ba Cv Sp Te Ag
namespace Tm
set_option linter.unusedVariables false
set_option maxHeartbeats 1000000 in
theorem span_in (x : Sp) (d : Int) (w : World) : Calls Tryz.prog 35 #[sg x, .int .i64 d] w fun e w' => e = .returned (.bool (inn x d)) ∧ Below w.heap.size w w' := by
 have C := fun w => Lib.hid (span_right x w)
 obtain ⟨a, b⟩ := x; by_cases hr : rt (a, b) = true
 ·by_cases h1 : a ≤ d
  ·by_cases h2 : d < b
   ·have hi : inn (a, b) d = true := by simp [inn, hr, h1, h2]
    have t1 : decide (a ≤ d) = true := by simpa using h1
    have t2 : decide (d < b) = true := by simpa using h2
    rw [hi]; rw [hr] at C; clear hi hr h1 h2; go_enter Tryz.func35, Tryz.ntmps35
    go_wp2_with fail
    refine (C _).out.mono ?_; rintro e w1 ⟨rfl, hb⟩; obtain ⟨hc, hf⟩ := bcell hb; have HB := Lib.hid hb; clear hb; go_wp2; go_ret; exact ⟨rfl, ((Below.refl _ _).alloc (Nat.le_refl _) _).trans (HB.out.mono (by simp))⟩
   ·have hi : inn (a, b) d = false := by simp [inn, hr, h1]; omega
    have t1 : decide (a ≤ d) = true := by simpa using h1
    have t2 : decide (d < b) = false := by simpa using h2
    rw [hi]; rw [hr] at C; clear hi hr h1 h2; go_enter Tryz.func35, Tryz.ntmps35
    go_wp2_with fail
    refine (C _).out.mono ?_; rintro e w1 ⟨rfl, hb⟩; obtain ⟨hc, hf⟩ := bcell hb; have HB := Lib.hid hb; clear hb; go_wp2; go_ret; exact ⟨rfl, ((Below.refl _ _).alloc (Nat.le_refl _) _).trans (HB.out.mono (by simp))⟩
  ·have hi : inn (a, b) d = false := by simp [inn, hr, h1]
   have t1 : decide (a ≤ d) = false := by simpa using h1
   rw [hi]; rw [hr] at C; clear hi hr h1; go_enter Tryz.func35, Tryz.ntmps35
   go_wp2_with fail
   refine (C _).out.mono ?_; rintro e w1 ⟨rfl, hb⟩; obtain ⟨hc, hf⟩ := bcell hb; have HB := Lib.hid hb; clear hb; go_wp2; go_ret; exact ⟨rfl, ((Below.refl _ _).alloc (Nat.le_refl _) _).trans (HB.out.mono (by simp))⟩
 ·have hr' : rt (a, b) = false := by simpa using hr
  have hi : inn (a, b) d = false := by simp [inn, hr']
  rw [hi]; rw [hr'] at C; clear hi hr hr'; go_enter Tryz.func35, Tryz.ntmps35
  go_wp2_with fail
  refine (C _).out.mono ?_; rintro e w1 ⟨rfl, hb⟩; obtain ⟨hc, hf⟩ := bcell hb; have HB := Lib.hid hb; clear hb; go_wp2; go_ret; exact ⟨rfl, ((Below.refl _ _).alloc (Nat.le_refl _) _).trans (HB.out.mono (by simp))⟩
set_option maxHeartbeats 1000000 in
theorem rspan_right (x : Sp) (w : World) : Calls Tryz.prog 57 #[sg x] w fun e w' => e = .returned (.bool (rt x)) ∧ Below w.heap.size w w' := by
 obtain ⟨a, b⟩ := x; by_cases h1 : 1 ≤ a
 ·have t1 : decide (1 ≤ a) = true := by simpa using h1
  by_cases h2 : a ≤ b
  ·have t2 : decide (a ≤ b) = true := by simpa using h2
   by_cases h3 : b ≤ 292195
   ·have t3 : decide (b ≤ 292195) = true := by simpa using h3
    rw [rt_t h1 h2 h3]; clear h1 h2 h3; go_enter Tryz.func57, Tryz.ntmps57; go_wp2; go_ret; exact ⟨rfl, (Below.refl _ _).alloc (Nat.le_refl _) _⟩
   ·have t3 : decide (b ≤ 292195) = false := by simpa using h3
    rw [rt_f (by omega)]; clear h1 h2 h3; go_enter Tryz.func57, Tryz.ntmps57; go_wp2; go_ret; exact ⟨rfl, (Below.refl _ _).alloc (Nat.le_refl _) _⟩
  ·have t2 : decide (a ≤ b) = false := by simpa using h2
   rw [rt_f (by omega)]; clear h1 h2; go_enter Tryz.func57, Tryz.ntmps57; go_wp2; go_ret; exact ⟨rfl, (Below.refl _ _).alloc (Nat.le_refl _) _⟩
 ·have t1 : decide (1 ≤ a) = false := by simpa using h1
  rw [rt_f (by omega)]; clear h1; go_enter Tryz.func57, Tryz.ntmps57; go_wp2; go_ret; exact ⟨rfl, (Below.refl _ _).alloc (Nat.le_refl _) _⟩
set_option maxHeartbeats 1000000 in
theorem rspan_in (x : Sp) (d : Int) (w : World) : Calls Tryz.prog 41 #[sg x, .int .i64 d] w fun e w' => e = .returned (.bool (inn x d)) ∧ Below w.heap.size w w' := by
 have C := fun w => Lib.hid (rspan_right x w)
 obtain ⟨a, b⟩ := x; by_cases hr : rt (a, b) = true
 ·by_cases h1 : a ≤ d
  ·by_cases h2 : d < b
   ·have hi : inn (a, b) d = true := by simp [inn, hr, h1, h2]
    have t1 : decide (a ≤ d) = true := by simpa using h1
    have t2 : decide (d < b) = true := by simpa using h2
    rw [hi]; rw [hr] at C; clear hi hr h1 h2; go_enter Tryz.func41, Tryz.ntmps41
    go_wp2_with fail
    refine (C _).out.mono ?_; rintro e w1 ⟨rfl, hb⟩; obtain ⟨hc, hf⟩ := bcell hb; have HB := Lib.hid hb; clear hb; go_wp2; go_ret; exact ⟨rfl, ((Below.refl _ _).alloc (Nat.le_refl _) _).trans (HB.out.mono (by simp))⟩
   ·have hi : inn (a, b) d = false := by simp [inn, hr, h1]; omega
    have t1 : decide (a ≤ d) = true := by simpa using h1
    have t2 : decide (d < b) = false := by simpa using h2
    rw [hi]; rw [hr] at C; clear hi hr h1 h2; go_enter Tryz.func41, Tryz.ntmps41
    go_wp2_with fail
    refine (C _).out.mono ?_; rintro e w1 ⟨rfl, hb⟩; obtain ⟨hc, hf⟩ := bcell hb; have HB := Lib.hid hb; clear hb; go_wp2; go_ret; exact ⟨rfl, ((Below.refl _ _).alloc (Nat.le_refl _) _).trans (HB.out.mono (by simp))⟩
  ·have hi : inn (a, b) d = false := by simp [inn, hr, h1]
   have t1 : decide (a ≤ d) = false := by simpa using h1
   rw [hi]; rw [hr] at C; clear hi hr h1; go_enter Tryz.func41, Tryz.ntmps41
   go_wp2_with fail
   refine (C _).out.mono ?_; rintro e w1 ⟨rfl, hb⟩; obtain ⟨hc, hf⟩ := bcell hb; have HB := Lib.hid hb; clear hb; go_wp2; go_ret; exact ⟨rfl, ((Below.refl _ _).alloc (Nat.le_refl _) _).trans (HB.out.mono (by simp))⟩
 ·have hr' : rt (a, b) = false := by simpa using hr
  have hi : inn (a, b) d = false := by simp [inn, hr']
  rw [hi]; rw [hr'] at C; clear hi hr hr'; go_enter Tryz.func41, Tryz.ntmps41
  go_wp2_with fail
  refine (C _).out.mono ?_; rintro e w1 ⟨rfl, hb⟩; obtain ⟨hc, hf⟩ := bcell hb; have HB := Lib.hid hb; clear hb; go_wp2; go_ret; exact ⟨rfl, ((Below.refl _ _).alloc (Nat.le_refl _) _).trans (HB.out.mono (by simp))⟩
set_option maxHeartbeats 1000000 in
theorem isDay (n : Int) (w : World) : Calls Tryz.prog 59 #[.int .i64 n] w fun e w' => e = .returned (.bool (day n)) ∧ w = w' := by
 unfold day; by_cases h1 : 1 ≤ n
 ·have t1 : decide (1 ≤ n) = true := by simpa using h1
  by_cases h2 : n ≤ 292194
  ·have t2 : decide (n ≤ 292194) = true := by simpa using h2
   rw [wi_iff.2 ⟨h1, h2⟩]; clear h1 h2
   skip
   go_enter Tryz.func59, Tryz.ntmps59; go_wp2; go_ret; exact ⟨rfl, rfl⟩
  ·have t2 : decide (n ≤ 292194) = false := by simpa using h2
   rw [wi_no (by omega)]; clear h1 h2
   skip
   go_enter Tryz.func59, Tryz.ntmps59; go_wp2; go_ret; exact ⟨rfl, rfl⟩
 ·have t1 : decide (1 ≤ n) = false := by simpa using h1
  rw [wi_no (by omega)]; clear h1
  skip
  go_enter Tryz.func59, Tryz.ntmps59; go_wp2; go_ret; exact ⟨rfl, rfl⟩
set_option maxHeartbeats 1000000 in
theorem riskFits (r : Ri) (x : Bool) (w : World) : Calls Tryz.prog 60 #[rg r, .bool x] w (Yes w (rfit r x)) := by
 cases x
 ·show Calls _ _ _ _ (Yes w (bare r))
  unfold bare; go_enter Tryz.func60, Tryz.ntmps60; go_wp2
  all_goals (go_ret; refine ⟨?_, alloc_ _ _⟩; simp [*])
 ·show Calls _ _ _ _ (Yes w (rk r.k r.v r.a r.z))
  have C := fun w => Lib.hid (risk_right r.k r.v r.a r.z w)
  generalize rk r.k r.v r.a r.z = q at C ⊢; go_enter Tryz.func60, Tryz.ntmps60
  go_wp2_with fail
  refine (C _).out.mono ?_; rintro e w1 ⟨rfl, hb⟩; have HB := Lib.hid (below_alloc hb); clear hb; go_wp2; go_ret; exact ⟨rfl, HB.out⟩
set_option maxHeartbeats 1000000 in
theorem coversFit (A : Option Addr) (n c : Nat) (cs : List Co) (x : Bool) (w : World) (hS : Cvs w (· < w.heap.size) A n cs) (hm : n ≤ maxLen) : Calls Tryz.prog 61 #[.slice A n c, .bool x] w (Yes w (cfit cs x)) := by
 cases x
 ·show Calls _ _ _ _ (Yes w (cs.length == 0))
  rw [hS.1]; clear hS hm; by_cases h : n = 0
  ·subst h; go_enter Tryz.func61, Tryz.ntmps61; go_wp2; go_ret; exact ⟨rfl, Below.refl _ _⟩
  ·have t1 : ((n : Int) == 0) = false := by rw [beq_eq_false_iff_ne]; omega
   have t2 : (n == 0) = false := by rw [beq_eq_false_iff_ne]; exact h
   rw [t2]; go_enter Tryz.func61, Tryz.ntmps61; go_wp2; go_ret; exact ⟨rfl, Below.refl _ _⟩
 ·show Calls _ _ _ _ (Yes w (cvr cs))
  have CC := Lib.hid (covers_ A n c cs w hS hm); generalize cvr cs = q at CC ⊢; clear hS hm; go_enter Tryz.func61, Tryz.ntmps61
  go_wp2_with fail
  refine CC.out.mono ?_; rintro e w1 ⟨rfl, hb⟩; have HB := Lib.hid hb; clear hb; go_wp2; go_ret; exact ⟨rfl, HB.out⟩
set_option maxHeartbeats 1000000 in
theorem wayFits (v : Int) (x : Bool) (w : World) : Calls Tryz.prog 62 #[.int .i64 v, .bool x] w fun e w' => e = .returned (.bool (wfit v x)) ∧ w = w' := by
 cases x
 ·show Calls _ _ _ _ (fun e w' => e = .returned (.bool (v == 0)) ∧ w = w')
  go_enter Tryz.func62, Tryz.ntmps62; go_wp2; go_ret; exact ⟨rfl, rfl⟩
 ·show Calls _ _ _ _ (fun e w' => e = .returned (.bool (v == 0 || v == 1)) ∧ w = w')
  cases t0 : v == 0
  ·cases t1 : v == 1
   ·go_enter Tryz.func62, Tryz.ntmps62; go_wp2; go_ret; exact ⟨rfl, rfl⟩
   ·go_enter Tryz.func62, Tryz.ntmps62; go_wp2; go_ret; exact ⟨rfl, rfl⟩
  ·go_enter Tryz.func62, Tryz.ntmps62; go_wp2; go_ret; exact ⟨rfl, rfl⟩
end Tm
end Go.Proofs.YtplenoaajokpjaaGreat

namespace Go.Proofs.YtplenoaajokpjaaGreat
open Go.RowKit Ba Cv Sp Te Ag
namespace Tm
set_option linter.unusedVariables false
structure RB (w W : World) (r : Rw) : Prop where
 b : Below w.heap.size w W
 x : Bx W w.heap.size 52 (vc r)
theorem RB.next {w W W' : World} {r : Rw} (h : RB w W r) (hb : Below W.heap.size W W') : RB w W' r := ⟨h.b.trans (hb.mono h.b.size), h.x.keep hb⟩
theorem RB.start (w : World) (r : Rw) : RB w (w.alloc (.cells (vc r) 52)) r := ⟨alloc_ _ _, Bx.new _ _ _⟩
abbrev Pt : Type := Option (Bool × Bool × Bool)
theorem no8 {a b : Bool} (h : b = true → a = true) (ha : a = false) : b = false := by
 cases b
 ·rfl
 ·rw [h rfl] at ha; cases ha
def pa (o : Pt) : Bool := match o with | some (a, _, _) => a | none => false
def pb (o : Pt) : Bool := match o with | some (_, b, _) => b | none => false
def pd (o : Pt) : Bool := match o with | some (_, _, d) => d | none => false
theorem part_eq (o : Pt) : part o = pv (pa o) (pb o) (pd o) := by
 rcases o with _ | ⟨a, b, d⟩ <;> rfl
structure PB (w W : World) (r : Rw) (p : Nat) (o : Pt) : Prop where
 h : RB w W r
 y : Bx W p 101 #[.bool (pa o), .bool (pb o), .bool (pd o)]
theorem PB.next {w W W' : World} {r : Rw} {p : Nat} {o : Pt} (h : PB w W r p o) (hb : Below W.heap.size W W') : PB w W' r p o := ⟨h.h.next hb, h.y.keep hb⟩
structure RS (w : World) (r : Rw) (o : Pt) (L : Nat → Bool) (w' : World) (v3 v4 v5 v6 v7 v8 v9 v10 v11 : Value) (q p : Nat) : Prop where
 h : RB w w' r
 f0 : L 0 = true → v6 = .map (some q) ∧ KM w' q
 f1 : L 1 = true → v7 = .pointer (some ⟨w.heap.size, 2, none⟩)
 f2 : L 2 = true → v8 = .int .i64 r.v.kd
 f3 : L 3 = true → v9 = .tuple #[pv (pa o) (pb o) (pd o), .bool o.isSome]
 f4 : L 4 = true → v5 = .tuple #[pv (pa o) (pb o) (pd o), .bool o.isSome]
 f5 : L 5 = true → v10 = pv (pa o) (pb o) (pd o)
 f6 : L 6 = true → v11 = .bool o.isSome
 f7 : L 7 = true → v3 = .pointer (some ⟨p, 0, none⟩) ∧ w.heap.size < p ∧ ∃ x y z, Bx w' p 101 #[x, y, z]
 f8 : L 8 = true → Bx w' p 101 #[.bool (pa o), .bool (pb o), .bool (pd o)]
 f9 : L 9 = true → v4 = .bool o.isSome
 d8 : L 8 = true → L 7 = true
section
variable {w w' w2 : World} {r : Rw} {o : Pt} {L : Nat → Bool} {v3 v4 v5 v6 v7 v8 v9 v10 v11 : Value} {q p : Nat}
theorem RS.up (H : RS w r o L w' v3 v4 v5 v6 v7 v8 v9 v10 v11 q p) (hb : Below w'.heap.size w' w2) : RS w r o L w2 v3 v4 v5 v6 v7 v8 v9 v10 v11 q p :=
 ⟨H.h.next hb, fun l => ⟨(H.f0 l).1, (H.f0 l).2.below hb⟩, H.f1, H.f2, H.f3, H.f4, H.f5, H.f6, fun l => ⟨(H.f7 l).1, (H.f7 l).2.1, by obtain ⟨x, y, z, h⟩ := (H.f7 l).2.2; exact ⟨x, y, z, h.keep hb⟩⟩, fun l => (H.f8 l).keep hb, H.f9, H.d8⟩
theorem RS.s1 (H : RS w r o L w' v3 v4 v5 v6 v7 v8 v9 v10 v11 q p) : RS w r o (fun j => j == 1 || L j) w' v3 v4 v5 v6 (.pointer (some ⟨w.heap.size, 2, none⟩)) v8 v9 v10 v11 q p := ⟨H.h, H.f0, fun _ => rfl, H.f2, H.f3, H.f4, H.f5, H.f6, H.f7, H.f8, H.f9, H.d8⟩
theorem RS.s2 (H : RS w r o L w' v3 v4 v5 v6 v7 v8 v9 v10 v11 q p) : RS w r o (fun j => j == 2 || L j) w' v3 v4 v5 v6 v7 (.int .i64 r.v.kd) v9 v10 v11 q p := ⟨H.h, H.f0, H.f1, fun _ => rfl, H.f3, H.f4, H.f5, H.f6, H.f7, H.f8, H.f9, H.d8⟩
theorem RS.s3 (H : RS w r o L w' v3 v4 v5 v6 v7 v8 v9 v10 v11 q p) : RS w r o (fun j => j == 3 || L j) w' v3 v4 v5 v6 v7 v8 (.tuple #[pv (pa o) (pb o) (pd o), .bool o.isSome]) v10 v11 q p := ⟨H.h, H.f0, H.f1, H.f2, fun _ => rfl, H.f4, H.f5, H.f6, H.f7, H.f8, H.f9, H.d8⟩
theorem RS.s4 (H : RS w r o L w' v3 v4 v5 v6 v7 v8 v9 v10 v11 q p) : RS w r o (fun j => j == 4 || L j) w' v3 v4 (.tuple #[pv (pa o) (pb o) (pd o), .bool o.isSome]) v6 v7 v8 v9 v10 v11 q p := ⟨H.h, H.f0, H.f1, H.f2, H.f3, fun _ => rfl, H.f5, H.f6, H.f7, H.f8, H.f9, H.d8⟩
theorem RS.s5 (H : RS w r o L w' v3 v4 v5 v6 v7 v8 v9 v10 v11 q p) : RS w r o (fun j => j == 5 || L j) w' v3 v4 v5 v6 v7 v8 v9 (pv (pa o) (pb o) (pd o)) v11 q p := ⟨H.h, H.f0, H.f1, H.f2, H.f3, H.f4, fun _ => rfl, H.f6, H.f7, H.f8, H.f9, H.d8⟩
theorem RS.s6 (H : RS w r o L w' v3 v4 v5 v6 v7 v8 v9 v10 v11 q p) : RS w r o (fun j => j == 6 || L j) w' v3 v4 v5 v6 v7 v8 v9 v10 (.bool o.isSome) q p := ⟨H.h, H.f0, H.f1, H.f2, H.f3, H.f4, H.f5, fun _ => rfl, H.f7, H.f8, H.f9, H.d8⟩
theorem RS.s9 (H : RS w r o L w' v3 v4 v5 v6 v7 v8 v9 v10 v11 q p) : RS w r o (fun j => j == 9 || L j) w' v3 (.bool o.isSome) v5 v6 v7 v8 v9 v10 v11 q p := ⟨H.h, H.f0, H.f1, H.f2, H.f3, H.f4, H.f5, H.f6, H.f7, H.f8, fun _ => rfl, H.d8⟩
theorem RS.s0 (H : RS w r o L w' v3 v4 v5 v6 v7 v8 v9 v10 v11 q p) {q2 : Nat} (hk : KM w' q2) : RS w r o (fun j => j == 0 || L j) w' v3 v4 v5 (.map (some q2)) v7 v8 v9 v10 v11 q2 p := ⟨H.h, fun _ => ⟨rfl, hk⟩, H.f1, H.f2, H.f3, H.f4, H.f5, H.f6, H.f7, H.f8, H.f9, H.d8⟩
theorem RS.s7 (H : RS w r o L w' v3 v4 v5 v6 v7 v8 v9 v10 v11 q p) (h8 : L 8 = false) (x y z : Value) : RS w r o (fun j => j == 7 || L j) (w'.alloc (.cells #[x, y, z] 101)) (.pointer (some ⟨w'.heap.size, 0, none⟩)) v4 v5 v6 v7 v8 v9 v10 v11 q w'.heap.size := by
 have hl0 := H.h.x.lt; have H := H.up (alloc_ w' (.cells #[x, y, z] 101)); refine ⟨H.h, H.f0, H.f1, H.f2, H.f3, H.f4, H.f5, H.f6, fun _ => ⟨rfl, hl0, x, y, z, Bx.new _ _ _⟩, fun l => ?_, H.f9, fun _ => rfl⟩
 ·have h : ((8 : Nat) == 7 || L 8) = true := l; rw [h8] at h; cases h
theorem RS.s8 (H : RS w r o L w' v3 v4 v5 v6 v7 v8 v9 v10 v11 q p) (h7 : L 7 = true) : RS w r o (fun j => j == 8 || L j) (((w'.setCell ⟨p, 0, none⟩ (.bool (pa o))).setCell ⟨p, 1, none⟩ (.bool (pb o))).setCell ⟨p, 2, none⟩ (.bool (pd o))) v3 v4 v5 v6 v7 v8 v9 v10 v11 q p := by
 obtain ⟨e, hp, x, y, z, hx⟩ := H.f7 h7; have hy := ((hx.set 0 (.bool (pa o))).set 1 (.bool (pb o))).set 2 (.bool (pd o)); have e2 : (((#[x, y, z] : Array Value).setIfInBounds 0 (.bool (pa o))).setIfInBounds 1 (.bool (pb o))).setIfInBounds 2 (.bool (pd o)) = #[.bool (pa o), .bool (pb o), .bool (pd o)] := by simp
 rw [e2] at hy; have hbel : Below p w' (((w'.setCell ⟨p, 0, none⟩ (.bool (pa o))).setCell ⟨p, 1, none⟩ (.bool (pb o))).setCell ⟨p, 2, none⟩ (.bool (pd o))) := (((Below.refl _ _).setCell (p := ⟨p, 0, none⟩) (Nat.le_refl _) _).setCell (p := ⟨p, 1, none⟩) (Nat.le_refl _) _).setCell (p := ⟨p, 2, none⟩) (Nat.le_refl _) _; refine ⟨⟨H.h.b.trans (hbel.mono (by omega)), H.h.x.below hbel hp⟩, fun l => ⟨(H.f0 l).1, ?_⟩, H.f1, H.f2, H.f3, H.f4, H.f5, H.f6, fun l => ⟨e, hp, _, _, _, hy⟩, fun _ => hy, H.f9, fun _ => h7⟩; have hk := (H.f0 l).2
 have hne : q ≠ p := fun e => by
  subst e; unfold KM at hk; unfold Bx at hx; rw [hk] at hx; injection hx with hx
  cases hx
 unfold KM at hk ⊢; rw [Below.heap_setCell _ _ _ _ hne, Below.heap_setCell _ _ _ _ hne, Below.heap_setCell _ _ _ _ hne]; exact hk
end
set_option maxRecDepth 100000 in
set_option maxHeartbeats 4000000 in
theorem right0 (r : Rw) (w : World) (hS : Cvs w (· < w.heap.size) r.A r.n r.v.cs) (hm : r.n ≤ maxLen) : Calls Tryz.prog 42 #[vg r] w (Yes w (rch r.v)) := by
 obtain ⟨W, hW⟩ : ∃ W, w.alloc (.cells (vc r) 52) = W := ⟨_, rfl⟩; have H0 := Lib.hid (show RB w W r by rw [← hW]; exact RB.start w r); have HW := Lib.hid hW; clear hW; obtain ⟨o, ho⟩ : ∃ o, pts r.v.kd = o := ⟨_, rfl⟩; have HO := Lib.hid ho; obtain ⟨R, hR⟩ : ∃ R, rch r.v = R := ⟨_, rfl⟩; rw [hR]; unfold rch at hR; rw [ho] at hR; have HRR := Lib.hid hR; clear ho hR; go_enter Tryz.func42, Tryz.ntmps42
 go_wp2_with fail
 rw [HW.out]; clear HW
 go_cut [3, 4] (fun s3 s4 wx => ∃ (Wz : World) (p : Nat), Wz = wx ∧ s3 = .pointer (some ⟨p, 0, none⟩) ∧ s4 = .bool o.isSome ∧ Hid (PB w Wz r p o))
 case first =>
  refine wp_region_steps (fun L_ a_ w_ => ∃ (v3 v4 v5 v6 v7 v8 v9 v10 v11 : Value) (q p : Nat), a_ = { tmps := #[vg r, .pointer (some ⟨w.heap.size, 0, none⟩), .bool false, v3, v4, v5, v6, v7, v8, v9, v10, v11, undef, undef, undef, undef, undef, undef, undef, undef, undef, undef, undef, undef, undef, undef, undef, undef, undef, undef, undef, undef, undef, undef, undef, undef, undef, undef, undef, undef, undef, undef, undef, undef, undef], defers := [] } ∧ Hid (RS w r o L_ w_ v3 v4 v5 v6 v7 v8 v9 v10 v11 q p)) (by kernel_rfl) (by kernel_rfl) ?_ (AllSteps.cons ?_ (AllSteps.cons ?_ (AllSteps.cons ?_ (AllSteps.cons ?_ (AllSteps.cons ?_ (AllSteps.cons ?_ (AllSteps.cons ?_ (AllSteps.cons ?_ (AllSteps.cons ?_ (AllSteps.cons ?_ AllSteps.nil)))))))))) ?_
  ·exact ⟨_, _, _, _, _, _, _, _, _, 0, 0, rfl, Lib.hid ⟨H0.out.next ⟨rfl, rfl, rfl, Nat.le_refl _, fun _ _ => rfl⟩, (fun h => by cases h), (fun h => by cases h), (fun h => by cases h), (fun h => by cases h), (fun h => by cases h), (fun h => by cases h), (fun h => by cases h), (fun h => by cases h), (fun h => by cases h), (fun h => by cases h), (fun h => by cases h)⟩⟩
  ·rintro L_ a_ w_ hL hd ⟨v3, v4, v5, v6, v7, v8, v9, v10, v11, q, p, rfl, HR⟩ K hK; clear hd; go_simp; refine (kinds_ w_).mono ?_; rintro e w5 ⟨rfl, hk5, hb5⟩; have HR2 := Lib.hid ((HR.out.up hb5).s0 hk5); clear hb5 hk5
   try go_simp
   exact hK.out _ _ ⟨_, _, _, _, _, _, _, _, _, _, p, rfl, Lib.hid (HR2.out)⟩
  ·rintro L_ a_ w_ hL hd ⟨v3, v4, v5, v6, v7, v8, v9, v10, v11, q, p, rfl, HR⟩ K hK; clear hd; go_simp; exact hK.out _ _ ⟨_, _, _, _, _, _, _, _, _, q, p, rfl, Lib.hid (HR.out.s1)⟩
  ·rintro L_ a_ w_ hL hd ⟨v3, v4, v5, v6, v7, v8, v9, v10, v11, q, p, rfl, HR⟩ K hK; have e1 := HR.out.f1 (hd ⟨1, .data⟩ (by simp) rfl); subst e1; have c2 := HR.out.h.x.c 2; simp at c2; clear hd; go_simp; exact hK.out _ _ ⟨_, _, _, _, _, _, _, _, _, q, p, rfl, Lib.hid (HR.out.s2)⟩
  ·rintro L_ a_ w_ hL hd ⟨v3, v4, v5, v6, v7, v8, v9, v10, v11, q, p, rfl, HR⟩ K hK; obtain ⟨e0, hk⟩ := HR.out.f0 (hd ⟨0, .data⟩ (by simp) rfl); subst e0; have e2 := HR.out.f2 (hd ⟨2, .data⟩ (by simp) rfl); subst e2; have lk := look hk r.v.kd; rw [HO.out, part_eq] at lk; clear hd hk; go_simp; exact hK.out _ _ ⟨_, _, _, _, _, _, _, _, _, q, p, rfl, Lib.hid (HR.out.s3)⟩
  ·rintro L_ a_ w_ hL hd ⟨v3, v4, v5, v6, v7, v8, v9, v10, v11, q, p, rfl, HR⟩ K hK; have e3 := HR.out.f3 (hd ⟨3, .data⟩ (by simp) rfl); subst e3; clear hd; go_simp; exact hK.out _ _ ⟨_, _, _, _, _, _, _, _, _, q, p, rfl, Lib.hid (HR.out.s4)⟩
  ·rintro L_ a_ w_ hL hd ⟨v3, v4, v5, v6, v7, v8, v9, v10, v11, q, p, rfl, HR⟩ K hK; have e4 := HR.out.f4 (hd ⟨4, .data⟩ (by simp) rfl); subst e4; clear hd; go_simp; exact hK.out _ _ ⟨_, _, _, _, _, _, _, _, _, q, p, rfl, Lib.hid (HR.out.s5)⟩
  ·rintro L_ a_ w_ hL hd ⟨v3, v4, v5, v6, v7, v8, v9, v10, v11, q, p, rfl, HR⟩ K hK; have e4 := HR.out.f4 (hd ⟨4, .data⟩ (by simp) rfl); subst e4; clear hd; go_simp; exact hK.out _ _ ⟨_, _, _, _, _, _, _, _, _, q, p, rfl, Lib.hid (HR.out.s6)⟩
  ·rintro L_ a_ w_ hL hd ⟨v3, v4, v5, v6, v7, v8, v9, v10, v11, q, p, rfl, HR⟩ K hK; clear hd; go_simp; exact hK.out _ _ ⟨_, _, _, _, _, _, _, _, _, q, _, rfl, Lib.hid (HR.out.s7 (no8 HR.out.d8 hL) _ _ _)⟩
  ·rintro L_ a_ w_ hL hd ⟨v3, v4, v5, v6, v7, v8, v9, v10, v11, q, p, rfl, HR⟩ K hK; have q7 : L_ 7 = true := hd ⟨7, .data⟩ (by simp) rfl; have e5 := HR.out.f5 (hd ⟨5, .data⟩ (by simp) rfl); obtain ⟨e7, _, x, y, z, hx⟩ := HR.out.f7 q7; subst e5 e7; have z0 := hx.c 0; have z1 := hx.c 1; have z2 := hx.c 2; have g0 := hx.f 0; have g1 := hx.f 1; have g2 := hx.f 2; simp at z0 z1 z2; clear hd hx; go_simp; exact hK.out _ _ ⟨_, _, _, _, _, _, _, _, _, q, p, rfl, Lib.hid (HR.out.s8 q7)⟩
  ·rintro L_ a_ w_ hL hd ⟨v3, v4, v5, v6, v7, v8, v9, v10, v11, q, p, rfl, HR⟩ K hK; have e6 := HR.out.f6 (hd ⟨6, .data⟩ (by simp) rfl); subst e6; clear hd; go_simp; exact hK.out _ _ ⟨_, _, _, _, _, _, _, _, _, q, p, rfl, Lib.hid (HR.out.s9)⟩
  ·rintro L_ a_ w_ hall ⟨v3, v4, v5, v6, v7, v8, v9, v10, v11, q, p, rfl, HR⟩; have e9 := HR.out.f9 (hall 9 (by simp)); have e7 := (HR.out.f7 (hall 7 (by simp))).1; subst e9 e7; have HT := Lib.hid (show PB w w_ r p o from ⟨HR.out.h, HR.out.f8 (hall 8 (by simp))⟩); clear hall; dsimp only [Exit.then]; go_step; go_meet; exact ⟨_, p, rfl, rfl, rfl, HT⟩
 case rest =>
  obtain ⟨W1, p, rfl, rfl, rfl, HP⟩ := hcut; have CD := fun n w => Lib.hid (isDay n w)
  clear H0; have hx := HP.out.h.x; have hy := HP.out.y; have x0 := hx.c 0; have x1 := hx.c 1; have x2 := hx.c 2; have x3 := hx.c 3; have x4 := hx.c 4; have x5 := hx.c 5; have x6 := hx.c 6; have x7 := hx.c 7; have x8 := hx.c 8; simp at x0 x1 x2 x3 x4 x5 x6 x7 x8; have y0 := hy.c 0; have y1 := hy.c 1; have y2 := hy.c 2; simp at y0 y1 y2; have hlx := hx.lt; have hly := hy.lt; clear hx hy; have hR := HRR.out; cases o with
  | none =>
   have HQ := Lib.hid (show R = false by rw [← hR]; simp [fits]); clear hR CD; go_wp2; go_ret; exact ⟨by rw [HQ.out]; rfl, HP.out.h.b⟩
  | some t =>
   obtain ⟨a, b, d⟩ := t; simp [pa, pb, pd] at y0 y1 y2; cases d1 : day r.v.bk
   ·have HQ := Lib.hid (show R = false by rw [← hR, d1]; rfl); clear hR
    go_wp2_with (go_at_call 59; refine (CD _ _).out.mono ?_; rintro e w' ⟨rfl, rfl⟩)
    go_ret; exact ⟨by rw [HQ.out]; rfl, HP.out.h.b⟩
   cases d2 : day r.v.dy
   ·have HQ := Lib.hid (show R = false by rw [← hR, d1, d2]; rfl); clear hR
    go_wp2_with (go_at_call 59; refine (CD _ _).out.mono ?_; rintro e w' ⟨rfl, rfl⟩)
    go_ret; exact ⟨by rw [HQ.out]; rfl, HP.out.h.b⟩
   rw [d1, d2] at hR; simp only [fits, Bool.true_and] at hR; have C1 := fun W => Lib.hid (riskFits r.v.r a W)
   have C2 := fun W (h : Below w.heap.size w W) => Lib.hid (coversFit r.A r.n r.c r.v.cs b W (hS.below h) hm)
   have C3 := fun W => Lib.hid (wayFits r.v.wy d W)
   have HC := Lib.hid (And.intro C1 (And.intro C2 C3)); clear C1 C2 C3; cases q1 : rfit r.v.r a
   ·have HQ := Lib.hid (show R = false by rw [← hR, q1]; rfl); have C1 := Lib.hid (HC.out.1 W1).out; rw [q1] at C1; clear hR q1 hS
    go_wp2_with (first
     | (go_at_call 59; refine (CD _ _).out.mono ?_; rintro e w' ⟨rfl, rfl⟩)
     | (go_at_call 60; with_reducible refine C1.out.mono ?_; rintro e w2 ⟨rfl, hb2⟩; have HB2 := Lib.hid (HP.out.h.next hb2); clear hb2))
    go_ret; exact ⟨by rw [HQ.out]; rfl, HB2.out.b⟩
   cases q2 : cfit r.v.cs b
   ·have HQ := Lib.hid (show R = false by rw [← hR, q1, q2]; rfl); have C1 := Lib.hid (HC.out.1 W1).out; rw [q1] at C1; clear hR q1
    go_wp2_with (first
     | (go_at_call 59; refine (CD _ _).out.mono ?_; rintro e w' ⟨rfl, rfl⟩)
     | (go_at_call 60; with_reducible refine C1.out.mono ?_; rintro e w2 ⟨rfl, hb2⟩; have HP2 := Lib.hid (HP.out.next hb2); have C2 := Lib.hid (HC.out.2.1 w2 HP2.out.h.b).out; rw [q2] at C2; have x7' := HP2.out.h.x.c 7; have y1' := HP2.out.y.c 1; simp at x7' y1'; simp [pb] at y1'; clear hb2)
     | (go_at_call 61; with_reducible refine C2.out.mono ?_; rintro e w3 ⟨rfl, hb3⟩; have HP3 := Lib.hid (HP2.out.next hb3); clear hb3))
    go_ret; exact ⟨by rw [HQ.out]; rfl, HP3.out.h.b⟩
   ·obtain ⟨q, q3⟩ : ∃ q, wfit r.v.wy d = q := ⟨_, rfl⟩; have HQ := Lib.hid (show R = q by rw [← hR, q1, q2, q3]; simp); have C1 := Lib.hid (HC.out.1 W1).out; rw [q1] at C1; clear hR q1
    go_wp2_with (first
     | (go_at_call 59; refine (CD _ _).out.mono ?_; rintro e w' ⟨rfl, rfl⟩)
     | (go_at_call 60; with_reducible refine C1.out.mono ?_; rintro e w2 ⟨rfl, hb2⟩; have HP2 := Lib.hid (HP.out.next hb2); have C2 := Lib.hid (HC.out.2.1 w2 HP2.out.h.b).out; rw [q2] at C2; have x7' := HP2.out.h.x.c 7; have y1' := HP2.out.y.c 1; simp at x7' y1'; simp [pb] at y1'; clear hb2)
     | (go_at_call 61; with_reducible refine C2.out.mono ?_; rintro e w3 ⟨rfl, hb3⟩; have HP3 := Lib.hid (HP2.out.next hb3); have C3 := Lib.hid (HC.out.2.2 w3).out; rw [q3] at C3; have x8' := HP3.out.h.x.c 8; have y2' := HP3.out.y.c 2; simp at x8' y2'; simp [pd] at y2'; clear hb3)
     | (go_at_call 62; with_reducible refine C3.out.mono ?_; rintro e w4 ⟨rfl, rfl⟩))
    go_ret; exact ⟨by rw [HQ.out]; rfl, HP3.out.h.b⟩
end Tm
end Go.Proofs.YtplenoaajokpjaaGreat
