/-
  Set of package step, walked. Conditions: the rows read as lists of ints.
-/
import Derived.Test.YtngpcabengmoiaaSet
import Derived.Laws.EntriesVeiled
namespace Go.Proofs.Ytngpcabengmoiaa
open Go.RowKit St
namespace Stp
set_option linter.unusedVariables false

/-- What Set boxes first. -/
abbrev setW (w : World) (A : Option Addr) (n c : Nat) (V : Option Addr) (m d : Nat) (s : Pr) (v : Int) : World :=
  (((w.alloc (.cells #[.slice A n c, .slice V m d] 24)).alloc (.cells #[.int .i64 s.1, .int .i64 s.2] 33)).alloc (.cells #[.int .i64 v] 3)).alloc (.cells #[.slice none 0 0, .slice none 0 0] 24)
/-- Its four boxes. -/
structure SB (w W : World) (A : Option Addr) (n c : Nat) (V : Option Addr) (m d : Nat) (s : Pr) (v : Int) : Prop where
  f : Bx W w.heap.size 24 (.slice A n c) (.slice V m d)
  s : Bx W (w.heap.size + 1) 33 (.int .i64 s.1) (.int .i64 s.2)
  v : Boxed W (w.heap.size + 1 + 1) 3 (.int .i64 v)
  r : Bx W (w.heap.size + 1 + 1 + 1) 24 (.slice none 0 0) (.slice none 0 0)
  b : Below w.heap.size w W
section
variable {w W W1 : World} {A : Option Addr} {n c : Nat} {V : Option Addr} {m d : Nat} {s : Pr} {v : Int}
theorem SB.new : SB w (setW w A n c V m d s v) A n c V m d s v := by
  have b0 := Bx.new w 24 (.slice A n c) (.slice V m d)
  have b1 := Bx.new (w.alloc (.cells #[.slice A n c, .slice V m d] 24)) 33 (.int .i64 s.1) (.int .i64 s.2)
  have b2 := Boxed.new ((w.alloc (.cells #[.slice A n c, .slice V m d] 24)).alloc (.cells #[.int .i64 s.1, .int .i64 s.2] 33)) 3 (.int .i64 v)
  have b3 := Bx.new (((w.alloc (.cells #[.slice A n c, .slice V m d] 24)).alloc (.cells #[.int .i64 s.1, .int .i64 s.2] 33)).alloc (.cells #[.int .i64 v] 3)) 24 (.slice none 0 0) (.slice none 0 0)
  simp only [World.size_alloc] at b1 b2 b3
  exact ⟨((b0.alloc _).alloc _).alloc _, (b1.alloc _).alloc _, b2.alloc _, b3, ((((Below.refl _ w).alloc (Nat.le_refl _) _).alloc (by simp) _).alloc (by simp <;> omega) _).alloc (by simp <;> omega) _⟩
theorem SB.keep (h : SB w W A n c V m d s v) (hb : Below W.heap.size W W1) : SB w W1 A n c V m d s v :=
  ⟨h.f.keep hb, h.s.keep hb, (hb.block _ h.v.lt).trans h.v, h.r.keep hb, h.b.trans (hb.mono h.b.size)⟩
end

theorem below_drew5 {W w5 : World} (h : Below W.drew.heap.size W.drew w5) : Below W.heap.size W w5 := ⟨h.os, h.tape, h.output, h.size, h.block⟩

set_option maxRecDepth 100000 in
set_option maxHeartbeats 2000000 in
theorem set_no (A : Option Addr) (n c : Nat) (V : Option Addr) (m d : Nat) (xs vs : List Int) (s : Pr) (v : Int) (w : World) (hS : Sx w w.heap.size A n V m xs vs) (hn : n ≤ 1000) (h : rg xs vs = false) :
    Calls Try.prog 14 #[sg A n c V m d, ag s, .int .i64 v] w (GivesB w []) := by
  have S0 : SB w (setW w A n c V m d s v) A n c V m d s v := SB.new
  have C := Lib.hid (right A n c V m d xs vs _ ((hS.below S0.b (Nat.le_refl _)).wide S0.b.size) (by omega))
  rw [h] at C
  have HS := Lib.hid S0
  clear h hS S0
  obtain ⟨s1, s2⟩ := s
  go_enter Try.func14, Try.ntmps14
  go_wp2_with fail
  refine C.out.mono ?_
  rintro e w1 ⟨rfl, hb⟩
  have S1 := HS.out.keep hb
  have r0 := S1.r.c0
  have r1 := S1.r.c1
  have f0 := S1.r.f 0
  have f1 := S1.r.f 1
  have H1 := Lib.hid S1
  clear hb HS S1 C
  go_wp2
  have Z := (H1.out.r.set0 (.slice none 0 0)).set1 (.slice none 0 0)
  exact bodyPost_ret (v := sg none 0 0 none 0 0) (by simp [results, Try.results14, go_sem, Z.c0, Z.c1]) rfl ⟨none, 0, none, 0, rfl, OwnS.nil, (H1.out.b.setCell (p := ⟨w.heap.size + 1 + 1 + 1, 0, none⟩) (by simp <;> omega) _).setCell (p := ⟨w.heap.size + 1 + 1 + 1, 1, none⟩) (by simp <;> omega) _⟩

set_option maxRecDepth 100000 in
set_option maxHeartbeats 4000000 in
theorem set_wide (A : Option Addr) (n c : Nat) (V : Option Addr) (d : Nat) (ps : List Pr) (s : Pr) (v : Int) (w : World) (hS : Sr w w.heap.size A V n ps) (hn : n ≤ 1000) (h : Right ps) (hs : full s = false) :
    Calls Try.prog 14 #[sg A n c V n d, ag s, .int .i64 v] w (GivesB w ps) := by
  have S0 : SB w (setW w A n c V n d s v) A n c V n d s v := SB.new
  have C := Lib.hid (right A n c V n d _ _ _ ((hS.below S0.b (Nat.le_refl _)).wide S0.b.size) (by omega))
  rw [rg_of h] at C
  have C2 := fun w => Lib.hid (full_ s w)
  rw [hs] at C2
  have HS0 := Lib.hid hS
  have HS := Lib.hid S0
  have HL := Lib.hid hS.len
  clear h hS S0 hs
  obtain ⟨s1, s2⟩ := s
  go_enter Try.func14, Try.ntmps14
  go_wp2_with fail
  refine C.out.mono ?_
  rintro e w1 ⟨rfl, hb⟩
  have S1 := HS.out.keep hb
  have p0 := S1.s.c0
  have p1 := S1.s.c1
  simp only at p0 p1
  have H1 := Lib.hid S1
  clear hb HS S1 C
  go_wp2_with fail
  refine (C2 _).out.mono ?_
  rintro e w2 ⟨rfl, hb⟩
  have S2 := H1.out.keep hb
  clear p0 p1
  have q0 := S2.v.cell
  have a0 := S2.f.c0
  have a1 := S2.f.c1
  have H2 := Lib.hid S2
  clear hb H1 S2 C2
  go_wp2
  have ne0 : w.heap.size ≠ w.heap.size + 1 + 1 + 1 := by omega
  have HSr := Lib.hid ((HS0.out.below H2.out.b (Nat.le_refl _)).wide H2.out.b.size)
  go_region_held3 (fun w' => w'.cell? ⟨w.heap.size, 0, none⟩ = some (.slice A n c) ∧ w'.cell? ⟨w.heap.size, 1, none⟩ = some (.slice V n d))
    (first | exact ⟨a0, a1⟩ | (with_reducible exact ⟨e0, e1⟩) | (with_reducible exact ⟨m0, m1⟩) | exact ⟨cst m0 ne0 ne0, cst m1 ne0 ne0⟩ | fail)
    (first
    | (go_at_call 25; ((refine (cloneI V n d (ps.map (·.2)) w5 HSr5.out.v (by omega)).mono ?_); rintro e w7 ⟨A7, c7, rfl, hO7, hb7⟩; have HO7 := Lib.hid hO7; have HO5b := Lib.hid (HO5.out.below hb7); have HS7 := Lib.hid (HS5.out.keep hb7); have m0 := HS7.out.f.c0; have m1 := HS7.out.f.c1; have m3 := HS7.out.r.c0; have m4 := HS7.out.r.c1; have m5 := HS7.out.r.f 0; have m6 := HS7.out.r.f 1; clear hO7 hb7))
    | (go_at_call 25; ((refine (cloneI A n c (ps.map (·.1)) _ HSr.out.a (by omega)).mono ?_); rintro e w5 ⟨A5, c5, rfl, hO5, hb5⟩; have HB5 := Lib.hid (below_drew5 hb5); have HO5 := Lib.hid hO5; have HS5 := Lib.hid (H2.out.keep HB5.out); have HSr5 := Lib.hid (HSr.out.keep_ HB5.out); have e0 := HS5.out.f.c0; have e1 := HS5.out.f.c1; clear hO5 hb5))
    | fail)
  all_goals
    go_wp2
    have Z := (HS7.out.r.set0 (.slice A5 n c5)).set1 (.slice A7 n c7)
    have OS : OwnS w7 w2.heap.size A5 n c5 A7 n c7 (ps.map (·.1)) (ps.map (·.2)) := ⟨HO5b.out, HO7.out.low HB5.out.size, fun g e1 e2 => by have h1 := (HO5.out.lt g e1).2; have h2 := (HO7.out.lt g e2).1; omega⟩
    have hr := H2.out.r.lt
    have O1 := OS.far (p := ⟨w.heap.size + 1 + 1 + 1, 0, none⟩) (low_ne OS.a (by simp <;> omega)) (low_ne OS.v (by simp <;> omega)) (.slice A5 n c5)
    have O2 := O1.far (p := ⟨w.heap.size + 1 + 1 + 1, 1, none⟩) (low_ne O1.a (by simp <;> omega)) (low_ne O1.v (by simp <;> omega)) (.slice A7 n c7)
    refine bodyPost_ret (v := sg A5 n c5 A7 n c7) (by simp [results, Try.results14, go_sem, Z.c0, Z.c1]) rfl ⟨A5, c5, A7, c7, ?_, ?_, (HS7.out.b.setCell (p := ⟨w.heap.size + 1 + 1 + 1, 0, none⟩) (by simp <;> omega) _).setCell (p := ⟨w.heap.size + 1 + 1 + 1, 1, none⟩) (by simp <;> omega) _⟩
    · rw [HL.out]
    · rw [HL.out]; exact O2.low H2.out.b.size

set_option maxRecDepth 100000 in
set_option maxHeartbeats 4000000 in
theorem set_far (A : Option Addr) (n c : Nat) (V : Option Addr) (d : Nat) (ps : List Pr) (s : Pr) (v : Int) (w : World) (hS : Sr w w.heap.size A V n ps) (hn : n ≤ 1000) (h : Right ps) (hs : full s = true) (hv : St.fits v = false) :
    Calls Try.prog 14 #[sg A n c V n d, ag s, .int .i64 v] w (GivesB w ps) := by
  have S0 : SB w (setW w A n c V n d s v) A n c V n d s v := SB.new
  have C := Lib.hid (right A n c V n d _ _ _ ((hS.below S0.b (Nat.le_refl _)).wide S0.b.size) (by omega))
  rw [rg_of h] at C
  have C2 := fun w => Lib.hid (full_ s w)
  rw [hs] at C2
  have C3 := fun w => Lib.hid (fits_ v w)
  rw [hv] at C3
  have HS0 := Lib.hid hS
  have HS := Lib.hid S0
  have HL := Lib.hid hS.len
  clear h hS S0 hs hv
  obtain ⟨s1, s2⟩ := s
  go_enter Try.func14, Try.ntmps14
  go_wp2_with fail
  refine C.out.mono ?_
  rintro e w1 ⟨rfl, hb⟩
  have S1 := HS.out.keep hb
  have p0 := S1.s.c0
  have p1 := S1.s.c1
  simp only at p0 p1
  have H1 := Lib.hid S1
  clear hb HS S1 C
  go_wp2_with fail
  refine (C2 _).out.mono ?_
  rintro e w2 ⟨rfl, hb⟩
  have S2 := H1.out.keep hb
  clear p0 p1
  have q0 := S2.v.cell
  have a0 := S2.f.c0
  have a1 := S2.f.c1
  have H2 := Lib.hid S2
  clear hb H1 S2 C2
  go_wp2_with (go_at_call 20; refine (C3 _).out.mono ?_; rintro e w' ⟨rfl, rfl⟩)
  have ne0 : w.heap.size ≠ w.heap.size + 1 + 1 + 1 := by omega
  have HSr := Lib.hid ((HS0.out.below H2.out.b (Nat.le_refl _)).wide H2.out.b.size)
  go_region_held3 (fun w' => w'.cell? ⟨w.heap.size, 0, none⟩ = some (.slice A n c) ∧ w'.cell? ⟨w.heap.size, 1, none⟩ = some (.slice V n d))
    (first | exact ⟨a0, a1⟩ | (with_reducible exact ⟨e0, e1⟩) | (with_reducible exact ⟨m0, m1⟩) | exact ⟨cst m0 ne0 ne0, cst m1 ne0 ne0⟩ | fail)
    (first
    | (go_at_call 25; ((refine (cloneI V n d (ps.map (·.2)) w5 HSr5.out.v (by omega)).mono ?_); rintro e w7 ⟨A7, c7, rfl, hO7, hb7⟩; have HO7 := Lib.hid hO7; have HO5b := Lib.hid (HO5.out.below hb7); have HS7 := Lib.hid (HS5.out.keep hb7); have m0 := HS7.out.f.c0; have m1 := HS7.out.f.c1; have m3 := HS7.out.r.c0; have m4 := HS7.out.r.c1; have m5 := HS7.out.r.f 0; have m6 := HS7.out.r.f 1; clear hO7 hb7))
    | (go_at_call 25; ((refine (cloneI A n c (ps.map (·.1)) _ HSr.out.a (by omega)).mono ?_); rintro e w5 ⟨A5, c5, rfl, hO5, hb5⟩; have HB5 := Lib.hid (below_drew5 hb5); have HO5 := Lib.hid hO5; have HS5 := Lib.hid (H2.out.keep HB5.out); have HSr5 := Lib.hid (HSr.out.keep_ HB5.out); have e0 := HS5.out.f.c0; have e1 := HS5.out.f.c1; clear hO5 hb5))
    | fail)
  all_goals
    go_wp2
    have Z := (HS7.out.r.set0 (.slice A5 n c5)).set1 (.slice A7 n c7)
    have OS : OwnS w7 w2.heap.size A5 n c5 A7 n c7 (ps.map (·.1)) (ps.map (·.2)) := ⟨HO5b.out, HO7.out.low HB5.out.size, fun g e1 e2 => by have h1 := (HO5.out.lt g e1).2; have h2 := (HO7.out.lt g e2).1; omega⟩
    have hr := H2.out.r.lt
    have O1 := OS.far (p := ⟨w.heap.size + 1 + 1 + 1, 0, none⟩) (low_ne OS.a (by simp <;> omega)) (low_ne OS.v (by simp <;> omega)) (.slice A5 n c5)
    have O2 := O1.far (p := ⟨w.heap.size + 1 + 1 + 1, 1, none⟩) (low_ne O1.a (by simp <;> omega)) (low_ne O1.v (by simp <;> omega)) (.slice A7 n c7)
    refine bodyPost_ret (v := sg A5 n c5 A7 n c7) (by simp [results, Try.results14, go_sem, Z.c0, Z.c1]) rfl ⟨A5, c5, A7, c7, ?_, ?_, (HS7.out.b.setCell (p := ⟨w.heap.size + 1 + 1 + 1, 0, none⟩) (by simp <;> omega) _).setCell (p := ⟨w.heap.size + 1 + 1 + 1, 1, none⟩) (by simp <;> omega) _⟩
    · rw [HL.out]
    · rw [HL.out]; exact O2.low H2.out.b.size

set_option maxRecDepth 100000 in
set_option maxHeartbeats 4000000 in
theorem set_yes (A : Option Addr) (n c : Nat) (V : Option Addr) (d : Nat) (ps : List Pr) (s : Pr) (v : Int) (w : World) (hS : Sr w w.heap.size A V n ps) (hn : n ≤ 1000) (h : Right ps) (hs : full s = true) (hv : St.fits v = true) :
    Calls Try.prog 14 #[sg A n c V n d, ag s, .int .i64 v] w (GivesB w (mks (setG ps s v) (chg (1, 292195) (ps.map (·.1)) [s.1, s.2])).1) := by
  have S0 : SB w (setW w A n c V n d s v) A n c V n d s v := SB.new
  have C := Lib.hid (right A n c V n d _ _ _ ((hS.below S0.b (Nat.le_refl _)).wide S0.b.size) (by omega))
  rw [rg_of h] at C
  have C2 := fun w => Lib.hid (full_ s w)
  rw [hs] at C2
  have C3 := fun w => Lib.hid (fits_ v w)
  rw [hv] at C3
  have HS0 := Lib.hid hS
  have HP := Lib.hid h
  have HS := Lib.hid S0
  clear h hS S0 hs hv
  obtain ⟨s1, s2⟩ := s
  go_enter Try.func14, Try.ntmps14
  go_wp2_with fail
  refine C.out.mono ?_
  rintro e w1 ⟨rfl, hb⟩
  have S1 := HS.out.keep hb
  have p0 := S1.s.c0
  have p1 := S1.s.c1
  simp only at p0 p1
  have H1 := Lib.hid S1
  clear hb HS S1 C
  go_wp2_with fail
  refine (C2 _).out.mono ?_
  rintro e w2 ⟨rfl, hb⟩
  have S2 := H1.out.keep hb
  clear p0 p1
  have q0 := S2.v.cell
  have q1 := S2.f.c0
  have q2 := S2.f.c1
  have H2 := Lib.hid S2
  clear hb H1 S2 C2
  go_wp2_with (go_at_call 20; refine (C3 _).out.mono ?_; rintro e w' ⟨rfl, rfl⟩)
  refine (valueOf A n c V n d w2).mono ?_
  rintro e w' ⟨rfl, rfl⟩
  have HB3 : Below w2.heap.size w2 ((w2.alloc (.cells #[.slice A n c, .slice V n d] 24)).alloc (.cells #[.func (.func 28) #[] #[.pointer (some ⟨w2.heap.size, 0, none⟩)]] 40)) := ((Below.refl _ _).alloc (Nat.le_refl _) _).alloc (by simp) _
  have S3 := H2.out.keep HB3
  have v3 := Boxed.new (w2.alloc (.cells #[.slice A n c, .slice V n d] 24)) 40 (.func (.func 28) #[] #[.pointer (some ⟨w2.heap.size, 0, none⟩)])
  have b3 := (Bx.new w2 24 (.slice A n c) (.slice V n d)).alloc (.cells #[.func (.func 28) #[] #[.pointer (some ⟨w2.heap.size, 0, none⟩)]] 40)
  rw [World.size_alloc] at v3
  go_wp2
  obtain ⟨W, hW⟩ : ∃ W, (w2.alloc (.cells #[.slice A n c, .slice V n d] 24)).alloc (.cells #[.func (.func 28) #[] #[.pointer (some ⟨w2.heap.size, 0, none⟩)]] 40) = W := ⟨_, rfl⟩
  rw [hW] at S3 v3 b3
  rw [hW]
  have HSr := Lib.hid ((HS0.out.below S3.b (Nat.le_refl _)).wide S3.b.size)
  have HVal := Lib.hid (Val.mk (w := W) ⟨_, A, n, c, V, d, rfl, b3, HSr.out, HP.out.1, by omega⟩)
  have HS3 := Lib.hid S3
  have HV3 := Lib.hid v3
  have a0 := S3.f.c0
  have p0 := S3.s.c0
  have p1 := S3.s.c1
  have r0 := S3.r.c0
  simp only at p0 p1
  clear hW HB3 S3 v3 b3 q0 q1 q2 H2 C3 HS0
  have HBA := Lib.hid (show Below W.heap.size W (W.alloc (.cells #[.int .i64 s1, .int .i64 s2] 3)).drew from ((Below.refl _ W).alloc (Nat.le_refl _) _).drew)
  have HIA := Lib.hid (show Ints (W.alloc (.cells #[.int .i64 s1, .int .i64 s2] 3)).drew (W.heap.size + 1) (some ⟨W.heap.size, 0, none⟩) 2 [s1, s2] from ints_new2 W s1 s2)
  have g0 := (HBA.out.cell (p := ⟨w.heap.size, 0, none⟩) HS3.out.f.lt).trans a0
  have g1 := (HBA.out.cell (p := ⟨w.heap.size + 1, 0, none⟩) HS3.out.s.lt).trans p0
  have g2 := (HBA.out.cell (p := ⟨w.heap.size + 1, 1, none⟩) HS3.out.s.lt).trans p1
  have ne0 : w.heap.size ≠ w.heap.size + 1 + 1 + 1 := by omega
  have ne1 : w.heap.size + 1 ≠ w.heap.size + 1 + 1 + 1 := by omega
  go_region_held3 (fun w' => w'.cell? ⟨w.heap.size, 0, none⟩ = some (.slice A n c) ∧ w'.cell? ⟨w.heap.size + 1, 0, none⟩ = some (.int .i64 s1) ∧ w'.cell? ⟨w.heap.size + 1, 1, none⟩ = some (.int .i64 s2))
    (first | exact ⟨a0, p0, p1⟩ | (with_reducible exact ⟨g0, g1, g2⟩) | (with_reducible exact ⟨e0, e1, e2⟩) | (with_reducible exact ⟨cal e0, cal e1, cal e2⟩) | (with_reducible exact ⟨cal (cal (cal (cal e0))), cal (cal (cal (cal e1))), cal (cal (cal (cal e2)))⟩) | (with_reducible exact ⟨k0, k1, k2⟩) | (with_reducible exact ⟨cal (cal (cal k0)), cal (cal (cal k1)), cal (cal (cal k2))⟩) | (with_reducible exact ⟨m0, m1, m2⟩) | exact ⟨cst m0 ne0 ne0, cst m1 ne1 ne1, cst m2 ne1 ne1⟩ | fail)
    (first
    | (go_at_call 18; ((with_reducible refine (always _).mono ?_); rintro e w5 ⟨rfl, hb5⟩; have HB5 := Lib.hid (below_drew5 hb5); have e0 := (HB5.out.cell HS3.out.f.lt).trans a0; have e1 := (HB5.out.cell HS3.out.s.lt).trans p0; have e2 := (HB5.out.cell HS3.out.s.lt).trans p1; clear hb5))
    | (go_at_call 18; ((with_reducible refine (always _).mono ?_); rintro e w6 ⟨rfl, hb6⟩; have HB6 := Lib.hid (HBA.out.trans (hb6.mono HBA.out.size)); have HI6 := Lib.hid (HIA.out.below hb6 (by simp)); have HB6s := Lib.hid (show W.heap.size + 1 ≤ w6.heap.size by have := hb6.size; simpa using this); have k0 := (HB6.out.cell (p := ⟨w.heap.size, 0, none⟩) HS3.out.f.lt).trans a0; have k1 := (HB6.out.cell (p := ⟨w.heap.size + 1, 0, none⟩) HS3.out.s.lt).trans p0; have k2 := (HB6.out.cell (p := ⟨w.heap.size + 1, 1, none⟩) HS3.out.s.lt).trans p1; clear hb6))
    | (go_at_call 17; ((with_reducible refine (changes _ _ _ _ _ _ _ _).mono ?_); rintro e w' ⟨rfl, rfl⟩))
    | (go_at_call 16; ((refine (made_set' W _ (w5.heap.size + 1) (w.heap.size + 1) (w.heap.size + 1 + 1) (w2.heap.size + 1) (s1, s2) v _ ps A n c ⟨w5.heap.size, 0, none⟩ (World.size_alloc _ _) (HB5.out.alloc HB5.out.size _) HS3.out.s HS3.out.v HV3.out HVal.out HSr.out.a hn (ints_new2 w5 s1 s2)).mono ?_); rintro e w7 ⟨A7, c7, V7, d7, rfl, hO7, hb7⟩; have HO7 := Lib.hid hO7; have HS7 := Lib.hid (HS3.out.keep hb7); have m0 := HS7.out.f.c0; have m1 := HS7.out.s.c0; have m2 := HS7.out.s.c1; have m3 := HS7.out.r.c0; have m4 := HS7.out.r.c1; have m5 := HS7.out.r.f 0; have m6 := HS7.out.r.f 1; simp only at m1 m2; have HB7 := Lib.hid hb7; clear hO7 hb7))
    | (go_at_call 16; ((refine (made_set' W w6 w6.heap.size (w.heap.size + 1) (w.heap.size + 1 + 1) (w2.heap.size + 1) (s1, s2) v _ ps A n c ⟨W.heap.size, 0, none⟩ rfl HB6.out HS3.out.s HS3.out.v HV3.out HVal.out HSr.out.a hn (HI6.out.wide HB6s.out)).mono ?_); rintro e w7 ⟨A7, c7, V7, d7, rfl, hO7, hb7⟩; have HO7 := Lib.hid hO7; have HS7 := Lib.hid (HS3.out.keep hb7); have m0 := HS7.out.f.c0; have m1 := HS7.out.s.c0; have m2 := HS7.out.s.c1; have m3 := HS7.out.r.c0; have m4 := HS7.out.r.c1; have m5 := HS7.out.r.f 0; have m6 := HS7.out.r.f 1; simp only at m1 m2; have HB7 := Lib.hid hb7; clear hO7 hb7))
    | fail)
  all_goals
    go_wp2
    have Z := (HS7.out.r.set0 (.slice A7 (mks (setG ps (s1, s2) v) (chg (1, 292195) (ps.map (·.1)) [s1, s2])).1.length c7)).set1 (.slice V7 (mks (setG ps (s1, s2) v) (chg (1, 292195) (ps.map (·.1)) [s1, s2])).1.length d7)
    have hr := HS3.out.r.lt
    have O1 := HO7.out.far (p := ⟨w.heap.size + 1 + 1 + 1, 0, none⟩) (low_ne HO7.out.a (by simp <;> omega)) (low_ne HO7.out.v (by simp <;> omega)) (.slice A7 (mks (setG ps (s1, s2) v) (chg (1, 292195) (ps.map (·.1)) [s1, s2])).1.length c7)
    have O2 := O1.far (p := ⟨w.heap.size + 1 + 1 + 1, 1, none⟩) (low_ne O1.a (by simp <;> omega)) (low_ne O1.v (by simp <;> omega)) (.slice V7 (mks (setG ps (s1, s2) v) (chg (1, 292195) (ps.map (·.1)) [s1, s2])).1.length d7)
    exact bodyPost_ret (v := sg A7 (mks (setG ps (s1, s2) v) (chg (1, 292195) (ps.map (·.1)) [s1, s2])).1.length c7 V7 (mks (setG ps (s1, s2) v) (chg (1, 292195) (ps.map (·.1)) [s1, s2])).1.length d7) (by simp [results, Try.results14, go_sem, Z.c0, Z.c1]) rfl ⟨A7, c7, V7, d7, rfl, O2.low HS3.out.b.size, (HS7.out.b.setCell (p := ⟨w.heap.size + 1 + 1 + 1, 0, none⟩) (by simp <;> omega) _).setCell (p := ⟨w.heap.size + 1 + 1 + 1, 1, none⟩) (by simp <;> omega) _⟩

end Stp
end Go.Proofs.Ytngpcabengmoiaa
