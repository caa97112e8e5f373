/-
  Add of package step. Conditions: the rows read as lists of ints.
-/
import Derived.Test.YtngpcabengmoiaaAddP
import Derived.Test.YtngpcabengmoiaaInv
namespace Go.Proofs.Ytngpcabengmoiaa
open Go.RowKit St
namespace Stp
set_option linter.unusedVariables false


/-- What holds of the ten operations that have come up. -/
structure R4 (W3 w' : World) (bf bg b6 b7 : Nat) (A : Option Addr) (n c : Nat) (A2 : Option Addr) (m c2 : Nat) (ps qs : List Pr) (N : Nat) (L : Nat → Bool) (v24 v25 v26 v27 v28 v29 v30 v31 v8 : Value) (ba bb bs b8 : Nat) (A7 V7 : Option Addr) (c7 d7 : Nat) : Prop where
  b : Below W3.heap.size W3 w'
  f0 : L 0 = true → v24 = ag (1, 292195)
  f1 : L 1 = true → v25 = .pointer (some ⟨bf, 0, none⟩)
  f2 : L 2 = true → v26 = .slice A n c
  f3 : L 3 = true → v27 = .pointer (some ⟨bg, 0, none⟩)
  f4 : L 4 = true → v28 = .slice A2 m c2
  f5 : L 5 = true → v29 = (.func (.func 30) #[] #[.pointer (some ⟨ba, 0, none⟩), .pointer (some ⟨bb, 0, none⟩), .pointer (some ⟨bs, 0, none⟩)]) ∧ (L 9 = false → Good w' ba bb bs A n c A2 m c2 (1, 292195) (ps.map (·.1)) (qs.map (·.1)))
  f6 : L 6 = true → v30 = (.func (.func 19) #[] #[.pointer (some ⟨b6, 0, none⟩), .pointer (some ⟨b7, 0, none⟩)])
  f7 : L 7 = true → v31 = sg A7 N c7 V7 N d7 ∧ OwnS w' W3.heap.size A7 N c7 V7 N d7 ((addL ps qs).map (·.1)) ((addL ps qs).map (·.2))
  f8 : L 8 = true → v8 = .pointer (some ⟨b8, 0, none⟩) ∧ W3.heap.size ≤ b8 ∧ Bx w' b8 24 (if L 9 = true then .slice A7 N c7 else .slice none 0 0) (if L 9 = true then .slice V7 N d7 else .slice none 0 0)
  d8 : L 9 = true → L 8 = true
  d7 : L 9 = true → L 7 = true
section
variable {W3 w' w'' : World} {bf bg b6 b7 : Nat} {A : Option Addr} {n c : Nat} {A2 : Option Addr} {m c2 : Nat} {ps qs : List Pr} {N : Nat} {L : Nat → Bool} {v24 v25 v26 v27 v28 v29 v30 v31 v8 : Value} {ba bb bs b8 : Nat} {A7 V7 : Option Addr} {c7 d7 : Nat}
theorem no_of {L : Nat → Bool} {i j : Nat} (h : L i = true → L j = true) (hj : L j = false) : L i = false := by
  cases e : L i
  · rfl
  · rw [h e] at hj; cases hj
theorem R4.up (h : R4 W3 w' bf bg b6 b7 A n c A2 m c2 ps qs N L v24 v25 v26 v27 v28 v29 v30 v31 v8 ba bb bs b8 A7 V7 c7 d7) (hb : Below w'.heap.size w' w'') : R4 W3 w'' bf bg b6 b7 A n c A2 m c2 ps qs N L v24 v25 v26 v27 v28 v29 v30 v31 v8 ba bb bs b8 A7 V7 c7 d7 :=
  ⟨h.b.trans (hb.mono h.b.size), h.f0, h.f1, h.f2, h.f3, h.f4, fun e => ⟨(h.f5 e).1, fun h9 => ((h.f5 e).2 h9).keep hb⟩, h.f6, fun e => ⟨(h.f7 e).1, (h.f7 e).2.below hb⟩, fun e => ⟨(h.f8 e).1, (h.f8 e).2.1, (h.f8 e).2.2.keep hb⟩, h.d8, h.d7⟩
theorem R4.s0 (h : R4 W3 w' bf bg b6 b7 A n c A2 m c2 ps qs N L v24 v25 v26 v27 v28 v29 v30 v31 v8 ba bb bs b8 A7 V7 c7 d7) : R4 W3 w' bf bg b6 b7 A n c A2 m c2 ps qs N (fun j => j == 0 || L j) (ag (1, 292195)) v25 v26 v27 v28 v29 v30 v31 v8 ba bb bs b8 A7 V7 c7 d7 := ⟨h.b, fun _ => rfl, h.f1, h.f2, h.f3, h.f4, h.f5, h.f6, h.f7, h.f8, h.d8, h.d7⟩
theorem R4.s1 (h : R4 W3 w' bf bg b6 b7 A n c A2 m c2 ps qs N L v24 v25 v26 v27 v28 v29 v30 v31 v8 ba bb bs b8 A7 V7 c7 d7) : R4 W3 w' bf bg b6 b7 A n c A2 m c2 ps qs N (fun j => j == 1 || L j) v24 (.pointer (some ⟨bf, 0, none⟩)) v26 v27 v28 v29 v30 v31 v8 ba bb bs b8 A7 V7 c7 d7 := ⟨h.b, h.f0, fun _ => rfl, h.f2, h.f3, h.f4, h.f5, h.f6, h.f7, h.f8, h.d8, h.d7⟩
theorem R4.s2 (h : R4 W3 w' bf bg b6 b7 A n c A2 m c2 ps qs N L v24 v25 v26 v27 v28 v29 v30 v31 v8 ba bb bs b8 A7 V7 c7 d7) : R4 W3 w' bf bg b6 b7 A n c A2 m c2 ps qs N (fun j => j == 2 || L j) v24 v25 (.slice A n c) v27 v28 v29 v30 v31 v8 ba bb bs b8 A7 V7 c7 d7 := ⟨h.b, h.f0, h.f1, fun _ => rfl, h.f3, h.f4, h.f5, h.f6, h.f7, h.f8, h.d8, h.d7⟩
theorem R4.s3 (h : R4 W3 w' bf bg b6 b7 A n c A2 m c2 ps qs N L v24 v25 v26 v27 v28 v29 v30 v31 v8 ba bb bs b8 A7 V7 c7 d7) : R4 W3 w' bf bg b6 b7 A n c A2 m c2 ps qs N (fun j => j == 3 || L j) v24 v25 v26 (.pointer (some ⟨bg, 0, none⟩)) v28 v29 v30 v31 v8 ba bb bs b8 A7 V7 c7 d7 := ⟨h.b, h.f0, h.f1, h.f2, fun _ => rfl, h.f4, h.f5, h.f6, h.f7, h.f8, h.d8, h.d7⟩
theorem R4.s4 (h : R4 W3 w' bf bg b6 b7 A n c A2 m c2 ps qs N L v24 v25 v26 v27 v28 v29 v30 v31 v8 ba bb bs b8 A7 V7 c7 d7) : R4 W3 w' bf bg b6 b7 A n c A2 m c2 ps qs N (fun j => j == 4 || L j) v24 v25 v26 v27 (.slice A2 m c2) v29 v30 v31 v8 ba bb bs b8 A7 V7 c7 d7 := ⟨h.b, h.f0, h.f1, h.f2, h.f3, fun _ => rfl, h.f5, h.f6, h.f7, h.f8, h.d8, h.d7⟩
theorem R4.s6 (h : R4 W3 w' bf bg b6 b7 A n c A2 m c2 ps qs N L v24 v25 v26 v27 v28 v29 v30 v31 v8 ba bb bs b8 A7 V7 c7 d7) : R4 W3 w' bf bg b6 b7 A n c A2 m c2 ps qs N (fun j => j == 6 || L j) v24 v25 v26 v27 v28 v29 (.func (.func 19) #[] #[.pointer (some ⟨b6, 0, none⟩), .pointer (some ⟨b7, 0, none⟩)]) v31 v8 ba bb bs b8 A7 V7 c7 d7 := ⟨h.b, h.f0, h.f1, h.f2, h.f3, h.f4, h.f5, fun _ => rfl, h.f7, h.f8, h.d8, h.d7⟩
theorem R4.s5 (h : R4 W3 w' bf bg b6 b7 A n c A2 m c2 ps qs N L v24 v25 v26 v27 v28 v29 v30 v31 v8 ba bb bs b8 A7 V7 c7 d7) {ba' bb' bs' : Nat} (hG : Good w' ba' bb' bs' A n c A2 m c2 (1, 292195) (ps.map (·.1)) (qs.map (·.1))) : R4 W3 w' bf bg b6 b7 A n c A2 m c2 ps qs N (fun j => j == 5 || L j) v24 v25 v26 v27 v28 (.func (.func 30) #[] #[.pointer (some ⟨ba', 0, none⟩), .pointer (some ⟨bb', 0, none⟩), .pointer (some ⟨bs', 0, none⟩)]) v30 v31 v8 ba' bb' bs' b8 A7 V7 c7 d7 :=
  ⟨h.b, h.f0, h.f1, h.f2, h.f3, h.f4, fun _ => ⟨rfl, fun _ => hG⟩, h.f6, h.f7, h.f8, h.d8, h.d7⟩
theorem R4.s7 (h : R4 W3 w' bf bg b6 b7 A n c A2 m c2 ps qs N L v24 v25 v26 v27 v28 v29 v30 v31 v8 ba bb bs b8 A7 V7 c7 d7) (hL : L 7 = false) {A7' V7' : Option Addr} {c7' d7' : Nat} (hO : OwnS w' W3.heap.size A7' N c7' V7' N d7' ((addL ps qs).map (·.1)) ((addL ps qs).map (·.2))) : R4 W3 w' bf bg b6 b7 A n c A2 m c2 ps qs N (fun j => j == 7 || L j) v24 v25 v26 v27 v28 v29 v30 (sg A7' N c7' V7' N d7') v8 ba bb bs b8 A7' V7' c7' d7' := by
  have h9 := no_of h.d7 hL
  refine ⟨h.b, h.f0, h.f1, h.f2, h.f3, h.f4, h.f5, h.f6, fun _ => ⟨rfl, hO⟩, fun e => ⟨(h.f8 e).1, (h.f8 e).2.1, ?_⟩, h.d8, fun _ => rfl⟩
  have hx := (h.f8 e).2.2
  rw [h9] at hx
  show Bx _ _ _ (if L 9 = true then _ else _) (if L 9 = true then _ else _)
  rw [h9]
  exact hx
theorem R4.s8 (h : R4 W3 w' bf bg b6 b7 A n c A2 m c2 ps qs N L v24 v25 v26 v27 v28 v29 v30 v31 v8 ba bb bs b8 A7 V7 c7 d7) (hL : L 8 = false) : R4 W3 (w'.alloc (.cells #[.slice none 0 0, .slice none 0 0] 24)) bf bg b6 b7 A n c A2 m c2 ps qs N (fun j => j == 8 || L j) v24 v25 v26 v27 v28 v29 v30 v31 (.pointer (some ⟨w'.heap.size, 0, none⟩)) ba bb bs w'.heap.size A7 V7 c7 d7 := by
  have h9 := no_of h.d8 hL
  have h' := h.up (al1 w' (.cells #[.slice none 0 0, .slice none 0 0] 24))
  refine ⟨h'.b, h'.f0, h'.f1, h'.f2, h'.f3, h'.f4, h'.f5, h'.f6, h'.f7, fun _ => ⟨rfl, h.b.size, ?_⟩, fun _ => rfl, h'.d7⟩
  show Bx _ _ _ (if L 9 = true then _ else _) (if L 9 = true then _ else _)
  rw [h9]
  exact Bx.new w' 24 _ _
theorem R4.s9 (h : R4 W3 w' bf bg b6 b7 A n c A2 m c2 ps qs N L v24 v25 v26 v27 v28 v29 v30 v31 v8 ba bb bs b8 A7 V7 c7 d7) (hL9 : L 9 = false) (h8 : L 8 = true) (h7 : L 7 = true) : R4 W3 ((w'.setCell ⟨b8, 0, none⟩ (.slice A7 N c7)).setCell ⟨b8, 1, none⟩ (.slice V7 N d7)) bf bg b6 b7 A n c A2 m c2 ps qs N (fun j => j == 9 || L j) v24 v25 v26 v27 v28 v29 v30 v31 v8 ba bb bs b8 A7 V7 c7 d7 := by
  obtain ⟨e1, e2, e3⟩ := h.f8 h8
  obtain ⟨e4, e5⟩ := h.f7 h7
  rw [hL9] at e3
  have x1 := (e3.set0 (.slice A7 N c7)).set1 (.slice V7 N d7)
  have hB : Below W3.heap.size W3 ((w'.setCell ⟨b8, 0, none⟩ (.slice A7 N c7)).setCell ⟨b8, 1, none⟩ (.slice V7 N d7)) := (h.b.setCell (p := ⟨b8, 0, none⟩) e2 _).setCell (p := ⟨b8, 1, none⟩) e2 _
  have n1 := e5.a.not_box (show w'.heap[b8]? = some (.cells _ 24 (0, 0)) from e3) (by decide)
  have n2 := e5.v.not_box (show w'.heap[b8]? = some (.cells _ 24 (0, 0)) from e3) (by decide)
  have hO := (e5.far (p := ⟨b8, 0, none⟩) n1 n2 (.slice A7 N c7)).far (p := ⟨b8, 1, none⟩) n1 n2 (.slice V7 N d7)
  exact ⟨hB, h.f0, h.f1, h.f2, h.f3, h.f4, fun e => ⟨(h.f5 e).1, fun h9 => by cases h9⟩, h.f6, fun _ => ⟨e4, hO⟩, fun _ => ⟨e1, e2, x1⟩, fun _ => h8, fun _ => h7⟩
end

set_option maxRecDepth 100000 in
set_option maxHeartbeats 8000000 in
theorem add_yes (A : Option Addr) (n c : Nat) (V : Option Addr) (d : Nat) (A2 : Option Addr) (m c2 : Nat) (V2 : Option Addr) (d2 : Nat) (ps qs : List Pr) (w : World) (hS : Sr w w.heap.size A V n ps) (hS2 : Sr w w.heap.size A2 V2 m qs) (hn : n ≤ 400) (hm : m ≤ 400) (hp : Right ps) (hq : Right qs) :
    Calls Try.prog 7 #[sg A n c V n d, sg A2 m c2 V2 m d2] w fun e w' => (AllFit ps qs ∧ GivesAM w (addL ps qs) 0 e w') ∨ (¬ AllFit ps qs ∧ GivesAM w [] 5 e w') := by
  have S0 : AB w (addW w A n c V n d A2 m c2 V2 m d2) A n c V n d A2 m c2 V2 m d2 := AB.new
  have C := Lib.hid (right A n c V n d _ _ _ ((hS.below S0.b (Nat.le_refl _)).wide S0.b.size) (by omega))
  rw [rg_of hp] at C
  have HS1 := Lib.hid hS
  have HS2 := Lib.hid hS2
  have HP := Lib.hid hp
  have HQ := Lib.hid hq
  have HS := Lib.hid S0
  clear hp hq hS hS2 S0
  go_enter Try.func7, Try.ntmps7
  go_wp2_with fail
  refine C.out.mono ?_
  rintro e w1 ⟨rfl, hb⟩
  have S1 := HS.out.keep hb
  have g0 := S1.g.c0
  have g1 := S1.g.c1
  have H1 := Lib.hid S1
  clear hb HS S1 C
  go_wp2_with fail
  refine (right A2 m c2 V2 m d2 _ _ w1 ((HS2.out.below H1.out.b (Nat.le_refl _)).wide H1.out.b.size) (by omega)).mono ?_
  rintro e w2 ⟨rfl, hb⟩
  rw [rg_of HQ.out]
  have S2 := H1.out.keep hb
  have e0 := S2.f.c0
  have e1 := S2.f.c1
  have e2 := S2.g.c0
  have e3 := S2.g.c1
  have H2 := Lib.hid S2
  have hws := S2.b.size
  have HSp := Lib.hid (HS1.out.below S2.b (Nat.le_refl _))
  have HTq := Lib.hid (HS2.out.below S2.b (Nat.le_refl _))
  clear hb S2 g0 g1 H1
  go_upto_region 3 with (fail)
  go_cut [6, 7] (fun s6 s7 wx => ∃ (Wz : World) (b6 b7 : Nat) (f1 f2 : Value), Wz = wx ∧ s6 = .pointer (some ⟨b6, 0, none⟩) ∧ s7 = .pointer (some ⟨b7, 0, none⟩) ∧ Hid (AF w2 Wz b6 b7 f1 f2 ps qs))
  case first =>
    go_region_held3 (fun w' => w'.cell? ⟨w.heap.size, 0, none⟩ = some (.slice A n c) ∧ w'.cell? ⟨w.heap.size, 1, none⟩ = some (.slice V n d) ∧ w'.cell? ⟨w.heap.size + 1, 0, none⟩ = some (.slice A2 m c2) ∧ w'.cell? ⟨w.heap.size + 1, 1, none⟩ = some (.slice V2 m d2))
      (first | exact ⟨e0, e1, e2, e3⟩ | exact ⟨cal e0, cal e1, cal e2, cal e3⟩ | exact ⟨cal (cal e0), cal (cal e1), cal (cal e2), cal (cal e3)⟩ | exact ⟨cal (cal (cal e0)), cal (cal (cal e1)), cal (cal (cal e2)), cal (cal (cal e3))⟩ | exact ⟨cal (cal (cal (cal e0))), cal (cal (cal (cal e1))), cal (cal (cal (cal e2))), cal (cal (cal (cal e3)))⟩ | fail)
      (first
      | (go_at_call 15; ((with_reducible refine (valueOf _ _ _ _ _ _ _).mono ?_); rintro e w' ⟨rfl, rfl⟩))
      | fail)
    all_goals
      go_wp2_with fail
      go_meet
      obtain ⟨q0, q1, q2, q3, qb⟩ := four w2 _ _ _ _
      refine ⟨_, _, _, ?_, ?_, rfl, rfl, rfl, ?_⟩
      rotate_left 2
      refine Lib.hid ⟨?_, ?_, ?_, ?_, qb⟩
      · first | exact q0 | exact q1 | exact q2 | exact q3
      · first | exact q0 | exact q1 | exact q2 | exact q3
      · refine ⟨_, A, n, c, V, d, rfl, ?_, (HSp.out.below qb hws).wide (Nat.le_trans hws qb.size), HP.out.1, by omega⟩
        first | exact q0 | exact q1 | exact q2 | exact q3
      · refine ⟨_, A2, m, c2, V2, d2, rfl, ?_, (HTq.out.below qb hws).wide (Nat.le_trans hws qb.size), HQ.out.1, by omega⟩
        first | exact q0 | exact q1 | exact q2 | exact q3
  case rest =>
    obtain ⟨W3, b6, b7, f1, f2, rfl, rfl, rfl, HF⟩ := hcut
    have HSp3 := Lib.hid (HSp.out.below (HF.out.b.mono hws) (Nat.le_refl _))
    have HTq3 := Lib.hid (HTq.out.below (HF.out.b.mono hws) (Nat.le_refl _))
    have hws3 := Nat.le_trans hws HF.out.b.size
    have H3 := Lib.hid (H2.out.keep HF.out.b)
    clear e0 e1 e2 e3
    have HSIX := Lib.hid (fun (w' : World) (hh : Below W3.heap.size W3 w') => (show w'.cell? ⟨w.heap.size, 0, none⟩ = some (.slice A n c) ∧ w'.cell? ⟨w.heap.size + 1, 0, none⟩ = some (.slice A2 m c2) from ⟨(H3.out.f.keep hh).c0, (H3.out.g.keep hh).c0⟩))
    have HBd := Lib.hid (show Below W3.heap.size W3 W3.drew from (Below.refl _ _).drew)
    have HBa := Lib.hid (show Below W3.heap.size W3 (W3.alloc (.cells #[.slice none 0 0, .slice none 0 0] 24)).drew from ((Below.refl _ W3).alloc (Nat.le_refl _) _).drew)
    have HXa := Lib.hid (show Bx (W3.alloc (.cells #[.slice none 0 0, .slice none 0 0] 24)).drew W3.heap.size 24 (.slice none 0 0) (.slice none 0 0) from Bx.new W3 24 (.slice none 0 0) (.slice none 0 0))
    obtain ⟨N, hN⟩ : ∃ N, (addL ps qs).length = N := ⟨_, rfl⟩
    have HNL := Lib.hid hN
    clear hN HBd HBa HXa
    go_upto_region 4 with (fail)
    go_cut [8] (fun sl wx => ∃ (Wz : World) (b8 : Nat) (A7 V7 : Option Addr) (c7 d7 : Nat), Wz = wx ∧ sl = .pointer (some ⟨b8, 0, none⟩) ∧ Hid (Below W3.heap.size W3 Wz ∧ Bx Wz b8 24 (.slice A7 N c7) (.slice V7 N d7) ∧ OwnS Wz W3.heap.size A7 N c7 V7 N d7 ((addL ps qs).map (·.1)) ((addL ps qs).map (·.2))))
    case first =>
      refine wp_region_steps (fun L_ a_ w_ => ∃ (v24 v25 v26 v27 v28 v29 v30 v31 v8 : Value) (ba bb bs b8 : Nat) (A7 V7 : Option Addr) (c7 d7 : Nat), a_ = { tmps := #[sg A n c V n d, sg A2 m c2 V2 m d2, .pointer (some ⟨w.heap.size, 0, none⟩), .pointer (some ⟨w.heap.size + 1, 0, none⟩), .pointer (some ⟨w.heap.size + 1 + 1, 0, none⟩), .int .i64 0, .pointer (some ⟨b6, 0, none⟩), .pointer (some ⟨b7, 0, none⟩), v8, undef, undef, u11, u12, u13, u14, u15, u16, u17, u18, u19, u20, u21, u22, u23, v24, v25, v26, v27, v28, v29, v30, v31, u32, undef, undef, undef, u36, u37, u38, u39, u40, u41, u42, u43, u44], defers := [] } ∧ Hid (R4 W3 w_ w.heap.size (w.heap.size + 1) b6 b7 A n c A2 m c2 ps qs N L_ v24 v25 v26 v27 v28 v29 v30 v31 v8 ba bb bs b8 A7 V7 c7 d7)) (by kernel_rfl) (by kernel_rfl) ?_ (AllSteps.cons ?_ (AllSteps.cons ?_ (AllSteps.cons ?_ (AllSteps.cons ?_ (AllSteps.cons ?_ (AllSteps.cons ?_ (AllSteps.cons ?_ (AllSteps.cons ?_ (AllSteps.cons ?_ (AllSteps.cons ?_ AllSteps.nil)))))))))) ?_
      · exact ⟨_, _, _, _, _, _, _, _, _, 0, 0, 0, 0, none, none, 0, 0, rfl, Lib.hid ⟨⟨rfl, rfl, rfl, Nat.le_refl _, fun _ _ => rfl⟩, (fun h => by cases h), (fun h => by cases h), (fun h => by cases h), (fun h => by cases h), (fun h => by cases h), (fun h => by cases h), (fun h => by cases h), (fun h => by cases h), (fun h => by cases h), (fun h => by cases h), (fun h => by cases h)⟩⟩
      · rintro L_ a_ w_ hL hd ⟨v24, v25, v26, v27, v28, v29, v30, v31, v8, ba, bb, bs, b8, A7, V7, c7, d7, rfl, HR⟩ K hK
        clear hd
        go_simp
        refine (always w_).mono ?_
        rintro e w5 ⟨rfl, hb5⟩
        have HR2 := Lib.hid (HR.out.up hb5)
        clear hb5
        try go_simp
        exact hK.out _ _ ⟨_, _, _, _, _, _, _, _, _, ba, bb, bs, b8, A7, V7, c7, d7, rfl, Lib.hid (HR2.out.s0)⟩
      · rintro L_ a_ w_ hL hd ⟨v24, v25, v26, v27, v28, v29, v30, v31, v8, ba, bb, bs, b8, A7, V7, c7, d7, rfl, HR⟩ K hK
        clear hd
        go_simp
        exact hK.out _ _ ⟨_, _, _, _, _, _, _, _, _, ba, bb, bs, b8, A7, V7, c7, d7, rfl, Lib.hid (HR.out.s1)⟩
      · rintro L_ a_ w_ hL hd ⟨v24, v25, v26, v27, v28, v29, v30, v31, v8, ba, bb, bs, b8, A7, V7, c7, d7, rfl, HR⟩ K hK
        have e1 := HR.out.f1 (hd ⟨1, .data⟩ (by simp) rfl)
        subst e1
        obtain ⟨q0, q1⟩ := HSIX.out w_ HR.out.b
        clear q1
        clear hd
        go_simp
        exact hK.out _ _ ⟨_, _, _, _, _, _, _, _, _, ba, bb, bs, b8, A7, V7, c7, d7, rfl, Lib.hid (HR.out.s2)⟩
      · rintro L_ a_ w_ hL hd ⟨v24, v25, v26, v27, v28, v29, v30, v31, v8, ba, bb, bs, b8, A7, V7, c7, d7, rfl, HR⟩ K hK
        clear hd
        go_simp
        exact hK.out _ _ ⟨_, _, _, _, _, _, _, _, _, ba, bb, bs, b8, A7, V7, c7, d7, rfl, Lib.hid (HR.out.s3)⟩
      · rintro L_ a_ w_ hL hd ⟨v24, v25, v26, v27, v28, v29, v30, v31, v8, ba, bb, bs, b8, A7, V7, c7, d7, rfl, HR⟩ K hK
        have e3 := HR.out.f3 (hd ⟨3, .data⟩ (by simp) rfl)
        subst e3
        obtain ⟨q0, q1⟩ := HSIX.out w_ HR.out.b
        clear q0
        clear hd
        go_simp
        exact hK.out _ _ ⟨_, _, _, _, _, _, _, _, _, ba, bb, bs, b8, A7, V7, c7, d7, rfl, Lib.hid (HR.out.s4)⟩
      · rintro L_ a_ w_ hL hd ⟨v24, v25, v26, v27, v28, v29, v30, v31, v8, ba, bb, bs, b8, A7, V7, c7, d7, rfl, HR⟩ K hK
        have e0 := HR.out.f0 (hd ⟨0, .data⟩ (by simp) rfl)
        subst e0
        have e2 := HR.out.f2 (hd ⟨2, .data⟩ (by simp) rfl)
        subst e2
        have e4 := HR.out.f4 (hd ⟨4, .data⟩ (by simp) rfl)
        subst e4
        clear hd
        go_simp
        refine (changes (1, 292195) A n c A2 m c2 w_).mono ?_
        rintro e w5 ⟨rfl, hw5⟩
        have HR2 := Lib.hid (HR.out.up (chW_below w_ (1, 292195) A n c A2 m c2))
        have hG := chW_good (W := w_) (s := (1, 292195)) (ca := c) (cb := c2) ((HSp3.out.a.below HR.out.b hws3).wide (Nat.le_trans hws3 HR.out.b.size)) ((HTq3.out.a.below HR.out.b hws3).wide (Nat.le_trans hws3 HR.out.b.size))
        have HR3 := Lib.hid (HR2.out.s5 hG)
        have hw5' : chW w_ (1, 292195) A n c A2 m c2 = w5 := hw5
        rw [hw5'] at HR3
        clear hw5 hw5' hG HR2
        try go_simp
        exact hK.out _ _ ⟨_, _, _, _, _, _, _, _, _, _, _, _, b8, A7, V7, c7, d7, rfl, Lib.hid (HR3.out)⟩
      · rintro L_ a_ w_ hL hd ⟨v24, v25, v26, v27, v28, v29, v30, v31, v8, ba, bb, bs, b8, A7, V7, c7, d7, rfl, HR⟩ K hK
        clear hd
        go_simp
        exact hK.out _ _ ⟨_, _, _, _, _, _, _, _, _, ba, bb, bs, b8, A7, V7, c7, d7, rfl, Lib.hid (HR.out.s6)⟩
      · rintro L_ a_ w_ hL hd ⟨v24, v25, v26, v27, v28, v29, v30, v31, v8, ba, bb, bs, b8, A7, V7, c7, d7, rfl, HR⟩ K hK
        obtain ⟨e5, eG⟩ := HR.out.f5 (hd ⟨5, .data⟩ (by simp) rfl)
        subst e5
        have e6 := HR.out.f6 (hd ⟨6, .data⟩ (by simp) rfl)
        subst e6
        clear hd
        have hG := eG (no_of HR.out.d7 hL)
        have CM := Lib.hid (made_any W3 w_ ba bb bs b6 b7 f1 f2 ps qs A n c A2 m c2 HR.out.b hG HF.out.x6 HF.out.x7 HF.out.v1 HF.out.v2 HP.out.2 HQ.out.2 (by omega) (by omega))
        rw [HNL.out] at CM
        clear eG hG
        go_simp
        refine CM.out.mono ?_
        rintro e w7 ⟨A7', c7', V7', d7', rfl, hO7, hb7⟩
        have HR2 := Lib.hid ((HR.out.up hb7).s7 hL (hO7.low HR.out.b.size))
        clear hO7 hb7 CM
        try go_simp
        exact hK.out _ _ ⟨_, _, _, _, _, _, _, _, _, ba, bb, bs, b8, A7', V7', c7', d7', rfl, Lib.hid (HR2.out)⟩
      · rintro L_ a_ w_ hL hd ⟨v24, v25, v26, v27, v28, v29, v30, v31, v8, ba, bb, bs, b8, A7, V7, c7, d7, rfl, HR⟩ K hK
        clear hd
        go_simp
        exact hK.out _ _ ⟨_, _, _, _, _, _, _, _, _, ba, bb, bs, _, A7, V7, c7, d7, rfl, Lib.hid (HR.out.s8 hL)⟩
      · rintro L_ a_ w_ hL hd ⟨v24, v25, v26, v27, v28, v29, v30, v31, v8, ba, bb, bs, b8, A7, V7, c7, d7, rfl, HR⟩ K hK
        have q8 : L_ 8 = true := hd ⟨8, .data⟩ (by simp) rfl
        have q7 : L_ 7 = true := hd ⟨7, .data⟩ (by simp) rfl
        obtain ⟨e1, e2, e3⟩ := HR.out.f8 q8
        have e4 := (HR.out.f7 q7).1
        subst e1 e4
        rw [hL] at e3
        have z0 := e3.c0
        have z1 := e3.c1
        have zf0 := e3.f 0
        have zf1 := e3.f 1
        simp at z0 z1
        clear e2 e3 hd
        go_simp
        exact hK.out _ _ ⟨_, _, _, _, _, _, _, _, _, ba, bb, bs, b8, A7, V7, c7, d7, rfl, Lib.hid (HR.out.s9 hL q8 q7)⟩
      · rintro L_ a_ w_ hall ⟨v24, v25, v26, v27, v28, v29, v30, v31, v8, ba, bb, bs, b8, A7, V7, c7, d7, rfl, HR⟩
        obtain ⟨e1, e2, e3⟩ := HR.out.f8 (hall 8 (by simp))
        have e5 := (HR.out.f7 (hall 7 (by simp))).2
        rw [hall 9 (by simp)] at e3
        subst e1
        have HT := Lib.hid (show Below W3.heap.size W3 w_ ∧ Bx w_ b8 24 (.slice A7 N c7) (.slice V7 N d7) ∧ OwnS w_ W3.heap.size A7 N c7 V7 N d7 ((addL ps qs).map (·.1)) ((addL ps qs).map (·.2)) from ⟨HR.out.b, e3, e5⟩)
        clear e2 e3 e5 hall
        dsimp only [Exit.then]
        go_step
        go_meet
        exact ⟨_, b8, A7, V7, c7, d7, rfl, rfl, HT⟩
    case rest =>
      obtain ⟨W8, b8, A7, V7, c7, d7, rfl, rfl, HT⟩ := hcut
      have HRr := Lib.hid ((H3.out.r.keep HT.out.1))
      have HBW := Lib.hid (H3.out.b.trans (HT.out.1.mono H3.out.b.size))
      have HMk := Lib.hid (show Mk W8 A7 V7 (addL ps qs) from ⟨by have h_ := HT.out.2.2.sx; rw [← HNL.out] at h_; exact h_⟩)
      have HIv := Lib.hid (show Ints W8 W8.heap.size V7 N ((addL ps qs).map (·.2)) from HT.out.2.2.sx.v)
      have y0 := HT.out.2.1.c0
      have y1 := HT.out.2.1.c1
      have r0 := HRr.out.c0
      have r1 := HRr.out.c1
      have rf0 := HRr.out.f 0
      have rf1 := HRr.out.f 1
      have hrl := HRr.out.lt
      have hN1 : N ≤ 1000 := by
        have h1 := mks_len (addG ps qs) (chg (1, 292195) (ps.map (·.1)) (qs.map (·.1)))
        have h2 := chg_len (1, 292195) (ps.map (·.1)) (qs.map (·.1))
        have h3 := HS1.out.len
        have h4 := HS2.out.len
        have h5 := HNL.out
        unfold addL at h5
        simp at h2
        omega
      have hba := HBW.out.size
      go_wp2
      go_loop [10, 35] (fun s10 i => ∃ j : Nat, j ≤ N ∧ i = .int .i64 (j : Int) ∧ Hid (∀ x ∈ (addL ps qs).take j, St.fits x.2 = true)) (fun _ i => N - (intOf i).toNat)
      case atStart => exact ⟨0, Nat.zero_le _, rfl, Lib.hid (fun x hx => by simp at hx)⟩
      case round =>
        obtain ⟨j, hj, rfl, HI⟩ := hrel
        by_cases hlt : j < N
        · obtain ⟨ad, x, rfl, hb, hx, hc⟩ := HIv.out.get hlt
          have hlt2 : (j : Int) < (N : Int) := by omega
          have CF := fun w => Lib.hid (fits_ x w)
          have HX := Lib.hid (show ∃ z, (addL ps qs)[j]? = some z ∧ z.2 = x by
            rw [List.getElem?_map] at hx
            cases e : (addL ps qs)[j]? with
            | none => rw [e] at hx; cases hx
            | some z => rw [e] at hx; simp at hx; exact ⟨z, rfl, hx⟩)
          clear hx hb
          cases tf : St.fits x
          · have HOv := Lib.hid (show ¬ AllFit ps qs from fun hf => by
              obtain ⟨z, hz, e⟩ := HX.out
              have := ((made_add HP.out.1 HQ.out.1).fit_iff.2 hf) z (List.mem_iff_getElem?.2 ⟨j, hz⟩)
              rw [e, tf] at this
              cases this)
            rw [tf] at CF
            clear tf
            go_wp2_with (go_at_call 20; refine (CF _).out.mono ?_; rintro e w' ⟨rfl, rfl⟩)
            have Z := (HRr.out.set0 (.slice none 0 0)).set1 (.slice none 0 0)
            exact bodyPost_ret (v := .tuple #[sg none 0 0 none 0 0, .int .i64 5]) (by simp [results, Try.results7, go_sem, Z.c0, Z.c1]) rfl (.inr ⟨HOv.out, none, 0, none, 0, rfl, ⟨OwnS.nil.sx (w := _) (base := 0)⟩, (HBW.out.setCell (p := ⟨w.heap.size + 1 + 1, 0, none⟩) (by simp <;> omega) _).setCell (p := ⟨w.heap.size + 1 + 1, 1, none⟩) (by simp <;> omega) _⟩)
          · have HN2 := Lib.hid (show ∀ z ∈ (addL ps qs).take (j + 1), St.fits z.2 = true by
              obtain ⟨z, hz, e⟩ := HX.out
              intro y hy
              obtain ⟨hk, hzz⟩ := List.getElem?_eq_some_iff.1 hz
              rw [List.take_succ_eq_append_getElem hk] at hy
              rcases List.mem_append.1 hy with hy | hy
              · exact HI.out y hy
              · simp at hy; subst hy; rw [hzz, e]; exact tf)
            rw [tf] at CF
            clear tf
            go_wp2_with (go_at_call 20; refine (CF _).out.mono ?_; rintro e w' ⟨rfl, rfl⟩)
            go_round
            case rel => exact ⟨j + 1, by omega, by go_num, HN2⟩
            case measure => simp [intOf]; omega
        · have HALL := Lib.hid (show AllFit ps qs from (made_add HP.out.1 HQ.out.1).fit_iff.1 (fun x hx => HI.out x (by rw [List.take_of_length_le (by rw [HNL.out]; omega)]; exact hx)))
          go_wp2
          have Z := (HRr.out.set0 (.slice A7 N c7)).set1 (.slice V7 N d7)
          refine bodyPost_ret (v := .tuple #[sg A7 N c7 V7 N d7, .int .i64 0]) (by simp [results, Try.results7, go_sem, Z.c0, Z.c1]) rfl (.inl ⟨HALL.out, A7, c7, V7, d7, by rw [HNL.out], ?_, (HBW.out.setCell (p := ⟨w.heap.size + 1 + 1, 0, none⟩) (by simp <;> omega) _).setCell (p := ⟨w.heap.size + 1 + 1, 1, none⟩) (by simp <;> omega) _⟩)
          have n1 := HT.out.2.2.a.not_box (show W8.heap[w.heap.size + 1 + 1]? = some (.cells _ 24 (0, 0)) from HRr.out) (by decide)
          have n2 := HT.out.2.2.v.not_box (show W8.heap[w.heap.size + 1 + 1]? = some (.cells _ 24 (0, 0)) from HRr.out) (by decide)
          have hO := (HT.out.2.2.far (p := ⟨w.heap.size + 1 + 1, 0, none⟩) n1 n2 (.slice A7 N c7)).far (p := ⟨w.heap.size + 1 + 1, 1, none⟩) n1 n2 (.slice V7 N d7)
          exact ⟨by rw [HNL.out]; exact hO.sx⟩

end Stp
end Go.Proofs.Ytngpcabengmoiaa
