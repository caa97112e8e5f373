/-
  The document's Set. Conditions: the rows read as lists of ints.
-/
import Derived.Test.YtigacpjcadlkeaaRSetM
import Derived.Test.YtigacpjcadlkeaaSetW
import Derived.Test.YtigacpjcadlkeaaRRight
import Derived.StillTailTactics
import Derived.BigQuiet
namespace Go.Proofs.Ytigacpjcadlkeaa
open Go.RowKit St
namespace Stp
set_option linter.unusedVariables false

/-- What Set boxes first. -/
abbrev rsetW (w : World) (A : Option Addr) (n c : Nat) (V : Option Addr) (m d : Nat) (s : Pr) : World :=
  ((w.alloc (.cells #[.slice A n c, .slice V m d] 24)).alloc (.cells #[.int .i64 s.1, .int .i64 s.2] 30)).alloc (.cells #[.slice none 0 0, .slice none 0 0] 24)
/-- Its three boxes. -/
structure RB (w W : World) (A : Option Addr) (n c : Nat) (V : Option Addr) (m d : Nat) (s : Pr) : Prop where
  f : Bx W w.heap.size 24 (.slice A n c) (.slice V m d)
  s : Bx W (w.heap.size + 1) 30 (.int .i64 s.1) (.int .i64 s.2)
  r : Bx W (w.heap.size + 1 + 1) 24 (.slice none 0 0) (.slice none 0 0)
  b : Below w.heap.size w W
section
variable {w W W1 : World} {A : Option Addr} {n c : Nat} {V : Option Addr} {m d : Nat} {s : Pr} {B : Nat}
theorem RB.new : RB w (rsetW w A n c V m d s) A n c V m d s := by
  have b0 := Bx.new w 24 (.slice A n c) (.slice V m d)
  have b1 := Bx.new (w.alloc (.cells #[.slice A n c, .slice V m d] 24)) 30 (.int .i64 s.1) (.int .i64 s.2)
  have b2 := Bx.new ((w.alloc (.cells #[.slice A n c, .slice V m d] 24)).alloc (.cells #[.int .i64 s.1, .int .i64 s.2] 30)) 24 (.slice none 0 0) (.slice none 0 0)
  simp only [World.size_alloc] at b1 b2
  exact ⟨(b0.alloc _).alloc _, b1.alloc _, b2, (((Below.refl _ w).alloc (Nat.le_refl _) _).alloc (by simp) _).alloc (by simp <;> omega) _⟩
theorem RB.below (h : RB w W A n c V m d s) (hb : Below W.heap.size W W1) : RB w W1 A n c V m d s :=
  ⟨h.f.keep hb, h.s.keep hb, h.r.keep hb, h.b.trans (hb.mono h.b.size)⟩
end

set_option maxRecDepth 100000 in
set_option maxHeartbeats 2000000 in
theorem rset_no (A : Option Addr) (n c : Nat) (V : Option Addr) (m d : Nat) (xs vs : List Int) (s : Pr) (v : Int) (w : World) (hS : Sx w w.heap.size A n V m xs vs) (hn : n ≤ 1000) (h : rg xs vs = false) :
    Calls Try.prog 20 #[sg A n c V m d, ag s, .int .i64 v] w (GivesB w []) := by
  have S0 : RB w (rsetW w A n c V m d s) A n c V m d s := RB.new
  have C := Lib.hid (rright A n c V m d xs vs _ ((hS.below S0.b (Nat.le_refl _)).wide S0.b.size) (by omega))
  rw [h] at C
  have HS := Lib.hid S0
  clear h hS S0
  obtain ⟨s1, s2⟩ := s
  go_enter Try.func20, Try.ntmps20
  go_wp2_with fail
  refine C.out.mono ?_
  rintro e w1 ⟨rfl, hb⟩
  have S1 := HS.out.below hb
  have r0 := S1.r.c0
  have r1 := S1.r.c1
  have f0 := S1.r.f 0
  have f1 := S1.r.f 1
  have H1 := Lib.hid S1
  clear hb HS S1 C
  go_wp2
  have Z := (H1.out.r.set0 (.slice none 0 0)).set1 (.slice none 0 0)
  exact bodyPost_ret (v := sg none 0 0 none 0 0) (by simp [results, Try.results20, go_sem, Z.c0, Z.c1]) rfl ⟨none, 0, none, 0, rfl, OwnS.nil, (H1.out.b.setCell (p := ⟨w.heap.size + 1 + 1, 0, none⟩) (by simp <;> omega) _).setCell (p := ⟨w.heap.size + 1 + 1, 1, none⟩) (by simp <;> omega) _⟩

set_option maxRecDepth 100000 in
set_option maxHeartbeats 4000000 in
theorem rset_far1 (A : Option Addr) (n c : Nat) (V : Option Addr) (d : Nat) (ps : List Pr) (s : Pr) (v : Int) (w : World) (hS : Sr w w.heap.size A V n ps) (hn : n ≤ 400) (h : Right ps) (hs : full s = false) :
    Calls Try.prog 20 #[sg A n c V n d, ag s, .int .i64 v] w (GivesB w ps) := by
  have S0 : RB w (rsetW w A n c V n d s) A n c V n d s := RB.new
  have C := Lib.hid (rright A n c V n d _ _ _ ((hS.below S0.b (Nat.le_refl _)).wide S0.b.size) (by omega))
  rw [rg_of h] at C
  have C2 := fun w => Lib.hid (rfull s w)
  rw [hs] at C2
  have HS0 := Lib.hid hS
  have HP := Lib.hid h
  have HS := Lib.hid S0
  have HLen := Lib.hid hS.len
  clear h hS S0 hs
  obtain ⟨s1, s2⟩ := s
  go_enter Try.func20, Try.ntmps20
  go_wp2_with fail
  refine C.out.mono ?_
  rintro e w1 ⟨rfl, hb⟩
  have S1 := HS.out.below hb
  have p0 := S1.s.c0
  have p1 := S1.s.c1
  simp only at p0 p1
  have H1 := Lib.hid S1
  clear hb HS S1 C
  go_wp2_with fail
  refine (C2 _).out.mono ?_
  rintro e w2 ⟨rfl, hb⟩
  have S2 := H1.out.below hb
  clear p0 p1
  have H2 := Lib.hid S2
  have z0 := S2.f.lt
  have z1 := S2.s.lt
  have z2 := S2.r.lt
  have hws := S2.b.size
  have HS2 := Lib.hid (HS0.out.below S2.b (Nat.le_refl _))
  clear hb H1 S2 C2 HS0
  go_wp2
  go_loopw [10] (fun i w' => ∃ (k N : Nat) (A1 : Option Addr) (c1 : Nat) (V1 : Option Addr) (d1 : Nat) (out : List Pr), k ≤ n ∧ i = .int .i64 (k : Int) ∧ Hid (wts [] ((ps.take k).filter (fun _ => true)) = out) ∧ Hid (RQ w2 w' A1 N c1 V1 d1 out)) (fun i _ => n - (intOf i).toNat)
  case atStart => exact ⟨0, 0, none, 0, none, 0, [], Nat.zero_le _, rfl, Lib.hid rfl, Lib.hid ⟨OwnS.nil, Bx.new _ _ _ _, (Below.refl _ _).alloc (Nat.le_refl _) _, rfl⟩⟩
  case round =>
    obtain ⟨k, N, A1, c1, V1, d1, out, hk, rfl, HO, HR⟩ := hrel
    have q0 := (H2.out.f.below HR.out.b z0).c0
    have q1 := (H2.out.f.below HR.out.b z0).c1
    have y0 := (H2.out.s.below HR.out.b z1).c0
    have y1 := (H2.out.s.below HR.out.b z1).c1
    have o0 := HR.out.bx.c0
    have o1 := HR.out.bx.c1
    simp only at y0 y1
    have hN : N ≤ 500 := by
      have h1 := wts_len ((ps.take k).filter (fun _ => true)) []
      have h2 := List.length_filter_le (fun _ => true) (ps.take k)
      have h3 := HR.out.len
      have h4 := HLen.out
      rw [HO.out] at h1
      simp only [List.length_take, List.length_nil] at h1 h2
      omega
    by_cases hlt : k < n
    · have HSr := Lib.hid (HS2.out.below (HR.out.b.mono hws) (Nat.le_refl _))
      obtain ⟨ad, a, rfl, hab, hy, hc⟩ := HSr.out.a.get hlt
      obtain ⟨av, u, rfl, hvb, hv, hcv⟩ := HSr.out.v.get hlt
      have hz : ps[k]? = some (a, u) := by
        rw [List.getElem?_map] at hy hv
        cases hq : ps[k]? with
        | none => rw [hq] at hy; cases hy
        | some q => rw [hq] at hy hv; simp at hy hv; rw [← hy, ← hv]
      have hlt2 : (k : Int) < (n : Int) := by omega
      clear hy hv
      have HNx := Lib.hid (show wts [] ((ps.take (k + 1)).filter (fun _ => true)) = wt out a u by rw [flt_yes (fun _ => true) hz rfl, wts_snoc, HO.out])
      clear hz
      go_wp2
      go_quiet (fail)
      obtain ⟨W0, hW0⟩ : ∃ W0, wr.drewN nq = W0 := ⟨_, rfl⟩
      have HR0 := Lib.hid (show RQ w2 W0 A1 N c1 V1 d1 out by rw [← hW0]; exact HR.out.drew nq)
      have hc' : W0.cell? (ad.add k) = some (.int .i64 a) := by rw [← hW0]; exact hc
      have hcv' : W0.cell? (av.add k) = some (.int .i64 u) := by rw [← hW0]; exact hcv
      rw [hW0]
      clear hW0 q0 q1 y0 y1 o0 o1 hc hcv HR HSr
      have q0 := (H2.out.f.below HR0.out.b z0).c0
      have q1 := (H2.out.f.below HR0.out.b z0).c1
      have y0 := (H2.out.s.below HR0.out.b z1).c0
      have y1 := (H2.out.s.below HR0.out.b z1).c1
      have o0 := HR0.out.bx.c0
      have o1 := HR0.out.bx.c1
      simp only at y0 y1
      obtain ⟨L, hL⟩ : ∃ L, (wt out a u).length = L := ⟨_, rfl⟩
      have HL_ := Lib.hid hL
      clear hL
      have HNN := Lib.hid hN
      go_wp2
      go_still_tail 11, (by kernel_rfl)
      go_wp2_with fail
      refine (with_l (w2.heap.size + 1) A1 N c1 V1 d1 out a u W0.drew ⟨HR0.out.own.a, HR0.out.own.v, HR0.out.own.dj⟩ HR0.out.len HR0.out.size (by have := HNN.out; omega) rfl HL_.out).mono ?_
      rintro e W3 ⟨A2, c2, V2, d2, rfl, hO, hb⟩
      have hb' : Below (w2.heap.size + 1) W0 W3 := ⟨hb.os, hb.tape, hb.output, hb.size, hb.block⟩
      have HRn := Lib.hid (HR0.out.put hO hb' HL_.out)
      have HX3 := HR0.out.bx.below hb' (Nat.lt_succ_self _)
      have r0 := HX3.c0
      have r1 := HX3.c1
      have rf0 := HX3.f 0
      have rf1 := HX3.f 1
      clear hb hb' hO HX3 q0 q1 y0 y1 o0 o1 hc' hcv' HR0
      go_wp2
      go_roundw
      case rel => exact ⟨k + 1, L, A2, c2, V2, d2, _, by omega, by go_num, HNx, HRn⟩
      case measure => simp [intOf]; omega
    · have HE := Lib.hid (show out = ps by rw [← HO.out, List.take_of_length_le (by have := HLen.out; omega), List.filter_eq_self.2 (fun _ _ => rfl), rset_all HP.out])
      have R0 := H2.out.r.below HR.out.b z2
      have r0 := R0.c0
      have r1 := R0.c1
      have rf0 := R0.f 0
      have rf1 := R0.f 1
      have HR0 := Lib.hid R0
      have HL2 := Lib.hid (show ps.length = N by rw [← HR.out.len, HE.out])
      clear R0
      go_wp2
      have Z := (HR0.out.set0 (.slice A1 N c1)).set1 (.slice V1 N d1)
      have ht : 24 ≠ 3 := by decide
      have O1 := HR.out.own.far (p := ⟨w.heap.size + 1 + 1, 0, none⟩) (HR.out.own.a.not_box HR0.out ht) (HR.out.own.v.not_box HR0.out ht) (.slice A1 N c1)
      have x1 := HR0.out.set0 (.slice A1 N c1)
      have O2 := O1.far (p := ⟨w.heap.size + 1 + 1, 1, none⟩) (O1.a.not_box x1 ht) (O1.v.not_box x1 ht) (.slice V1 N d1)
      refine bodyPost_ret (v := sg A1 N c1 V1 N d1) (by simp [results, Try.results20, go_sem, Z.c0, Z.c1]) rfl ⟨A1, c1, V1, d1, by rw [HL2.out], ?_, ((H2.out.b.trans (HR.out.b.mono hws)).setCell (p := ⟨w.heap.size + 1 + 1, 0, none⟩) (by simp <;> omega) _).setCell (p := ⟨w.heap.size + 1 + 1, 1, none⟩) (by simp <;> omega) _⟩
      rw [HL2.out, ← HE.out]
      exact O2.low (by omega)


set_option maxRecDepth 100000 in
set_option maxHeartbeats 4000000 in
theorem rset_far2 (A : Option Addr) (n c : Nat) (V : Option Addr) (d : Nat) (ps : List Pr) (s : Pr) (v : Int) (w : World) (hS : Sr w w.heap.size A V n ps) (hn : n ≤ 400) (h : Right ps) (hs : full s = true) (hv : v < -4000000000000000000) :
    Calls Try.prog 20 #[sg A n c V n d, ag s, .int .i64 v] w (GivesB w ps) := by
  have S0 : RB w (rsetW w A n c V n d s) A n c V n d s := RB.new
  have C := Lib.hid (rright A n c V n d _ _ _ ((hS.below S0.b (Nat.le_refl _)).wide S0.b.size) (by omega))
  rw [rg_of h] at C
  have C2 := fun w => Lib.hid (rfull s w)
  rw [hs] at C2
  have HS0 := Lib.hid hS
  have HP := Lib.hid h
  have HS := Lib.hid S0
  have HLen := Lib.hid hS.len
  have tv1 : decide (-4000000000000000000 ≤ v) = false := by rw [decide_eq_false_iff_not]; omega
  clear hv
  clear h hS S0 hs
  obtain ⟨s1, s2⟩ := s
  go_enter Try.func20, Try.ntmps20
  go_wp2_with fail
  refine C.out.mono ?_
  rintro e w1 ⟨rfl, hb⟩
  have S1 := HS.out.below hb
  have p0 := S1.s.c0
  have p1 := S1.s.c1
  simp only at p0 p1
  have H1 := Lib.hid S1
  clear hb HS S1 C
  go_wp2_with fail
  refine (C2 _).out.mono ?_
  rintro e w2 ⟨rfl, hb⟩
  have S2 := H1.out.below hb
  clear p0 p1
  have H2 := Lib.hid S2
  have z0 := S2.f.lt
  have z1 := S2.s.lt
  have z2 := S2.r.lt
  have hws := S2.b.size
  have HS2 := Lib.hid (HS0.out.below S2.b (Nat.le_refl _))
  clear hb H1 S2 C2 HS0
  go_wp2
  go_loopw [10] (fun i w' => ∃ (k N : Nat) (A1 : Option Addr) (c1 : Nat) (V1 : Option Addr) (d1 : Nat) (out : List Pr), k ≤ n ∧ i = .int .i64 (k : Int) ∧ Hid (wts [] ((ps.take k).filter (fun _ => true)) = out) ∧ Hid (RQ w2 w' A1 N c1 V1 d1 out)) (fun i _ => n - (intOf i).toNat)
  case atStart => exact ⟨0, 0, none, 0, none, 0, [], Nat.zero_le _, rfl, Lib.hid rfl, Lib.hid ⟨OwnS.nil, Bx.new _ _ _ _, (Below.refl _ _).alloc (Nat.le_refl _) _, rfl⟩⟩
  case round =>
    obtain ⟨k, N, A1, c1, V1, d1, out, hk, rfl, HO, HR⟩ := hrel
    have q0 := (H2.out.f.below HR.out.b z0).c0
    have q1 := (H2.out.f.below HR.out.b z0).c1
    have y0 := (H2.out.s.below HR.out.b z1).c0
    have y1 := (H2.out.s.below HR.out.b z1).c1
    have o0 := HR.out.bx.c0
    have o1 := HR.out.bx.c1
    simp only at y0 y1
    have hN : N ≤ 500 := by
      have h1 := wts_len ((ps.take k).filter (fun _ => true)) []
      have h2 := List.length_filter_le (fun _ => true) (ps.take k)
      have h3 := HR.out.len
      have h4 := HLen.out
      rw [HO.out] at h1
      simp only [List.length_take, List.length_nil] at h1 h2
      omega
    by_cases hlt : k < n
    · have HSr := Lib.hid (HS2.out.below (HR.out.b.mono hws) (Nat.le_refl _))
      obtain ⟨ad, a, rfl, hab, hy, hc⟩ := HSr.out.a.get hlt
      obtain ⟨av, u, rfl, hvb, hv, hcv⟩ := HSr.out.v.get hlt
      have hz : ps[k]? = some (a, u) := by
        rw [List.getElem?_map] at hy hv
        cases hq : ps[k]? with
        | none => rw [hq] at hy; cases hy
        | some q => rw [hq] at hy hv; simp at hy hv; rw [← hy, ← hv]
      have hlt2 : (k : Int) < (n : Int) := by omega
      clear hy hv
      have HNx := Lib.hid (show wts [] ((ps.take (k + 1)).filter (fun _ => true)) = wt out a u by rw [flt_yes (fun _ => true) hz rfl, wts_snoc, HO.out])
      clear hz
      go_wp2
      go_quiet (fail)
      obtain ⟨W0, hW0⟩ : ∃ W0, wr.drewN nq = W0 := ⟨_, rfl⟩
      have HR0 := Lib.hid (show RQ w2 W0 A1 N c1 V1 d1 out by rw [← hW0]; exact HR.out.drew nq)
      have hc' : W0.cell? (ad.add k) = some (.int .i64 a) := by rw [← hW0]; exact hc
      have hcv' : W0.cell? (av.add k) = some (.int .i64 u) := by rw [← hW0]; exact hcv
      rw [hW0]
      clear hW0 q0 q1 y0 y1 o0 o1 hc hcv HR HSr
      have q0 := (H2.out.f.below HR0.out.b z0).c0
      have q1 := (H2.out.f.below HR0.out.b z0).c1
      have y0 := (H2.out.s.below HR0.out.b z1).c0
      have y1 := (H2.out.s.below HR0.out.b z1).c1
      have o0 := HR0.out.bx.c0
      have o1 := HR0.out.bx.c1
      simp only at y0 y1
      obtain ⟨L, hL⟩ : ∃ L, (wt out a u).length = L := ⟨_, rfl⟩
      have HL_ := Lib.hid hL
      clear hL
      have HNN := Lib.hid hN
      go_wp2
      go_still_tail 11, (by kernel_rfl)
      go_wp2_with fail
      refine (with_l (w2.heap.size + 1) A1 N c1 V1 d1 out a u W0.drew ⟨HR0.out.own.a, HR0.out.own.v, HR0.out.own.dj⟩ HR0.out.len HR0.out.size (by have := HNN.out; omega) rfl HL_.out).mono ?_
      rintro e W3 ⟨A2, c2, V2, d2, rfl, hO, hb⟩
      have hb' : Below (w2.heap.size + 1) W0 W3 := ⟨hb.os, hb.tape, hb.output, hb.size, hb.block⟩
      have HRn := Lib.hid (HR0.out.put hO hb' HL_.out)
      have HX3 := HR0.out.bx.below hb' (Nat.lt_succ_self _)
      have r0 := HX3.c0
      have r1 := HX3.c1
      have rf0 := HX3.f 0
      have rf1 := HX3.f 1
      clear hb hb' hO HX3 q0 q1 y0 y1 o0 o1 hc' hcv' HR0
      go_wp2
      go_roundw
      case rel => exact ⟨k + 1, L, A2, c2, V2, d2, _, by omega, by go_num, HNx, HRn⟩
      case measure => simp [intOf]; omega
    · have HE := Lib.hid (show out = ps by rw [← HO.out, List.take_of_length_le (by have := HLen.out; omega), List.filter_eq_self.2 (fun _ _ => rfl), rset_all HP.out])
      have R0 := H2.out.r.below HR.out.b z2
      have r0 := R0.c0
      have r1 := R0.c1
      have rf0 := R0.f 0
      have rf1 := R0.f 1
      have HR0 := Lib.hid R0
      have HL2 := Lib.hid (show ps.length = N by rw [← HR.out.len, HE.out])
      clear R0
      go_wp2
      have Z := (HR0.out.set0 (.slice A1 N c1)).set1 (.slice V1 N d1)
      have ht : 24 ≠ 3 := by decide
      have O1 := HR.out.own.far (p := ⟨w.heap.size + 1 + 1, 0, none⟩) (HR.out.own.a.not_box HR0.out ht) (HR.out.own.v.not_box HR0.out ht) (.slice A1 N c1)
      have x1 := HR0.out.set0 (.slice A1 N c1)
      have O2 := O1.far (p := ⟨w.heap.size + 1 + 1, 1, none⟩) (O1.a.not_box x1 ht) (O1.v.not_box x1 ht) (.slice V1 N d1)
      refine bodyPost_ret (v := sg A1 N c1 V1 N d1) (by simp [results, Try.results20, go_sem, Z.c0, Z.c1]) rfl ⟨A1, c1, V1, d1, by rw [HL2.out], ?_, ((H2.out.b.trans (HR.out.b.mono hws)).setCell (p := ⟨w.heap.size + 1 + 1, 0, none⟩) (by simp <;> omega) _).setCell (p := ⟨w.heap.size + 1 + 1, 1, none⟩) (by simp <;> omega) _⟩
      rw [HL2.out, ← HE.out]
      exact O2.low (by omega)


set_option maxRecDepth 100000 in
set_option maxHeartbeats 4000000 in
theorem rset_far3 (A : Option Addr) (n c : Nat) (V : Option Addr) (d : Nat) (ps : List Pr) (s : Pr) (v : Int) (w : World) (hS : Sr w w.heap.size A V n ps) (hn : n ≤ 400) (h : Right ps) (hs : full s = true) (hv : 4000000000000000000 < v) :
    Calls Try.prog 20 #[sg A n c V n d, ag s, .int .i64 v] w (GivesB w ps) := by
  have S0 : RB w (rsetW w A n c V n d s) A n c V n d s := RB.new
  have C := Lib.hid (rright A n c V n d _ _ _ ((hS.below S0.b (Nat.le_refl _)).wide S0.b.size) (by omega))
  rw [rg_of h] at C
  have C2 := fun w => Lib.hid (rfull s w)
  rw [hs] at C2
  have HS0 := Lib.hid hS
  have HP := Lib.hid h
  have HS := Lib.hid S0
  have HLen := Lib.hid hS.len
  have tv1 : decide (-4000000000000000000 ≤ v) = true := by rw [decide_eq_true_eq]; omega
  have tv2 : decide (v ≤ 4000000000000000000) = false := by rw [decide_eq_false_iff_not]; omega
  clear hv
  clear h hS S0 hs
  obtain ⟨s1, s2⟩ := s
  go_enter Try.func20, Try.ntmps20
  go_wp2_with fail
  refine C.out.mono ?_
  rintro e w1 ⟨rfl, hb⟩
  have S1 := HS.out.below hb
  have p0 := S1.s.c0
  have p1 := S1.s.c1
  simp only at p0 p1
  have H1 := Lib.hid S1
  clear hb HS S1 C
  go_wp2_with fail
  refine (C2 _).out.mono ?_
  rintro e w2 ⟨rfl, hb⟩
  have S2 := H1.out.below hb
  clear p0 p1
  have H2 := Lib.hid S2
  have z0 := S2.f.lt
  have z1 := S2.s.lt
  have z2 := S2.r.lt
  have hws := S2.b.size
  have HS2 := Lib.hid (HS0.out.below S2.b (Nat.le_refl _))
  clear hb H1 S2 C2 HS0
  go_wp2
  go_loopw [10] (fun i w' => ∃ (k N : Nat) (A1 : Option Addr) (c1 : Nat) (V1 : Option Addr) (d1 : Nat) (out : List Pr), k ≤ n ∧ i = .int .i64 (k : Int) ∧ Hid (wts [] ((ps.take k).filter (fun _ => true)) = out) ∧ Hid (RQ w2 w' A1 N c1 V1 d1 out)) (fun i _ => n - (intOf i).toNat)
  case atStart => exact ⟨0, 0, none, 0, none, 0, [], Nat.zero_le _, rfl, Lib.hid rfl, Lib.hid ⟨OwnS.nil, Bx.new _ _ _ _, (Below.refl _ _).alloc (Nat.le_refl _) _, rfl⟩⟩
  case round =>
    obtain ⟨k, N, A1, c1, V1, d1, out, hk, rfl, HO, HR⟩ := hrel
    have q0 := (H2.out.f.below HR.out.b z0).c0
    have q1 := (H2.out.f.below HR.out.b z0).c1
    have y0 := (H2.out.s.below HR.out.b z1).c0
    have y1 := (H2.out.s.below HR.out.b z1).c1
    have o0 := HR.out.bx.c0
    have o1 := HR.out.bx.c1
    simp only at y0 y1
    have hN : N ≤ 500 := by
      have h1 := wts_len ((ps.take k).filter (fun _ => true)) []
      have h2 := List.length_filter_le (fun _ => true) (ps.take k)
      have h3 := HR.out.len
      have h4 := HLen.out
      rw [HO.out] at h1
      simp only [List.length_take, List.length_nil] at h1 h2
      omega
    by_cases hlt : k < n
    · have HSr := Lib.hid (HS2.out.below (HR.out.b.mono hws) (Nat.le_refl _))
      obtain ⟨ad, a, rfl, hab, hy, hc⟩ := HSr.out.a.get hlt
      obtain ⟨av, u, rfl, hvb, hv, hcv⟩ := HSr.out.v.get hlt
      have hz : ps[k]? = some (a, u) := by
        rw [List.getElem?_map] at hy hv
        cases hq : ps[k]? with
        | none => rw [hq] at hy; cases hy
        | some q => rw [hq] at hy hv; simp at hy hv; rw [← hy, ← hv]
      have hlt2 : (k : Int) < (n : Int) := by omega
      clear hy hv
      have HNx := Lib.hid (show wts [] ((ps.take (k + 1)).filter (fun _ => true)) = wt out a u by rw [flt_yes (fun _ => true) hz rfl, wts_snoc, HO.out])
      clear hz
      go_wp2
      go_quiet (fail)
      obtain ⟨W0, hW0⟩ : ∃ W0, wr.drewN nq = W0 := ⟨_, rfl⟩
      have HR0 := Lib.hid (show RQ w2 W0 A1 N c1 V1 d1 out by rw [← hW0]; exact HR.out.drew nq)
      have hc' : W0.cell? (ad.add k) = some (.int .i64 a) := by rw [← hW0]; exact hc
      have hcv' : W0.cell? (av.add k) = some (.int .i64 u) := by rw [← hW0]; exact hcv
      rw [hW0]
      clear hW0 q0 q1 y0 y1 o0 o1 hc hcv HR HSr
      have q0 := (H2.out.f.below HR0.out.b z0).c0
      have q1 := (H2.out.f.below HR0.out.b z0).c1
      have y0 := (H2.out.s.below HR0.out.b z1).c0
      have y1 := (H2.out.s.below HR0.out.b z1).c1
      have o0 := HR0.out.bx.c0
      have o1 := HR0.out.bx.c1
      simp only at y0 y1
      obtain ⟨L, hL⟩ : ∃ L, (wt out a u).length = L := ⟨_, rfl⟩
      have HL_ := Lib.hid hL
      clear hL
      have HNN := Lib.hid hN
      go_wp2
      go_still_tail 11, (by kernel_rfl)
      go_wp2_with fail
      refine (with_l (w2.heap.size + 1) A1 N c1 V1 d1 out a u W0.drew ⟨HR0.out.own.a, HR0.out.own.v, HR0.out.own.dj⟩ HR0.out.len HR0.out.size (by have := HNN.out; omega) rfl HL_.out).mono ?_
      rintro e W3 ⟨A2, c2, V2, d2, rfl, hO, hb⟩
      have hb' : Below (w2.heap.size + 1) W0 W3 := ⟨hb.os, hb.tape, hb.output, hb.size, hb.block⟩
      have HRn := Lib.hid (HR0.out.put hO hb' HL_.out)
      have HX3 := HR0.out.bx.below hb' (Nat.lt_succ_self _)
      have r0 := HX3.c0
      have r1 := HX3.c1
      have rf0 := HX3.f 0
      have rf1 := HX3.f 1
      clear hb hb' hO HX3 q0 q1 y0 y1 o0 o1 hc' hcv' HR0
      go_wp2
      go_roundw
      case rel => exact ⟨k + 1, L, A2, c2, V2, d2, _, by omega, by go_num, HNx, HRn⟩
      case measure => simp [intOf]; omega
    · have HE := Lib.hid (show out = ps by rw [← HO.out, List.take_of_length_le (by have := HLen.out; omega), List.filter_eq_self.2 (fun _ _ => rfl), rset_all HP.out])
      have R0 := H2.out.r.below HR.out.b z2
      have r0 := R0.c0
      have r1 := R0.c1
      have rf0 := R0.f 0
      have rf1 := R0.f 1
      have HR0 := Lib.hid R0
      have HL2 := Lib.hid (show ps.length = N by rw [← HR.out.len, HE.out])
      clear R0
      go_wp2
      have Z := (HR0.out.set0 (.slice A1 N c1)).set1 (.slice V1 N d1)
      have ht : 24 ≠ 3 := by decide
      have O1 := HR.out.own.far (p := ⟨w.heap.size + 1 + 1, 0, none⟩) (HR.out.own.a.not_box HR0.out ht) (HR.out.own.v.not_box HR0.out ht) (.slice A1 N c1)
      have x1 := HR0.out.set0 (.slice A1 N c1)
      have O2 := O1.far (p := ⟨w.heap.size + 1 + 1, 1, none⟩) (O1.a.not_box x1 ht) (O1.v.not_box x1 ht) (.slice V1 N d1)
      refine bodyPost_ret (v := sg A1 N c1 V1 N d1) (by simp [results, Try.results20, go_sem, Z.c0, Z.c1]) rfl ⟨A1, c1, V1, d1, by rw [HL2.out], ?_, ((H2.out.b.trans (HR.out.b.mono hws)).setCell (p := ⟨w.heap.size + 1 + 1, 0, none⟩) (by simp <;> omega) _).setCell (p := ⟨w.heap.size + 1 + 1, 1, none⟩) (by simp <;> omega) _⟩
      rw [HL2.out, ← HE.out]
      exact O2.low (by omega)


theorem RQ.keep {w2 W W1 : World} {A V : Option Addr} {N c d : Nat} {out : List Pr} (h : RQ w2 W A N c V d out) (hb : Below W.heap.size W W1) : RQ w2 W1 A N c V d out := ⟨h.own.below hb, h.bx.keep hb, h.b.trans (hb.mono h.b.size), h.len⟩

set_option maxRecDepth 100000 in
set_option maxHeartbeats 8000000 in
theorem rset_yes (A : Option Addr) (n c : Nat) (V : Option Addr) (d : Nat) (ps : List Pr) (s : Pr) (v : Int) (w : World) (hS : Sr w w.heap.size A V n ps) (hn : n ≤ 400) (h : Right ps) (hs : full s = true) (hv1 : -4000000000000000000 ≤ v) (hv2 : v ≤ 4000000000000000000) :
    Calls Try.prog 20 #[sg A n c V n d, ag s, .int .i64 v] w (GivesB w (setR ps s v)) := by
  have hfs := (full_iff _).1 hs
  have HFV := Lib.hid (show St.fits v = true from (fits_iff v).2 ⟨hv1, hv2⟩)
  have S0 : RB w (rsetW w A n c V n d s) A n c V n d s := RB.new
  have C := Lib.hid (rright A n c V n d _ _ _ ((hS.below S0.b (Nat.le_refl _)).wide S0.b.size) (by omega))
  rw [rg_of h] at C
  have C2 := fun w => Lib.hid (rfull s w)
  rw [hs] at C2
  have HS0 := Lib.hid hS
  have HP := Lib.hid h
  have HS := Lib.hid S0
  have HLen := Lib.hid hS.len
  have tv1 : decide (-4000000000000000000 ≤ v) = true := by rw [decide_eq_true_eq]; exact hv1
  have tv2 : decide (v ≤ 4000000000000000000) = true := by rw [decide_eq_true_eq]; exact hv2
  clear h hS S0 hs hv1 hv2
  obtain ⟨s1, s2⟩ := s
  obtain ⟨b1, b2, b3⟩ := hfs
  simp only at b1 b2 b3
  go_enter Try.func20, Try.ntmps20
  go_wp2_with fail
  refine C.out.mono ?_
  rintro e w1 ⟨rfl, hb⟩
  have S1 := HS.out.below hb
  have p0 := S1.s.c0
  have p1 := S1.s.c1
  simp only at p0 p1
  have H1 := Lib.hid S1
  clear hb HS S1 C
  go_wp2_with fail
  refine (C2 _).out.mono ?_
  rintro e w2 ⟨rfl, hb⟩
  have S2 := H1.out.below hb
  clear p0 p1
  have H2 := Lib.hid S2
  have z0 := S2.f.lt
  have z1 := S2.s.lt
  have z2 := S2.r.lt
  have hws := S2.b.size
  have HS2 := Lib.hid (HS0.out.below S2.b (Nat.le_refl _))
  clear hb H1 S2 C2 HS0
  go_wp2
  go_loopw [10] (fun i w' => ∃ (k N : Nat) (A1 : Option Addr) (c1 : Nat) (V1 : Option Addr) (d1 : Nat) (out : List Pr), k ≤ n ∧ i = .int .i64 (k : Int) ∧ Hid (wts [] ((ps.take k).filter (fun x => decide (x.1 < s1))) = out) ∧ Hid (RQ w2 w' A1 N c1 V1 d1 out)) (fun i _ => n - (intOf i).toNat)
  case atStart => exact ⟨0, 0, none, 0, none, 0, [], Nat.zero_le _, rfl, Lib.hid rfl, Lib.hid ⟨OwnS.nil, Bx.new _ _ _ _, (Below.refl _ _).alloc (Nat.le_refl _) _, rfl⟩⟩
  case round =>
    obtain ⟨k, N, A1, c1, V1, d1, out, hk, rfl, HO, HR⟩ := hrel
    have q0 := (H2.out.f.below HR.out.b z0).c0
    have q1 := (H2.out.f.below HR.out.b z0).c1
    have y0 := (H2.out.s.below HR.out.b z1).c0
    have y1 := (H2.out.s.below HR.out.b z1).c1
    have o0 := HR.out.bx.c0
    have o1 := HR.out.bx.c1
    simp only at y0 y1
    have hN : N ≤ 500 := by
      have h1 := wts_len ((ps.take k).filter (fun x => decide (x.1 < s1))) []
      have h2 := List.length_filter_le (fun x => decide (x.1 < s1)) (ps.take k)
      have h3 := HR.out.len
      have h4 := HLen.out
      rw [HO.out] at h1
      simp only [List.length_take, List.length_nil] at h1 h2
      omega
    by_cases hlt : k < n
    · have HSr := Lib.hid (HS2.out.below (HR.out.b.mono hws) (Nat.le_refl _))
      obtain ⟨ad, a, rfl, hab, hy, hc⟩ := HSr.out.a.get hlt
      obtain ⟨av, u, rfl, hvb, hv, hcv⟩ := HSr.out.v.get hlt
      have hz : ps[k]? = some (a, u) := by
        rw [List.getElem?_map] at hy hv
        cases hq : ps[k]? with
        | none => rw [hq] at hy; cases hy
        | some q => rw [hq] at hy hv; simp at hy hv; rw [← hy, ← hv]
      have hlt2 : (k : Int) < (n : Int) := by omega
      clear hy hv
      by_cases g : a < s1
      · have t1 : decide (a < s1) = true := by rw [decide_eq_true_eq]; exact g
        have HNx := Lib.hid (show wts [] ((ps.take (k + 1)).filter (fun x => decide (x.1 < s1))) = wt out a u by rw [flt_yes (fun x => decide (x.1 < s1)) hz (by simpa using g), wts_snoc, HO.out])
        clear hz g
        go_wp2
        go_quiet (fail)
        obtain ⟨W0, hW0⟩ : ∃ W0, wr.drewN nq = W0 := ⟨_, rfl⟩
        have HR0 := Lib.hid (show RQ w2 W0 A1 N c1 V1 d1 out by rw [← hW0]; exact HR.out.drew nq)
        have hc' : W0.cell? (ad.add k) = some (.int .i64 a) := by rw [← hW0]; exact hc
        have hcv' : W0.cell? (av.add k) = some (.int .i64 u) := by rw [← hW0]; exact hcv
        rw [hW0]
        clear hW0 q0 q1 y0 y1 o0 o1 hc hcv HR HSr
        have q0 := (H2.out.f.below HR0.out.b z0).c0
        have q1 := (H2.out.f.below HR0.out.b z0).c1
        have y0 := (H2.out.s.below HR0.out.b z1).c0
        have y1 := (H2.out.s.below HR0.out.b z1).c1
        have o0 := HR0.out.bx.c0
        have o1 := HR0.out.bx.c1
        simp only at y0 y1
        obtain ⟨L, hL⟩ : ∃ L, (wt out a u).length = L := ⟨_, rfl⟩
        have HL_ := Lib.hid hL
        clear hL
        have HNN := Lib.hid hN
        go_wp2
        go_still_tail 11, (by kernel_rfl)
        go_wp2_with fail
        refine (with_l (w2.heap.size + 1) A1 N c1 V1 d1 out a u W0.drew ⟨HR0.out.own.a, HR0.out.own.v, HR0.out.own.dj⟩ HR0.out.len HR0.out.size (by have := HNN.out; omega) rfl HL_.out).mono ?_
        rintro e W3 ⟨A2, c2, V2, d2, rfl, hO, hb⟩
        have hb' : Below (w2.heap.size + 1) W0 W3 := ⟨hb.os, hb.tape, hb.output, hb.size, hb.block⟩
        have HRn := Lib.hid (HR0.out.put hO hb' HL_.out)
        have HX3 := HR0.out.bx.below hb' (Nat.lt_succ_self _)
        have r0 := HX3.c0
        have r1 := HX3.c1
        have rf0 := HX3.f 0
        have rf1 := HX3.f 1
        clear hb hb' hO HX3 q0 q1 y0 y1 o0 o1 hc' hcv' HR0
        go_wp2
        go_roundw
        case rel => exact ⟨k + 1, L, A2, c2, V2, d2, _, by omega, by go_num, HNx, HRn⟩
        case measure => simp [intOf]; omega
      · have t1 : decide (a < s1) = false := by rw [decide_eq_false_iff_not]; exact g
        have HNx := Lib.hid (show wts [] ((ps.take (k + 1)).filter (fun x => decide (x.1 < s1))) = out by rw [flt_no (fun x => decide (x.1 < s1)) hz (by simpa using g), HO.out])
        clear hz g
        go_wp2
        go_quiet (fail)
        go_wp2
        go_roundw
        case rel => exact ⟨k + 1, N, A1, c1, V1, d1, out, by omega, by go_num, HNx, Lib.hid (HR.out.drew _)⟩
        case measure => simp [intOf]; omega
    · have HOe := Lib.hid (show wts [] (ps.filter (fun x => decide (x.1 < s1))) = out by rw [← HO.out, List.take_of_length_le (by have := HLen.out; omega)])
      obtain ⟨out2, ho2⟩ : ∃ o, wt out s1 v = o := ⟨_, rfl⟩
      obtain ⟨L5, hL5⟩ : ∃ L, out2.length = L := ⟨_, rfl⟩
      obtain ⟨y, hyv⟩ : ∃ y, val 0 ps s2 = y := ⟨_, rfl⟩
      obtain ⟨out4, ho4⟩ : ∃ o, wt out2 s2 y = o := ⟨_, rfl⟩
      obtain ⟨L4, hL4⟩ : ∃ L, out4.length = L := ⟨_, rfl⟩
      have HEQ := Lib.hid (show setR ps (s1, s2) v = wts out4 (ps.filter fun x => decide (s2 < x.1)) by rw [← ho4, ← ho2, ← hyv, ← HOe.out]; exact (rset_eq HP.out b1 b2 b3 HFV.out).symm)
      have HYv := Lib.hid hyv
      have HW2 := Lib.hid ho2
      have HW4 := Lib.hid ho4
      have HL5e := Lib.hid hL5
      have HL4 := Lib.hid hL4
      have HL5 := Lib.hid (show L5 ≤ 501 by have h1 := wt_len out s1 v; have h2 := HR.out.len; rw [ho2, hL5] at h1; omega)
      have HL4b := Lib.hid (show out4.length ≤ 502 by have h1 := wt_len out2 s2 y; have h2 := HL5.out; rw [ho4, hL5] at h1; omega)
      have HNN := Lib.hid hN
      clear ho2 ho4 hL5 hL4 hyv hN
      go_wp2_with fail
      refine (with_l (w2.heap.size + 1) A1 N c1 V1 d1 out s1 v wr HR.out.own HR.out.len HR.out.size (by have := HNN.out; omega) HW2.out HL5e.out).mono ?_
      rintro e W3 ⟨A5, c5, V5, d5, rfl, hO, hb⟩
      have HR5_ := Lib.hid (HR.out.put hO hb HL5e.out)
      have HX3 := HR.out.bx.below hb (Nat.lt_succ_self _)
      have r0 := HX3.c0
      have r1 := HX3.c1
      have rf0 := HX3.f 0
      have rf1 := HX3.f 1
      clear hb hO HX3 q0 q1 y0 y1 o0 o1 HR
      go_wp2
      obtain ⟨W5, hW5⟩ : ∃ W5, (W3.setCell ⟨w2.heap.size, 0, none⟩ (.slice A5 L5 c5)).setCell ⟨w2.heap.size, 1, none⟩ (.slice V5 L5 d5) = W5 := ⟨_, rfl⟩
      have HR5 := Lib.hid (show RQ w2 W5 A5 L5 c5 V5 d5 out2 by rw [← hW5]; exact HR5_.out)
      rw [hW5]
      clear hW5 HR5_ r0 r1 rf0 rf1
      have HR5d := Lib.hid (HR5.out.drew 1)
      refine wp_region_held (S := fun w' => w'.cell? ⟨w.heap.size, 0, none⟩ = some (.slice A n c) ∧ w'.cell? ⟨w.heap.size, 1, none⟩ = some (.slice V n d) ∧ w'.cell? ⟨w.heap.size + 1, 1, none⟩ = some (.int .i64 s2)) (by kernel_rfl) ?_
      change wpAnyH _ _ _ _ _ _ _ _ (World.drew _)
      have HSU := Lib.hid (show W5.drew.cell? ⟨w.heap.size, 0, none⟩ = some (.slice A n c) ∧ W5.drew.cell? ⟨w.heap.size, 1, none⟩ = some (.slice V n d) ∧ W5.drew.cell? ⟨w.heap.size + 1, 1, none⟩ = some (.int .i64 s2) from ⟨(H2.out.f.below HR5.out.b z0).c0, (H2.out.f.below HR5.out.b z0).c1, (H2.out.s.below HR5.out.b z1).c1⟩)
      refine wpAnyH_take (i := 1) (v := .pointer (some ⟨w.heap.size + 1, 1, none⟩)) rfl (by kernel_rfl) (by kernel_rfl) (by kernel_rfl) (fun _ _ _ h => h) (Or.inl ⟨by rfl, by intro w_ hS_; obtain ⟨q0_, q1_, q2_⟩ := hS_; go_simp⟩) HSU.out ?_
      refine wpAnyH_take (i := 2) (v := .int .i64 s2) rfl (by kernel_rfl) (by kernel_rfl) (by kernel_rfl) (fun _ _ _ h => h) (Or.inl ⟨by rfl, by intro w_ hS_; obtain ⟨q0_, q1_, q2_⟩ := hS_; go_simp⟩) HSU.out ?_
      refine wpAnyH_take (i := 3) (v := sg A n c V n d) rfl (by kernel_rfl) (by kernel_rfl) (by kernel_rfl) (fun _ _ _ h => h) (Or.inl ⟨by rfl, by intro w_ hS_; obtain ⟨q0_, q1_, q2_⟩ := hS_; go_simp⟩) HSU.out ?_
      refine wpAnyH_take (i := 4) (v := .pointer (some ⟨w.heap.size + 1, 1, none⟩)) rfl (by kernel_rfl) (by kernel_rfl) (by kernel_rfl) (fun _ _ _ h => h) (Or.inl ⟨by rfl, by intro w_ hS_; obtain ⟨q0_, q1_, q2_⟩ := hS_; go_simp⟩) HSU.out ?_
      refine wpAnyH_take (i := 5) (v := .int .i64 s2) rfl (by kernel_rfl) (by kernel_rfl) (by kernel_rfl) (fun _ _ _ h => h) (Or.inl ⟨by rfl, by intro w_ hS_; obtain ⟨q0_, q1_, q2_⟩ := hS_; go_simp⟩) HSU.out ?_
      try simp only [Act.put, List.setIfInBounds_toArray]
      refine wpAnyH_ready (rs := [0, 6]) (by kernel_rfl) (by simp) ?_
      refine (AllReadyH.cons rfl (fun K hK => ?_) (AllReadyH.cons rfl (fun K hK => ?_) AllReadyH.nil))
      · have o0 : W5.drew.cell? ⟨w2.heap.size, 0, none⟩ = some (.slice A5 L5 c5) := HR5.out.bx.c0
        have o1 : W5.drew.cell? ⟨w2.heap.size, 1, none⟩ = some (.slice V5 L5 d5) := HR5.out.bx.c1
        go_simp
        refine hK.out _ _ HSU.out (fun _ => ?_)
        clear hK K o0 o1
        refine wpAnyH_ready (rs := [6]) (by kernel_rfl) (by simp) ?_
        refine (AllReadyH.cons rfl (fun K hK => ?_) AllReadyH.nil)
        · go_simp
          refine (rat_yes A n c V d ps s2 W5.drew ((HS2.out.below (Below.mono HR5.out.b.drew hws) (Nat.le_refl _)).wide (Nat.le_trans hws (Below.size HR5.out.b.drew))) (by omega) HP.out).mono ?_
          rintro e W6 ⟨rfl, hb6⟩
          rw [HYv.out]
          have HR6 := Lib.hid (HR5d.out.keep hb6)
          clear hb6
          try go_simp
          refine hK.out _ _ ⟨(H2.out.f.below HR6.out.b z0).c0, (H2.out.f.below HR6.out.b z0).c1, (H2.out.s.below HR6.out.b z1).c1⟩ (fun _ => ?_)
          clear hK K
          refine wpAnyH_ready (rs := [7]) (by kernel_rfl) (by simp) ?_
          refine (AllReadyH.cons rfl (fun K hK => ?_) AllReadyH.nil)
          · go_simp
            refine (with_l (w2.heap.size + 1) A5 L5 c5 V5 d5 out2 s2 y W6 HR6.out.own HR6.out.len HR6.out.size (by have := HL5.out; omega) HW4.out HL4.out).mono ?_
            rintro e W7 ⟨A4, c4, V4, d4, rfl, hO, hb⟩
            have HR8_ := Lib.hid (HR6.out.put hO hb HL4.out)
            have HX7 := HR6.out.bx.below hb (Nat.lt_succ_self _)
            have HB7 := Lib.hid (HR6.out.b.trans (hb.mono (by omega)))
            have r0 := HX7.c0
            have r1 := HX7.c1
            have rf0 := HX7.f 0
            have rf1 := HX7.f 1
            clear hb hO HX7
            try go_simp
            refine hK.out _ _ ⟨(H2.out.f.below HB7.out z0).c0, (H2.out.f.below HB7.out z0).c1, (H2.out.s.below HB7.out z1).c1⟩ (fun _ => ?_)
            clear hK K
            refine wpAnyH_ready (rs := [8]) (by kernel_rfl) (by simp) ?_
            refine (AllReadyH.cons rfl (fun K hK => ?_) AllReadyH.nil)
            · go_simp
              refine hK.out _ _ ⟨(H2.out.f.below HR8_.out.b z0).c0, (H2.out.f.below HR8_.out.b z0).c1, (H2.out.s.below HR8_.out.b z1).c1⟩ (fun _ => ?_)
              clear hK K r0 r1 rf0 rf1
              refine wpAnyH_done (by kernel_rfl) ?_ _
              obtain ⟨W8, hW8⟩ : ∃ W8, (W7.setCell ⟨w2.heap.size, 0, none⟩ (.slice A4 L4 c4)).setCell ⟨w2.heap.size, 1, none⟩ (.slice V4 L4 d4) = W8 := ⟨_, rfl⟩
              have HR8 := Lib.hid (show RQ w2 W8 A4 L4 c4 V4 d4 out4 by rw [← hW8]; exact HR8_.out)
              rw [hW8]
              clear hW8 HR8_ HR6 HR5 HR5d HB7
              go_wp2
              go_loopw [11] (fun i w' => ∃ (k N : Nat) (A1 : Option Addr) (c1 : Nat) (V1 : Option Addr) (d1 : Nat) (out : List Pr), k ≤ n ∧ i = .int .i64 (k : Int) ∧ Hid (wts out4 ((ps.take k).filter (fun x => decide (s2 < x.1))) = out) ∧ Hid (RQ w2 w' A1 N c1 V1 d1 out)) (fun i _ => n - (intOf i).toNat)
              case atStart => exact ⟨0, _, _, _, _, _, _, Nat.zero_le _, rfl, Lib.hid rfl, HR8⟩
              case round =>
                obtain ⟨k, N, A1, c1, V1, d1, out, hk, rfl, HO, HR⟩ := hrel
                have q0 := (H2.out.f.below HR.out.b z0).c0
                have q1 := (H2.out.f.below HR.out.b z0).c1
                have y0 := (H2.out.s.below HR.out.b z1).c0
                have y1 := (H2.out.s.below HR.out.b z1).c1
                have o0 := HR.out.bx.c0
                have o1 := HR.out.bx.c1
                simp only at y0 y1
                have hN : N ≤ 950 := by
                  have h1 := wts_len ((ps.take k).filter (fun x => decide (s2 < x.1))) out4
                  have h2 := List.length_filter_le (fun x => decide (s2 < x.1)) (ps.take k)
                  have h3 := HR.out.len
                  have h4 := HLen.out
                  have h5 := HL4b.out
                  rw [HO.out] at h1
                  simp only [List.length_take] at h1 h2
                  omega
                by_cases hlt : k < n
                · have HSr := Lib.hid (HS2.out.below (HR.out.b.mono hws) (Nat.le_refl _))
                  obtain ⟨ad, a, rfl, hab, hy, hc⟩ := HSr.out.a.get hlt
                  obtain ⟨av, u, rfl, hvb, hv, hcv⟩ := HSr.out.v.get hlt
                  have hz : ps[k]? = some (a, u) := by
                    rw [List.getElem?_map] at hy hv
                    cases hq : ps[k]? with
                    | none => rw [hq] at hy; cases hy
                    | some q => rw [hq] at hy hv; simp at hy hv; rw [← hy, ← hv]
                  have hlt2 : (k : Int) < (n : Int) := by omega
                  clear hy hv
                  by_cases g : s2 < a
                  · have t1 : decide (s2 < a) = true := by rw [decide_eq_true_eq]; exact g
                    have HNx := Lib.hid (show wts out4 ((ps.take (k + 1)).filter (fun x => decide (s2 < x.1))) = wt out a u by rw [flt_yes (fun x => decide (s2 < x.1)) hz (by simpa using g), wts_snoc, HO.out])
                    clear hz g
                    go_wp2
                    go_quiet (fail)
                    obtain ⟨W0, hW0⟩ : ∃ W0, wr.drewN nq = W0 := ⟨_, rfl⟩
                    have HR0 := Lib.hid (show RQ w2 W0 A1 N c1 V1 d1 out by rw [← hW0]; exact HR.out.drew nq)
                    have hc' : W0.cell? (ad.add k) = some (.int .i64 a) := by rw [← hW0]; exact hc
                    have hcv' : W0.cell? (av.add k) = some (.int .i64 u) := by rw [← hW0]; exact hcv
                    rw [hW0]
                    clear hW0 q0 q1 y0 y1 o0 o1 hc hcv HR HSr
                    have q0 := (H2.out.f.below HR0.out.b z0).c0
                    have q1 := (H2.out.f.below HR0.out.b z0).c1
                    have y0 := (H2.out.s.below HR0.out.b z1).c0
                    have y1 := (H2.out.s.below HR0.out.b z1).c1
                    have o0 := HR0.out.bx.c0
                    have o1 := HR0.out.bx.c1
                    simp only at y0 y1
                    obtain ⟨L, hL⟩ : ∃ L, (wt out a u).length = L := ⟨_, rfl⟩
                    have HL_ := Lib.hid hL
                    clear hL
                    have HNN := Lib.hid hN
                    go_wp2
                    go_still_tail 11, (by kernel_rfl)
                    go_wp2_with fail
                    refine (with_l (w2.heap.size + 1) A1 N c1 V1 d1 out a u W0.drew ⟨HR0.out.own.a, HR0.out.own.v, HR0.out.own.dj⟩ HR0.out.len HR0.out.size (by have := HNN.out; omega) rfl HL_.out).mono ?_
                    rintro e W3 ⟨A2, c2, V2, d2, rfl, hO, hb⟩
                    have hb' : Below (w2.heap.size + 1) W0 W3 := ⟨hb.os, hb.tape, hb.output, hb.size, hb.block⟩
                    have HRn := Lib.hid (HR0.out.put hO hb' HL_.out)
                    have HX3 := HR0.out.bx.below hb' (Nat.lt_succ_self _)
                    have r0 := HX3.c0
                    have r1 := HX3.c1
                    have rf0 := HX3.f 0
                    have rf1 := HX3.f 1
                    clear hb hb' hO HX3 q0 q1 y0 y1 o0 o1 hc' hcv' HR0
                    go_wp2
                    go_roundw
                    case rel => exact ⟨k + 1, L, A2, c2, V2, d2, _, by omega, by go_num, HNx, HRn⟩
                    case measure => simp [intOf]; omega
                  · have t1 : decide (s2 < a) = false := by rw [decide_eq_false_iff_not]; exact g
                    have HNx := Lib.hid (show wts out4 ((ps.take (k + 1)).filter (fun x => decide (s2 < x.1))) = out by rw [flt_no (fun x => decide (s2 < x.1)) hz (by simpa using g), HO.out])
                    clear hz g
                    go_wp2
                    go_quiet (fail)
                    go_wp2
                    go_roundw
                    case rel => exact ⟨k + 1, N, A1, c1, V1, d1, out, by omega, by go_num, HNx, Lib.hid (HR.out.drew _)⟩
                    case measure => simp [intOf]; omega
                · have HE := Lib.hid (show out = setR ps (s1, s2) v by rw [← HO.out, List.take_of_length_le (by have := HLen.out; omega), ← HEQ.out])
                  have R0 := H2.out.r.below HR.out.b z2
                  have r0 := R0.c0
                  have r1 := R0.c1
                  have rf0 := R0.f 0
                  have rf1 := R0.f 1
                  have HR0 := Lib.hid R0
                  have HL2 := Lib.hid (show (setR ps (s1, s2) v).length = N by rw [← HR.out.len, HE.out])
                  clear R0
                  go_wp2
                  have Z := (HR0.out.set0 (.slice A1 N c1)).set1 (.slice V1 N d1)
                  have ht : 24 ≠ 3 := by decide
                  have O1 := HR.out.own.far (p := ⟨w.heap.size + 1 + 1, 0, none⟩) (HR.out.own.a.not_box HR0.out ht) (HR.out.own.v.not_box HR0.out ht) (.slice A1 N c1)
                  have x1 := HR0.out.set0 (.slice A1 N c1)
                  have O2 := O1.far (p := ⟨w.heap.size + 1 + 1, 1, none⟩) (O1.a.not_box x1 ht) (O1.v.not_box x1 ht) (.slice V1 N d1)
                  refine bodyPost_ret (v := sg A1 N c1 V1 N d1) (by simp [results, Try.results20, go_sem, Z.c0, Z.c1]) rfl ⟨A1, c1, V1, d1, by rw [HL2.out], ?_, ((H2.out.b.trans (HR.out.b.mono hws)).setCell (p := ⟨w.heap.size + 1 + 1, 0, none⟩) (by simp <;> omega) _).setCell (p := ⟨w.heap.size + 1 + 1, 1, none⟩) (by simp <;> omega) _⟩
                  rw [HL2.out, ← HE.out]
                  exact O2.low (by omega)

      · go_simp
        refine (rat_yes A n c V d ps s2 W5.drew ((HS2.out.below (Below.mono HR5.out.b.drew hws) (Nat.le_refl _)).wide (Nat.le_trans hws (Below.size HR5.out.b.drew))) (by omega) HP.out).mono ?_
        rintro e W6 ⟨rfl, hb6⟩
        rw [HYv.out]
        have HR6 := Lib.hid (HR5d.out.keep hb6)
        clear hb6
        try go_simp
        refine hK.out _ _ ⟨(H2.out.f.below HR6.out.b z0).c0, (H2.out.f.below HR6.out.b z0).c1, (H2.out.s.below HR6.out.b z1).c1⟩ (fun _ => ?_)
        clear hK K
        refine wpAnyH_ready (rs := [0]) (by kernel_rfl) (by simp) ?_
        refine (AllReadyH.cons rfl (fun K hK => ?_) AllReadyH.nil)
        · have o0 := HR6.out.bx.c0
          have o1 := HR6.out.bx.c1
          go_simp
          refine hK.out _ _ ⟨(H2.out.f.below HR6.out.b z0).c0, (H2.out.f.below HR6.out.b z0).c1, (H2.out.s.below HR6.out.b z1).c1⟩ (fun _ => ?_)
          clear hK K o0 o1
          refine wpAnyH_ready (rs := [7]) (by kernel_rfl) (by simp) ?_
          refine (AllReadyH.cons rfl (fun K hK => ?_) AllReadyH.nil)
          · go_simp
            refine (with_l (w2.heap.size + 1) A5 L5 c5 V5 d5 out2 s2 y W6 HR6.out.own HR6.out.len HR6.out.size (by have := HL5.out; omega) HW4.out HL4.out).mono ?_
            rintro e W7 ⟨A4, c4, V4, d4, rfl, hO, hb⟩
            have HR8_ := Lib.hid (HR6.out.put hO hb HL4.out)
            have HX7 := HR6.out.bx.below hb (Nat.lt_succ_self _)
            have HB7 := Lib.hid (HR6.out.b.trans (hb.mono (by omega)))
            have r0 := HX7.c0
            have r1 := HX7.c1
            have rf0 := HX7.f 0
            have rf1 := HX7.f 1
            clear hb hO HX7
            try go_simp
            refine hK.out _ _ ⟨(H2.out.f.below HB7.out z0).c0, (H2.out.f.below HB7.out z0).c1, (H2.out.s.below HB7.out z1).c1⟩ (fun _ => ?_)
            clear hK K
            refine wpAnyH_ready (rs := [8]) (by kernel_rfl) (by simp) ?_
            refine (AllReadyH.cons rfl (fun K hK => ?_) AllReadyH.nil)
            · go_simp
              refine hK.out _ _ ⟨(H2.out.f.below HR8_.out.b z0).c0, (H2.out.f.below HR8_.out.b z0).c1, (H2.out.s.below HR8_.out.b z1).c1⟩ (fun _ => ?_)
              clear hK K r0 r1 rf0 rf1
              refine wpAnyH_done (by kernel_rfl) ?_ _
              obtain ⟨W8, hW8⟩ : ∃ W8, (W7.setCell ⟨w2.heap.size, 0, none⟩ (.slice A4 L4 c4)).setCell ⟨w2.heap.size, 1, none⟩ (.slice V4 L4 d4) = W8 := ⟨_, rfl⟩
              have HR8 := Lib.hid (show RQ w2 W8 A4 L4 c4 V4 d4 out4 by rw [← hW8]; exact HR8_.out)
              rw [hW8]
              clear hW8 HR8_ HR6 HR5 HR5d HB7
              go_wp2
              go_loopw [11] (fun i w' => ∃ (k N : Nat) (A1 : Option Addr) (c1 : Nat) (V1 : Option Addr) (d1 : Nat) (out : List Pr), k ≤ n ∧ i = .int .i64 (k : Int) ∧ Hid (wts out4 ((ps.take k).filter (fun x => decide (s2 < x.1))) = out) ∧ Hid (RQ w2 w' A1 N c1 V1 d1 out)) (fun i _ => n - (intOf i).toNat)
              case atStart => exact ⟨0, _, _, _, _, _, _, Nat.zero_le _, rfl, Lib.hid rfl, HR8⟩
              case round =>
                obtain ⟨k, N, A1, c1, V1, d1, out, hk, rfl, HO, HR⟩ := hrel
                have q0 := (H2.out.f.below HR.out.b z0).c0
                have q1 := (H2.out.f.below HR.out.b z0).c1
                have y0 := (H2.out.s.below HR.out.b z1).c0
                have y1 := (H2.out.s.below HR.out.b z1).c1
                have o0 := HR.out.bx.c0
                have o1 := HR.out.bx.c1
                simp only at y0 y1
                have hN : N ≤ 950 := by
                  have h1 := wts_len ((ps.take k).filter (fun x => decide (s2 < x.1))) out4
                  have h2 := List.length_filter_le (fun x => decide (s2 < x.1)) (ps.take k)
                  have h3 := HR.out.len
                  have h4 := HLen.out
                  have h5 := HL4b.out
                  rw [HO.out] at h1
                  simp only [List.length_take] at h1 h2
                  omega
                by_cases hlt : k < n
                · have HSr := Lib.hid (HS2.out.below (HR.out.b.mono hws) (Nat.le_refl _))
                  obtain ⟨ad, a, rfl, hab, hy, hc⟩ := HSr.out.a.get hlt
                  obtain ⟨av, u, rfl, hvb, hv, hcv⟩ := HSr.out.v.get hlt
                  have hz : ps[k]? = some (a, u) := by
                    rw [List.getElem?_map] at hy hv
                    cases hq : ps[k]? with
                    | none => rw [hq] at hy; cases hy
                    | some q => rw [hq] at hy hv; simp at hy hv; rw [← hy, ← hv]
                  have hlt2 : (k : Int) < (n : Int) := by omega
                  clear hy hv
                  by_cases g : s2 < a
                  · have t1 : decide (s2 < a) = true := by rw [decide_eq_true_eq]; exact g
                    have HNx := Lib.hid (show wts out4 ((ps.take (k + 1)).filter (fun x => decide (s2 < x.1))) = wt out a u by rw [flt_yes (fun x => decide (s2 < x.1)) hz (by simpa using g), wts_snoc, HO.out])
                    clear hz g
                    go_wp2
                    go_quiet (fail)
                    obtain ⟨W0, hW0⟩ : ∃ W0, wr.drewN nq = W0 := ⟨_, rfl⟩
                    have HR0 := Lib.hid (show RQ w2 W0 A1 N c1 V1 d1 out by rw [← hW0]; exact HR.out.drew nq)
                    have hc' : W0.cell? (ad.add k) = some (.int .i64 a) := by rw [← hW0]; exact hc
                    have hcv' : W0.cell? (av.add k) = some (.int .i64 u) := by rw [← hW0]; exact hcv
                    rw [hW0]
                    clear hW0 q0 q1 y0 y1 o0 o1 hc hcv HR HSr
                    have q0 := (H2.out.f.below HR0.out.b z0).c0
                    have q1 := (H2.out.f.below HR0.out.b z0).c1
                    have y0 := (H2.out.s.below HR0.out.b z1).c0
                    have y1 := (H2.out.s.below HR0.out.b z1).c1
                    have o0 := HR0.out.bx.c0
                    have o1 := HR0.out.bx.c1
                    simp only at y0 y1
                    obtain ⟨L, hL⟩ : ∃ L, (wt out a u).length = L := ⟨_, rfl⟩
                    have HL_ := Lib.hid hL
                    clear hL
                    have HNN := Lib.hid hN
                    go_wp2
                    go_still_tail 11, (by kernel_rfl)
                    go_wp2_with fail
                    refine (with_l (w2.heap.size + 1) A1 N c1 V1 d1 out a u W0.drew ⟨HR0.out.own.a, HR0.out.own.v, HR0.out.own.dj⟩ HR0.out.len HR0.out.size (by have := HNN.out; omega) rfl HL_.out).mono ?_
                    rintro e W3 ⟨A2, c2, V2, d2, rfl, hO, hb⟩
                    have hb' : Below (w2.heap.size + 1) W0 W3 := ⟨hb.os, hb.tape, hb.output, hb.size, hb.block⟩
                    have HRn := Lib.hid (HR0.out.put hO hb' HL_.out)
                    have HX3 := HR0.out.bx.below hb' (Nat.lt_succ_self _)
                    have r0 := HX3.c0
                    have r1 := HX3.c1
                    have rf0 := HX3.f 0
                    have rf1 := HX3.f 1
                    clear hb hb' hO HX3 q0 q1 y0 y1 o0 o1 hc' hcv' HR0
                    go_wp2
                    go_roundw
                    case rel => exact ⟨k + 1, L, A2, c2, V2, d2, _, by omega, by go_num, HNx, HRn⟩
                    case measure => simp [intOf]; omega
                  · have t1 : decide (s2 < a) = false := by rw [decide_eq_false_iff_not]; exact g
                    have HNx := Lib.hid (show wts out4 ((ps.take (k + 1)).filter (fun x => decide (s2 < x.1))) = out by rw [flt_no (fun x => decide (s2 < x.1)) hz (by simpa using g), HO.out])
                    clear hz g
                    go_wp2
                    go_quiet (fail)
                    go_wp2
                    go_roundw
                    case rel => exact ⟨k + 1, N, A1, c1, V1, d1, out, by omega, by go_num, HNx, Lib.hid (HR.out.drew _)⟩
                    case measure => simp [intOf]; omega
                · have HE := Lib.hid (show out = setR ps (s1, s2) v by rw [← HO.out, List.take_of_length_le (by have := HLen.out; omega), ← HEQ.out])
                  have R0 := H2.out.r.below HR.out.b z2
                  have r0 := R0.c0
                  have r1 := R0.c1
                  have rf0 := R0.f 0
                  have rf1 := R0.f 1
                  have HR0 := Lib.hid R0
                  have HL2 := Lib.hid (show (setR ps (s1, s2) v).length = N by rw [← HR.out.len, HE.out])
                  clear R0
                  go_wp2
                  have Z := (HR0.out.set0 (.slice A1 N c1)).set1 (.slice V1 N d1)
                  have ht : 24 ≠ 3 := by decide
                  have O1 := HR.out.own.far (p := ⟨w.heap.size + 1 + 1, 0, none⟩) (HR.out.own.a.not_box HR0.out ht) (HR.out.own.v.not_box HR0.out ht) (.slice A1 N c1)
                  have x1 := HR0.out.set0 (.slice A1 N c1)
                  have O2 := O1.far (p := ⟨w.heap.size + 1 + 1, 1, none⟩) (O1.a.not_box x1 ht) (O1.v.not_box x1 ht) (.slice V1 N d1)
                  refine bodyPost_ret (v := sg A1 N c1 V1 N d1) (by simp [results, Try.results20, go_sem, Z.c0, Z.c1]) rfl ⟨A1, c1, V1, d1, by rw [HL2.out], ?_, ((H2.out.b.trans (HR.out.b.mono hws)).setCell (p := ⟨w.heap.size + 1 + 1, 0, none⟩) (by simp <;> omega) _).setCell (p := ⟨w.heap.size + 1 + 1, 1, none⟩) (by simp <;> omega) _⟩
                  rw [HL2.out, ← HE.out]
                  exact O2.low (by omega)


end Stp
end Go.Proofs.Ytigacpjcadlkeaa
