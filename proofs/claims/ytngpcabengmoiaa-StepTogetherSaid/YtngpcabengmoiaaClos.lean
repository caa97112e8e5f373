/-
  The closures that Set and Add ask for values. Conditions: the boxes and rows that they capture.
-/
import Derived.Test.YtngpcabengmoiaaMade
namespace Go.Proofs.Ytngpcabengmoiaa
open Go.RowKit St
namespace Stp
set_option linter.unusedVariables false

/-- A function value that was made of a right step: its box holds it. -/
structure Val (w : World) (v : Value) (ps : List Pr) : Prop where
  mk ::
  ex : ∃ bf A n c V d, v = .func (.func 28) #[] #[.pointer (some ⟨bf, 0, none⟩)] ∧ Bx w bf 24 (.slice A n c) (.slice V n d) ∧ Sr w w.heap.size A V n ps ∧ Rt 0 0 ps ∧ n ≤ 1000000
theorem Val.keep {w w' : World} {v : Value} {ps : List Pr} (h : Val w v ps) (hb : Below w.heap.size w w') : Val w' v ps := by
  obtain ⟨bf, A, n, c, V, d, e, h1, h2, h3, h4⟩ := h.ex
  exact ⟨bf, A, n, c, V, d, e, h1.keep hb, h2.keep_ hb, h3, h4⟩

set_option maxRecDepth 100000 in
set_option maxHeartbeats 2000000 in
theorem set1 (bs bv bb : Nat) (s : Pr) (v : Int) (fb : Value) (ps : List Pr) (x : Int) (w : World) (hs : Bx w bs 33 (.int .i64 s.1) (.int .i64 s.2)) (hv : Boxed w bv 3 (.int .i64 v)) (hb : Boxed w bb 40 fb) (hf : Val w fb ps) :
    Calls Try.prog 26 #[.int .i64 x, .pointer (some ⟨bs, 0, none⟩), .pointer (some ⟨bv, 0, none⟩), .pointer (some ⟨bb, 0, none⟩)] w fun e w' => e = .returned (.int .i64 (setG ps s v x)) ∧ Below w.heap.size w w' := by
  obtain ⟨s1, s2⟩ := s
  have s0 := hs.c0
  have s1' := hs.c1
  simp only at s0 s1'
  have C := Lib.hid (in_ (s1, s2) x w)
  have HV := Lib.hid hv
  have HB := Lib.hid hb
  have HF := Lib.hid hf
  cases hi : inn (s1, s2) x
  · have HG := Lib.hid (show setG ps (s1, s2) v x = val 0 ps x by rw [setG, if_neg (by simp [hi])])
    rw [hi] at C
    clear hi hs hv hb hf
    go_enter Try.func26, Try.ntmps26
    go_wp2_with fail
    refine C.out.mono ?_
    rintro e w1 ⟨rfl, hb1⟩
    have c1 := show w1.cell? ⟨bb, 0, none⟩ = some fb from Boxed.cell ((hb1.block _ HB.out.lt).trans HB.out)
    obtain ⟨bf, A, n, c, V, d, rfl, h1, h2, h3, h4⟩ := (HF.out.keep hb1).ex
    have CV := Lib.hid (valueOf1 bf A n c V d w1.heap.size ps x w1 h1 h2 h3 h4)
    have HB1 := Lib.hid hb1
    clear hb1 C h1 h2 h3 h4
    go_wp2_with fail
    refine CV.out.mono ?_
    rintro e w' ⟨rfl, rfl⟩
    go_wp2
    go_ret
    exact ⟨by rw [HG.out]; rfl, HB1.out⟩
  · have HG := Lib.hid (show setG ps (s1, s2) v x = v by rw [setG, if_pos hi])
    rw [hi] at C
    clear hi hs hv hb hf
    go_enter Try.func26, Try.ntmps26
    go_wp2_with fail
    refine C.out.mono ?_
    rintro e w1 ⟨rfl, hb1⟩
    have c1 := show w1.cell? ⟨bv, 0, none⟩ = some (.int .i64 v) from Boxed.cell ((hb1.block _ HV.out.lt).trans HV.out)
    have HB1 := Lib.hid hb1
    clear hb1 C
    go_wp2
    go_ret
    exact ⟨by rw [HG.out]; rfl, HB1.out⟩

theorem val_quiet (b : Nat) (A : Option Addr) (n c : Nat) (V : Option Addr) (d : Nat) (ps : List Pr) (x : Int) (w : World) (k : Nat) (hb : Bx w b 24 (.slice A n c) (.slice V n d)) (hS : Sr w w.heap.size A V n ps) (hR : Rt 0 0 ps) (hn : n ≤ 1000000) :
    Calls Try.prog 28 #[.int .i64 x, .pointer (some ⟨b, 0, none⟩)] (w.drewN k) fun e w' => e = .returned (.int .i64 (val 0 ps x)) ∧ ∃ m, w' = w.drewN m :=
  (valueOf1 b A n c V d w.heap.size ps x (w.drewN k) hb ⟨hS.a, hS.v⟩ hR hn).mono fun _ _ ⟨he, hw⟩ => ⟨he, k, hw.symm⟩

set_option maxRecDepth 100000 in
set_option maxHeartbeats 2000000 in
theorem add1 (b1 b2 : Nat) (f1 f2 : Value) (ps qs : List Pr) (x : Int) (w : World) (h1 : Boxed w b1 40 f1) (h2 : Boxed w b2 40 f2) (hf : Val w f1 ps) (hg : Val w f2 qs) (hp : Fit ps) (hq : Fit qs) :
    Calls Try.prog 19 #[.int .i64 x, .pointer (some ⟨b1, 0, none⟩), .pointer (some ⟨b2, 0, none⟩)] w fun e w' => e = .returned (.int .i64 (addG ps qs x)) ∧ Below w.heap.size w w' := by
  obtain ⟨bf, A, n, c, V, d, rfl, x1, x2, x3, x4⟩ := hf.ex
  obtain ⟨bg, A2, n2, c2, V2, d2, rfl, y1, y2, y3, y4⟩ := hg.ex
  have C1 := fun k => Lib.hid (val_quiet bf A n c V d ps x w k x1 x2 x3 x4)
  have C2 := fun k => Lib.hid (val_quiet bg A2 n2 c2 V2 d2 qs x w k y1 y2 y3 y4)
  have c1 := h1.cell
  have c2' := h2.cell
  have b1' := (fits_iff _).1 (val_fits hp x)
  have b2' := (fits_iff _).1 (val_fits hq x)
  have HG := Lib.hid (show addG ps qs x = val 0 ps x + val 0 qs x from rfl)
  clear x1 x2 x3 x4 y1 y2 y3 y4 h1 h2 hf hg hp hq
  generalize val 0 ps x = u at C1 b1' HG
  generalize val 0 qs x = v at C2 b2' HG
  obtain ⟨z, hz⟩ : ∃ z, u + v = z := ⟨_, rfl⟩
  have hw : IntKind.i64.wrap z = z := IntWalk.i64_in _ (by omega)
  rw [hz] at HG
  clear b1' b2'
  go_enter Try.func19, Try.ntmps19
  go_wp2
  go_quiet (first | (go_at_call 28; (with_reducible exact (C1 _).out)) | (go_at_call 28; (with_reducible exact (C2 _).out)))
  go_wp2
  go_ret
  exact ⟨by rw [HG.out]; rfl, below_drewN (Below.refl _ _) _⟩

end Stp
end Go.Proofs.Ytngpcabengmoiaa
