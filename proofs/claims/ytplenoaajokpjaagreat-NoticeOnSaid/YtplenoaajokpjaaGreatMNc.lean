/-
  The parts N9b, N9c, N9 of this proof. Conditions: those of each theorem.
-/
import Derived.Test.YtplenoaajokpjaaGreatMNa
import Derived.Test.YtplenoaajokpjaaGreatMNb
import Derived.Test.YtplenoaajokpjaaGreatMKa
import Derived.Deep.OwnRows
namespace Go.Proofs.YtplenoaajokpjaaGreat
open Go.RowKit Ba Cv Sp Te Ag Tf Sl Tm Slc
namespace Ntc
set_option linter.unusedVariables false
def CoTo (w : World) (h : Hi) (vs : List Ve) (c : Cm) (e : Ending) (w' : World) : Prop := (∃ v, e = .returned (cg v) ∧ CvIs h vs c v 0 ∧ Below w.heap.size w w') ∨ (∃ k, e = pnc k ∧ CvIs h vs c zco k ∧ Below w.heap.size w w')
set_option maxRecDepth 100000 in
set_option maxHeartbeats 4000000 in
theorem covering_ (h : Hr) (T : Option Addr) (nt ct : Nat) (vs : List Trf.Rw) (c : Cm) (w : World) (G : Arg w h T nt vs) : Calls Tryz.prog 26 #[hg h, Trf.tg T nt ct, mg c] w (CoTo w h.v (vs.map Trf.Rw.v) c) := by
 obtain ⟨W, hW⟩ : ∃ W, (((w.alloc (.cells (hc h) 35)).alloc (.cells #[.slice T nt ct] 38)).alloc (.cells (mc c) 23)).alloc (.cells (cc zco) 41) = W := ⟨_, rfl⟩; have H0 := Lib.hid (show G4 w W h T nt ct c by rw [← hW]; exact G4.start w h T nt ct c); have HG := Lib.hid (G.below H0.out.b); have HW := Lib.hid hW; obtain ⟨vsv, hvs⟩ : ∃ vsv, vs.map Trf.Rw.v = vsv := ⟨_, rfl⟩; rw [hvs]; have HVS := Lib.hid hvs; clear hW G hvs; go_enter Tryz.func26, Tryz.ntmps26
 go_upto_region 1 with fail
 rw [HW.out]; clear HW; obtain ⟨R, hR⟩ : ∃ R, rcm c = R := ⟨_, rfl⟩; have HR := Lib.hid hR; have C := Lib.hid (right_ c W); rw [hR] at C; clear hR; have x0 := H0.out.x.c 0; have x1 := H0.out.x.c 1; have x2 := H0.out.x.c 2; have x3 := H0.out.x.c 3; have x4 := H0.out.x.c 4; have x5 := H0.out.x.c 5; have x6 := H0.out.x.c 6; have x7 := H0.out.x.c 7; have x8 := H0.out.x.c 8; have x9 := H0.out.x.c 9; have y0 := H0.out.y.c 0; have z0 := H0.out.z.c 0; have z1 := H0.out.z.c 1; have z2 := H0.out.z.c 2; have z3 := H0.out.z.c 3; have z4 := H0.out.z.c 4; have z5 := H0.out.z.c 5; simp at x0 x1 x2 x3 x4 x5 x6 x7 x8 x9 y0 z0 z1 z2 z3 z4 z5
 go_wp2_with fail
 refine C.out.mono ?_; rintro e w1 ⟨rfl, hb⟩; have H1 := Lib.hid (H0.out.next hb); have HG1 := Lib.hid (HG.out.below hb); have HB := Lib.hid H1.out.b; clear hb C x0 x1 x2 x3 x4 x5 x6 x7 x8 x9 y0 z0 z1 z2 z3 z4 z5 H0 HG; cases R
 ·have HP := Lib.hid (show CvIs h.v vsv c zco 1 from .arg HR.out rfl rfl)
  go_wp2_with fail
  refine (need_no 1 w1).mono ?_; rintro e w9 ⟨rfl, rfl⟩; go_wp2; exact ⟨rfl, .inr ⟨1, rfl, HP.out, HB.out⟩⟩
 go_wp2_with fail
 refine (need_yes 1 w1).mono ?_; rintro e w9 ⟨rfl, rfl⟩; by_cases q1 : c.bk < c.lo
 ·have t1 : decide (c.lo ≤ c.bk) = false := decide_eq_false (by omega); have HP := Lib.hid (show CvIs h.v vsv c zco 4 from .order HR.out q1 rfl rfl); clear q1; have x0 := H1.out.x.c 0; have x1 := H1.out.x.c 1; have x2 := H1.out.x.c 2; have x3 := H1.out.x.c 3; have x4 := H1.out.x.c 4; have x5 := H1.out.x.c 5; have x6 := H1.out.x.c 6; have x7 := H1.out.x.c 7; have x8 := H1.out.x.c 8; have x9 := H1.out.x.c 9; have y0 := H1.out.y.c 0; have z0 := H1.out.z.c 0; have z1 := H1.out.z.c 1; have z2 := H1.out.z.c 2; have z3 := H1.out.z.c 3; have z4 := H1.out.z.c 4; have z5 := H1.out.z.c 5; simp at x0 x1 x2 x3 x4 x5 x6 x7 x8 x9 y0 z0 z1 z2 z3 z4 z5
  go_wp2_with fail
  refine (need_no 4 w1).mono ?_; rintro e w9 ⟨rfl, rfl⟩; go_wp2; exact ⟨rfl, .inr ⟨4, rfl, HP.out, HB.out⟩⟩
 have t1 : decide (c.lo ≤ c.bk) = true := decide_eq_true (by omega); have Q1 := Lib.hid (show c.lo ≤ c.bk by omega); clear q1; have x0 := H1.out.x.c 0; have x1 := H1.out.x.c 1; have x2 := H1.out.x.c 2; have x3 := H1.out.x.c 3; have x4 := H1.out.x.c 4; have x5 := H1.out.x.c 5; have x6 := H1.out.x.c 6; have x7 := H1.out.x.c 7; have x8 := H1.out.x.c 8; have x9 := H1.out.x.c 9; have y0 := H1.out.y.c 0; have z0 := H1.out.z.c 0; have z1 := H1.out.z.c 1; have z2 := H1.out.z.c 2; have z3 := H1.out.z.c 3; have z4 := H1.out.z.c 4; have z5 := H1.out.z.c 5; simp at x0 x1 x2 x3 x4 x5 x6 x7 x8 x9 y0 z0 z1 z2 z3 z4 z5
 go_wp2_with fail
 refine (need_yes 4 w1).mono ?_; rintro e w9 ⟨rfl, rfl⟩; clear t1; by_cases q2 : c.po = h.id
 case neg =>
  have t2 : decide (c.po = h.id) = false := decide_eq_false q2; have t2b : (c.po == h.id) = false := beq_eq_false_iff_ne.2 q2; have HP := Lib.hid (show CvIs h.v vsv c zco 7 from .other HR.out Q1.out q2 rfl rfl); clear q2
  go_wp2_with fail
  refine (need_no 7 w1).mono ?_; rintro e w9 ⟨rfl, rfl⟩; go_wp2; exact ⟨rfl, .inr ⟨7, rfl, HP.out, HB.out⟩⟩
 have t2 : decide (c.po = h.id) = true := decide_eq_true q2; have t2b : (c.po == h.id) = true := beq_iff_eq.2 q2; have Q2 := Lib.hid q2; clear q2
 go_wp2_with fail
 refine (need_yes 7 w1).mono ?_; rintro e w9 ⟨rfl, rfl⟩; clear t2 t2b; have C := Lib.hid (kslices h T nt ct vs c.bk w1 HG1.out.m HG1.out.s HG1.out.hm HG1.out.v HG1.out.hv); rw [HVS.out] at C
 go_wp2_with fail
 refine C.out.mono ?_; rintro e w2 ⟨A2, n2, c2, rs, cd, rfl, hs, hn, hc, hi, hb⟩; have H2 := Lib.hid (H1.out.next hb); have S2 := Lib.hid hs; have I2 := Lib.hid hi; have F2 := Lib.hid (And.intro hn hc); have HB := Lib.hid H2.out.b; clear hb hs hn hc hi C x0 x1 x2 x3 x4 x5 x6 x7 x8 x9 y0 z0 z1 z2 z3 z4 z5 H1 HG1; by_cases q3 : cd = 0
 case neg =>
  have t3 : decide (cd = 0) = false := decide_eq_false q3; have t3b : (cd == 0) = false := beq_eq_false_iff_ne.2 q3; have HP := Lib.hid (show CvIs h.v vsv c zco cd from .bad _ HR.out Q1.out Q2.out I2.out rfl q3); clear q3
  go_wp2_with fail
  refine (need_no cd w2).mono ?_; rintro e w9 ⟨rfl, rfl⟩; go_wp2; exact ⟨rfl, .inr ⟨cd, rfl, HP.out, HB.out⟩⟩
 subst q3
 go_wp2_with fail
 refine (need_yes 0 w2).mono ?_; rintro e w9 ⟨rfl, rfl⟩; have x0 := H2.out.x.c 0; have x1 := H2.out.x.c 1; have x2 := H2.out.x.c 2; have x3 := H2.out.x.c 3; have x4 := H2.out.x.c 4; have x5 := H2.out.x.c 5; have x6 := H2.out.x.c 6; have x7 := H2.out.x.c 7; have x8 := H2.out.x.c 8; have x9 := H2.out.x.c 9; have y0 := H2.out.y.c 0; have z0 := H2.out.z.c 0; have z1 := H2.out.z.c 1; have z2 := H2.out.z.c 2; have z3 := H2.out.z.c 3; have z4 := H2.out.z.c 4; have z5 := H2.out.z.c 5; simp at x0 x1 x2 x3 x4 x5 x6 x7 x8 x9 y0 z0 z1 z2 z3 z4 z5; have C := Lib.hid (at_ A2 n2 c2 rs c.lo w2 S2.out (by have := F2.out; omega))
 go_wp2_with fail
 refine C.out.mono ?_; rintro e w3 ⟨r, rfl, hr, hg, hb⟩; have H3 := Lib.hid (H2.out.next hb); have GR := Lib.hid hg; obtain ⟨o, ho⟩ : ∃ o, Slc.fnd rs c.lo = o := ⟨_, rfl⟩; rw [ho] at hr; rw [ho]; have HO := Lib.hid (show (rs.map Slc.Rw.v).find? (fun x => inn x.s c.lo) = o from ho); have HRV := Lib.hid hr; clear hb hg hr ho C x0 x1 x2 x3 x4 x5 x6 x7 x8 x9 y0 z0 z1 z2 z3 z4 z5 H2 S2 HB; have told := Lib.hid (fun (v : Co) (k : Int) (h1 : v = (cvd (rs.map Slc.Rw.v) c).getD zco) (h2 : k = if (cvd (rs.map Slc.Rw.v) c).isSome = true then 0 else 11) => (show CvIs h.v vsv c v k from .told _ HR.out Q1.out Q2.out I2.out h1 h2)); obtain ⟨W3, hW3⟩ : ∃ W3, w3.alloc (.cells (Slc.vc r) 60) = W3 := ⟨_, rfl⟩; have hb3 : Below w3.heap.size w3 W3 := hW3 ▸ alloc_ _ _; have HX3 := Lib.hid (show Bx W3 w3.heap.size 60 (Slc.vc r) from hW3 ▸ Bx.new w3 _ _); have H4 := Lib.hid (H3.out.next hb3); have GR3 := Lib.hid (GR.out.below hb3); have HB := Lib.hid H4.out.b; have HW3 := Lib.hid hW3; clear hb3 hW3 H3 GR
 go_upto_region 7 with fail
 rw [HW3.out]; clear HW3; have s2 := HX3.out.c 2; have s7 := HX3.out.c 7; simp at s2 s7; cases o with
 | none =>
  have HP := Lib.hid (told.out zco 11 (by unfold cvd; rw [HO.out]; rfl) (by unfold cvd; rw [HO.out]; rfl))
  go_wp2_with fail
  refine (need_no 11 W3).mono ?_; rintro e w9 ⟨rfl, rfl⟩; go_wp2; exact ⟨rfl, .inr ⟨11, rfl, HP.out, HB.out⟩⟩
 | some y =>
 obtain rfl : r.v = y := HRV.out; obtain ⟨on, hon⟩ : ∃ b, r.v.h.on = b := ⟨_, rfl⟩; have HON := Lib.hid hon; rw [hon] at s2; have cvq := Lib.hid (show cvd (rs.map Slc.Rw.v) c = if on = true then Te.fnd c.pe r.v.h.cs else none by unfold cvd; rw [HO.out, ← HON.out]; rfl); clear hon; cases on
 ·have HP := Lib.hid (told.out zco 11 (by rw [cvq.out]; rfl) (by rw [cvq.out]; rfl))
  go_wp2_with fail
  refine (need_no 11 W3).mono ?_; rintro e w9 ⟨rfl, rfl⟩; go_wp2; exact ⟨rfl, .inr ⟨11, rfl, HP.out, HB.out⟩⟩
 have cvt := Lib.hid (show cvd (rs.map Slc.Rw.v) c = Te.fnd c.pe r.v.h.cs by rw [cvq.out, if_pos rfl]); clear cvq
 go_wp2_with fail
 refine (need_yes 11 W3).mono ?_; rintro e w9 ⟨rfl, rfl⟩; have C := Lib.hid (find_ r.A r.n r.c r.v.h.cs c.pe W3 GR3.out.1 (by have := GR3.out.2; unfold maxLen; omega)); obtain ⟨p, hp⟩ : ∃ p, Te.fnd c.pe r.v.h.cs = p := ⟨_, rfl⟩; rw [hp] at C; have cvq := Lib.hid (show cvd (rs.map Slc.Rw.v) c = p by rw [cvt.out, hp]); clear cvt; clear hp HB; have x0 := H4.out.x.c 0; have x1 := H4.out.x.c 1; have x2 := H4.out.x.c 2; have x3 := H4.out.x.c 3; have x4 := H4.out.x.c 4; have x5 := H4.out.x.c 5; have x6 := H4.out.x.c 6; have x7 := H4.out.x.c 7; have x8 := H4.out.x.c 8; have x9 := H4.out.x.c 9; have y0 := H4.out.y.c 0; have z0 := H4.out.z.c 0; have z1 := H4.out.z.c 1; have z2 := H4.out.z.c 2; have z3 := H4.out.z.c 3; have z4 := H4.out.z.c 4; have z5 := H4.out.z.c 5; simp at x0 x1 x2 x3 x4 x5 x6 x7 x8 x9 y0 z0 z1 z2 z3 z4 z5
 go_wp2_with fail
 refine C.out.mono ?_; rintro e w5 ⟨rfl, hb⟩; have H5 := Lib.hid (H4.out.next hb); obtain ⟨W5, hW5⟩ : ∃ W5, w5.alloc (.cells (cc (p.getD zco)) 41) = W5 := ⟨_, rfl⟩; have hb5 : Below w5.heap.size w5 W5 := hW5 ▸ alloc_ _ _; have HX5 := Lib.hid (show Bx W5 w5.heap.size 41 (cc (p.getD zco)) from hW5 ▸ Bx.new w5 _ _); have H6 := Lib.hid (H5.out.next hb5); have HB := Lib.hid H6.out.b; have HW5 := Lib.hid hW5; clear hb hb5 hW5 C x0 x1 x2 x3 x4 x5 x6 x7 x8 x9 y0 z0 z1 z2 z3 z4 z5 s2 s7 H4 HX3 GR3 H5
 go_upto_region 9 with fail
 rw [HW5.out]; clear HW5; cases p with
 | none =>
  have HP := Lib.hid (told.out zco 11 (by rw [cvq.out]; rfl) (by rw [cvq.out]; rfl))
  go_wp2_with fail
  refine (need_no 11 W5).mono ?_; rintro e w9 ⟨rfl, rfl⟩; go_wp2; exact ⟨rfl, .inr ⟨11, rfl, HP.out, HB.out⟩⟩
 | some v =>
 have HF := Lib.hid (show CoTo w h.v vsv c (.returned (cg v)) (five W5 (w.heap.size + 1 + 1 + 1) v) from .inl ⟨_, rfl, told.out v 0 (by rw [cvq.out]; rfl) (by rw [cvq.out]; rfl), five_below H6.out.b (by omega) _⟩)
 go_wp2_with fail
 refine (need_yes 11 W5).mono ?_; rintro e w9 ⟨rfl, rfl⟩; have d0 := HX5.out.c 0; have d1 := HX5.out.c 1; have d2 := HX5.out.c 2; have d3 := HX5.out.c 3; have d4 := HX5.out.c 4; simp at d0 d1 d2 d3 d4; have hh := H6.out.u; have v0 := hh.c 0; have g0 := hh.f 0; have v1 := hh.c 1; have g1 := hh.f 1; have v2 := hh.c 2; have g2 := hh.f 2; have v3 := hh.c 3; have g3 := hh.f 3; have v4 := hh.c 4; have g4 := hh.f 4; simp at v0 v1 v2 v3 v4; clear hh; go_wp2; change bodyPost _ _ _ _ _ (five W5 (w.heap.size + 1 + 1 + 1) v); refine bodyPost_ret (v := cg v) ?_ rfl HF.out; have hx : Bx (five W5 (w.heap.size + 1 + 1 + 1) v) (w.heap.size + 1 + 1 + 1) 41 (cc v) := five_bx H6.out.u v; have x0 := hx.c 0; have x1 := hx.c 1; have x2 := hx.c 2; have x3 := hx.c 3; have x4 := hx.c 4; simp at x0 x1 x2 x3 x4; simp [results, Tryz.results26, go_sem, x0, x1, x2, x3, x4]
end Ntc
end Go.Proofs.YtplenoaajokpjaaGreat

namespace Go.Proofs.YtplenoaajokpjaaGreat
open Go.RowKit Ba Cv Sp Te Ag Tf Sl Tm Slc
namespace Ntc
set_option linter.unusedVariables false
theorem five_other {w : World} {a b : Nat} {t : TypeId} {cs : Array Value} (h : Bx w b t cs) (hab : b ≠ a) (c : Co) : Bx (five w a c) b t cs := by
 unfold five; exact ((((h.far (a := ⟨a, 0, none⟩) hab _).far (a := ⟨a, 1, none⟩) hab _).far (a := ⟨a, 2, none⟩) hab _).far (a := ⟨a, 3, none⟩) hab _).far (a := ⟨a, 4, none⟩) hab _
set_option maxRecDepth 100000 in
set_option maxHeartbeats 4000000 in
theorem covered_ (h : Hr) (T : Option Addr) (nt ct : Nat) (vs : List Trf.Rw) (c : Cm) (w : World) (G : Arg w h T nt vs) : Calls Tryz.prog 13 #[hg h, Trf.tg T nt ct, mg c] w (CvTo w h.v (vs.map Trf.Rw.v) c) := by
 have hmf : ∀ (fn : Fn) (first cap : Array Value) (w : World), (Instr.makeFunc fn first cap).run Tryz.prog w = .ok (.func fn first cap) w := fun _ _ _ _ => rfl
 obtain ⟨V, hV⟩ : ∃ V, (((w.alloc (.cells (hc h) 35)).alloc (.cells #[.slice T nt ct] 38)).alloc (.cells (mc c) 23)).alloc (.cells (cc zco) 41) = V := ⟨_, rfl⟩; have H0 := Lib.hid (show G4 w V h T nt ct c by rw [← hV]; exact G4.start w h T nt ct c); have hs : V.heap.size = w.heap.size + 1 + 1 + 1 + 1 := by rw [← hV]; simp
 obtain ⟨W, hW⟩ : ∃ W, V.alloc (.cells #[.int .i64 0] 42) = W := ⟨_, rfl⟩; have HE := Lib.hid (show Bx W (w.heap.size + 1 + 1 + 1 + 1) 42 #[.int .i64 0] by rw [← hs, ← hW]; exact Bx.new V _ _); have H1 := Lib.hid (H0.out.next (show Below V.heap.size V W from hW ▸ alloc_ _ _)); have HG := Lib.hid (G.below H1.out.b); have HW := Lib.hid (show ((((w.alloc (.cells (hc h) 35)).alloc (.cells #[.slice T nt ct] 38)).alloc (.cells (mc c) 23)).alloc (.cells (cc zco) 41)).alloc (.cells #[.int .i64 0] 42) = W by rw [hV]; exact hW); obtain ⟨vsv, hvs⟩ : ∃ vsv, vs.map Trf.Rw.v = vsv := ⟨_, rfl⟩; have CC := Lib.hid (covering_ h T nt ct vs c W HG.out); rw [hvs] at CC; rw [hvs]; clear hV hs hW G hvs H0 HG
 go_enter_defers Tryz.func13, Tryz.ntmps13
 go_upto_region 1 with fail
 rw [HW.out]; clear HW; have x0 := H1.out.x.c 0; have x1 := H1.out.x.c 1; have x2 := H1.out.x.c 2; have x3 := H1.out.x.c 3; have x4 := H1.out.x.c 4; have x5 := H1.out.x.c 5; have x6 := H1.out.x.c 6; have x7 := H1.out.x.c 7; have x8 := H1.out.x.c 8; have x9 := H1.out.x.c 9; have y0 := H1.out.y.c 0; have z0 := H1.out.z.c 0; have z1 := H1.out.z.c 1; have z2 := H1.out.z.c 2; have z3 := H1.out.z.c 3; have z4 := H1.out.z.c 4; have z5 := H1.out.z.c 5; simp at x0 x1 x2 x3 x4 x5 x6 x7 x8 x9 y0 z0 z1 z2 z3 z4 z5
 go_wp2_with fail
 refine CC.out.mono ?_; rintro e w1 (⟨v, rfl, hi, hb⟩ | ⟨k, rfl, hi, hb⟩)
 ·have H2 := Lib.hid (H1.out.next hb); have HE2 := Lib.hid (HE.out.keep hb); have HI := Lib.hid hi; clear hi hb CC H1 HE x0 x1 x2 x3 x4 x5 x6 x7 x8 x9 y0 z0 z1 z2 z3 z4 z5; have hu := H2.out.u; have v0 := hu.c 0; have g0 := hu.f 0; have v1 := hu.c 1; have g1 := hu.f 1; have v2 := hu.c 2; have g2 := hu.f 2; have v3 := hu.c 3; have g3 := hu.f 3; have v4 := hu.c 4; have g4 := hu.f 4; simp at v0 v1 v2 v3 v4; have e0 := HE2.out.c 0; have f0 := HE2.out.f 0; simp at e0; clear hu; go_wp2; refine leaves_cons (f := 24) (args := #[.pointer (some ⟨w.heap.size + 1 + 1 + 1 + 1, 0, none⟩)]) (by simp) (by simp [go_sem]) ?_; have hx : Bx (five w1 (w.heap.size + 1 + 1 + 1) v) (w.heap.size + 1 + 1 + 1) 41 (cc v) := five_bx H2.out.u v; have he : Bx (five w1 (w.heap.size + 1 + 1 + 1) v) (w.heap.size + 1 + 1 + 1 + 1) 42 #[.int .i64 0] := five_other HE2.out (by omega) v; have hb := five_below H2.out.b (b := w.heap.size + 1 + 1 + 1) (by omega) v; have hx2 := hx.far (a := ⟨w.heap.size + 1 + 1 + 1 + 1, 0, none⟩) (by simp) (.int .i64 0); have he2 := he.set 0 (.int .i64 0); have hb2 := hb.setCell (p := ⟨w.heap.size + 1 + 1 + 1 + 1, 0, none⟩) (by simp <;> omega) (.int .i64 0); refine (idle_ ⟨w.heap.size + 1 + 1 + 1 + 1, 0, none⟩ 0 ((five w1 (w.heap.size + 1 + 1 + 1) v).setCell ⟨w.heap.size + 1 + 1 + 1 + 1, 0, none⟩ (.int .i64 0)) (he2.c 0) (he2.f 0)).mono ?_; rintro e u' w2 ⟨rfl, rfl, hw2⟩; have hx3 := hx2.far (a := ⟨w.heap.size + 1 + 1 + 1 + 1, 0, none⟩) (by simp) (.int .i64 0); have he3 := he2.set 0 (.int .i64 0); have hb3 := hb2.setCell (p := ⟨w.heap.size + 1 + 1 + 1 + 1, 0, none⟩) (by simp <;> omega) (.int .i64 0); simp at he3; rw [← hw2] at hx3 he3 hb3; clear hw2 hx2 he2 hb2 hx he hb; have x0 := hx3.c 0; have x1 := hx3.c 1; have x2 := hx3.c 2; have x3 := hx3.c 3; have x4 := hx3.c 4; simp at x0 x1 x2 x3 x4; have y0 := he3.c 0; simp at y0; simp [Leaves, settle, results, Tryz.results13, go_sem, x0, x1, x2, x3, x4, y0]; exact ⟨v, 0, rfl, HI.out, hb3⟩
 ·have H2 := Lib.hid (H1.out.next hb); have HE2 := Lib.hid (HE.out.keep hb); have HI := Lib.hid hi; clear hi hb CC H1 HE x0 x1 x2 x3 x4 x5 x6 x7 x8 x9 y0 z0 z1 z2 z3 z4 z5; go_wp2; refine leaves_cons (f := 24) (args := #[.pointer (some ⟨w.heap.size + 1 + 1 + 1 + 1, 0, none⟩)]) (by simp) (by simp [go_sem]) ?_; refine (catch_ ⟨w.heap.size + 1 + 1 + 1 + 1, 0, none⟩ 0 k _ w1 (HE2.out.c 0) (HE2.out.f 0)).mono ?_; rintro e u' w2 ⟨rfl, rfl, hw2⟩; have hx3 := H2.out.u.far (a := ⟨w.heap.size + 1 + 1 + 1 + 1, 0, none⟩) (by simp) (.int .i64 k); have he3 := HE2.out.set 0 (.int .i64 k); have hb3 := H2.out.b.setCell (p := ⟨w.heap.size + 1 + 1 + 1 + 1, 0, none⟩) (by simp <;> omega) (.int .i64 k); simp at he3; rw [← hw2] at hx3 he3 hb3; clear hw2; have x0 := hx3.c 0; have x1 := hx3.c 1; have x2 := hx3.c 2; have x3 := hx3.c 3; have x4 := hx3.c 4; simp at x0 x1 x2 x3 x4; have y0 := he3.c 0; simp at y0; simp [Leaves, settle, results, Tryz.results13, go_sem, x0, x1, x2, x3, x4, y0]; exact ⟨zco, k, rfl, HI.out, hb3⟩
theorem cvC : CvC := covered_
end Ntc
end Go.Proofs.YtplenoaajokpjaaGreat

namespace Go.Proofs.YtplenoaajokpjaaGreat
open Go.RowKit Ba Cv Sp Te Ag Tf Sl Tm Slc
namespace Ntc
set_option linter.unusedVariables false
def zer (n : Nat) : Array Value := (celi (List.replicate n 0)).toArray
theorem make_ers (n : Nat) (hn : n ≤ 1000000) (w : World) : (Instr.makeSlice 48 (.int .i64 (n : Int)) (.int .i64 (n : Int))).run Tryz.prog w = .ok (.slice (some ⟨w.heap.size, 0, none⟩) n n) (w.alloc (.cells (zer n) 42)) := by
 rw [run_make_row' (P := Tryz.prog) 48 42 (.int .i64 0) 8 Tryz.underlying48 info_errno rfl .i64 .i64 n (by omega) (by omega) w]
 have e : madeCells #[Value.int .i64 0] n = zer n := by
  unfold zer celi; apply Array.ext
  ·simp [size_madeCells]
  ·intro i h1 h2; simp [madeCells, Nat.mod_one]
 rw [e]
theorem zer_own (n : Nat) (hn : n ≤ 1000) (w : World) : EOwn (w.alloc (.cells (zer n) 42)) w.heap.size (some ⟨w.heap.size, 0, none⟩) n n (List.replicate n 0) := by
 have := World.ownsRow_lit (e := 42) (size := 1) w (zer n) n (Nat.le_refl _) (by unfold maxLen; omega) (by simp [zer, celi]); simpa [EOwn, zer] using this
theorem EOwn.put {w : World} {base g n c : Nat} {ks : List Int} (h : EOwn w base (some ⟨g, 0, none⟩) n c ks) (k : Nat) (x : Int) : EOwn (w.setCell ⟨g, k, none⟩ (.int .i64 x)) base (some ⟨g, 0, none⟩) n c (ks.set k x) := by
 have := (World.ownsRow.stored h k (.int .i64 x)).1; unfold EOwn; rw [show celi (ks.set k x) = (celi ks).set k (.int .i64 x) by unfold celi; rw [List.map_set]]; exact this
theorem EOwn.at_ {w : World} {base g n c k : Nat} {ks : List Int} (h : EOwn w base (some ⟨g, 0, none⟩) n c ks) (hk : k < n) : ∃ x : Int, w.cell? ⟨g, k, none⟩ = some (.int .i64 x) ∧ w.frozen? ⟨g, k, none⟩ = false := by
 have hl := h.len; refine ⟨ks[k], ?_, World.ownsRow.frozenAt h k⟩; rw [World.ownsRow.cellAt h k (by omega)]; unfold celi; rw [List.getElem?_map, List.getElem?_eq_getElem (by omega)]; rfl
theorem take_set {ks : List Int} {k : Nat} (hk : k < ks.length) (x : Int) : (ks.set k x).take (k + 1) = ks.take k ++ [x] := by
 rw [List.take_succ_eq_append_getElem (by simpa using hk), List.take_set_of_le (Nat.le_refl _)]; simp
set_option maxRecDepth 100000 in
set_option maxHeartbeats 4000000 in
theorem why_ (h : Hr) (T : Option Addr) (nt ct : Nat) (vs : List Trf.Rw) (A : Option Addr) (n c : Nat) (l : List Cm) (w : World) (G : Arg w h T nt vs) (hS : Cls w (· < w.heap.size) A n l) (hc : n ≤ c) (hn : n ≤ 20) : Calls Tryz.prog 16 #[hg h, Trf.tg T nt ct, .slice A n c] w (WhTo w h.v (vs.map Trf.Rw.v) l) := by
 obtain ⟨W, hW⟩ : ∃ W, (w.alloc (.cells (Tm.hc h) 35)).alloc (.cells #[.slice T nt ct] 38) = W := ⟨_, rfl⟩; have H0 := Lib.hid (show O2 w W h T nt ct by rw [← hW]; exact O2.start w h T nt ct); have HG := Lib.hid G; have HS := Lib.hid hS; have HL := Lib.hid hS.1; have HW := Lib.hid hW; have hmk := make_ers n (by omega); obtain ⟨vsv, hvs⟩ : ∃ vsv, vs.map Trf.Rw.v = vsv := ⟨_, rfl⟩; have HCV := fun (x : Cm) (u : World) (hu : Below w.heap.size w u) => Lib.hid (covered_ h T nt ct vs x u (HG.out.below hu))
 rw [hvs] at HCV; rw [hvs]; obtain ⟨U, hU⟩ : ∃ U, W.alloc (.cells (zer n) 42) = U := ⟨_, rfl⟩; have HR0 := Lib.hid (show EOwn U W.heap.size (some ⟨W.heap.size, 0, none⟩) n n (List.replicate n 0) from hU ▸ zer_own n (by omega) W); have H1 := Lib.hid (H0.out.next (show Below W.heap.size W U from hU ▸ alloc_ _ _)); obtain ⟨gw, hgw⟩ : ∃ g, W.heap.size = g := ⟨_, rfl⟩; have hgl := H0.out.y.lt; have HU := Lib.hid hU; have HGW := Lib.hid hgw; rw [hgw] at HR0 hgl; have HGL := Lib.hid hgl; clear hW hS hU G hvs hgw hgl; go_enter Tryz.func16, Tryz.ntmps16
 go_upto_region 1 with fail
 rw [HW.out]; clear HW
 go_upto_region 2 with fail
 rw [HU.out, HGW.out]; clear HU hmk; go_wp2
 go_loopw [15] (fun vi w' => ∃ (k : Nat) (ks : List Int) (V : World), k ≤ n ∧ vi = .int .i64 (k : Int) ∧ V = w' ∧ Hid (O2 w V h T nt ct) ∧ Hid (EOwn V gw (some ⟨gw, 0, none⟩) n n ks) ∧ Hid (WhIs h.v vsv (l.take k) (ks.take k))) (fun vi _ => n - (intOf vi).toNat)
 case atStart => exact ⟨0, _, U, Nat.zero_le _, rfl, rfl, H1, HR0, Lib.hid ⟨by simp, fun i c k h => by simp at h⟩⟩
 case round =>
  clear HR0 H1 H0; obtain ⟨k, ks, V, hk, rfl, rfl, HO, HE, HI⟩ := hrel; by_cases hlt : k < n
  ·obtain ⟨ad, x, rfl, hab, hx, NN⟩ := (HS.out.below HO.out.b).get hlt; have hlt2 : (k : Int) < (n : Int) := by omega
   have HX := Lib.hid hx; obtain ⟨c0, c1, c2, c3, c4, c5⟩ := NN; obtain ⟨V4, hV4⟩ : ∃ V4, V.alloc (.cells (mc x) 23) = V4 := ⟨_, rfl⟩; have hb4 : Below V.heap.size V V4 := hV4 ▸ alloc_ _ _; have HX4 := Lib.hid (show Bx V4 V.heap.size 23 (mc x) from hV4 ▸ Bx.new V _ _); have HO4 := Lib.hid (HO.out.next hb4); have HE4 := Lib.hid (HE.out.below hb4); have HV4 := Lib.hid hV4; have CX := Lib.hid (HCV x V4 HO4.out.b); clear hb4 hV4 hx
   go_upto_region 5 with fail
   rw [HV4.out]; clear HV4 c0 c1 c2 c3 c4 c5 HO HE; have x0 := HO4.out.x.c 0; have x1 := HO4.out.x.c 1; have x2 := HO4.out.x.c 2; have x3 := HO4.out.x.c 3; have x4 := HO4.out.x.c 4; have x5 := HO4.out.x.c 5; have x6 := HO4.out.x.c 6; have x7 := HO4.out.x.c 7; have x8 := HO4.out.x.c 8; have x9 := HO4.out.x.c 9; have y0 := HO4.out.y.c 0; have z0 := HX4.out.c 0; have z1 := HX4.out.c 1; have z2 := HX4.out.c 2; have z3 := HX4.out.c 3; have z4 := HX4.out.c 4; have z5 := HX4.out.c 5; simp at x0 x1 x2 x3 x4 x5 x6 x7 x8 x9 y0 z0 z1 z2 z3 z4 z5
   go_wp2_with fail
   refine CX.out.out.mono ?_; rintro e w5 ⟨v, j, rfl, hcv, hb⟩; have HC := Lib.hid hcv; have HO5 := Lib.hid (HO4.out.next hb); have HE5 := Lib.hid (HE4.out.below hb); obtain ⟨o, hc5, hf5⟩ := HE5.out.at_ hlt; have HL5 := Lib.hid HE5.out.len; clear hb hcv CX x0 x1 x2 x3 x4 x5 x6 x7 x8 x9 y0 z0 z1 z2 z3 z4 z5 HX4 HO4 HE4; go_wp2; go_roundw
   case rel =>
    refine ⟨k + 1, ks.set k j, _, by omega, by go_num, rfl, Lib.hid ⟨HO5.out.b.setCell (by have := HGL.out; simp <;> omega) _, HO5.out.x.far (by have := HGL.out; simp <;> omega) _, HO5.out.y.far (by have := HGL.out; simp <;> omega) _⟩, Lib.hid (HE5.out.put k j), Lib.hid ?_⟩; rw [take_set (by have := HL5.out; omega)]; exact HI.out.more HX.out HC.out
   case measure => simp [intOf]; omega
  ·obtain rfl : k = n := by omega
   have HE2 := Lib.hid (show l.take k = l from List.take_of_length_le (by have := HL.out; omega)); have HK2 := Lib.hid (show ks.take k = ks from List.take_of_length_le (by have := HE.out.len; omega)); have HF := Lib.hid (show WhTo w h.v vsv l (.returned (.slice (some ⟨gw, 0, none⟩) k k)) V from ⟨_, k, k, ks, rfl, Nat.le_refl _, HE.out.row.keep (fun _ _ => rfl) fun _ h => h.2, by have h1 := HI.out; rw [HE2.out, HK2.out] at h1; exact h1, HO.out.b⟩); go_wp2; go_ret; exact HF.out
theorem asks_ : Asks := ⟨riC, cvC, why_⟩
end Ntc
end Go.Proofs.YtplenoaajokpjaaGreat
