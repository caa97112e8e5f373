/-
  The parts KSl, KMv, KPl, KAl of this proof. Conditions: those of each theorem.
-/
import Derived.Test.YtbjnjeidgdmdiaaGreatMKa
import Derived.Test.YtbjnjeidgdmdiaaGreatMFw
import Derived.Test.YtbjnjeidgdmdiaaGreatMKb
import Derived.Test.YtbjnjeidgdmdiaaGreatMSj
import Derived.Test.YtbjnjeidgdmdiaaGreatKInv
import Derived.Test.YtbjnjeidgdmdiaaGreatMSp
namespace Go.Proofs.YtbjnjeidgdmdiaaGreat
open Go.RowKit Ba Cv Sp Te Ag Tf Sl Tm
namespace Slc
set_option linter.unusedVariables false
def SlTo (w : World) (h : Hi) (vs : List Ve) (b : Int) (e : Ending) (w' : World) : Prop := ∃ A n c rs code, e = .returned (.tuple #[.slice A n c, .int .i64 code]) ∧ Sls w' A n rs ∧ n ≤ 1100 ∧ n ≤ c ∧ SlIs h vs b code (rs.map Rw.v) ∧ Below w.heap.size w w'
set_option maxRecDepth 100000 in
set_option maxHeartbeats 4000000 in
theorem kslices (h : Hr) (T : Option Addr) (nt ct : Nat) (vs : List Trf.Rw) (b : Int) (w : World) (M : HM w (· < w.heap.size) h) (S : HS h) (hm : h.m ≤ 100) (V : Trf.Vers w T nt vs) (hnt : nt ≤ 1000) : Calls Tryz.prog 12 #[hg h, Trf.tg T nt ct, .int .i64 b] w (SlTo w h.v (vs.map Trf.Rw.v) b) := by
 obtain ⟨W, hW⟩ : ∃ W, (w.alloc (.cells (hc h) 31)).alloc (.cells #[.slice T nt ct] 34) = W := ⟨_, rfl⟩; have H0 := Lib.hid (show O2 w W h T nt ct by rw [← hW]; exact O2.start w h T nt ct); have HW := Lib.hid hW; have HV := Lib.hid V; have HA := Lib.hid (Kno.at_ h b W (M.below H0.out.b) S); have HMM := Lib.hid hm; have x0 := H0.out.x.c 0; have x1 := H0.out.x.c 1; have x2 := H0.out.x.c 2; have x3 := H0.out.x.c 3; have x4 := H0.out.x.c 4; have x5 := H0.out.x.c 5; have x6 := H0.out.x.c 6; have x7 := H0.out.x.c 7; have x8 := H0.out.x.c 8; have x9 := H0.out.x.c 9; simp at x0 x1 x2 x3 x4 x5 x6 x7 x8 x9; clear V M S hm hW; go_enter Tryz.func12, Tryz.ntmps12
 go_upto_region 1 with fail
 rw [HW.out]; clear HW
 go_wp2_with fail
 refine HA.out.mono ?_; rintro e w1 (⟨hb, rfl, hb1⟩ | ⟨hb, k, rfl, hv, hM, hS, hkm, hb1⟩)
 ·have H1 := Lib.hid (H0.out.next hb1); clear hb1 HA x0 x1 x2 x3 x4 x5 x6 x7 x8 x9 H0; go_wp2; go_ret2; exact ⟨none, 0, 0, [], 7, rfl, Sls.nil, Nat.zero_le _, Nat.le_refl _, .none hb rfl rfl, H1.out.b.alloc H1.out.b.size _⟩
 ·have H1 := Lib.hid (H0.out.next hb1); have HB := Lib.hid hb; have HKV := Lib.hid hv; have HKM := Lib.hid hM; have HKS := Lib.hid hS; have HKL := Lib.hid hkm; clear hb1 HA x0 x1 x2 x3 x4 x5 x6 x7 x8 x9 H0 hb hv hM hS hkm; obtain ⟨W2, hW2⟩ : ∃ W2, w1.alloc (.cells (hc k) 31) = W2 := ⟨_, rfl⟩; have hb2 : Below w1.heap.size w1 W2 := hW2 ▸ alloc_ _ _; have HX2 := Lib.hid (show Bx W2 w1.heap.size 31 (hc k) from hW2 ▸ Bx.new w1 31 (hc k)); have H2 := Lib.hid (H1.out.next hb2); have HM2 := Lib.hid (HKM.out.below hb2); have HW2 := Lib.hid hW2; clear hb2 hW2
  go_upto_region 4 with fail
  rw [HW2.out]; clear HW2 H1 HKM; have x0 := HX2.out.c 0; have x1 := HX2.out.c 1; have x2 := HX2.out.c 2; have x3 := HX2.out.c 3; have x4 := HX2.out.c 4; have x5 := HX2.out.c 5; have x6 := HX2.out.c 6; have x7 := HX2.out.c 7; have x8 := HX2.out.c 8; have x9 := HX2.out.c 9; simp at x0 x1 x2 x3 x4 x5 x6 x7 x8 x9; have y0 := H2.out.y.c 0; simp at y0; have C := Lib.hid (of_ k T nt ct vs W2 HM2.out HKS.out (Nat.le_trans HKL.out HMM.out) (HV.out.below H2.out.b) hnt)
  go_wp2_with fail
  refine C.out.mono ?_; rintro e w3 ⟨A3, n3, c3, rs3, cd3, rfl, hs3, hn3, hc3, hi3, hb3⟩; have H3 := Lib.hid (H2.out.next hb3); have HL3 := Lib.hid hs3; have HI3 := Lib.hid hi3; clear hb3 hs3 hi3 C x0 x1 x2 x3 x4 x5 x6 x7 x8 x9 y0; go_wp2; go_ret2; refine ⟨A3, n3, c3, rs3, cd3, rfl, HL3.out, hn3, hc3, .known HB.out ?_, H3.out.b⟩; have := HI3.out; rw [HKV.out] at this; exact this
end Slc
end Go.Proofs.YtbjnjeidgdmdiaaGreat

namespace Go.Proofs.YtbjnjeidgdmdiaaGreat
open Go.RowKit Ba Cv Sp Te Ag Tf Sl Tm
namespace Slc
set_option linter.unusedVariables false
def MvTo (w : World) (h : Hi) (vs : List Ve) (a b : Int) (e : Ending) (w' : World) : Prop := ∃ A n c zs code, e = .returned (.tuple #[.slice A n c, .int .i64 code]) ∧ Spn.Spans w' w'.heap.size A n zs ∧ n ≤ 2200 ∧ (n ≤ c ∧ (A = none → n = 0 ∧ c = 0)) ∧ MvIs h vs a b code zs ∧ Below w.heap.size w w'
set_option maxRecDepth 100000 in
set_option maxHeartbeats 4000000 in
theorem kmoved (h : Hr) (T : Option Addr) (nt ct : Nat) (vs : List Trf.Rw) (a b : Int) (w : World) (M : HM w (· < w.heap.size) h) (S : HS h) (hm : h.m ≤ 100) (V : Trf.Vers w T nt vs) (hnt : nt ≤ 1000) : Calls Tryz.prog 15 #[hg h, Trf.tg T nt ct, .int .i64 a, .int .i64 b] w (MvTo w h.v (vs.map Trf.Rw.v) a b) := by
 obtain ⟨W, hW⟩ : ∃ W, (w.alloc (.cells (hc h) 31)).alloc (.cells #[.slice T nt ct] 34) = W := ⟨_, rfl⟩; have H0 := Lib.hid (show O2 w W h T nt ct by rw [← hW]; exact O2.start w h T nt ct); have HW := Lib.hid hW; have HV := Lib.hid V; have HMM := Lib.hid M; have HSS := Lib.hid S; have C := fun d (W : World) (H : Below w.heap.size w W) => Lib.hid (kslices h T nt ct vs d W (HMM.out.below H) HSS.out hm (HV.out.below H) hnt)
 clear hW V M S; have x0 := H0.out.x.c 0; have x1 := H0.out.x.c 1; have x2 := H0.out.x.c 2; have x3 := H0.out.x.c 3; have x4 := H0.out.x.c 4; have x5 := H0.out.x.c 5; have x6 := H0.out.x.c 6; have x7 := H0.out.x.c 7; have x8 := H0.out.x.c 8; have x9 := H0.out.x.c 9; have y0 := H0.out.y.c 0; simp at x0 x1 x2 x3 x4 x5 x6 x7 x8 x9 y0; go_enter Tryz.func15, Tryz.ntmps15
 go_upto_region 1 with fail
 rw [HW.out]; clear HW
 go_wp2_with fail
 refine (C a W H0.out.b).out.mono ?_; rintro e w1 ⟨A1, n1, c1, rs1, cd1, rfl, hs1, hn1, hc1, hi1, hb1⟩; have H1 := Lib.hid (H0.out.next hb1); have HL1 := Lib.hid hs1; have HI1 := Lib.hid hi1; clear hb1 hs1 hi1 x0 x1 x2 x3 x4 x5 x6 x7 x8 x9 y0 H0; by_cases h0 : cd1 = 0
 ·subst h0; have x0 := H1.out.x.c 0; have x1 := H1.out.x.c 1; have x2 := H1.out.x.c 2; have x3 := H1.out.x.c 3; have x4 := H1.out.x.c 4; have x5 := H1.out.x.c 5; have x6 := H1.out.x.c 6; have x7 := H1.out.x.c 7; have x8 := H1.out.x.c 8; have x9 := H1.out.x.c 9; have y0 := H1.out.y.c 0; simp at x0 x1 x2 x3 x4 x5 x6 x7 x8 x9 y0
  go_wp2_with fail
  refine (C b w1 H1.out.b).out.mono ?_; rintro e w2 ⟨A2, n2, c2, rs2, cd2, rfl, hs2, hn2, hc2, hi2, hb2⟩; have H2 := Lib.hid (H1.out.next hb2); have HL2 := Lib.hid hs2; have HI2 := Lib.hid hi2; have HL1' := Lib.hid (HL1.out.below hb2); clear hb2 hs2 hi2 x0 x1 x2 x3 x4 x5 x6 x7 x8 x9 y0 H1 HL1; by_cases h0 : cd2 = 0
  ·subst h0; have D := Lib.hid (apart_ h.s.1 h.s.2 A1 A2 n1 n2 c1 c2 rs1 rs2 w2 HL1'.out HL2.out hc1 hc2 HI1.out.row HI2.out.row hn1 hn2)
   go_wp2_with fail
   refine D.out.mono ?_; rintro e w3 ⟨A3, n3, c3, ys, rfl, hs3, hn3, hd3, hb3⟩; have H3 := Lib.hid (H2.out.next hb3); have F3 := Lib.hid (And.intro hs3 hd3); have E := Lib.hid (Spn.joinA A3 n3 c3 ys w3 hs3 (by omega)); clear hs3 hd3 hb3 D H2
   go_wp2_with fail
   refine E.out.mono ?_; rintro e w4 ⟨zs, hj, hl, A4, n4, c4, rfl, hs4, hc4, hb4⟩; have H4 := Lib.hid (H3.out.next hb4)
   have G := Lib.hid (show MvTo w h.v (vs.map Trf.Rw.v) a b (.returned (.tuple #[.slice A4 n4 c4, .int .i64 0])) w4 from
    ⟨A4, n4, c4, zs, 0, rfl, hs4, by have h1 := F3.out.1.1; have h2 := hs4.1; omega, hc4, .told _ _ HI1.out HI2.out rfl hj.apart (fun d => (hj.same d).trans (F3.out.2 d)), H4.out.b⟩)
   clear hj hl hs4 hc4 hb4 E H3 F3 H4; go_wp2; go_ret2; exact G.out
  ·have t0 : decide (cd2 = 0) = false := decide_eq_false h0; have HNE := Lib.hid h0; go_wp2; go_ret2; exact ⟨none, 0, 0, [], cd2, rfl, Spn.Spans.nil, Nat.zero_le _, ⟨Nat.le_refl _, fun _ => ⟨rfl, rfl⟩⟩, .second _ _ HI1.out HI2.out HNE.out rfl, H2.out.b⟩
 ·have t0 : decide (cd1 = 0) = false := decide_eq_false h0; have HNE := Lib.hid h0; go_wp2; go_ret2; exact ⟨none, 0, 0, [], cd1, rfl, Spn.Spans.nil, Nat.zero_le _, ⟨Nat.le_refl _, fun _ => ⟨rfl, rfl⟩⟩, .first _ HI1.out HNE.out rfl, H1.out.b⟩
end Slc
end Go.Proofs.YtbjnjeidgdmdiaaGreat

namespace Go.Proofs.YtbjnjeidgdmdiaaGreat
open Go.RowKit Ba Cv Sp Te Ag Tf Sl Tm
namespace Slc
set_option linter.unusedVariables false
abbrev co2 : Co := ⟨1, 10, 10, 0, 10000⟩
abbrev ri2 : Ri := ⟨0, 1000, 0, 0⟩
abbrev kV : Ve := ⟨1, 100, 100, 100, 100, [], [10000], [10000, 10000, 10000, 10000, 10000, 10000, 10000, 10000], 1⟩
abbrev kR (s : Nat) : Trf.Rw := ⟨kV, none, 0, 0, some ⟨s + 1 + 1, 0, none⟩, 1, 1, some ⟨s + 1 + 1 + 1, 0, none⟩, 8, 8⟩
abbrev chK : Ch := ⟨60, 41, 3, zri, [], 0⟩
abbrev hiK : Hi := ⟨1, 1, (1, 101), ri2, [co2], [chK]⟩
abbrev hrK (A B : Option Addr) : Hr := ⟨1, 1, (1, 101), ri2, A, 1, 1, [co2], B, 1, 1, [⟨chK, none, 0, 0⟩]⟩
theorem cvs_one {w : World} {b : Nat} {c : Co} (h : Bx w b 79 (cc c)) (ok : Nat → Prop) (hb : ok b) : Cvs w ok (some ⟨b, 0, none⟩) 1 [c] := by
 refine ⟨rfl, fun _ => ⟨_, rfl, hb, fun j x hj => ?_⟩⟩
 match j, hj with
 | 0, hj => simp at hj; subst hj; rw [Addr.add_lit]; exact ⟨h.c 0, h.c 1, h.c 2, h.c 3, h.c 4⟩
theorem ins_row {w : World} {b : Nat} {xs : List Int} (h : Bx w b 3 (xs.map (Value.int .i64)).toArray) (ok : Nat → Prop) (hb : ok b) : Trf.Ins w ok (some ⟨b, 0, none⟩) xs.length xs :=
 ⟨rfl, fun _ => ⟨_, rfl, hb, fun j x hj => by
  rw [Addr.add_lit, Nat.zero_add]; have := h.c j; rw [this]; simp [hj]⟩⟩
structure P8 (w W : World) : Prop where
 b : Below w.heap.size w W
 s : W.heap.size = w.heap.size + 8
 x0 : Bx W (w.heap.size) 31 (hc zhr)
 x1 : Bx W (w.heap.size + 1) 34 #[.slice none 0 0]
 x2 : Bx W (w.heap.size + 1 + 1) 3 #[.int .i64 10000]
 x3 : Bx W (w.heap.size + 1 + 1 + 1) 3 #[.int .i64 10000, .int .i64 10000, .int .i64 10000, .int .i64 10000, .int .i64 10000, .int .i64 10000, .int .i64 10000, .int .i64 10000]
 x4 : Bx W (w.heap.size + 1 + 1 + 1 + 1) 67 (Trf.vc (kR w.heap.size))
 x5 : Bx W (w.heap.size + 1 + 1 + 1 + 1 + 1) 79 (cc co2)
 x6 : Bx W (w.heap.size + 1 + 1 + 1 + 1 + 1 + 1) 31 (hc (hrK (some ⟨w.heap.size + 1 + 1 + 1 + 1 + 1, 0, none⟩) (some ⟨w.heap.size + 1 + 1 + 1 + 1 + 1 + 1 + 1, 0, none⟩)))
 x7 : Bx W (w.heap.size + 1 + 1 + 1 + 1 + 1 + 1 + 1) 50 (Tm.vc ⟨chK, none, 0, 0⟩)
theorem P8.start (w : World) : P8 w ((((((((w.alloc (.cells (hc zhr) 31)).alloc (.cells #[.slice none 0 0] 34)).alloc (.cells #[.int .i64 10000] 3)).alloc (.cells #[.int .i64 10000, .int .i64 10000, .int .i64 10000, .int .i64 10000, .int .i64 10000, .int .i64 10000, .int .i64 10000, .int .i64 10000] 3)).alloc (.cells (Trf.vc (kR w.heap.size)) 67)).alloc (.cells (cc co2) 79)).alloc (.cells (hc (hrK (some ⟨w.heap.size + 1 + 1 + 1 + 1 + 1, 0, none⟩) (some ⟨w.heap.size + 1 + 1 + 1 + 1 + 1 + 1 + 1, 0, none⟩))) 31)).alloc (.cells (Tm.vc ⟨chK, none, 0, 0⟩) 50)) := by
 have h0 := Bx.new w 31 (hc zhr); have h1 := Bx.new (w.alloc (.cells (hc zhr) 31)) 34 #[.slice none 0 0]; have h2 := Bx.new ((w.alloc (.cells (hc zhr) 31)).alloc (.cells #[.slice none 0 0] 34)) 3 #[.int .i64 10000]; have h3 := Bx.new (((w.alloc (.cells (hc zhr) 31)).alloc (.cells #[.slice none 0 0] 34)).alloc (.cells #[.int .i64 10000] 3)) 3 #[.int .i64 10000, .int .i64 10000, .int .i64 10000, .int .i64 10000, .int .i64 10000, .int .i64 10000, .int .i64 10000, .int .i64 10000]; have h4 := Bx.new ((((w.alloc (.cells (hc zhr) 31)).alloc (.cells #[.slice none 0 0] 34)).alloc (.cells #[.int .i64 10000] 3)).alloc (.cells #[.int .i64 10000, .int .i64 10000, .int .i64 10000, .int .i64 10000, .int .i64 10000, .int .i64 10000, .int .i64 10000, .int .i64 10000] 3)) 67 (Trf.vc (kR w.heap.size)); have h5 := Bx.new (((((w.alloc (.cells (hc zhr) 31)).alloc (.cells #[.slice none 0 0] 34)).alloc (.cells #[.int .i64 10000] 3)).alloc (.cells #[.int .i64 10000, .int .i64 10000, .int .i64 10000, .int .i64 10000, .int .i64 10000, .int .i64 10000, .int .i64 10000, .int .i64 10000] 3)).alloc (.cells (Trf.vc (kR w.heap.size)) 67)) 79 (cc co2); have h6 := Bx.new ((((((w.alloc (.cells (hc zhr) 31)).alloc (.cells #[.slice none 0 0] 34)).alloc (.cells #[.int .i64 10000] 3)).alloc (.cells #[.int .i64 10000, .int .i64 10000, .int .i64 10000, .int .i64 10000, .int .i64 10000, .int .i64 10000, .int .i64 10000, .int .i64 10000] 3)).alloc (.cells (Trf.vc (kR w.heap.size)) 67)).alloc (.cells (cc co2) 79)) 31 (hc (hrK (some ⟨w.heap.size + 1 + 1 + 1 + 1 + 1, 0, none⟩) (some ⟨w.heap.size + 1 + 1 + 1 + 1 + 1 + 1 + 1, 0, none⟩))); have h7 := Bx.new (((((((w.alloc (.cells (hc zhr) 31)).alloc (.cells #[.slice none 0 0] 34)).alloc (.cells #[.int .i64 10000] 3)).alloc (.cells #[.int .i64 10000, .int .i64 10000, .int .i64 10000, .int .i64 10000, .int .i64 10000, .int .i64 10000, .int .i64 10000, .int .i64 10000] 3)).alloc (.cells (Trf.vc (kR w.heap.size)) 67)).alloc (.cells (cc co2) 79)).alloc (.cells (hc (hrK (some ⟨w.heap.size + 1 + 1 + 1 + 1 + 1, 0, none⟩) (some ⟨w.heap.size + 1 + 1 + 1 + 1 + 1 + 1 + 1, 0, none⟩))) 31)) 50 (Tm.vc ⟨chK, none, 0, 0⟩); simp only [World.size_alloc] at h1 h2 h3 h4 h5 h6 h7; refine ⟨(((((((alloc_ _ _).alloc (by simp; try omega) _).alloc (by simp; try omega) _).alloc (by simp; try omega) _).alloc (by simp; try omega) _).alloc (by simp; try omega) _).alloc (by simp; try omega) _).alloc (by simp; try omega) _, by simp, (((((((h0).alloc _).alloc _).alloc _).alloc _).alloc _).alloc _).alloc _, ((((((h1).alloc _).alloc _).alloc _).alloc _).alloc _).alloc _, (((((h2).alloc _).alloc _).alloc _).alloc _).alloc _, ((((h3).alloc _).alloc _).alloc _).alloc _, (((h4).alloc _).alloc _).alloc _, ((h5).alloc _).alloc _, (h6).alloc _, h7⟩
structure K8 (w W : World) (L : Nat → Bool) (w' : World) (v17 v18 v19 v20 : Value) : Prop where
 b : Below w.heap.size w w'
 s : W.heap.size ≤ w'.heap.size
 p : ∀ k, w.heap.size + 2 ≤ k → k < W.heap.size → w'.heap[k]? = W.heap[k]?
 q : w.heap.size + 2 ≤ W.heap.size
 r0 : L 4 = false → Bx w' w.heap.size 31 (hc zhr)
 r1 : L 5 = false → Bx w' (w.heap.size + 1) 34 #[.slice none 0 0]
 f0 : L 0 = true → v17 = hg (hrK (some ⟨w.heap.size + 1 + 1 + 1 + 1 + 1, 0, none⟩) (some ⟨w.heap.size + 1 + 1 + 1 + 1 + 1 + 1 + 1, 0, none⟩))
 f1 : L 1 = true → v18 = Trf.vg (kR w.heap.size)
 f2 : L 2 = true → ∃ g, v19 = .slice (some ⟨g, 0, none⟩) 1 1 ∧ W.heap.size ≤ g ∧ Bx w' g 67 (Trf.vc (kR w.heap.size))
 f3 : L 3 = true → v20 = .agg #[v19]
 f4 : L 4 = true → Bx w' w.heap.size 31 (hc (hrK (some ⟨w.heap.size + 1 + 1 + 1 + 1 + 1, 0, none⟩) (some ⟨w.heap.size + 1 + 1 + 1 + 1 + 1 + 1 + 1, 0, none⟩)))
 f5 : L 5 = true → Bx w' (w.heap.size + 1) 34 #[v19]
 d3_2 : L 3 = true → L 2 = true
 d5_2 : L 5 = true → L 2 = true
theorem K8.up {w W : World} {L : Nat → Bool} {w' w2 : World} {v17 v18 v19 v20 : Value} (H : K8 w W L w' v17 v18 v19 v20) (hb : Below w'.heap.size w' w2) : K8 w W L w2 v17 v18 v19 v20 :=
 ⟨H.b.trans (hb.mono H.b.size), Nat.le_trans H.s hb.size, (fun k h1 h2 => (hb.block k (Nat.lt_of_lt_of_le h2 H.s)).trans (H.p k h1 h2)), H.q, (fun l => (H.r0 l).keep hb), (fun l => (H.r1 l).keep hb), H.f0, H.f1, (fun l => by obtain ⟨g, e, h1, h2⟩ := H.f2 l; exact ⟨g, e, h1, h2.keep hb⟩), H.f3, (fun l => (H.f4 l).keep hb), (fun l => (H.f5 l).keep hb), H.d3_2, H.d5_2⟩
theorem K8.s0 {w W : World} {L : Nat → Bool} {w' : World} {v17 v18 v19 v20 : Value} (H : K8 w W L w' v17 v18 v19 v20) {z : Value} (k : z = hg (hrK (some ⟨w.heap.size + 1 + 1 + 1 + 1 + 1, 0, none⟩) (some ⟨w.heap.size + 1 + 1 + 1 + 1 + 1 + 1 + 1, 0, none⟩))) : K8 w W (fun j => j == 0 || L j) w' z v18 v19 v20 := ⟨H.b, H.s, H.p, H.q, H.r0, H.r1, fun _ => k, H.f1, H.f2, H.f3, H.f4, H.f5, H.d3_2, H.d5_2⟩
theorem K8.s1 {w W : World} {L : Nat → Bool} {w' : World} {v17 v18 v19 v20 : Value} (H : K8 w W L w' v17 v18 v19 v20) {z : Value} (k : z = Trf.vg (kR w.heap.size)) : K8 w W (fun j => j == 1 || L j) w' v17 z v19 v20 := ⟨H.b, H.s, H.p, H.q, H.r0, H.r1, H.f0, fun _ => k, H.f2, H.f3, H.f4, H.f5, H.d3_2, H.d5_2⟩
theorem K8.s2 {w W : World} {L : Nat → Bool} {w' : World} {v17 v18 v19 v20 : Value} (H : K8 w W L w' v17 v18 v19 v20) {z : Value} (k : ∃ g, z = .slice (some ⟨g, 0, none⟩) 1 1 ∧ W.heap.size ≤ g ∧ Bx w' g 67 (Trf.vc (kR w.heap.size))) (hf : L 2 = false) : K8 w W (fun j => j == 2 || L j) w' v17 v18 z v20 := ⟨H.b, H.s, H.p, H.q, H.r0, H.r1, H.f0, H.f1, fun _ => k, fun l => absurd (H.d3_2 l) (by rw [hf]; decide), H.f4, fun l => absurd (H.d5_2 l) (by rw [hf]; decide), fun _ => rfl, fun _ => rfl⟩
theorem K8.s3 {w W : World} {L : Nat → Bool} {w' : World} {v17 v18 v19 v20 : Value} (H : K8 w W L w' v17 v18 v19 v20) {z : Value} (k : z = .agg #[v19]) (d3_23 : L 2 = true) : K8 w W (fun j => j == 3 || L j) w' v17 v18 v19 z := ⟨H.b, H.s, H.p, H.q, H.r0, H.r1, H.f0, H.f1, H.f2, fun _ => k, H.f4, H.f5, fun _ => d3_23, H.d5_2⟩
theorem K8.s4 {w W : World} {L : Nat → Bool} {w' : World} {v17 v18 v19 v20 : Value} (H : K8 w W L w' v17 v18 v19 v20) (h4 : L 4 = false) : K8 w W (fun j => j == 4 || L j) (puth w.heap.size (hrK (some ⟨w.heap.size + 1 + 1 + 1 + 1 + 1, 0, none⟩) (some ⟨w.heap.size + 1 + 1 + 1 + 1 + 1 + 1 + 1, 0, none⟩)) w') v17 v18 v19 v20 := by
 have hset : ∀ k, k ≠ w.heap.size → (puth w.heap.size (hrK (some ⟨w.heap.size + 1 + 1 + 1 + 1 + 1, 0, none⟩) (some ⟨w.heap.size + 1 + 1 + 1 + 1 + 1 + 1 + 1, 0, none⟩)) w').heap[k]? = w'.heap[k]? := fun k hk => sets_heap _ hk 0 w'
 have hsz : (puth w.heap.size (hrK (some ⟨w.heap.size + 1 + 1 + 1 + 1 + 1, 0, none⟩) (some ⟨w.heap.size + 1 + 1 + 1 + 1 + 1 + 1 + 1, 0, none⟩)) w').heap.size = w'.heap.size := sets_size _ 0 w'; have hs := H.s; have hq := H.q; refine ⟨sets_below _ (Nat.le_refl _) 0 w' H.b, by rw [hsz]; exact H.s, fun k h1 h2 => (hset k (by omega)).trans (H.p k h1 h2), H.q, (fun l => by cases l), fun l => (hset _ (by omega)).trans (H.r1 l), H.f0, H.f1, ?_, H.f3, fun _ => Bx.puth (h' := zhr) (H.r0 h4) (hrK (some ⟨w.heap.size + 1 + 1 + 1 + 1 + 1, 0, none⟩) (some ⟨w.heap.size + 1 + 1 + 1 + 1 + 1 + 1 + 1, 0, none⟩)), fun l => (hset _ (by omega)).trans (H.f5 l), H.d3_2, H.d5_2⟩; intro l; obtain ⟨g, e, h1, h2⟩ := H.f2 l; exact ⟨g, e, h1, (hset g (by omega)).trans h2⟩
theorem K8.s5 {w W : World} {L : Nat → Bool} {w' : World} {v17 v18 v19 v20 : Value} (H : K8 w W L w' v17 v18 v19 v20) (h5 : L 5 = false) (h2 : L 2 = true) : K8 w W (fun j => j == 5 || L j) (w'.setCell ⟨w.heap.size + 1, 0, none⟩ v19) v17 v18 v19 v20 := by
 have hset : ∀ k, k ≠ w.heap.size + 1 → (w'.setCell ⟨w.heap.size + 1, 0, none⟩ v19).heap[k]? = w'.heap[k]? := fun k hk => Below.heap_setCell w' _ _ k hk
 have hsz : (w'.setCell ⟨w.heap.size + 1, 0, none⟩ v19).heap.size = w'.heap.size := World.size_setCell _ _ _; have hs := H.s; have hq := H.q; refine ⟨H.b.setCell (p := ⟨w.heap.size + 1, 0, none⟩) (by show w.heap.size ≤ w.heap.size + 1; omega) _, by rw [hsz]; exact H.s, fun k h1 h2 => (hset k (by omega)).trans (H.p k h1 h2), H.q, fun l => (hset _ (by omega)).trans (H.r0 l), (fun l => by cases l), H.f0, H.f1, ?_, H.f3, fun l => (hset _ (by omega)).trans (H.f4 l), fun _ => (H.r1 h5).set 0 v19, H.d3_2, fun _ => h2⟩; intro l; obtain ⟨g, e, h1, h2⟩ := H.f2 l; exact ⟨g, e, h1, (hset g (by omega)).trans h2⟩
def PlTo (w : World) (e : Ending) (w' : World) : Prop := ∃ (A B T : Option Addr) (r : Trf.Rw), e = .returned (.tuple #[hg (hrK A B), Trf.tg T 1 1]) ∧ r.v = kV ∧ Trf.Vers w' T 1 [r] ∧ HM w' (· < w'.heap.size) (hrK A B) ∧ HS (hrK A B) ∧ Below w.heap.size w w'
set_option maxRecDepth 100000 in
set_option maxHeartbeats 4000000 in
theorem plain13 (w : World) : Calls Tryz.prog 26 #[] w (PlTo w) := by
 obtain ⟨W, hW⟩ : ∃ W, ((((((((w.alloc (.cells (hc zhr) 31)).alloc (.cells #[.slice none 0 0] 34)).alloc (.cells #[.int .i64 10000] 3)).alloc (.cells #[.int .i64 10000, .int .i64 10000, .int .i64 10000, .int .i64 10000, .int .i64 10000, .int .i64 10000, .int .i64 10000, .int .i64 10000] 3)).alloc (.cells (Trf.vc (kR w.heap.size)) 67)).alloc (.cells (cc co2) 79)).alloc (.cells (hc (hrK (some ⟨w.heap.size + 1 + 1 + 1 + 1 + 1, 0, none⟩) (some ⟨w.heap.size + 1 + 1 + 1 + 1 + 1 + 1 + 1, 0, none⟩))) 31)).alloc (.cells (Tm.vc ⟨chK, none, 0, 0⟩) 50)) = W := ⟨_, rfl⟩; have HP := Lib.hid (show P8 w W by rw [← hW]; exact P8.start w); have HW := Lib.hid hW; clear hW; go_enter Tryz.func26, Tryz.ntmps26
 go_upto_region 4 with fail
 change Code.wp _ _ _ _ ((((((((w.alloc (.cells (hc zhr) 31)).alloc (.cells #[.slice none 0 0] 34)).alloc (.cells #[.int .i64 10000] 3)).alloc (.cells #[.int .i64 10000, .int .i64 10000, .int .i64 10000, .int .i64 10000, .int .i64 10000, .int .i64 10000, .int .i64 10000, .int .i64 10000] 3)).alloc (.cells (Trf.vc (kR w.heap.size)) 67)).alloc (.cells (cc co2) 79)).alloc (.cells (hc (hrK (some ⟨w.heap.size + 1 + 1 + 1 + 1 + 1, 0, none⟩) (some ⟨w.heap.size + 1 + 1 + 1 + 1 + 1 + 1 + 1, 0, none⟩))) 31)).alloc (.cells (Tm.vc ⟨chK, none, 0, 0⟩) 50)); rw [HW.out]; clear HW; refine wp_region_steps (fun L_ a_ w_ => ∃ (v17 v18 v19 v20 : Value), a_ = { tmps := #[.pointer (some ⟨w.heap.size, 0, none⟩), .pointer (some ⟨w.heap.size + 1, 0, none⟩), .pointer (some ⟨w.heap.size + 1 + 1 + 1 + 1, 0, none⟩), .pointer (some ⟨w.heap.size + 1 + 1 + 1 + 1 + 1 + 1, 0, none⟩), .agg #[.int .i64 100, .int .i64 100, .int .i64 100, .int .i64 100], .slice (some ⟨w.heap.size + 1 + 1, 0, none⟩) 1 1, .slice (some ⟨w.heap.size + 1 + 1 + 1, 0, none⟩) 8 8, Trf.vg (kR w.heap.size), sg (1, 101), rg ri2, cg co2, .slice (some ⟨w.heap.size + 1 + 1 + 1 + 1 + 1, 0, none⟩) 1 1, tg (1, 101) ri2 (some ⟨w.heap.size + 1 + 1 + 1 + 1 + 1, 0, none⟩) 1 1, .agg #[.int .i64 1, .int .i64 1, .int .i64 1, .int .i64 101, .int .i64 0, .int .i64 1000, .int .i64 0, .int .i64 0, .slice (some ⟨w.heap.size + 1 + 1 + 1 + 1 + 1, 0, none⟩) 1 1, .slice none 0 0], Tm.vg ⟨chK, none, 0, 0⟩, .slice (some ⟨w.heap.size + 1 + 1 + 1 + 1 + 1 + 1 + 1, 0, none⟩) 1 1, .pointer (some ⟨w.heap.size + 1 + 1 + 1 + 1 + 1 + 1, 9, none⟩), v17, v18, v19, v20], defers := [] } ∧ Hid (K8 w W L_ w_ v17 v18 v19 v20)) (by kernel_rfl) (by kernel_rfl) ?_ (AllSteps.cons ?_ (AllSteps.cons ?_ (AllSteps.cons ?_ (AllSteps.cons ?_ (AllSteps.cons ?_ (AllSteps.cons ?_ AllSteps.nil)))))) ?_
 ·exact ⟨_, _, _, _, rfl, Lib.hid ⟨(HP.out.b.trans (show Below w.heap.size W W.drew from ⟨rfl, rfl, rfl, Nat.le_refl _, fun _ _ => rfl⟩)), Nat.le_refl _, (fun _ _ _ => rfl), (by have := HP.out.s; omega), (fun _ => HP.out.x0), (fun _ => HP.out.x1), (fun h => by cases h), (fun h => by cases h), (fun h => by cases h), (fun h => by cases h), (fun h => by cases h), (fun h => by cases h), (fun h => by cases h), (fun h => by cases h)⟩⟩
 ·rintro L_ a_ w_ hL hd ⟨v17, v18, v19, v20, rfl, HR⟩ K hK; have hx := (show Bx w_ (w.heap.size + 1 + 1 + 1 + 1 + 1 + 1) 31 (hc (hrK (some ⟨w.heap.size + 1 + 1 + 1 + 1 + 1, 0, none⟩) (some ⟨w.heap.size + 1 + 1 + 1 + 1 + 1 + 1 + 1, 0, none⟩))) from (HR.out.p _ (by omega) (by have := HP.out.s; omega)).trans HP.out.x6); have x0 := hx.c 0; have x1 := hx.c 1; have x2 := hx.c 2; have x3 := hx.c 3; have x4 := hx.c 4; have x5 := hx.c 5; have x6 := hx.c 6; have x7 := hx.c 7; have x8 := hx.c 8; have x9 := hx.c 9; simp at x0 x1 x2 x3 x4 x5 x6 x7 x8 x9; clear hd hx; go_simp; exact hK.out _ _ ⟨_, _, _, _, rfl, Lib.hid (HR.out.s0 rfl)⟩
 ·rintro L_ a_ w_ hL hd ⟨v17, v18, v19, v20, rfl, HR⟩ K hK; have hx := (show Bx w_ (w.heap.size + 1 + 1 + 1 + 1) 67 (Trf.vc (kR w.heap.size)) from (HR.out.p _ (by omega) (by have := HP.out.s; omega)).trans HP.out.x4); have x0 := hx.c 0; have x1 := hx.c 1; have x2 := hx.c 2; have x3 := hx.c 3; have x4 := hx.c 4; have x5 := hx.c 5; have x6 := hx.c 6; have x7 := hx.c 7; have x8 := hx.c 8; simp at x0 x1 x2 x3 x4 x5 x6 x7 x8; clear hd hx; go_simp; exact hK.out _ _ ⟨_, _, _, _, rfl, Lib.hid (HR.out.s1 rfl)⟩
 ·rintro L_ a_ w_ hL hd ⟨v17, v18, v19, v20, rfl, HR⟩ K hK; have e1 := HR.out.f1 (hd ⟨1, .data⟩ (by simp) rfl); subst e1; have HR2 := Lib.hid (HR.out.up (alloc_ w_ (.cells (Trf.vc (kR w.heap.size)) 67))); have F := Lib.hid (Bx.new w_ 67 (Trf.vc (kR w.heap.size))); have HS := Lib.hid HR.out.s; clear hd; go_simp; exact hK.out _ _ ⟨_, _, _, _, rfl, Lib.hid (HR2.out.s2 ⟨_, rfl, HS.out, F.out⟩ hL)⟩
 ·rintro L_ a_ w_ hL hd ⟨v17, v18, v19, v20, rfl, HR⟩ K hK; obtain ⟨g, e2, h1, h2⟩ := HR.out.f2 (hd ⟨2, .data⟩ (by simp) rfl); subst e2; have h02 := hd ⟨2, .data⟩ (by simp) rfl; clear hd h1 h2; go_simp; exact hK.out _ _ ⟨_, _, _, _, rfl, Lib.hid (HR.out.s3 rfl h02)⟩
 ·rintro L_ a_ w_ hL hd ⟨v17, v18, v19, v20, rfl, HR⟩ K hK; have e0 := HR.out.f0 (hd ⟨0, .data⟩ (by simp) rfl); subst e0; have hx := HR.out.r0 hL; have x0 := hx.c 0; have x1 := hx.c 1; have x2 := hx.c 2; have x3 := hx.c 3; have x4 := hx.c 4; have x5 := hx.c 5; have x6 := hx.c 6; have x7 := hx.c 7; have x8 := hx.c 8; have x9 := hx.c 9; simp at x0 x1 x2 x3 x4 x5 x6 x7 x8 x9; have fx := hx.f; clear hd hx; go_simp; exact hK.out _ _ ⟨_, _, _, _, rfl, Lib.hid (HR.out.s4 hL)⟩
 ·rintro L_ a_ w_ hL hd ⟨v17, v18, v19, v20, rfl, HR⟩ K hK; have h03 := hd ⟨3, .data⟩ (by simp) rfl; have e3 := HR.out.f3 (hd ⟨3, .data⟩ (by simp) rfl); subst e3; have h02 := HR.out.d3_2 h03; obtain ⟨g, e2, h1, h2⟩ := HR.out.f2 h02; subst e2; have hx := HR.out.r1 hL; have x0 := hx.c 0; simp at x0; have fx := hx.f; clear hd hx h1 h2; go_simp; exact hK.out _ _ ⟨_, _, _, _, rfl, Lib.hid (HR.out.s5 hL h02)⟩
 ·rintro L_ a_ w_ hL ⟨v17, v18, v19, v20, rfl, HR⟩; obtain ⟨g, rfl, hgs, hv⟩ := HR.out.f2 (hL 2 (by decide)); have h4 := HR.out.f4 (hL 4 (by decide)); have h5 := HR.out.f5 (hL 5 (by decide)); have hs := HP.out.s; have key : ∀ (k : Nat) (t : TypeId) (xs : Array Value), Bx W k t xs → w.heap.size + 2 ≤ k → k < w.heap.size + 8 → Bx w_ k t xs := fun k t xs hk h1 h2 => (HR.out.p k h1 (by omega)).trans hk
  have k2 := key _ _ _ HP.out.x2 (by omega) (by omega); have k3 := key _ _ _ HP.out.x3 (by omega) (by omega); have k5 := key _ _ _ HP.out.x5 (by omega) (by omega); have k7 := key _ _ _ HP.out.x7 (by omega) (by omega)
  have G := Lib.hid (show PlTo w (.returned (.tuple #[hg (hrK (some ⟨w.heap.size + 1 + 1 + 1 + 1 + 1, 0, none⟩) (some ⟨w.heap.size + 1 + 1 + 1 + 1 + 1 + 1 + 1, 0, none⟩)), Trf.tg (some ⟨g, 0, none⟩) 1 1])) w_ from by
   refine ⟨_, _, _, (kR w.heap.size), rfl, rfl, ⟨⟨rfl, fun _ => ⟨⟨g, 0, none⟩, rfl, hv.lt, fun j r hj => ?_⟩⟩, fun r hr => ?_, fun r hr => ?_⟩, ⟨cvs_one k5 _ k5.lt, ⟨rfl, fun _ => ⟨⟨w.heap.size + 1 + 1 + 1 + 1 + 1 + 1 + 1, 0, none⟩, rfl, k7.lt, fun j r hj => ?_⟩⟩, fun r hr => ?_⟩, ⟨by show 1 ≤ 3000; omega, by show 1 ≤ 2000; omega, (fun r hr => by rw [List.mem_singleton] at hr; subst hr; exact Nat.zero_le _), (fun e => by cases e), Nat.le_refl _⟩, HR.out.b⟩
   ·match j, hj with
    | 0, hj =>
     simp at hj; subst hj; rw [Addr.add_lit]; exact ⟨hv.c 0, hv.c 1, hv.c 2, hv.c 3, hv.c 4, hv.c 5, hv.c 6, hv.c 7, hv.c 8⟩
   ·rw [List.mem_singleton] at hr; subst hr; exact ⟨Trf.Lns.nil, ins_row (xs := [10000]) k2 _ k2.lt, ins_row (xs := [10000, 10000, 10000, 10000, 10000, 10000, 10000, 10000]) k3 _ k3.lt⟩
   ·rw [List.mem_singleton] at hr; subst hr; exact ⟨by show 0 ≤ 3000; omega, by show 1 ≤ 3000; omega, by show 8 ≤ 3000; omega⟩
   ·match j, hj with
    | 0, hj =>
     simp at hj; subst hj; rw [Addr.add_lit]; exact ⟨k7.c 0, k7.c 1, k7.c 2, k7.c 3, k7.c 4, k7.c 5, k7.c 6, k7.c 7, k7.c 8⟩
   ·rw [List.mem_singleton] at hr; subst hr; exact Cvs.nil)
  have x0 := h4.c 0; have x1 := h4.c 1; have x2 := h4.c 2; have x3 := h4.c 3; have x4 := h4.c 4; have x5 := h4.c 5; have x6 := h4.c 6; have x7 := h4.c 7; have x8 := h4.c 8; have x9 := h4.c 9; have y0 := h5.c 0; simp at x0 x1 x2 x3 x4 x5 x6 x7 x8 x9 y0; have X := Lib.hid (And.intro x0 (And.intro x1 (And.intro x2 (And.intro x3 (And.intro x4 (And.intro x5 (And.intro x6 (And.intro x7 (And.intro x8 (And.intro x9 y0)))))))))); clear HR hL hgs hv h4 h5 key k2 k3 k5 k7 x0 x1 x2 x3 x4 x5 x6 x7 x8 x9 y0; dsimp only [Exit.then]; go_step; go_wp2; obtain ⟨x0, x1, x2, x3, x4, x5, x6, x7, x8, x9, y0⟩ := X.out; exact bodyPost_ret (v := .tuple #[hg (hrK (some ⟨w.heap.size + 1 + 1 + 1 + 1 + 1, 0, none⟩) (some ⟨w.heap.size + 1 + 1 + 1 + 1 + 1 + 1 + 1, 0, none⟩)), Trf.tg (some ⟨g, 0, none⟩) 1 1]) (by simp [results, Tryz.results26, go_sem, x0, x1, x2, x3, x4, x5, x6, x7, x8, x9, y0]) rfl G.out
end Slc
end Go.Proofs.YtbjnjeidgdmdiaaGreat

namespace Go.Proofs.YtbjnjeidgdmdiaaGreat
open Go.RowKit Ba Cv Sp Te Ag Tf Sl Tm
namespace Slc
set_option linter.unusedVariables false
abbrev hd2 : Hd := ⟨true, ri2, [co2]⟩
abbrev hd2F : Hd := ⟨false, ri2, [co2]⟩
abbrev yK : Int := (qf (Trf.tol 1 [kV]) ri2 [co2]).1
abbrev sl50 : List Sc := [⟨(1, 101), hd2, yK⟩]
abbrev sl60 : List Sc := [⟨(1, 41), hd2, yK⟩, ⟨(41, 101), hd2F, 0⟩]
abbrev hi0 : Hi := ⟨1, 1, (1, 101), ri2, [co2], []⟩
theorem ordK : Ag.Ord hiK.hs [0] := ⟨List.Perm.refl _, List.pairwise_singleton _ _⟩
theorem hldK (d : Int) : hld (ini hiK) (ordl hiK.hs [0]) d = if d < 41 then hd2 else hd2F := by
 show ((List.filter (fun c : Ch => decide (c.dy ≤ d)) [chK]).foldl don (ini hiK)) = _
 by_cases h1 : d < 41
 ·rw [if_pos h1, List.filter_cons_of_neg (by simp; omega)]; rfl
 ·rw [if_neg h1, List.filter_cons_of_pos (by simp; omega)]; rfl
theorem isK60 : OfIs hiK [kV] 0 sl60 := by
 have hb : bad (qf (Trf.tol hiK.s.1 [kV])) [((1, 41), hd2), ((41, 101), hd2F)] = 0 := by decide +kernel
 refine .some (by decide +kernel) (by decide +kernel) [0] [((1, 41), hd2), ((41, 101), hd2F)] ordK ⟨⟨rfl, by decide, rfl, by decide, rfl⟩, fun x hx d h1 h2 => ?_, fun i x y h0 h1 => ?_⟩ hb.symm ?_
 ·rw [hldK]; rcases List.mem_cons.1 hx with rfl | hx
  ·rw [if_pos h2]
  ·rw [List.mem_singleton] at hx; subst hx; have h1 : (41 : Int) ≤ d := h1; rw [if_neg (by omega)]
 ·match i, h0, h1 with
  | 0, h0, h1 => simp at h0 h1; subst h0 h1; decide +kernel
  | n + 1, h0, h1 => simp at h1
 ·rw [if_pos hb]; rfl
theorem isK0 : OfIs hi0 [kV] 0 sl50 := by
 have hb : bad (qf (Trf.tol hi0.s.1 [kV])) [((1, 101), hd2)] = 0 := by decide +kernel
 refine .some (by decide +kernel) (by decide +kernel) [] [((1, 101), hd2)] ⟨List.Perm.refl _, List.Pairwise.nil⟩ ⟨⟨rfl, by decide, rfl⟩, fun x hx d h1 h2 => ?_, fun i x y h0 h1 => ?_⟩ hb.symm ?_
 ·rw [List.mem_singleton] at hx; subst hx; rfl
 ·simp at h1
 ·rw [if_pos hb]; rfl
theorem slK50 : SlIs hiK [kV] 50 0 sl50 := .known (by decide) isK0
theorem slK59 : SlIs hiK [kV] 59 0 sl50 := .known (by decide) isK0
theorem slK60 : SlIs hiK [kV] 60 0 sl60 := .known (by decide) isK60
theorem hitK (d : Int) : hit [(41, 101)] d ↔ lk sl50 d ≠ lk sl60 d := by
 have R5 : Row 1 101 sl50 := slK50.row; have R6 : Row 1 101 sl60 := slK60.row; rw [hit_cons, inn_iff]; by_cases h1 : 1 ≤ d ∧ d < 101
 ·rw [R5.lk (i := 0) rfl h1.1 h1.2]; by_cases h2 : d < 41
  ·rw [R6.lk (i := 0) rfl h1.1 h2]; constructor
   ·rintro (h | h)
    ·have := h.2.2.1; omega
    ·exact absurd h (hit_nil d)
   ·intro h; exact absurd rfl h
  ·rw [R6.lk (i := 1) rfl (show (41 : Int) ≤ d by omega) h1.2]; constructor
   ·intro _ e; injection e with e
    have := congrArg (fun x : Hd × Int => x.1.on) e; exact absurd this (by decide)
   ·intro _; exact .inl ⟨by decide, by decide, by omega, h1.2⟩
 ·rw [R5.out h1, R6.out h1]; constructor
  ·rintro (h | h)
   ·have h2 := h.2.2.1; have h3 := h.2.2.2; omega
   ·exact absurd h (hit_nil d)
  ·intro h; exact absurd rfl h
theorem mvK1 : MvIs hiK [kV] 50 60 0 [(41, 101)] := .told _ _ slK50 slK60 rfl ⟨by decide, (fun y hy => by cases hy), trivial⟩ hitK
theorem mvK2 : MvIs hiK [kV] 60 50 0 [(41, 101)] := .told _ _ slK60 slK50 rfl ⟨by decide, (fun y hy => by cases hy), trivial⟩ fun d => (hitK d).trans ne_comm
theorem mvK3 : MvIs hiK [kV] 50 59 0 [] := .told _ _ slK50 slK59 rfl trivial fun d => ⟨fun h => absurd h (hit_nil d), fun h => absurd rfl h⟩
set_option maxRecDepth 100000 in
set_option maxHeartbeats 4000000 in
theorem alive13 (w : World) : Calls Tryz.prog 11 #[] w (Yes w true) := by
 go_enter Tryz.func11, Tryz.ntmps11
 go_wp2_with fail
 refine (plain13 w).mono ?_; rintro e w1 ⟨A, B, T, r, rfl, hr, hV, hM, hS, hb1⟩; obtain ⟨W, hW⟩ : ∃ W, (w1.alloc (.cells (hc (hrK A B)) 31)).alloc (.cells #[.slice T 1 1] 34) = W := ⟨_, rfl⟩; have H0 := Lib.hid (show O2 w1 W (hrK A B) T 1 1 by rw [← hW]; exact O2.start w1 _ T 1 1); have HW := Lib.hid hW; have HVS := Lib.hid (show [r].map Trf.Rw.v = [kV] by rw [List.map_singleton, hr]); have HV := Lib.hid hV; have HMM := Lib.hid hM; have HSS := Lib.hid hS; have HB1 := Lib.hid hb1; have C := fun a b (W : World) (H : Below w1.heap.size w1 W) => Lib.hid (kmoved (hrK A B) T 1 1 [r] a b W (HMM.out.below H) HSS.out (by show 1 ≤ 100; omega) (HV.out.below H) (by omega))
 have D := fun (W : World) (H : Below w1.heap.size w1 W) => Lib.hid (Kno.at_yes (hrK A B) 59 W (show (1 : Int) ≤ 59 by omega) (HMM.out.below H) HSS.out)
 have D0 := fun (W : World) => Lib.hid (Kno.at_no (hrK A B) 0 W (show (0 : Int) < 1 by omega))
 have E := fun b (W : World) (H : Below w1.heap.size w1 W) => Lib.hid (kslices (hrK A B) T 1 1 [r] b W (HMM.out.below H) HSS.out (by show 1 ≤ 100; omega) (HV.out.below H) (by omega))
 clear hr hV hM hS hb1 hW
 go_upto_region 2 with fail
 rw [HW.out]; clear HW; have x0 := H0.out.x.c 0; have x1 := H0.out.x.c 1; have x2 := H0.out.x.c 2; have x3 := H0.out.x.c 3; have x4 := H0.out.x.c 4; have x5 := H0.out.x.c 5; have x6 := H0.out.x.c 6; have x7 := H0.out.x.c 7; have x8 := H0.out.x.c 8; have x9 := H0.out.x.c 9; have y0 := H0.out.y.c 0; simp at x0 x1 x2 x3 x4 x5 x6 x7 x8 x9 y0
 go_wp2_with fail
 refine (C 50 60 W H0.out.b).out.mono ?_; rintro e w2 ⟨A2, n2, c2, zs2, cd2, rfl, hs, hn, hc, hi, hb⟩; have H2 := Lib.hid (H0.out.next hb); rw [HVS.out] at hi; obtain ⟨rfl, rfl⟩ := MvIs.one (h := hiK) hi mvK1; obtain rfl : n2 = 1 := hs.1.symm; have S2 := Lib.hid hs; clear hs hn hc hi hb H0 x0 x1 x2 x3 x4 x5 x6 x7 x8 x9 y0; have x0 := H2.out.x.c 0; have x1 := H2.out.x.c 1; have x2 := H2.out.x.c 2; have x3 := H2.out.x.c 3; have x4 := H2.out.x.c 4; have x5 := H2.out.x.c 5; have x6 := H2.out.x.c 6; have x7 := H2.out.x.c 7; have x8 := H2.out.x.c 8; have x9 := H2.out.x.c 9; have y0 := H2.out.y.c 0; simp at x0 x1 x2 x3 x4 x5 x6 x7 x8 x9 y0
 go_wp2_with fail
 refine (C 60 50 w2 H2.out.b).out.mono ?_; rintro e w3 ⟨A3, n3, c3, zs3, cd3, rfl, hs, hn, hc, hi, hb⟩; have H3 := Lib.hid (H2.out.next hb); rw [HVS.out] at hi; obtain ⟨rfl, rfl⟩ := MvIs.one (h := hiK) hi mvK2; obtain rfl : n3 = 1 := hs.1.symm; have S3 := Lib.hid hs; have S2' := Lib.hid (S2.out.below hb (Nat.le_refl _) |>.wide hb.size); clear S2; have S2 := S2'; clear S2'; clear hs hn hc hi hb H2 x0 x1 x2 x3 x4 x5 x6 x7 x8 x9 y0; have x0 := H3.out.x.c 0; have x1 := H3.out.x.c 1; have x2 := H3.out.x.c 2; have x3 := H3.out.x.c 3; have x4 := H3.out.x.c 4; have x5 := H3.out.x.c 5; have x6 := H3.out.x.c 6; have x7 := H3.out.x.c 7; have x8 := H3.out.x.c 8; have x9 := H3.out.x.c 9; have y0 := H3.out.y.c 0; simp at x0 x1 x2 x3 x4 x5 x6 x7 x8 x9 y0
 go_wp2_with fail
 refine (C 50 59 w3 H3.out.b).out.mono ?_; rintro e w4 ⟨A4, n4, c4, zs4, cd4, rfl, hs, hn, hc, hi, hb⟩; have H4 := Lib.hid (H3.out.next hb); rw [HVS.out] at hi; obtain ⟨rfl, rfl⟩ := MvIs.one (h := hiK) hi mvK3; obtain rfl : n4 = 0 := hs.1.symm; have S4 := Lib.hid hs; have S2' := Lib.hid (S2.out.below hb (Nat.le_refl _) |>.wide hb.size); clear S2; have S2 := S2'; clear S2'; have S3' := Lib.hid (S3.out.below hb (Nat.le_refl _) |>.wide hb.size); clear S3; have S3 := S3'; clear S3'; clear hs hn hc hi hb H3 x0 x1 x2 x3 x4 x5 x6 x7 x8 x9 y0; have x0 := H4.out.x.c 0; have x1 := H4.out.x.c 1; have x2 := H4.out.x.c 2; have x3 := H4.out.x.c 3; have x4 := H4.out.x.c 4; have x5 := H4.out.x.c 5; have x6 := H4.out.x.c 6; have x7 := H4.out.x.c 7; have x8 := H4.out.x.c 8; have x9 := H4.out.x.c 9; have y0 := H4.out.y.c 0; simp at x0 x1 x2 x3 x4 x5 x6 x7 x8 x9 y0
 go_wp2_with fail
 refine (D w4 H4.out.b).out.mono ?_; rintro e w5 ⟨k, rfl, hv, hM5, hS5, hk5, hb⟩; have H5 := Lib.hid (H4.out.next hb)
 have hk0 : k.m = 0 := by
  have h1 := hM5.len; rw [hv] at h1; exact h1.symm
 have HK0 := Lib.hid hk0; clear hk0; have S2' := Lib.hid (S2.out.below hb (Nat.le_refl _) |>.wide hb.size); have S3' := Lib.hid (S3.out.below hb (Nat.le_refl _) |>.wide hb.size); clear S2 S3 hb hM5 hS5 hk5 hv H4 x0 x1 x2 x3 x4 x5 x6 x7 x8 x9 y0; obtain ⟨W6, hW6⟩ : ∃ W6, w5.alloc (.cells (hc k) 31) = W6 := ⟨_, rfl⟩; have hb6 : Below w5.heap.size w5 W6 := hW6 ▸ alloc_ _ _; have HX6 := Lib.hid (show Bx W6 w5.heap.size 31 (hc k) from hW6 ▸ Bx.new w5 31 (hc k)); have H6 := Lib.hid (H5.out.next hb6); have S2 := Lib.hid (S2'.out.below hb6 (Nat.le_refl _) |>.wide hb6.size); have S3 := Lib.hid (S3'.out.below hb6 (Nat.le_refl _) |>.wide hb6.size); have HW6 := Lib.hid hW6; clear hW6 hb6 H5 S2' S3'
 go_upto_region 6 with fail
 rw [HW6.out]; clear HW6; have x0 := H6.out.x.c 0; have x1 := H6.out.x.c 1; have x2 := H6.out.x.c 2; have x3 := H6.out.x.c 3; have x4 := H6.out.x.c 4; have x5 := H6.out.x.c 5; have x6 := H6.out.x.c 6; have x7 := H6.out.x.c 7; have x8 := H6.out.x.c 8; have x9 := H6.out.x.c 9; have y0 := H6.out.y.c 0; simp at x0 x1 x2 x3 x4 x5 x6 x7 x8 x9 y0
 go_wp2_with fail
 refine (D0 W6).out.mono ?_; rintro e w7 ⟨rfl, hb⟩; have hb8 : Below W6.heap.size W6 (w7.alloc (.cells (hc zhr) 31)) := hb.alloc hb.size _; obtain ⟨W8, hW8⟩ : ∃ W8, w7.alloc (.cells (hc zhr) 31) = W8 := ⟨_, rfl⟩; rw [hW8] at hb8; have H8 := Lib.hid (H6.out.next hb8); have HX8 := Lib.hid (HX6.out.keep hb8); have S2' := Lib.hid (S2.out.below hb8 (Nat.le_refl _) |>.wide hb8.size); have S3' := Lib.hid (S3.out.below hb8 (Nat.le_refl _) |>.wide hb8.size); have HW8 := Lib.hid hW8; clear S2 S3 hb hb8 hW8 H6 x0 x1 x2 x3 x4 x5 x6 x7 x8 x9 y0 HX6
 go_upto_region 7 with fail
 try rw [HW8.out]
 clear HW8; have x0 := H8.out.x.c 0; have x1 := H8.out.x.c 1; have x2 := H8.out.x.c 2; have x3 := H8.out.x.c 3; have x4 := H8.out.x.c 4; have x5 := H8.out.x.c 5; have x6 := H8.out.x.c 6; have x7 := H8.out.x.c 7; have x8 := H8.out.x.c 8; have x9 := H8.out.x.c 9; have y0 := H8.out.y.c 0; simp at x0 x1 x2 x3 x4 x5 x6 x7 x8 x9 y0
 go_wp2_with fail
 refine (E 60 W8 H8.out.b).out.mono ?_; rintro e w9 ⟨A9, n9, c9, rs9, cd9, rfl, hs, hn, hc, hi, hb⟩; rw [HVS.out] at hi; obtain ⟨rfl, hmap⟩ := SlIs.one (h := hiK) hi slK60
 obtain rfl : n9 = 2 := by
  have h1 := hs.r.1; have h2 := congrArg List.length hmap; rw [List.length_map] at h2; simp at h2; omega
 have H9 := Lib.hid (H8.out.next hb); have HX9 := Lib.hid (HX8.out.keep hb); have S2 := Lib.hid (S2'.out.below hb (Nat.le_refl _) |>.wide hb.size); have S3 := Lib.hid (S3'.out.below hb (Nat.le_refl _) |>.wide hb.size); clear hs hn hc hi hmap hb S2' S3' HX8 H8 x0 x1 x2 x3 x4 x5 x6 x7 x8 x9 y0 C D D0 E; have hb10 := alloc_ w9 (.cells #[.int .i64 41, .int .i64 101] 23); have SN := Lib.hid (Spn.spans_new1 w9 41 101); have S2' := Lib.hid (S2.out.below hb10 (Nat.le_refl _) |>.wide hb10.size); have S3' := Lib.hid (S3.out.below hb10 (Nat.le_refl _) |>.wide hb10.size); have F1 := Lib.hid (Spn.same A2 (some ⟨w9.heap.size, 0, none⟩) 1 c2 1 _ _ [(41, 101)] _ S2'.out SN.out (by unfold maxLen; omega)); have HX10 := Lib.hid (HX9.out.keep hb10); have H10 := Lib.hid (H9.out.next hb10); clear hb10 S2 S3 SN H9 HX9
 go_wp2_with fail
 refine F1.out.mono ?_; rintro e w11 ⟨rfl, hb11⟩; have H11 := Lib.hid (H10.out.next hb11); have S2 := Lib.hid (S2'.out.below hb11 (Nat.le_refl _) |>.wide hb11.size); have S3 := Lib.hid (S3'.out.below hb11 (Nat.le_refl _) |>.wide hb11.size); have F2 := Lib.hid (Spn.same A3 A2 1 c3 c2 _ _ [(41, 101)] w11 S3.out S2.out (by unfold maxLen; omega)); have HX11 := Lib.hid (HX10.out.keep hb11); clear hb11 S2' S3' H10 HX10 F1
 go_wp2_with fail
 refine F2.out.mono ?_; rintro e w12 ⟨rfl, hb12⟩; have H12 := Lib.hid (H11.out.next hb12); have z9 := (HX11.out.keep hb12).c 9; simp at z9; rw [HK0.out] at z9; clear hb12 S2 S3 H11 HX11 F2; go_wp2; go_ret; exact ⟨rfl, HB1.out.trans (H12.out.b.mono HB1.out.size)⟩
end Slc
end Go.Proofs.YtbjnjeidgdmdiaaGreat
