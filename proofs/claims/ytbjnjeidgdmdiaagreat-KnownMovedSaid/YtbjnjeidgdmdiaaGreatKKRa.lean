/-
  The document's Alike. Conditions: the rows read as slices.
-/
import Derived.Test.YtbjnjeidgdmdiaaGreatMAt
import Derived.Test.YtbjnjeidgdmdiaaGreatMKb
import Derived.Test.YtbjnjeidgdmdiaaGreatMFw
namespace Go.Proofs.YtbjnjeidgdmdiaaGreat
open Go.RowKit Ba Cv Sp Te Ag Tf Sl Tm
namespace Slc
set_option linter.unusedVariables false
theorem lk_fnd (rs : List Rw) (d : Int) : lk (rs.map Rw.v) d = (fnd rs d).map fun x => (x.h, x.y) := rfl
theorem alike_eq (f g : Option Sc) : ((f.isSome == g.isSome) && decide ((⟨(0, 0), (f.getD zsc).h, (f.getD zsc).y⟩ : Sc) = ⟨(0, 0), (g.getD zsc).h, (g.getD zsc).y⟩)) = decide (f.map (fun x => (x.h, x.y)) = g.map fun x => (x.h, x.y)) := by
 cases f with
 | none =>
  cases g with
  | none => rfl
  | some y => rfl
 | some x =>
  cases g with
  | none => rfl
  | some y =>
   show (true && decide ((⟨(0, 0), x.h, x.y⟩ : Sc) = ⟨(0, 0), y.h, y.y⟩)) = decide (some (x.h, x.y) = some (y.h, y.y))
   rw [Bool.true_and, decide_eq_decide]; constructor
   ·intro e; injection e with _ e1 e2
    rw [e1, e2]
   ·intro e; injection e with e
    injection e with e1 e2
    rw [e1, e2]
theorem cvs_not_box {w : World} {ok : Nat → Prop} {A : Option Addr} {n g : Nat} {cs : List Co} {r : Rw} (h : Cvs w ok A n cs) (X : Bx w g 73 (vc r)) : Cvs w (fun b => ok b ∧ b ≠ g) A n cs := by
 refine ⟨h.1, fun hn => ?_⟩; obtain ⟨ad, e, hb, hc⟩ := h.2 hn; refine ⟨ad, e, ⟨hb, fun eg => ?_⟩, hc⟩; have hl : 0 < cs.length := by have := h.1; omega
 have F := hc 0 cs[0] (List.getElem?_eq_getElem hl); obtain ⟨b, o, sp⟩ := ad; simp only at eg; subst eg; have f0 : w.cell? ⟨b, o, sp⟩ = _ := F.c0; have f1 : w.cell? ⟨b, o + 1, none⟩ = _ := F.c1; have f2 : w.cell? ⟨b, o + 2, none⟩ = _ := F.c2; have f3 : w.cell? ⟨b, o + 3, none⟩ = _ := F.c3; have f4 : w.cell? ⟨b, o + 4, none⟩ = _ := F.c4; cases sp with
 | some q =>
  unfold Bx at X; unfold World.cell? at f0; rw [X] at f0; simp at f0
 | none =>
  rw [X.c] at f0 f1 f2 f3 f4
  match o, f0, f1, f2, f3, f4 with
  | 0, _, _, f2, _, _ => simp at f2
  | 1, _, f1, _, _, _ => simp at f1
  | 2, f0, _, _, _, _ => simp at f0
  | 3, _, _, _, _, f4 => simp at f4
  | 4, _, _, _, f3, _ => simp at f3
  | 5, _, _, f2, _, _ => simp at f2
  | 6, _, f1, _, _, _ => simp at f1
  | 7, f0, _, _, _, _ => simp at f0
  | 8, _, f1, _, _, _ => simp at f1
  | o + 9, f0, _, _, _, _ => simp at f0
theorem Gd.onto {w : World} {g : Nat} {r q : Rw} (h : Gd w r) (X : Bx w g 73 (vc q)) (u v : Value) : Gd ((w.setCell ⟨g, 0, none⟩ u).setCell ⟨g, 1, none⟩ v) r :=
 ⟨(cvs_not_box h.c X).keep (fun p hp => (World.cell?_of_block (Below.heap_setCell _ _ _ _ hp.2)).trans (World.cell?_of_block (Below.heap_setCell _ _ _ _ hp.2))) fun b hb => by rw [World.size_setCell, World.size_setCell]; exact hb.1, h.n⟩
set_option maxRecDepth 100000 in
set_option maxHeartbeats 4000000 in
theorem ralike (A A2 : Option Addr) (n n2 c c2 : Nat) (rs qs : List Rw) (d : Int) (w : World) (S : Sls w A n rs) (S2 : Sls w A2 n2 qs) (hn : n ≤ 100000) (hn2 : n2 ≤ 100000) : Calls Tryz.prog 22 #[.slice A n c, .slice A2 n2 c2, .int .i64 d] w (Yes w (decide (lk (rs.map Rw.v) d = lk (qs.map Rw.v) d))) := by
 rw [lk_fnd, lk_fnd, ← alike_eq]; obtain ⟨z, hz⟩ : ∃ z, ((fnd rs d).isSome == (fnd qs d).isSome && decide ((⟨(0, 0), ((fnd rs d).getD zsc).h, ((fnd rs d).getD zsc).y⟩ : Sc) = ⟨(0, 0), ((fnd qs d).getD zsc).h, ((fnd qs d).getD zsc).y⟩)) = z := ⟨_, rfl⟩; rw [hz]; have HZ := Lib.hid hz; clear hz; have HS2 := Lib.hid S2; have C := Lib.hid (rat_ A n c rs d w S hn); clear S S2; go_enter Tryz.func22, Tryz.ntmps22
 go_wp2_with fail
 refine C.out.mono ?_; rintro e w1 ⟨r1, rfl, hr1, hg1, hb1⟩; have HLO := Lib.hid hb1.size; have HR1 := Lib.hid hr1; obtain ⟨W2, hW2⟩ : ∃ W2, w1.alloc (.cells (vc r1) 73) = W2 := ⟨_, rfl⟩; have hb2 : Below w1.heap.size w1 W2 := hW2 ▸ alloc_ _ _; have HX2 := Lib.hid (show Bx W2 w1.heap.size 73 (vc r1) from hW2 ▸ Bx.new w1 73 (vc r1)); have HG2 := Lib.hid (hg1.below hb2); have HB2 := Lib.hid (hb1.trans (hb2.mono hb1.size)); have HW2 := Lib.hid hW2; obtain ⟨f1, hf1⟩ : ∃ f1, fnd rs d = f1 := ⟨_, rfl⟩; rw [hf1] at HR1 HZ ⊢; clear hb1 hr1 hg1 hW2 hb2 C
 go_upto_region 2 with fail
 rw [HW2.out]; clear HW2; have C := Lib.hid (rat_ A2 n2 c2 qs d W2 (HS2.out.below HB2.out) hn2)
 go_wp2_with fail
 refine C.out.mono ?_; rintro e w3 ⟨r3, rfl, hr3, hg3, hb3⟩; have HR3 := Lib.hid hr3; obtain ⟨W4, hW4⟩ : ∃ W4, w3.alloc (.cells (vc r3) 73) = W4 := ⟨_, rfl⟩; have hb4 : Below w3.heap.size w3 W4 := hW4 ▸ alloc_ _ _; have HX4 := Lib.hid ((HX2.out.keep hb3).keep hb4); have HY4 := Lib.hid (show Bx W4 w3.heap.size 73 (vc r3) from hW4 ▸ Bx.new w3 73 (vc r3)); have HG4 := Lib.hid ((HG2.out.below hb3).below hb4); have HK4 := Lib.hid (hg3.below hb4); have HB4 := Lib.hid (HB2.out.trans ((hb3.trans (hb4.mono hb3.size)).mono HB2.out.size)); have hne : w1.heap.size < w3.heap.size := (HX2.out.keep hb3).lt; have HNE := Lib.hid hne; have HW4 := Lib.hid hW4; clear hr3 hg3 hb3 hb4 hW4 C HB2 HG2 HX2 hne
 go_upto_region 3 with fail
 rw [HW4.out]; clear HW4; obtain ⟨W5, hW5⟩ : ∃ W5, (W4.setCell ⟨w1.heap.size, 0, none⟩ (.int .i64 0)).setCell ⟨w1.heap.size, 1, none⟩ (.int .i64 0) = W5 := ⟨_, rfl⟩; have HX5 := Lib.hid (show Bx W5 w1.heap.size 73 (vc (onto zr r1)) by rw [← hW5]; exact (HX4.out.set 0 _).set 1 _); have HY5 := Lib.hid (show Bx W5 w3.heap.size 73 (vc r3) by rw [← hW5]; exact (HY4.out.far (a := ⟨w1.heap.size, 0, none⟩) (by have := HNE.out; show w3.heap.size ≠ w1.heap.size; omega) _).far (a := ⟨w1.heap.size, 1, none⟩) (by have := HNE.out; show w3.heap.size ≠ w1.heap.size; omega) _); have HB5 := Lib.hid (show Below w.heap.size w W5 by rw [← hW5]; exact (HB4.out.setCell (p := ⟨w1.heap.size, 0, none⟩) HLO.out _).setCell (p := ⟨w1.heap.size, 1, none⟩) HLO.out _); have HG5 := Lib.hid (show Gd W5 r1 by rw [← hW5]; exact HG4.out.onto HX4.out _ _); have HK5 := Lib.hid (show Gd W5 r3 by rw [← hW5]; exact HK4.out.onto HX4.out _ _); have HW5 := Lib.hid hW5; clear hW5; have x0 := HX4.out.c 0; have x1 := HX4.out.c 1; simp at x0 x1; have fx := HX4.out.f
 go_upto_region 4 with fail
 rw [HW5.out]; clear HW5 x0 x1 fx HX4 HY4 HG4 HK4; obtain ⟨W6, hW6⟩ : ∃ W6, (W5.setCell ⟨w3.heap.size, 0, none⟩ (.int .i64 0)).setCell ⟨w3.heap.size, 1, none⟩ (.int .i64 0) = W6 := ⟨_, rfl⟩; have HX6 := Lib.hid (show Bx W6 w1.heap.size 73 (vc (onto zr r1)) by rw [← hW6]; exact (HX5.out.far (a := ⟨w3.heap.size, 0, none⟩) (by have := HNE.out; show w1.heap.size ≠ w3.heap.size; omega) _).far (a := ⟨w3.heap.size, 1, none⟩) (by have := HNE.out; show w1.heap.size ≠ w3.heap.size; omega) _); have HY6 := Lib.hid (show Bx W6 w3.heap.size 73 (vc (onto zr r3)) by rw [← hW6]; exact (HY5.out.set 0 _).set 1 _); have hl3 : w.heap.size ≤ w3.heap.size := by have := HLO.out; have := HNE.out; omega
 have HB6 := Lib.hid (show Below w.heap.size w W6 by rw [← hW6]; exact (HB5.out.setCell (p := ⟨w3.heap.size, 0, none⟩) hl3 _).setCell (p := ⟨w3.heap.size, 1, none⟩) hl3 _); have HG6 := Lib.hid (show Gd W6 r1 by rw [← hW6]; exact HG5.out.onto HY5.out _ _); have HK6 := Lib.hid (show Gd W6 r3 by rw [← hW6]; exact HK5.out.onto HY5.out _ _); have HW6 := Lib.hid hW6; clear hW6 hl3; have x0 := HY5.out.c 0; have x1 := HY5.out.c 1; simp at x0 x1; have fx := HY5.out.f
 go_upto_region 5 with fail
 rw [HW6.out]; clear HW6 x0 x1 fx HX5 HY5 HG5 HK5; have x0 := HX6.out.c 0; have x1 := HX6.out.c 1; have x2 := HX6.out.c 2; have x3 := HX6.out.c 3; have x4 := HX6.out.c 4; have x5 := HX6.out.c 5; have x6 := HX6.out.c 6; have x7 := HX6.out.c 7; have x8 := HX6.out.c 8; simp at x0 x1 x2 x3 x4 x5 x6 x7 x8; have y0 := HY6.out.c 0; have y1 := HY6.out.c 1; have y2 := HY6.out.c 2; have y3 := HY6.out.c 3; have y4 := HY6.out.c 4; have y5 := HY6.out.c 5; have y6 := HY6.out.c 6; have y7 := HY6.out.c 7; have y8 := HY6.out.c 8; simp at y0 y1 y2 y3 y4 y5 y6 y7 y8; obtain ⟨f2, hf2⟩ : ∃ f2, fnd qs d = f2 := ⟨_, rfl⟩; rw [hf2] at HR3 HZ ⊢; obtain ⟨b1, hb1⟩ : ∃ b1, f1.isSome = b1 := ⟨_, rfl⟩; obtain ⟨b2, hb2⟩ : ∃ b2, f2.isSome = b2 := ⟨_, rfl⟩; have CS := Lib.hid (rsame_ (onto zr r1) (onto zr r3) W6 ⟨HG6.out.c, HG6.out.n⟩ ⟨HK6.out.c, HK6.out.n⟩); obtain ⟨q, hq⟩ : ∃ q, decide ((onto zr r1).v = (onto zr r3).v) = q := ⟨_, rfl⟩; rw [hq] at CS; have HQ := Lib.hid (show decide ((⟨(0, 0), (f1.getD zsc).h, (f1.getD zsc).y⟩ : Sc) = ⟨(0, 0), (f2.getD zsc).h, (f2.getD zsc).y⟩) = q by rw [← HR1.out, ← HR3.out]; exact hq); rw [hb1, hb2, HQ.out] at HZ; rw [hb1, hb2]; clear hb1 hb2 hf1 hf2 hq HQ HR1 HR3; cases b1 <;> cases b2 <;> simp at HZ
 case false.false =>
  go_wp2_with fail
  refine CS.out.mono ?_; rintro e w7 ⟨rfl, hb7⟩; have HB7 := Lib.hid (HB6.out.trans (hb7.mono HB6.out.size)); clear hb7 CS; go_wp2; go_ret; exact ⟨by have hz := HZ.out; subst hz; rfl, HB7.out⟩
 case true.true =>
  go_wp2_with fail
  refine CS.out.mono ?_; rintro e w7 ⟨rfl, hb7⟩; have HB7 := Lib.hid (HB6.out.trans (hb7.mono HB6.out.size)); clear hb7 CS; go_wp2; go_ret; exact ⟨by have hz := HZ.out; subst hz; rfl, HB7.out⟩
 all_goals
  go_wp2; go_ret; exact ⟨by have hz := HZ.out; subst hz; rfl, HB6.out⟩
end Slc
end Go.Proofs.YtbjnjeidgdmdiaaGreat
