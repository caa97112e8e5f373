/-
  The parts Own12, At12 of this proof. Conditions: those of each theorem.
-/
import Derived.Test.YtplenoaajokpjaaGreatMAl
namespace Go.Proofs.YtplenoaajokpjaaGreat
open Go.RowKit Ba Cv Sp Te Ag Sl Tm
namespace Slc
set_option linter.unusedVariables false
def CopiesC (w : World) (m : Nat) (xs : List Co) (e : Ending) (w' : World) : Prop := ∃ A c, e = .returned (.slice A m c) ∧ COwn w' w.heap.size A m c xs ∧ Below w.heap.size w w'
set_option maxHeartbeats 1000000 in
theorem clone_covers (L : Option Addr) (m c : Nat) (xs : List Co) (ok : Nat → Prop) (w : World) (hS : Cvs w ok L m xs) (hok : ∀ b, ok b → b < w.heap.size) (hn : m ≤ 3000) :
  Calls Tryz.prog 32 #[.slice L m c] w (CopiesC w m xs) := by
 cases L with
 | none =>
  obtain rfl : m = 0 := hS.noroom; have hx : xs = [] := List.eq_nil_of_length_eq_zero hS.1; subst hx; clear hS; have q : ∀ (w : World) (a : Option Addr) (n c n' c' : Nat), (binOp .eql 30 (.slice a n c) (.slice none n' c')).run Tryz.prog w = .ok (.bool a.isNone) w := fun w a n c n' c' => Lib.run_eql_slice_nil w _ _ a n c n' c' Tryz.underlying30
  go_enter Tryz.func32, Tryz.ntmps32; go_wp2; go_ret; exact ⟨none, 0, rfl, COwn.nil, Below.refl _ _⟩
 | some ad =>
  have HS := Lib.hid hS; have HK := Lib.hid hok; clear hS hok; have q : ∀ (w : World) (a : Option Addr) (n c n' c' : Nat), (binOp .eql 30 (.slice a n c) (.slice none n' c')).run Tryz.prog w = .ok (.bool a.isNone) w := fun w a n c n' c' => Lib.run_eql_slice_nil w _ _ a n c n' c' Tryz.underlying30
  go_enter Tryz.func32, Tryz.ntmps32
  go_wp2_with (at_builtin; refine wpList_app_c _ rfl (.tmp 5) (.tmp 6) rfl w.heap.size (some ⟨w.heap.size, 0, none⟩) 0 0 [] rfl (COwn.made w) ok (some ad) m c xs rfl (HS.out.keep (ok' := ok) (fun p hp => (alloc_ w _).cell (HK.out _ hp)) fun _ h => h) (fun e => by cases e) m (Nat.zero_add m) (by omega) (by simp) ?_; intro A2 c2 w2 hO2 hg2; have HO2 := Lib.hid hO2; have HG2 := Lib.hid hg2; clear hO2 hg2)
  go_wp2; go_ret; refine ⟨A2, c2, rfl, by have := HO2.out; rwa [List.nil_append] at this, ((Below.refl _ _).alloc (Nat.le_refl _) _).grown HG2.out (by simp) (fun j hj => ?_)⟩; simp [Value.ownBlock] at hj; omega
def cov (w : World) (b : Nat) : Prop := ∃ xs q, w.heap[b]? = some (.cells xs 41 q)
theorem cov_keep {w w' : World} {b : Nat} (h : cov w b) (e : w'.heap[b]? = w.heap[b]?) : cov w' b := by
 obtain ⟨xs, q, h⟩ := h; exact ⟨xs, q, e.trans h⟩
theorem cown_cov {w : World} {base n c : Nat} {A : Option Addr} {xs : List Co} (h : COwn w base A n c xs) : Cvs w (fun b => (base ≤ b ∧ b < w.heap.size) ∧ cov w b) A n xs := by
 refine ⟨h.row.1, fun hn => ?_⟩; obtain ⟨ad, e, hb, hc⟩ := h.row.2 hn; rcases h.2 with ⟨_, h0⟩ | ⟨g, cap, cur, e', hb', hh, _⟩
 ·omega
 ·injection e' with e1 e2 e3
  rw [e] at e1; injection e1 with e1
  subst e1; exact ⟨_, e, ⟨hb, cur, _, hh⟩, hc⟩
def OwnS (w : World) (r : Rw) (e : Ending) (w' : World) : Prop := ∃ A c, e = .returned (vg ⟨r.v, A, r.n, c⟩) ∧ Cvs w' (fun b => (w.heap.size + 2 ≤ b ∧ b < w'.heap.size) ∧ cov w' b) A r.n r.v.h.cs ∧ Below w.heap.size w w'
set_option maxRecDepth 100000 in
set_option maxHeartbeats 4000000 in
theorem own_ (r : Rw) (w : World) (ok : Nat → Prop) (hc : Cvs w ok r.A r.n r.v.h.cs) (hok : ∀ b, ok b → b < w.heap.size) (hn : r.n ≤ 3000) : Calls Tryz.prog 36 #[vg r] w (OwnS w r) := by
 obtain ⟨W, hW⟩ : ∃ W, (w.alloc (.cells (vc r) 60)).alloc (.cells zc 60) = W := ⟨_, rfl⟩; have H0 := Lib.hid (show Two (vc r) zc w W by rw [← hW]; exact Two.start _ _ w); have HW := Lib.hid hW; clear hW; have C := Lib.hid (clone_covers r.A r.n r.c r.v.h.cs ok W (hc.keep (fun p hp => H0.out.b.cell (hok _ hp)) fun _ h => h) (fun b hb => Nat.lt_of_lt_of_le (hok b hb) H0.out.b.size) hn); clear hc hok hn; have x0 := H0.out.x.c 0; have x1 := H0.out.x.c 1; have x2 := H0.out.x.c 2; have x3 := H0.out.x.c 3; have x4 := H0.out.x.c 4; have x5 := H0.out.x.c 5; have x6 := H0.out.x.c 6; have x7 := H0.out.x.c 7; have x8 := H0.out.x.c 8; simp at x0 x1 x2 x3 x4 x5 x6 x7 x8; go_enter Tryz.func36, Tryz.ntmps36
 go_wp2_with fail
 rw [HW.out]; clear HW
 go_wp2_with fail
 refine C.out.mono ?_; rintro e w1 ⟨A1, c1, rfl, hO1, hb1⟩; have H1 := Lib.hid (H0.out.next hb1); have HC := Lib.hid (cown_cov hO1); have HS := Lib.hid (show w.heap.size + 2 ≤ W.heap.size from H0.out.y.lt); clear hO1 hb1 C x0 x1 x2 x3 x4 x5 x6 x7 x8; have x0 := H1.out.x.c 0; have x1 := H1.out.x.c 1; have x2 := H1.out.x.c 2; have x3 := H1.out.x.c 3; have x4 := H1.out.x.c 4; have x5 := H1.out.x.c 5; have x6 := H1.out.x.c 6; have x7 := H1.out.x.c 7; have x8 := H1.out.x.c 8; simp at x0 x1 x2 x3 x4 x5 x6 x7 x8; have y0 := H1.out.y.c 0; have y1 := H1.out.y.c 1; have y2 := H1.out.y.c 2; have y3 := H1.out.y.c 3; have y4 := H1.out.y.c 4; have y5 := H1.out.y.c 5; have y6 := H1.out.y.c 6; have y7 := H1.out.y.c 7; have y8 := H1.out.y.c 8; simp at y0 y1 y2 y3 y4 y5 y6 y7 y8; have fx := H1.out.x.f; have fy := H1.out.y.f; go_wp2; clear x0 x1 x2 x3 x4 x5 x6 x7 x8 y0 y1 y2 y3 y4 y5 y6 y7 y8 fx fy; change bodyPost _ _ _ _ _ (sets (w.heap.size + 1) 0 [.int .i64 r.v.s.1, .int .i64 r.v.s.2, .bool r.v.h.on, .int .i64 r.v.h.r.k, .int .i64 r.v.h.r.v, .int .i64 r.v.h.r.a, .int .i64 r.v.h.r.z, .slice A1 r.n c1, .int .i64 r.v.y] (w1.setCell ⟨w.heap.size, 7, none⟩ (.slice A1 r.n c1))); obtain ⟨W1, hW1⟩ : ∃ W1, w1.setCell ⟨w.heap.size, 7, none⟩ (.slice A1 r.n c1) = W1 := ⟨_, rfl⟩; have hy : Bx W1 (w.heap.size + 1) 60 zc := by rw [← hW1]; exact H1.out.y.far (by simp) _
 have hb : Below w.heap.size w W1 := by rw [← hW1]; exact H1.out.b.setCell (p := ⟨w.heap.size, 7, none⟩) (Nat.le_refl _) _
 have hc : Cvs W1 (fun b => (w.heap.size + 2 ≤ b ∧ b < W1.heap.size) ∧ cov W1 b) A1 r.n r.v.h.cs := by
  rw [← hW1]; refine HC.out.keep (fun p hp => World.cell?_setCell_other _ _ _ _ fun e => ?_) fun b hb => ⟨⟨Nat.le_trans HS.out hb.1.1, by rw [World.size_setCell]; exact hb.1.2⟩, cov_keep hb.2 (Below.heap_setCell _ _ _ _ fun e => by have := HS.out; have := hb.1.1; simp only at e; omega)⟩
  have := HS.out; rw [← e] at hp; simp only at hp; omega
 rw [hW1]; have hx := hy.sets [.int .i64 r.v.s.1, .int .i64 r.v.s.2, .bool r.v.h.on, .int .i64 r.v.h.r.k, .int .i64 r.v.h.r.v, .int .i64 r.v.h.r.a, .int .i64 r.v.h.r.z, .slice A1 r.n c1, .int .i64 r.v.y] 0; rw [setl9] at hx; refine bodyPost_ret (v := vg ⟨r.v, A1, r.n, c1⟩) ?res rfl ⟨A1, c1, rfl, hc.keep (fun p hp => sets_other _ (by omega) 0 W1) (fun b hb => ⟨⟨hb.1.1, by rw [sets_size]; exact hb.1.2⟩, cov_keep hb.2 (sets_heap _ (by omega) 0 W1)⟩), sets_below _ (by omega) 0 W1 hb⟩
 case res =>
  have x0 := hx.c 0; have x1 := hx.c 1; have x2 := hx.c 2; have x3 := hx.c 3; have x4 := hx.c 4; have x5 := hx.c 5; have x6 := hx.c 6; have x7 := hx.c 7; have x8 := hx.c 8; simp at x0 x1 x2 x3 x4 x5 x6 x7 x8; simp [results, Tryz.results36, go_sem, x0, x1, x2, x3, x4, x5, x6, x7, x8]
set_option maxRecDepth 100000 in
set_option maxHeartbeats 4000000 in
theorem like_ (a b : Rw) (w : World) (ga : Gd w a) (gb : Gd w b) : Calls Tryz.prog 55 #[vg a, vg b] w (Yes w (decide (a.v.h = b.v.h))) := by
 obtain ⟨W, hW⟩ : ∃ W, (w.alloc (.cells (vc a) 60)).alloc (.cells (vc b) 60) = W := ⟨_, rfl⟩; have H0 := Lib.hid (show Two (vc a) (vc b) w W by rw [← hW]; exact Two.start _ _ w); have HW := Lib.hid hW; clear hW; have C := Lib.hid (rsame_covers a.A b.A a.n b.n a.c b.c a.v.h.cs b.v.h.cs W _ _ (ga.c.below H0.out.b) (gb.c.below H0.out.b) ga.n gb.n); rw [hd_eq]; have q0 := fun w => Lib.hid (run_risk a.v.h.r b.v.h.r w)
 clear ga gb; obtain ⟨B2, hB2⟩ : ∃ B2, decide (a.v.h.cs = b.v.h.cs) = B2 := ⟨_, rfl⟩; rw [hB2] at C ⊢; clear hB2; have e1 : decide (a.v.h.on = b.v.h.on ∧ a.v.h.r = b.v.h.r) = (a.v.h.on == b.v.h.on && decide (a.v.h.r = b.v.h.r)) := by rw [Bool.eq_iff_iff]; simp
 rw [e1]; clear e1; obtain ⟨B1, hB1⟩ : ∃ B1, decide (a.v.h.r = b.v.h.r) = B1 := ⟨_, rfl⟩; rw [hB1] at q0 ⊢; clear hB1; obtain ⟨B0, hB0⟩ : ∃ B0, (a.v.h.on == b.v.h.on) = B0 := ⟨_, rfl⟩; rw [hB0]; have q : ∀ w : World, (Op.equalIn 10000 29 (rg a.v.h.r) (rg b.v.h.r)).run Tryz.prog w = .ok B1 w := fun w => (q0 w).out
 clear q0; have x0 := H0.out.x.c 0; have x1 := H0.out.x.c 1; have x2 := H0.out.x.c 2; have x3 := H0.out.x.c 3; have x4 := H0.out.x.c 4; have x5 := H0.out.x.c 5; have x6 := H0.out.x.c 6; have x7 := H0.out.x.c 7; have x8 := H0.out.x.c 8; simp at x0 x1 x2 x3 x4 x5 x6 x7 x8; have y0 := H0.out.y.c 0; have y1 := H0.out.y.c 1; have y2 := H0.out.y.c 2; have y3 := H0.out.y.c 3; have y4 := H0.out.y.c 4; have y5 := H0.out.y.c 5; have y6 := H0.out.y.c 6; have y7 := H0.out.y.c 7; have y8 := H0.out.y.c 8; simp at y0 y1 y2 y3 y4 y5 y6 y7 y8; go_enter Tryz.func55, Tryz.ntmps55
 go_wp2_with fail
 rw [HW.out]
 go_wp2_with fail
 refine C.out.mono ?_; rintro e w1 ⟨rfl, hb1⟩; have H1 := Lib.hid (H0.out.next hb1); clear hb1 C H0 HW x0 x1 x2 x3 x4 x5 x6 x7 x8 y0 y1 y2 y3 y4 y5 y6 y7 y8; have x0 := H1.out.x.c 0; have x1 := H1.out.x.c 1; have x2 := H1.out.x.c 2; have x3 := H1.out.x.c 3; have x4 := H1.out.x.c 4; have x5 := H1.out.x.c 5; have x6 := H1.out.x.c 6; have x7 := H1.out.x.c 7; have x8 := H1.out.x.c 8; simp at x0 x1 x2 x3 x4 x5 x6 x7 x8; have y0 := H1.out.y.c 0; have y1 := H1.out.y.c 1; have y2 := H1.out.y.c 2; have y3 := H1.out.y.c 3; have y4 := H1.out.y.c 4; have y5 := H1.out.y.c 5; have y6 := H1.out.y.c 6; have y7 := H1.out.y.c 7; have y8 := H1.out.y.c 8; simp at y0 y1 y2 y3 y4 y5 y6 y7 y8; cases B0 <;> cases B1 <;> cases B2 <;> (go_wp2; go_ret; exact ⟨rfl, H1.out.b⟩)
end Slc
end Go.Proofs.YtplenoaajokpjaaGreat

namespace Go.Proofs.YtplenoaajokpjaaGreat
open Go.RowKit Ba Cv Sp Te Ag Sl Tm
namespace Slc
set_option linter.unusedVariables false
structure Sls (w : World) (A : Option Addr) (n : Nat) (rs : List Rw) : Prop where
 r : Raws w (· < w.heap.size) A n rs
 g : ∀ r ∈ rs, Gd w r
theorem Sls.below {w W : World} {A : Option Addr} {n : Nat} {rs : List Rw} (S : Sls w A n rs) (hb : Below w.heap.size w W) : Sls W A n rs := ⟨S.r.below hb, fun r hr => (S.g r hr).below hb⟩
theorem Sls.nil {w : World} {A : Option Addr} : Sls w A 0 [] := ⟨Raws.nil, fun r hr => by cases hr⟩
def fnd (rs : List Rw) (d : Int) : Option Sc := (rs.map Rw.v).find? fun x => inn x.s d
theorem fnd_step {rs : List Rw} {k : Nat} {r : Rw} {d : Int} (hr : rs[k]? = some r) : fnd (rs.drop k) d = if inn r.v.s d = true then some r.v else fnd (rs.drop (k + 1)) d := by
 have hl := (List.getElem?_eq_some_iff.1 hr).1; rw [drop_get hr]; unfold fnd; rw [List.map_cons, List.find?_cons]; split <;> simp_all
theorem fnd_end {rs : List Rw} {k : Nat} {d : Int} (h : rs.length ≤ k) : fnd (rs.drop k) d = none := by rw [List.drop_of_length_le h]; rfl
def AtTo (w : World) (f : Option Sc) (e : Ending) (w' : World) : Prop := ∃ r : Rw, e = .returned (.tuple #[vg r, .bool f.isSome]) ∧ r.v = f.getD zsc ∧ Gd w' r ∧ Below w.heap.size w w'
theorem zr_good (w : World) : Gd w zr := ⟨Cvs.nil, Nat.zero_le _⟩
set_option maxRecDepth 100000 in
set_option maxHeartbeats 4000000 in
theorem at_ (A : Option Addr) (n c : Nat) (rs : List Rw) (d : Int) (w : World) (S : Sls w A n rs) (hn : n ≤ 100000) : Calls Tryz.prog 20 #[.slice A n c, .int .i64 d] w (AtTo w (fnd rs d)) := by
 have C := fun (r : Rw) W => Lib.hid (span_in r.v.s d W)
 have HS := Lib.hid S; obtain ⟨W, hW⟩ : ∃ W, w.alloc (.cells zc 60) = W := ⟨_, rfl⟩; have HB := Lib.hid (show Below w.heap.size w W by rw [← hW]; exact alloc_ _ _); have HX := Lib.hid (show Bx W w.heap.size 60 zc by rw [← hW]; exact Bx.new _ _ _); have HW := Lib.hid hW; have e0 := show fnd (rs.drop 0) d = fnd rs d by rw [List.drop_zero]
 clear S hW; go_enter Tryz.func20, Tryz.ntmps20
 go_wp2_with fail
 rw [HW.out]; go_wp2
 go_loopw [10] (fun i w' => ∃ (k : Nat) (W1 : World), k ≤ n ∧ i = .int .i64 (k : Int) ∧ W1 = w' ∧ Hid (Below W.heap.size W W1) ∧ Hid (fnd (rs.drop k) d = fnd rs d)) (fun i _ => n - (intOf i).toNat)
 case atStart => exact ⟨0, _, Nat.zero_le _, rfl, rfl, Lib.hid (Below.refl _ _), Lib.hid e0⟩
 case round =>
  obtain ⟨k, W1, hk, rfl, rfl, HK, HF⟩ := hrel; have BW := Lib.hid (HB.out.trans (HK.out.mono HB.out.size)); by_cases hlt : k < n
  ·obtain ⟨ad, r, rfl, hb, hr, N⟩ := ((HS.out.r.below BW.out)).get hlt; have hlt2 : (k : Int) < (n : Int) := by omega
   have HF2 := Lib.hid (fnd_step (d := d) hr); have HG := Lib.hid ((HS.out.g r (List.mem_of_getElem? hr)).below BW.out); have Cr := fun W => C r W
   obtain ⟨c0, c1, c2, c3, c4, c5, c6, c7, c8⟩ := N; clear hr hb C e0
   go_wp2_with fail
   refine (Cr _).out.mono ?_; rintro e w2 ⟨rfl, hb2⟩; clear c0 c1 c2 c3 c4 c5 c6 c7 c8; have HB2 := Lib.hid (HK.out.trans (((alloc_ _ _).trans (hb2.mono (by simp))).mono HK.out.size)); have HX2 := Lib.hid (show Bx w2 W1.heap.size 60 (vc r) from (Bx.new W1 60 (vc r)).keep hb2); have HG2 := Lib.hid (HG.out.below ((alloc_ W1 (.cells (vc r) 60)).trans (hb2.mono (by simp)))); clear hb2 Cr; cases hi : inn r.v.s d
   ·have HF3 := Lib.hid (show fnd (rs.drop (k + 1)) d = fnd rs d by rw [← HF.out, HF2.out, if_neg (by rw [hi]; decide)]); go_wp2; go_roundw
    case rel => exact ⟨k + 1, _, by omega, by go_num, rfl, HB2, HF3⟩
    case measure => simp [intOf]; omega
   ·have HF3 := Lib.hid (show fnd rs d = some r.v by rw [← HF.out, HF2.out, if_pos hi]); have O := Lib.hid (own_ r w2 _ HG2.out.c (fun b h => h) HG2.out.n); have x0 := HX2.out.c 0; have x1 := HX2.out.c 1; have x2 := HX2.out.c 2; have x3 := HX2.out.c 3; have x4 := HX2.out.c 4; have x5 := HX2.out.c 5; have x6 := HX2.out.c 6; have x7 := HX2.out.c 7; have x8 := HX2.out.c 8; simp at x0 x1 x2 x3 x4 x5 x6 x7 x8
    go_wp2_with fail
    refine O.out.mono ?_; rintro e w3 ⟨A3, c3, rfl, hc3, hb3⟩; have HB3 := Lib.hid (HB2.out.trans (hb3.mono HB2.out.size)); have HC3 := Lib.hid hc3; have HX3 := Lib.hid (HX.out.below HB3.out HX.out.lt); have HL := Lib.hid (show w.heap.size < w2.heap.size from Nat.lt_of_lt_of_le HX.out.lt HB2.out.size); clear hc3 hb3 O x0 x1 x2 x3 x4 x5 x6 x7 x8; have y0 := HX3.out.c 0; have y1 := HX3.out.c 1; have y2 := HX3.out.c 2; have y3 := HX3.out.c 3; have y4 := HX3.out.c 4; have y5 := HX3.out.c 5; have y6 := HX3.out.c 6; have y7 := HX3.out.c 7; have y8 := HX3.out.c 8; simp at y0 y1 y2 y3 y4 y5 y6 y7 y8; have fy := HX3.out.f; go_wp2; clear y0 y1 y2 y3 y4 y5 y6 y7 y8 fy; change bodyPost _ _ _ _ _ (sets w.heap.size 0 [.int .i64 r.v.s.1, .int .i64 r.v.s.2, .bool r.v.h.on, .int .i64 r.v.h.r.k, .int .i64 r.v.h.r.v, .int .i64 r.v.h.r.a, .int .i64 r.v.h.r.z, .slice A3 r.n c3, .int .i64 r.v.y] w3); have hx := HX3.out.sets [.int .i64 r.v.s.1, .int .i64 r.v.s.2, .bool r.v.h.on, .int .i64 r.v.h.r.k, .int .i64 r.v.h.r.v, .int .i64 r.v.h.r.a, .int .i64 r.v.h.r.z, .slice A3 r.n c3, .int .i64 r.v.y] 0; rw [setl9] at hx; rw [HF3.out]; have hl := HL.out; refine bodyPost_ret (v := .tuple #[vg ⟨r.v, A3, r.n, c3⟩, .bool true]) ?res rfl ⟨⟨r.v, A3, r.n, c3⟩, rfl, rfl, ⟨HC3.out.keep (fun p hp => sets_other _ (by omega) 0 w3) (fun b hb => by rw [sets_size]; exact hb.1.2), HG2.out.n⟩, sets_below _ (Nat.le_refl _) 0 w3 (HB.out.trans (HB3.out.mono HB.out.size))⟩
    case res =>
     have x0 := hx.c 0; have x1 := hx.c 1; have x2 := hx.c 2; have x3 := hx.c 3; have x4 := hx.c 4; have x5 := hx.c 5; have x6 := hx.c 6; have x7 := hx.c 7; have x8 := hx.c 8; simp at x0 x1 x2 x3 x4 x5 x6 x7 x8; simp [results, Tryz.results20, go_sem, x0, x1, x2, x3, x4, x5, x6, x7, x8]
  ·have HF3 := Lib.hid (show fnd rs d = none by rw [← HF.out]; exact fnd_end (by have := HS.out.r.1; omega)); have HX3 := Lib.hid (HX.out.below HK.out HX.out.lt); have y0 := HX3.out.c 0; have y1 := HX3.out.c 1; have y2 := HX3.out.c 2; have y3 := HX3.out.c 3; have y4 := HX3.out.c 4; have y5 := HX3.out.c 5; have y6 := HX3.out.c 6; have y7 := HX3.out.c 7; have y8 := HX3.out.c 8; simp at y0 y1 y2 y3 y4 y5 y6 y7 y8; have fy := HX3.out.f; go_wp2; clear y0 y1 y2 y3 y4 y5 y6 y7 y8 fy; change bodyPost _ _ _ _ _ (sets w.heap.size 0 [.int .i64 0, .int .i64 0, .bool false, .int .i64 0, .int .i64 0, .int .i64 0, .int .i64 0, .slice none 0 0, .int .i64 0] W1); have hx := HX3.out.sets [.int .i64 0, .int .i64 0, .bool false, .int .i64 0, .int .i64 0, .int .i64 0, .int .i64 0, .slice none 0 0, .int .i64 0] 0; rw [setl9] at hx; rw [HF3.out]; refine bodyPost_ret (v := .tuple #[.agg zc, .bool false]) ?res rfl ⟨zr, rfl, rfl, zr_good _, sets_below _ (Nat.le_refl _) 0 W1 BW.out⟩
   case res =>
    have x0 := hx.c 0; have x1 := hx.c 1; have x2 := hx.c 2; have x3 := hx.c 3; have x4 := hx.c 4; have x5 := hx.c 5; have x6 := hx.c 6; have x7 := hx.c 7; have x8 := hx.c 8; simp at x0 x1 x2 x3 x4 x5 x6 x7 x8; simp [results, Tryz.results20, go_sem, x0, x1, x2, x3, x4, x5, x6, x7, x8]
set_option maxRecDepth 100000 in
set_option maxHeartbeats 4000000 in
theorem rat_ (A : Option Addr) (n c : Nat) (rs : List Rw) (d : Int) (w : World) (S : Sls w A n rs) (hn : n ≤ 100000) : Calls Tryz.prog 28 #[.slice A n c, .int .i64 d] w (AtTo w (fnd rs d)) := by
 have C := fun (r : Rw) W => Lib.hid (rspan_in r.v.s d W)
 have HS := Lib.hid S; obtain ⟨W, hW⟩ : ∃ W, w.alloc (.cells zc 60) = W := ⟨_, rfl⟩; have HB := Lib.hid (show Below w.heap.size w W by rw [← hW]; exact alloc_ _ _); have HX := Lib.hid (show Bx W w.heap.size 60 zc by rw [← hW]; exact Bx.new _ _ _); have HW := Lib.hid hW; have e0 := show fnd (rs.drop 0) d = fnd rs d by rw [List.drop_zero]
 clear S hW; go_enter Tryz.func28, Tryz.ntmps28
 go_wp2_with fail
 rw [HW.out]; go_wp2
 go_loopw [6] (fun i w' => ∃ (k : Nat) (W1 : World), k ≤ n ∧ i = .int .i64 (k : Int) ∧ W1 = w' ∧ Hid (Below W.heap.size W W1) ∧ Hid (fnd (rs.drop k) d = fnd rs d)) (fun i _ => n - (intOf i).toNat)
 case atStart => exact ⟨0, _, Nat.zero_le _, rfl, rfl, Lib.hid (Below.refl _ _), Lib.hid e0⟩
 case round =>
  obtain ⟨k, W1, hk, rfl, rfl, HK, HF⟩ := hrel; have BW := Lib.hid (HB.out.trans (HK.out.mono HB.out.size)); by_cases hlt : k < n
  ·obtain ⟨ad, r, rfl, hb, hr, N⟩ := ((HS.out.r.below BW.out)).get hlt; have hlt2 : (k : Int) < (n : Int) := by omega
   have HF2 := Lib.hid (fnd_step (d := d) hr); have HG := Lib.hid ((HS.out.g r (List.mem_of_getElem? hr)).below BW.out); have Cr := fun W => C r W
   have HR := Lib.hid hr; have HA := Lib.hid (show some ad = some ad from rfl); obtain ⟨c0, c1, c2, c3, c4, c5, c6, c7, c8⟩ := N; clear hr C e0
   go_wp2_with fail
   refine (Cr _).out.mono ?_; rintro e w2 ⟨rfl, hb2⟩; have HB2 := Lib.hid (HK.out.trans (hb2.mono HK.out.size)); have HG2 := Lib.hid (HG.out.below hb2); have HK2 := Lib.hid hb2; clear hb2 Cr; cases hi : inn r.v.s d
   ·have HF3 := Lib.hid (show fnd (rs.drop (k + 1)) d = fnd rs d by rw [← HF.out, HF2.out, if_neg (by rw [hi]; decide)]); clear c0 c1 c2 c3 c4 c5 c6 c7 c8 hb; go_wp2; go_roundw
    case rel => exact ⟨k + 1, _, by omega, by go_num, rfl, HB2, HF3⟩
    case measure => simp [intOf]; omega
   ·have HF3 := Lib.hid (show fnd rs d = some r.v by rw [← HF.out, HF2.out, if_pos hi]); have kc : ∀ p : Addr, p.block < W1.heap.size → w2.cell? p = W1.cell? p := fun p hp => HK2.out.cell hp
    have hbb : (ad.add (k * 9)).block < W1.heap.size := by rw [add_block]; exact hb
    have d0 := (kc _ hbb).trans c0; have d1 := (kc ⟨(ad.add (k * 9)).block, (ad.add (k * 9)).off + 1, none⟩ hbb).trans c1; have d2 := (kc ⟨(ad.add (k * 9)).block, (ad.add (k * 9)).off + 2, none⟩ hbb).trans c2; have d3 := (kc ⟨(ad.add (k * 9)).block, (ad.add (k * 9)).off + 3, none⟩ hbb).trans c3; have d4 := (kc ⟨(ad.add (k * 9)).block, (ad.add (k * 9)).off + 4, none⟩ hbb).trans c4; have d5 := (kc ⟨(ad.add (k * 9)).block, (ad.add (k * 9)).off + 5, none⟩ hbb).trans c5; have d6 := (kc ⟨(ad.add (k * 9)).block, (ad.add (k * 9)).off + 6, none⟩ hbb).trans c6; have d7 := (kc ⟨(ad.add (k * 9)).block, (ad.add (k * 9)).off + 7, none⟩ hbb).trans c7; have d8 := (kc ⟨(ad.add (k * 9)).block, (ad.add (k * 9)).off + 8, none⟩ hbb).trans c8; clear c0 c1 c2 c3 c4 c5 c6 c7 c8 kc hbb hb; have HX3 := Lib.hid (HX.out.below HB2.out HX.out.lt); have HL := Lib.hid (show w.heap.size < w2.heap.size from Nat.lt_of_lt_of_le HX.out.lt HB2.out.size); have y0 := HX3.out.c 0; have y1 := HX3.out.c 1; have y2 := HX3.out.c 2; have y3 := HX3.out.c 3; have y4 := HX3.out.c 4; have y5 := HX3.out.c 5; have y6 := HX3.out.c 6; have y7 := HX3.out.c 7; have y8 := HX3.out.c 8; simp at y0 y1 y2 y3 y4 y5 y6 y7 y8; have fy := HX3.out.f; go_wp2; clear y0 y1 y2 y3 y4 y5 y6 y7 y8 fy d0 d1 d2 d3 d4 d5 d6 d7 d8; change bodyPost _ _ _ _ _ (sets w.heap.size 0 [.int .i64 r.v.s.1, .int .i64 r.v.s.2, .bool r.v.h.on, .int .i64 r.v.h.r.k, .int .i64 r.v.h.r.v, .int .i64 r.v.h.r.a, .int .i64 r.v.h.r.z, .slice r.A r.n r.c, .int .i64 r.v.y] w2); have hx := HX3.out.sets [.int .i64 r.v.s.1, .int .i64 r.v.s.2, .bool r.v.h.on, .int .i64 r.v.h.r.k, .int .i64 r.v.h.r.v, .int .i64 r.v.h.r.a, .int .i64 r.v.h.r.z, .slice r.A r.n r.c, .int .i64 r.v.y] 0; rw [setl9] at hx; rw [HF3.out]; have hl := HL.out; refine bodyPost_ret (v := .tuple #[vg r, .bool true]) ?res rfl ⟨r, rfl, rfl, ⟨((HS.out.g r (List.mem_of_getElem? HR.out)).c.keep (fun p hp => (sets_other _ (by have := hp; omega) 0 w2).trans ((HB.out.trans (HB2.out.mono HB.out.size)).cell hp)) (fun b hb => by rw [sets_size]; omega)), HG2.out.n⟩, sets_below _ (Nat.le_refl _) 0 w2 (HB.out.trans (HB2.out.mono HB.out.size))⟩
    case res =>
     have x0 := hx.c 0; have x1 := hx.c 1; have x2 := hx.c 2; have x3 := hx.c 3; have x4 := hx.c 4; have x5 := hx.c 5; have x6 := hx.c 6; have x7 := hx.c 7; have x8 := hx.c 8; simp at x0 x1 x2 x3 x4 x5 x6 x7 x8; simp [results, Tryz.results28, go_sem, x0, x1, x2, x3, x4, x5, x6, x7, x8]
  ·have HF3 := Lib.hid (show fnd rs d = none by rw [← HF.out]; exact fnd_end (by have := HS.out.r.1; omega)); have HX3 := Lib.hid (HX.out.below HK.out HX.out.lt); have y0 := HX3.out.c 0; have y1 := HX3.out.c 1; have y2 := HX3.out.c 2; have y3 := HX3.out.c 3; have y4 := HX3.out.c 4; have y5 := HX3.out.c 5; have y6 := HX3.out.c 6; have y7 := HX3.out.c 7; have y8 := HX3.out.c 8; simp at y0 y1 y2 y3 y4 y5 y6 y7 y8; have fy := HX3.out.f; go_wp2; clear y0 y1 y2 y3 y4 y5 y6 y7 y8 fy; change bodyPost _ _ _ _ _ (sets w.heap.size 0 [.int .i64 0, .int .i64 0, .bool false, .int .i64 0, .int .i64 0, .int .i64 0, .int .i64 0, .slice none 0 0, .int .i64 0] W1); have hx := HX3.out.sets [.int .i64 0, .int .i64 0, .bool false, .int .i64 0, .int .i64 0, .int .i64 0, .int .i64 0, .slice none 0 0, .int .i64 0] 0; rw [setl9] at hx; rw [HF3.out]; refine bodyPost_ret (v := .tuple #[.agg zc, .bool false]) ?res rfl ⟨zr, rfl, rfl, zr_good _, sets_below _ (Nat.le_refl _) 0 W1 BW.out⟩
   case res =>
    have x0 := hx.c 0; have x1 := hx.c 1; have x2 := hx.c 2; have x3 := hx.c 3; have x4 := hx.c 4; have x5 := hx.c 5; have x6 := hx.c 6; have x7 := hx.c 7; have x8 := hx.c 8; simp at x0 x1 x2 x3 x4 x5 x6 x7 x8; simp [results, Tryz.results28, go_sem, x0, x1, x2, x3, x4, x5, x6, x7, x8]
theorem all_step {rs qs : List Rw} {k : Nat} {x y : Rw} (hx : rs[k]? = some x) (hy : qs[k]? = some y) (e : (rs.map Rw.v).take k = (qs.map Rw.v).take k) (h : x.v = y.v) : (rs.map Rw.v).take (k + 1) = (qs.map Rw.v).take (k + 1) := by
 rw [take_get (show (rs.map Rw.v)[k]? = some x.v by rw [List.getElem?_map, hx]; rfl), take_get (show (qs.map Rw.v)[k]? = some y.v by rw [List.getElem?_map, hy]; rfl), e, h]
theorem all_no {rs qs : List Rw} {k : Nat} {x y : Rw} (hx : rs[k]? = some x) (hy : qs[k]? = some y) (h : ¬ x.v = y.v) : decide (rs.map Rw.v = qs.map Rw.v) = false := by
 refine decide_eq_false fun e => h ?_
 have := congrArg (fun l => l[k]?) e; simp only [List.getElem?_map, hx, hy, Option.map_some] at this; exact Option.some.inj this
theorem all_len {rs qs : List Rw} {n m : Nat} (hx : rs.length = n) (hy : qs.length = m) (h : n ≠ m) : decide (rs.map Rw.v = qs.map Rw.v) = false := by
 refine decide_eq_false fun e => h ?_
 have := congrArg List.length e; simpa [hx, hy] using this
end Slc
end Go.Proofs.YtplenoaajokpjaaGreat
