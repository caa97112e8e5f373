/-
  The parts Own12, At12 of this proof. Conditions: those of each theorem.
-/
import Derived.Test.YtfidmphajohljaaGreatHq
import Derived.Test.YtfidmphajohljaaGreatMAl
set_option maxHeartbeats 4000000
set_option maxRecDepth 100000
set_option linter.unusedVariables false
namespace Go.Proofs.YtfidmphajohljaaGreat
open Go.RowKit Ba Cv Sp Te Ag Sl Tm
namespace Slc
def CopiesC (w : World) (m : Nat) (xs : List Co) (e : Ending) (w' : World) : Prop := ∃ A c, e = .returned (.slice A m c) ∧ COwn w' w.heap.size A m c xs ∧ Below w.heap.size w w'
theorem clone_covers (L : Option Addr) (m c : Nat) (xs : List Co) (ok : Nat → Prop) (w : World) (hS : Cvs w ok L m xs) (hok : ∀ b, ok b → b < w.heap.size) (hn : m ≤ 3000) :
  Calls Tryz.prog 49 #[.slice L m c] w (CopiesC w m xs) := by
 cases L with
 | none =>
  obtain rfl : m = 0 := hS.noroom; have hx : xs = [] := List.eq_nil_of_length_eq_zero hS.1; subst hx; clear hS; have q : ∀ (w : World) (a : Option Addr) (n c n' c' : Nat), (binOp .eql 26 (.slice a n c) (.slice none n' c')).run Tryz.prog w = .ok (.bool a.isNone) w := fun w a n c n' c' => Lib.run_eql_slice_nil w _ _ a n c n' c' Tryz.underlying26
  go_enter Tryz.func49, Tryz.ntmps49; go_wp2; go_ret; exact ⟨none, 0, rfl, COwn.nil, Below.refl _ _⟩
 | some ad =>
  have HS := qh hS; have HK := qh hok; clear hS hok; have q : ∀ (w : World) (a : Option Addr) (n c n' c' : Nat), (binOp .eql 26 (.slice a n c) (.slice none n' c')).run Tryz.prog w = .ok (.bool a.isNone) w := fun w a n c n' c' => Lib.run_eql_slice_nil w _ _ a n c n' c' Tryz.underlying26
  go_enter Tryz.func49, Tryz.ntmps49
  go_wp2_with (at_builtin; refine wpList_app_c _ rfl (.tmp 5) (.tmp 6) rfl w.heap.size (some ⟨w.heap.size, 0, none⟩) 0 0 [] rfl (COwn.made w) ok (some ad) m c xs rfl (HS.out.keep (ok' := ok) (fun p hp => (alloc_ w _).cell (HK.out _ hp)) fun _ h => h) (fun e => by cases e) m (Nat.zero_add m) (by omega) (by simp) ?_; intro A2 c2 w2 hO2 hg2; have HO2 := qh hO2; have HG2 := qh hg2; clear hO2 hg2)
  go_wp2; go_ret; refine ⟨A2, c2, rfl, by have := HO2.out; rwa [List.nil_append] at this, ((Below.refl _ _).alloc (Nat.le_refl _) _).grown HG2.out (by simp) (fun j hj => ?_)⟩; simp [Value.ownBlock] at hj; omega
def cov (w : World) (b : Nat) : Prop := ∃ xs q, w.heap[b]? = some (.cells xs 88 q)
theorem cov_keep {w w' : World} {b : Nat} (h : cov w b) (e : w'.heap[b]? = w.heap[b]?) : cov w' b := by
 obtain ⟨xs, q, h⟩ := h; exact ⟨xs, q, e.trans h⟩
theorem cown_cov {w : World} {base n c : Nat} {A : Option Addr} {xs : List Co} (h : COwn w base A n c xs) : Cvs w (fun b => (base ≤ b ∧ b < w.heap.size) ∧ cov w b) A n xs := by
 refine ⟨h.row.1, fun hn => ?_⟩; obtain ⟨ad, e, hb, hc⟩ := h.row.2 hn; rcases h.2 with ⟨_, h0⟩ | ⟨g, cap, cur, e', hb', hh, _⟩
 ·omega
 ·injection e' with e1 e2 e3
  rw [e] at e1; injection e1 with e1
  subst e1; exact ⟨_, e, ⟨hb, cur, _, hh⟩, hc⟩
def OwnS (w : World) (r : Rw) (e : Ending) (w' : World) : Prop := ∃ A c, e = .returned (vg ⟨r.v, A, r.n, c⟩) ∧ Cvs w' (fun b => (w.heap.size + 2 ≤ b ∧ b < w'.heap.size) ∧ cov w' b) A r.n r.v.h.cs ∧ Below w.heap.size w w'
theorem own_ (r : Rw) (w : World) (ok : Nat → Prop) (hc : Cvs w ok r.A r.n r.v.h.cs) (hok : ∀ b, ok b → b < w.heap.size) (hn : r.n ≤ 3000) : Calls Tryz.prog 122 #[vg r] w (OwnS w r) := by
 obtain ⟨W, hW⟩ : ∃ W, (w.alloc (.cells (vc r) 93)).alloc (.cells zc 93) = W := ⟨_, rfl⟩; have H0 := qh (show Two (vc r) zc w W by rw [← hW]; exact Two.start _ _ w); have HW := qh hW; clear hW; have C := qh (clone_covers r.A r.n r.c r.v.h.cs ok W (hc.keep (fun p hp => H0.out.b.cell (hok _ hp)) fun _ h => h) (fun b hb => Nat.lt_of_lt_of_le (hok b hb) H0.out.b.size) hn); clear hc hok hn; obtain ⟨x0, x1, x2, x3, x4, x5, x6, x7, x8⟩ := qc9 H0.out.x; go_enter Tryz.func122, Tryz.ntmps122
 go_wp2_with fail
 rw [HW.out]; clear HW
 go_wp2_with fail
 refine C.out.mono ?_; rintro e w1 ⟨A1, c1, rfl, hO1, hb1⟩; have H1 := qh (H0.out.next hb1); have HC := qh (cown_cov hO1); have HS := qh (show w.heap.size + 2 ≤ W.heap.size from H0.out.y.lt); clear hO1 hb1 C x0 x1 x2 x3 x4 x5 x6 x7 x8; obtain ⟨x0, x1, x2, x3, x4, x5, x6, x7, x8⟩ := qc9 H1.out.x; obtain ⟨y0, y1, y2, y3, y4, y5, y6, y7, y8⟩ := qc9 H1.out.y; have fx := H1.out.x.f; have fy := H1.out.y.f; go_wp2; clear x0 x1 x2 x3 x4 x5 x6 x7 x8 y0 y1 y2 y3 y4 y5 y6 y7 y8 fx fy; change bodyPost _ _ _ _ _ (sets (w.heap.size + 1) 0 [.int .i64 r.v.s.1, .int .i64 r.v.s.2, .bool r.v.h.on, .int .i64 r.v.h.r.k, .int .i64 r.v.h.r.v, .int .i64 r.v.h.r.a, .int .i64 r.v.h.r.z, .slice A1 r.n c1, .int .i64 r.v.y] (w1.setCell ⟨w.heap.size, 7, none⟩ (.slice A1 r.n c1))); obtain ⟨W1, hW1⟩ : ∃ W1, w1.setCell ⟨w.heap.size, 7, none⟩ (.slice A1 r.n c1) = W1 := ⟨_, rfl⟩; have hy : Bx W1 (w.heap.size + 1) 93 zc := by rw [← hW1]; exact H1.out.y.far (by simp) _
 have hb : Below w.heap.size w W1 := by rw [← hW1]; exact H1.out.b.setCell (p := ⟨w.heap.size, 7, none⟩) (Nat.le_refl _) _
 have hc : Cvs W1 (fun b => (w.heap.size + 2 ≤ b ∧ b < W1.heap.size) ∧ cov W1 b) A1 r.n r.v.h.cs := by
  rw [← hW1]; refine HC.out.keep (fun p hp => World.cell?_setCell_other _ _ _ _ fun e => ?_) fun b hb => ⟨⟨Nat.le_trans HS.out hb.1.1, by rw [World.size_setCell]; exact hb.1.2⟩, cov_keep hb.2 (Below.heap_setCell _ _ _ _ fun e => by have := HS.out; have := hb.1.1; simp only at e; omega)⟩
  have := HS.out; rw [← e] at hp; simp only at hp; omega
 rw [hW1]; have hx := hy.sets [.int .i64 r.v.s.1, .int .i64 r.v.s.2, .bool r.v.h.on, .int .i64 r.v.h.r.k, .int .i64 r.v.h.r.v, .int .i64 r.v.h.r.a, .int .i64 r.v.h.r.z, .slice A1 r.n c1, .int .i64 r.v.y] 0; rw [setl9] at hx; refine bodyPost_ret (v := vg ⟨r.v, A1, r.n, c1⟩) ?res rfl ⟨A1, c1, rfl, hc.keep (fun p hp => sets_other _ (by omega) 0 W1) (fun b hb => ⟨⟨hb.1.1, by rw [sets_size]; exact hb.1.2⟩, cov_keep hb.2 (sets_heap _ (by omega) 0 W1)⟩), sets_below _ (by omega) 0 W1 hb⟩
 case res =>
  obtain ⟨x0, x1, x2, x3, x4, x5, x6, x7, x8⟩ := qc9 hx; simp [results, Tryz.results122, go_sem, x0, x1, x2, x3, x4, x5, x6, x7, x8]
theorem like_ (a b : Rw) (w : World) (ga : Gd w a) (gb : Gd w b) : Calls Tryz.prog 59 #[vg a, vg b] w (Yes w (decide (a.v.h = b.v.h))) := by
 obtain ⟨W, hW⟩ : ∃ W, (w.alloc (.cells (vc a) 93)).alloc (.cells (vc b) 93) = W := ⟨_, rfl⟩; have H0 := qh (show Two (vc a) (vc b) w W by rw [← hW]; exact Two.start _ _ w); have HW := qh hW; clear hW; have C := qh (rsame_covers a.A b.A a.n b.n a.c b.c a.v.h.cs b.v.h.cs W _ _ (ga.c.below H0.out.b) (gb.c.below H0.out.b) ga.n gb.n); rw [hd_eq]; have q0 := fun w => qh (run_risk a.v.h.r b.v.h.r w)
 clear ga gb; obtain ⟨B2, hB2⟩ : ∃ B2, decide (a.v.h.cs = b.v.h.cs) = B2 := ⟨_, rfl⟩; rw [hB2] at C ⊢; clear hB2; have e1 : decide (a.v.h.on = b.v.h.on ∧ a.v.h.r = b.v.h.r) = (a.v.h.on == b.v.h.on && decide (a.v.h.r = b.v.h.r)) := by rw [Bool.eq_iff_iff]; simp
 rw [e1]; clear e1; obtain ⟨B1, hB1⟩ : ∃ B1, decide (a.v.h.r = b.v.h.r) = B1 := ⟨_, rfl⟩; rw [hB1] at q0 ⊢; clear hB1; obtain ⟨B0, hB0⟩ : ∃ B0, (a.v.h.on == b.v.h.on) = B0 := ⟨_, rfl⟩; rw [hB0]; have q : ∀ w : World, (Op.equalIn 10000 25 (rg a.v.h.r) (rg b.v.h.r)).run Tryz.prog w = .ok B1 w := fun w => (q0 w).out
 clear q0; obtain ⟨x0, x1, x2, x3, x4, x5, x6, x7, x8⟩ := qc9 H0.out.x; obtain ⟨y0, y1, y2, y3, y4, y5, y6, y7, y8⟩ := qc9 H0.out.y; go_enter Tryz.func59, Tryz.ntmps59
 go_wp2_with fail
 rw [HW.out]
 go_wp2_with fail
 refine C.out.mono ?_; rintro e w1 ⟨rfl, hb1⟩; have H1 := qh (H0.out.next hb1); clear hb1 C H0 HW x0 x1 x2 x3 x4 x5 x6 x7 x8 y0 y1 y2 y3 y4 y5 y6 y7 y8; obtain ⟨x0, x1, x2, x3, x4, x5, x6, x7, x8⟩ := qc9 H1.out.x; obtain ⟨y0, y1, y2, y3, y4, y5, y6, y7, y8⟩ := qc9 H1.out.y; cases B0 <;> cases B1 <;> cases B2 <;> (go_wp2; go_ret; exact ⟨rfl, H1.out.b⟩)
structure Sls (w : World) (A : Option Addr) (n : Nat) (rs : List Rw) : Prop where
 r : Raws w (· < w.heap.size) A n rs
 g : ∀ r ∈ rs, Gd w r
theorem Sls.below {w W : World} {A : Option Addr} {n : Nat} {rs : List Rw} (S : Sls w A n rs) (hb : Below w.heap.size w W) : Sls W A n rs := ⟨S.r.below hb, fun r hr => (S.g r hr).below hb⟩
theorem Sls.nil {w : World} {A : Option Addr} : Sls w A 0 [] := ⟨Raws.nil, fun r hr => by cases hr⟩
end Slc
end Go.Proofs.YtfidmphajohljaaGreat
