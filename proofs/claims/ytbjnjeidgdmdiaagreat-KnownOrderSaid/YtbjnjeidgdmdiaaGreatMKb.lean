/-
  The parts KUn, KAp of this proof. Conditions: those of each theorem.
-/
import Derived.Test.YtbjnjeidgdmdiaaGreatMAt
import Derived.Test.YtbjnjeidgdmdiaaGreatMFw
import Derived.Test.YtbjnjeidgdmdiaaGreatMSp
import Derived.Test.YtbjnjeidgdmdiaaGreatKInv
namespace Go.Proofs.YtbjnjeidgdmdiaaGreat
open Go.RowKit Ba Cv Sp Te Ag Tf Sl Tm
namespace Slc
set_option linter.unusedVariables false
theorem unlike_ (a : Rw) (w : World) : Calls Tryz.prog 57 #[vg a] w fun e w' => e = .returned (.func (.func 86) #[] #[.pointer (some ⟨w.heap.size, 0, none⟩)]) ∧ w.alloc (.cells (vc a) 73) = w' := by
 go_enter Tryz.func57, Tryz.ntmps57; go_wp2; go_ret; exact ⟨rfl, rfl⟩
def unl (a b : Sc) : Bool := decide ((a.h, a.y) ≠ (b.h, b.y))
def onto (a b : Rw) : Rw := ⟨⟨a.v.s, b.v.h, b.v.y⟩, b.A, b.n, b.c⟩
theorem onto_eq (a b : Rw) : (!decide (a.v = (onto a b).v)) = unl a.v b.v := by
 unfold unl; rw [← decide_not, decide_eq_decide]; refine not_congr ⟨fun e => ?_, fun e => ?_⟩
 ·have h1 := congrArg Sc.h e; have h2 := congrArg Sc.y e; exact Prod.ext h1 h2
 ·injection e with h1 h2
  show a.v = ⟨a.v.s, b.v.h, b.v.y⟩
  rw [← h1, ← h2]
set_option maxRecDepth 100000 in
set_option maxHeartbeats 4000000 in
theorem unlike1 (p : Nat) (a b : Rw) (w : World) (X : Bx w p 73 (vc a)) (ga : Gd w a) (gb : Gd w b) : Calls Tryz.prog 86 #[vg b, .pointer (some ⟨p, 0, none⟩)] w (Yes w (unl a.v b.v)) := by
 rw [← onto_eq]; obtain ⟨W, hW⟩ : ∃ W, w.alloc (.cells (vc b) 73) = W := ⟨_, rfl⟩; have hb1 : Below w.heap.size w W := hW ▸ alloc_ _ _; have HB := Lib.hid hb1; have HX := Lib.hid (X.keep hb1); have hy := (show Bx W w.heap.size 73 (vc b) from hW ▸ Bx.new w 73 (vc b)); have HY := Lib.hid hy; have hlt : w.heap.size < W.heap.size := hy.lt; have x0 := HX.out.c 0; have x1 := HX.out.c 1; have y0 := hy.c 0; have y1 := hy.c 1; simp at x0 x1 y0 y1; have fy := hy.f; have HW := Lib.hid hW; obtain ⟨W2, hW2⟩ : ∃ W2, (W.setCell ⟨w.heap.size, 0, none⟩ (.int .i64 a.v.s.1)).setCell ⟨w.heap.size, 1, none⟩ (.int .i64 a.v.s.2) = W2 := ⟨_, rfl⟩; have hne : p ≠ w.heap.size := by have := X.lt; omega
 have HX2 := Lib.hid (show Bx W2 p 73 (vc a) by rw [← hW2]; exact (HX.out.far (a := ⟨w.heap.size, 0, none⟩) hne _).far (a := ⟨w.heap.size, 1, none⟩) hne _); have HY2 := Lib.hid (show Bx W2 w.heap.size 73 (vc (onto a b)) by rw [← hW2]; exact (HY.out.set 0 _).set 1 _); have HB2 := Lib.hid (show Below w.heap.size w W2 by rw [← hW2]; exact (HB.out.setCell (p := ⟨w.heap.size, 0, none⟩) (Nat.le_refl _) _).setCell (p := ⟨w.heap.size, 1, none⟩) (Nat.le_refl _) _); have HW2 := Lib.hid hW2; have hga : Gd W2 a := ga.below HB2.out; have hgb : Gd W2 (onto a b) := ⟨(gb.below HB2.out).c, gb.n⟩; have CS := Lib.hid (same_ a (onto a b) W2 hga hgb); obtain ⟨q, hq⟩ : ∃ q, decide (a.v = (onto a b).v) = q := ⟨_, rfl⟩; rw [hq] at CS ⊢; clear hW hW2 hb1 hy X ga gb hga hgb hne hq; go_enter Tryz.func86, Tryz.ntmps86
 go_upto_region 1 with fail
 rw [HW.out]; clear HW
 go_upto_region 2 with fail
 rw [HW2.out]; clear HW2 x0 x1 y0 y1 fy; have x0 := HX2.out.c 0; have x1 := HX2.out.c 1; have x2 := HX2.out.c 2; have x3 := HX2.out.c 3; have x4 := HX2.out.c 4; have x5 := HX2.out.c 5; have x6 := HX2.out.c 6; have x7 := HX2.out.c 7; have x8 := HX2.out.c 8; simp at x0 x1 x2 x3 x4 x5 x6 x7 x8; have y0 := HY2.out.c 0; have y1 := HY2.out.c 1; have y2 := HY2.out.c 2; have y3 := HY2.out.c 3; have y4 := HY2.out.c 4; have y5 := HY2.out.c 5; have y6 := HY2.out.c 6; have y7 := HY2.out.c 7; have y8 := HY2.out.c 8; simp at y0 y1 y2 y3 y4 y5 y6 y7 y8
 go_wp2_with fail
 refine CS.out.mono ?_; rintro e w3 ⟨rfl, hb3⟩; have HB3 := Lib.hid (HB2.out.trans (hb3.mono HB2.out.size)); clear hb3 CS x0 x1 x2 x3 x4 x5 x6 x7 x8 y0 y1 y2 y3 y4 y5 y6 y7 y8; go_wp2; go_ret; exact ⟨rfl, HB3.out⟩
theorem sls_tail {w : World} {ad : Addr} {n : Nat} {rs : List Rw} (S : Sls w (some ad) n rs) : Sls w (some ⟨ad.block, ad.off + 9, none⟩) (n - 1) (rs.drop 1) := by
 refine ⟨⟨by rw [List.length_drop, S.r.1], fun hn => ?_⟩, fun r hr => S.g r (List.mem_of_mem_drop hr)⟩; obtain ⟨ad', e, hb, hc⟩ := S.r.2 (by omega); injection e with e
 subst e; refine ⟨_, rfl, hb, fun j x hx => ?_⟩; rw [List.getElem?_drop] at hx; have := hc (1 + j) x hx
 have e : (⟨ad.block, ad.off + 9, none⟩ : Addr).add (j * 9) = ad.add ((1 + j) * 9) := by
  unfold Addr.add; by_cases h0 : j = 0
  ·subst h0; simp
  ·rw [if_neg (by omega), if_neg (by omega)]; simp only
   congr 1
   omega
 rw [e]; exact this
def BehTo (w0 w : World) (rs : List Rw) (r : Rw) (d : Int) (e : Ending) (w' : World) : Prop := ∃ A' n' c' j, e = .returned (.slice A' n' c') ∧ j = (if r.v.s.2 ≤ d then 1 else 0) ∧ Sls w0 A' n' (rs.drop j) ∧ n' ≤ c' ∧ Below w.heap.size w w'
set_option maxRecDepth 100000 in
set_option maxHeartbeats 4000000 in
theorem behind_ (A : Option Addr) (n c : Nat) (rs : List Rw) (d : Int) (w0 w : World) (hbw : Below w0.heap.size w0 w) (S : Sls w0 A n rs) (hn : n ≤ c) (h0 : 0 < n) {r : Rw} (hr : rs[0]? = some r) : Calls Tryz.prog 58 #[.slice A n c, .int .i64 d] w (BehTo w0 w rs r d) := by
 obtain ⟨ad, r', rfl, hb, hr', N⟩ := (S.below hbw).r.get h0; rw [hr] at hr'; injection hr' with hr'
 subst hr'; have c1 : w.cell? ⟨ad.block, ad.off + 1, none⟩ = some (.int .i64 r.v.s.2) := N.c1; have h0i : (0 : Int) < (n : Int) := by omega
 have HS := Lib.hid S; have HR := Lib.hid hr; clear S hr N hb hbw; by_cases hd : r.v.s.2 ≤ d
 ·have td : decide (r.v.s.2 ≤ d) = true := decide_eq_true hd; have HD := Lib.hid hd; clear hd; by_cases hc : c = 1
  ·subst hc; obtain rfl : n = 1 := by omega
   go_enter Tryz.func58, Tryz.ntmps58; go_wp2; go_ret; exact ⟨_, _, _, 1, rfl, by rw [if_pos HD.out], by have := (sls_tail HS.out); exact ⟨⟨this.r.1, fun h => absurd h (by omega)⟩, this.g⟩, Nat.le_refl _, Below.refl _ _⟩
  ·go_enter Tryz.func58, Tryz.ntmps58; go_wp2; go_ret; exact ⟨_, _, _, 1, rfl, by rw [if_pos HD.out], sls_tail HS.out, by omega, Below.refl _ _⟩
 ·have td : decide (r.v.s.2 ≤ d) = false := decide_eq_false hd; have HD := Lib.hid hd; clear hd; go_enter Tryz.func58, Tryz.ntmps58; go_wp2; go_ret; exact ⟨some ad, n, c, 0, rfl, (if_neg (Int.not_le.2 HD.out)).symm, by rw [List.drop_zero]; exact HS.out, hn, Below.refl _ _⟩
end Slc
end Go.Proofs.YtbjnjeidgdmdiaaGreat

namespace Go.Proofs.YtbjnjeidgdmdiaaGreat
open Go.RowKit Ba Cv Sp Te Ag Tf Sl Tm
namespace Slc
set_option linter.unusedVariables false
def ApTo (w : World) (s1 s2 : List Sc) (e : Ending) (w' : World) : Prop := ∃ A k c zs, e = .returned (.slice A k c) ∧ Spn.Spans w' w'.heap.size A k zs ∧ k ≤ 2200 ∧ (∀ d, hit zs d ↔ lk s1 d ≠ lk s2 d) ∧ Below w.heap.size w w'
structure AJ (w : World) (f t : Int) (rs qs : List Rw) (W : World) (i j : Nat) (A1 : Option Addr) (n1 c1 : Nat) (A2 : Option Addr) (n2 c2 : Nat) (A3 : Option Addr) (k c3 : Nat) (zs : List Sp) (e : Int) : Prop where
 b : Below w.heap.size w W
 x : Sls w A1 n1 (rs.drop i)
 xc : n1 ≤ c1
 y : Sls w A2 n2 (qs.drop j)
 yc : n2 ≤ c2
 o : Spn.Own W w.heap.size A3 k c3 zs
 g : Went f t (rs.map Rw.v) (qs.map Rw.v) i j e zs
structure AJ' (w : World) (f t : Int) (rs qs : List Rw) (W : World) (i j : Nat) (A1 : Option Addr) (n1 c1 : Nat) (A2 : Option Addr) (n2 c2 : Nat) (A3 : Option Addr) (k c3 : Nat) (zs ws : List Sp) (e : Int) : Prop where
 b : Below w.heap.size w W
 x : Sls w A1 n1 (rs.drop i)
 xc : n1 ≤ c1
 y : Sls w A2 n2 (qs.drop j)
 yc : n2 ≤ c2
 o : Spn.Own W w.heap.size A3 k c3 ws
 g : Went f t (rs.map Rw.v) (qs.map Rw.v) i j e zs
theorem AJ'.next {w : World} {f t : Int} {rs qs : List Rw} {W W' : World} {i j : Nat} {A1 : Option Addr} {n1 c1 : Nat} {A2 : Option Addr} {n2 c2 : Nat} {A3 : Option Addr} {k c3 : Nat} {zs ws : List Sp} {e : Int} (H : AJ' w f t rs qs W i j A1 n1 c1 A2 n2 c2 A3 k c3 zs ws e) (hb : Below W.heap.size W W') : AJ' w f t rs qs W' i j A1 n1 c1 A2 n2 c2 A3 k c3 zs ws e :=
 ⟨H.b.trans (hb.mono H.b.size), H.x, H.xc, H.y, H.yc, H.o.below hb, H.g⟩
theorem AJ.next {w : World} {f t : Int} {rs qs : List Rw} {W W' : World} {i j : Nat} {A1 : Option Addr} {n1 c1 : Nat} {A2 : Option Addr} {n2 c2 : Nat} {A3 : Option Addr} {k c3 : Nat} {zs : List Sp} {e : Int} (H : AJ w f t rs qs W i j A1 n1 c1 A2 n2 c2 A3 k c3 zs e) (hb : Below W.heap.size W W') : AJ w f t rs qs W' i j A1 n1 c1 A2 n2 c2 A3 k c3 zs e :=
 ⟨H.b.trans (hb.mono H.b.size), H.x, H.xc, H.y, H.yc, H.o.below hb, H.g⟩
theorem step_appS (w : World) {ops : Array Oper} {o : Oper} {a : Act} {K : Act → World → Prop} {Q : Exit → Act → World → Prop} {E : Prop} (hgd : o.guard = none) (s x : Operand)
  (ho : o.op = .call { callee := .builtin .append, args := #[s, x], argTypes := #[44, 44] })
  (base : Nat) (A : Option Addr) (n c : Nat) (xs : List Sp) (hs : a.eval s = .slice A n c) (hown : Spn.Own w base A n c xs)
  (B : Nat) (ad : Addr) (m d : Nat) (ys : List Sp) (hx : a.eval x = .slice (some ad) m d) (hr : Spn.Spans w B (some ad) m ys) (N : Nat) (hN : n + m = N) (hlen : n + m ≤ 4000000) (hbase : base ≤ w.heap.size)
  (h : ∀ A' c' w', Spn.Own w' base A' N c' (xs ++ ys) → w.grownBy w' (Value.slice A n c).ownBlock → K (a.put o.dst (.slice A' N c')) w') :
  if Region.wanted o (yielded ops a.tmps) = true then Oper.wp Tryz.prog o a w K Q else E := by
 subst hN; have hw : Region.wanted o (yielded ops a.tmps) = true := by simp [Region.wanted, hgd]
 rw [if_pos hw]; obtain ⟨i, hi, hz, h1, h2⟩ := info_parts Spn.info_span; obtain ⟨v', w', hrun, hO, hg, _⟩ := run_append_own (P := Tryz.prog) w base 44 o.type 23 i _ 2 16 Tryz.underlying44 hi hz h1 h2 rfl (by omega) (.slice A n c) n _ hown ad m d (Spn.cel ys) (by rw [Spn.cel_length, hr.1]) (Spn.spans_cells hr) (Spn.cel_cell ys) (by unfold maxLen; omega) (by omega) hbase; rw [← Spn.cel_append] at hO; obtain ⟨A', c', rfl, hO'⟩ := Spn.own_of_row hO; unfold Oper.wp execOp; simp only [ho, resolve, invoke, builtin, Sem.run_bind, Sem.run_pure, Result.andThen_ok, List.map_toArray, List.map_cons, List.map_nil, hs, hx, hrun]; exact h A' c' w' hO' hg
def UnF (w : World) (v : Value) (x : Rw) : Prop := ∃ p, v = .func (.func 86) #[] #[.pointer (some ⟨p, 0, none⟩)] ∧ Bx w p 73 (vc x)
theorem UnF.below {w W : World} {v : Value} {x : Rw} (h : UnF w v x) (hb : Below w.heap.size w W) : UnF W v x := by
 obtain ⟨p, e, hx⟩ := h; exact ⟨p, e, hx.keep hb⟩
structure K3 (W : World) (ad : Addr) (n1 c1 : Nat) (x : Rw) (ad2 : Addr) (n2 c2 : Nat) (y : Rw) (L : Nat → Bool) (w' : World) (v15 v16 v17 v18 v19 v20 v21 v22 : Value) : Prop where
 b : Below W.heap.size W w'
 f0 : L 0 = true → v15 = .slice (some ad) n1 c1
 f1 : L 1 = true → v16 = .pointer (some ad)
 f2 : L 2 = true → v17 = vg x
 f3 : L 3 = true → UnF w' v18 x
 f4 : L 4 = true → v19 = .slice (some ad2) n2 c2
 f5 : L 5 = true → v20 = .pointer (some ad2)
 f6 : L 6 = true → v21 = vg y
 f7 : L 7 = true → v22 = .bool (unl x.v y.v)
theorem K3.up {W : World} {ad : Addr} {n1 c1 : Nat} {x : Rw} {ad2 : Addr} {n2 c2 : Nat} {y : Rw} {L : Nat → Bool} {w' w2 : World} {v15 v16 v17 v18 v19 v20 v21 v22 : Value} (H : K3 W ad n1 c1 x ad2 n2 c2 y L w' v15 v16 v17 v18 v19 v20 v21 v22) (hb : Below w'.heap.size w' w2) : K3 W ad n1 c1 x ad2 n2 c2 y L w2 v15 v16 v17 v18 v19 v20 v21 v22 :=
 ⟨H.b.trans (hb.mono H.b.size), H.f0, H.f1, H.f2, fun l => (H.f3 l).below hb, H.f4, H.f5, H.f6, H.f7⟩
theorem K3.s0 {W : World} {ad : Addr} {n1 c1 : Nat} {x : Rw} {ad2 : Addr} {n2 c2 : Nat} {y : Rw} {L : Nat → Bool} {w' : World} {v15 v16 v17 v18 v19 v20 v21 v22 : Value} (H : K3 W ad n1 c1 x ad2 n2 c2 y L w' v15 v16 v17 v18 v19 v20 v21 v22) {z : Value} (k : z = .slice (some ad) n1 c1) : K3 W ad n1 c1 x ad2 n2 c2 y (fun j => j == 0 || L j) w' z v16 v17 v18 v19 v20 v21 v22 := ⟨H.b, fun _ => k, H.f1, H.f2, H.f3, H.f4, H.f5, H.f6, H.f7⟩
theorem K3.s1 {W : World} {ad : Addr} {n1 c1 : Nat} {x : Rw} {ad2 : Addr} {n2 c2 : Nat} {y : Rw} {L : Nat → Bool} {w' : World} {v15 v16 v17 v18 v19 v20 v21 v22 : Value} (H : K3 W ad n1 c1 x ad2 n2 c2 y L w' v15 v16 v17 v18 v19 v20 v21 v22) {z : Value} (k : z = .pointer (some ad)) : K3 W ad n1 c1 x ad2 n2 c2 y (fun j => j == 1 || L j) w' v15 z v17 v18 v19 v20 v21 v22 := ⟨H.b, H.f0, fun _ => k, H.f2, H.f3, H.f4, H.f5, H.f6, H.f7⟩
theorem K3.s2 {W : World} {ad : Addr} {n1 c1 : Nat} {x : Rw} {ad2 : Addr} {n2 c2 : Nat} {y : Rw} {L : Nat → Bool} {w' : World} {v15 v16 v17 v18 v19 v20 v21 v22 : Value} (H : K3 W ad n1 c1 x ad2 n2 c2 y L w' v15 v16 v17 v18 v19 v20 v21 v22) {z : Value} (k : z = vg x) : K3 W ad n1 c1 x ad2 n2 c2 y (fun j => j == 2 || L j) w' v15 v16 z v18 v19 v20 v21 v22 := ⟨H.b, H.f0, H.f1, fun _ => k, H.f3, H.f4, H.f5, H.f6, H.f7⟩
theorem K3.s3 {W : World} {ad : Addr} {n1 c1 : Nat} {x : Rw} {ad2 : Addr} {n2 c2 : Nat} {y : Rw} {L : Nat → Bool} {w' : World} {v15 v16 v17 v18 v19 v20 v21 v22 : Value} (H : K3 W ad n1 c1 x ad2 n2 c2 y L w' v15 v16 v17 v18 v19 v20 v21 v22) {z : Value} (k : UnF w' z x) : K3 W ad n1 c1 x ad2 n2 c2 y (fun j => j == 3 || L j) w' v15 v16 v17 z v19 v20 v21 v22 := ⟨H.b, H.f0, H.f1, H.f2, fun _ => k, H.f4, H.f5, H.f6, H.f7⟩
theorem K3.s4 {W : World} {ad : Addr} {n1 c1 : Nat} {x : Rw} {ad2 : Addr} {n2 c2 : Nat} {y : Rw} {L : Nat → Bool} {w' : World} {v15 v16 v17 v18 v19 v20 v21 v22 : Value} (H : K3 W ad n1 c1 x ad2 n2 c2 y L w' v15 v16 v17 v18 v19 v20 v21 v22) {z : Value} (k : z = .slice (some ad2) n2 c2) : K3 W ad n1 c1 x ad2 n2 c2 y (fun j => j == 4 || L j) w' v15 v16 v17 v18 z v20 v21 v22 := ⟨H.b, H.f0, H.f1, H.f2, H.f3, fun _ => k, H.f5, H.f6, H.f7⟩
theorem K3.s5 {W : World} {ad : Addr} {n1 c1 : Nat} {x : Rw} {ad2 : Addr} {n2 c2 : Nat} {y : Rw} {L : Nat → Bool} {w' : World} {v15 v16 v17 v18 v19 v20 v21 v22 : Value} (H : K3 W ad n1 c1 x ad2 n2 c2 y L w' v15 v16 v17 v18 v19 v20 v21 v22) {z : Value} (k : z = .pointer (some ad2)) : K3 W ad n1 c1 x ad2 n2 c2 y (fun j => j == 5 || L j) w' v15 v16 v17 v18 v19 z v21 v22 := ⟨H.b, H.f0, H.f1, H.f2, H.f3, H.f4, fun _ => k, H.f6, H.f7⟩
theorem K3.s6 {W : World} {ad : Addr} {n1 c1 : Nat} {x : Rw} {ad2 : Addr} {n2 c2 : Nat} {y : Rw} {L : Nat → Bool} {w' : World} {v15 v16 v17 v18 v19 v20 v21 v22 : Value} (H : K3 W ad n1 c1 x ad2 n2 c2 y L w' v15 v16 v17 v18 v19 v20 v21 v22) {z : Value} (k : z = vg y) : K3 W ad n1 c1 x ad2 n2 c2 y (fun j => j == 6 || L j) w' v15 v16 v17 v18 v19 v20 z v22 := ⟨H.b, H.f0, H.f1, H.f2, H.f3, H.f4, H.f5, fun _ => k, H.f7⟩
theorem K3.s7 {W : World} {ad : Addr} {n1 c1 : Nat} {x : Rw} {ad2 : Addr} {n2 c2 : Nat} {y : Rw} {L : Nat → Bool} {w' : World} {v15 v16 v17 v18 v19 v20 v21 v22 : Value} (H : K3 W ad n1 c1 x ad2 n2 c2 y L w' v15 v16 v17 v18 v19 v20 v21 v22) {z : Value} (k : z = .bool (unl x.v y.v)) : K3 W ad n1 c1 x ad2 n2 c2 y (fun j => j == 7 || L j) w' v15 v16 v17 v18 v19 v20 v21 z := ⟨H.b, H.f0, H.f1, H.f2, H.f3, H.f4, H.f5, H.f6, fun _ => k⟩
structure K4 (w : World) (ad ad2 : Addr) (n1 c1 n2 c2 : Nat) (x y : Rw) (A3 : Option Addr) (kk c3 : Nat) (zs : List Sp) (cs : Sp) (L : Nat → Bool) (w' : World) (v23 v24 v25 v26 v27 v28 v29 v30 v31 v32 v33 v34 v5 : Value) : Prop where
 b : Below w.heap.size w w'
 o : L 11 = false → Spn.Own w' w.heap.size A3 kk c3 zs
 e5 : L 12 = false → v5 = .slice A3 kk c3
 f0 : L 0 = true → v23 = .slice A3 kk c3
 f1 : L 1 = true → v24 = .slice (some ad) n1 c1
 f2 : L 2 = true → v25 = .pointer (some ad)
 f3 : L 3 = true → v26 = .pointer (some ad)
 f4 : L 4 = true → v27 = Spn.ag x.v.s
 f5 : L 5 = true → v28 = .slice (some ad2) n2 c2
 f6 : L 6 = true → v29 = .pointer (some ad2)
 f7 : L 7 = true → v30 = .pointer (some ad2)
 f8 : L 8 = true → v31 = Spn.ag y.v.s
 f9 : L 9 = true → v32 = Spn.ag cs
 f10 : L 10 = true → ∃ g, v33 = .slice (some ⟨g, 0, none⟩) 1 1 ∧ (L 11 = false → Spn.Spans w' w'.heap.size (some ⟨g, 0, none⟩) 1 [(cs.1, cs.2)])
 f11 : L 11 = true → ∃ A7 c7, v34 = .slice A7 (kk + 1) c7 ∧ Spn.Own w' w.heap.size A7 (kk + 1) c7 (zs ++ [cs])
 f12 : L 12 = true → v5 = v34
 d12_11 : L 12 = true → L 11 = true
 d11_0 : L 11 = true → L 0 = true
theorem K4.up {w : World} {ad ad2 : Addr} {n1 c1 n2 c2 : Nat} {x y : Rw} {A3 : Option Addr} {kk c3 : Nat} {zs : List Sp} {cs : Sp} {L : Nat → Bool} {w' w2 : World} {v23 v24 v25 v26 v27 v28 v29 v30 v31 v32 v33 v34 v5 : Value} (H : K4 w ad ad2 n1 c1 n2 c2 x y A3 kk c3 zs cs L w' v23 v24 v25 v26 v27 v28 v29 v30 v31 v32 v33 v34 v5) (hb : Below w'.heap.size w' w2) : K4 w ad ad2 n1 c1 n2 c2 x y A3 kk c3 zs cs L w2 v23 v24 v25 v26 v27 v28 v29 v30 v31 v32 v33 v34 v5 :=
 ⟨H.b.trans (hb.mono H.b.size), (fun l => (H.o l).below hb), H.e5, H.f0, H.f1, H.f2, H.f3, H.f4, H.f5, H.f6, H.f7, H.f8, H.f9, (fun l => by obtain ⟨g, e, h1⟩ := H.f10 l; exact ⟨g, e, fun l3 => ((h1 l3).below hb (Nat.le_refl _)).wide hb.size⟩), (fun l => by obtain ⟨A7, c7, e, h1⟩ := H.f11 l; exact ⟨A7, c7, e, h1.below hb⟩), H.f12, H.d12_11, H.d11_0⟩
theorem K4.s0 {w : World} {ad ad2 : Addr} {n1 c1 n2 c2 : Nat} {x y : Rw} {A3 : Option Addr} {kk c3 : Nat} {zs : List Sp} {cs : Sp} {L : Nat → Bool} {w' : World} {v23 v24 v25 v26 v27 v28 v29 v30 v31 v32 v33 v34 v5 : Value} (H : K4 w ad ad2 n1 c1 n2 c2 x y A3 kk c3 zs cs L w' v23 v24 v25 v26 v27 v28 v29 v30 v31 v32 v33 v34 v5) {z : Value} (k : z = .slice A3 kk c3) : K4 w ad ad2 n1 c1 n2 c2 x y A3 kk c3 zs cs (fun j => j == 0 || L j) w' z v24 v25 v26 v27 v28 v29 v30 v31 v32 v33 v34 v5 := ⟨H.b, H.o, H.e5, fun _ => k, H.f1, H.f2, H.f3, H.f4, H.f5, H.f6, H.f7, H.f8, H.f9, H.f10, H.f11, H.f12, H.d12_11, fun _ => rfl⟩
theorem K4.s1 {w : World} {ad ad2 : Addr} {n1 c1 n2 c2 : Nat} {x y : Rw} {A3 : Option Addr} {kk c3 : Nat} {zs : List Sp} {cs : Sp} {L : Nat → Bool} {w' : World} {v23 v24 v25 v26 v27 v28 v29 v30 v31 v32 v33 v34 v5 : Value} (H : K4 w ad ad2 n1 c1 n2 c2 x y A3 kk c3 zs cs L w' v23 v24 v25 v26 v27 v28 v29 v30 v31 v32 v33 v34 v5) {z : Value} (k : z = .slice (some ad) n1 c1) : K4 w ad ad2 n1 c1 n2 c2 x y A3 kk c3 zs cs (fun j => j == 1 || L j) w' v23 z v25 v26 v27 v28 v29 v30 v31 v32 v33 v34 v5 := ⟨H.b, H.o, H.e5, H.f0, fun _ => k, H.f2, H.f3, H.f4, H.f5, H.f6, H.f7, H.f8, H.f9, H.f10, H.f11, H.f12, H.d12_11, H.d11_0⟩
theorem K4.s2 {w : World} {ad ad2 : Addr} {n1 c1 n2 c2 : Nat} {x y : Rw} {A3 : Option Addr} {kk c3 : Nat} {zs : List Sp} {cs : Sp} {L : Nat → Bool} {w' : World} {v23 v24 v25 v26 v27 v28 v29 v30 v31 v32 v33 v34 v5 : Value} (H : K4 w ad ad2 n1 c1 n2 c2 x y A3 kk c3 zs cs L w' v23 v24 v25 v26 v27 v28 v29 v30 v31 v32 v33 v34 v5) {z : Value} (k : z = .pointer (some ad)) : K4 w ad ad2 n1 c1 n2 c2 x y A3 kk c3 zs cs (fun j => j == 2 || L j) w' v23 v24 z v26 v27 v28 v29 v30 v31 v32 v33 v34 v5 := ⟨H.b, H.o, H.e5, H.f0, H.f1, fun _ => k, H.f3, H.f4, H.f5, H.f6, H.f7, H.f8, H.f9, H.f10, H.f11, H.f12, H.d12_11, H.d11_0⟩
theorem K4.s3 {w : World} {ad ad2 : Addr} {n1 c1 n2 c2 : Nat} {x y : Rw} {A3 : Option Addr} {kk c3 : Nat} {zs : List Sp} {cs : Sp} {L : Nat → Bool} {w' : World} {v23 v24 v25 v26 v27 v28 v29 v30 v31 v32 v33 v34 v5 : Value} (H : K4 w ad ad2 n1 c1 n2 c2 x y A3 kk c3 zs cs L w' v23 v24 v25 v26 v27 v28 v29 v30 v31 v32 v33 v34 v5) {z : Value} (k : z = .pointer (some ad)) : K4 w ad ad2 n1 c1 n2 c2 x y A3 kk c3 zs cs (fun j => j == 3 || L j) w' v23 v24 v25 z v27 v28 v29 v30 v31 v32 v33 v34 v5 := ⟨H.b, H.o, H.e5, H.f0, H.f1, H.f2, fun _ => k, H.f4, H.f5, H.f6, H.f7, H.f8, H.f9, H.f10, H.f11, H.f12, H.d12_11, H.d11_0⟩
theorem K4.s4 {w : World} {ad ad2 : Addr} {n1 c1 n2 c2 : Nat} {x y : Rw} {A3 : Option Addr} {kk c3 : Nat} {zs : List Sp} {cs : Sp} {L : Nat → Bool} {w' : World} {v23 v24 v25 v26 v27 v28 v29 v30 v31 v32 v33 v34 v5 : Value} (H : K4 w ad ad2 n1 c1 n2 c2 x y A3 kk c3 zs cs L w' v23 v24 v25 v26 v27 v28 v29 v30 v31 v32 v33 v34 v5) {z : Value} (k : z = Spn.ag x.v.s) : K4 w ad ad2 n1 c1 n2 c2 x y A3 kk c3 zs cs (fun j => j == 4 || L j) w' v23 v24 v25 v26 z v28 v29 v30 v31 v32 v33 v34 v5 := ⟨H.b, H.o, H.e5, H.f0, H.f1, H.f2, H.f3, fun _ => k, H.f5, H.f6, H.f7, H.f8, H.f9, H.f10, H.f11, H.f12, H.d12_11, H.d11_0⟩
theorem K4.s5 {w : World} {ad ad2 : Addr} {n1 c1 n2 c2 : Nat} {x y : Rw} {A3 : Option Addr} {kk c3 : Nat} {zs : List Sp} {cs : Sp} {L : Nat → Bool} {w' : World} {v23 v24 v25 v26 v27 v28 v29 v30 v31 v32 v33 v34 v5 : Value} (H : K4 w ad ad2 n1 c1 n2 c2 x y A3 kk c3 zs cs L w' v23 v24 v25 v26 v27 v28 v29 v30 v31 v32 v33 v34 v5) {z : Value} (k : z = .slice (some ad2) n2 c2) : K4 w ad ad2 n1 c1 n2 c2 x y A3 kk c3 zs cs (fun j => j == 5 || L j) w' v23 v24 v25 v26 v27 z v29 v30 v31 v32 v33 v34 v5 := ⟨H.b, H.o, H.e5, H.f0, H.f1, H.f2, H.f3, H.f4, fun _ => k, H.f6, H.f7, H.f8, H.f9, H.f10, H.f11, H.f12, H.d12_11, H.d11_0⟩
theorem K4.s6 {w : World} {ad ad2 : Addr} {n1 c1 n2 c2 : Nat} {x y : Rw} {A3 : Option Addr} {kk c3 : Nat} {zs : List Sp} {cs : Sp} {L : Nat → Bool} {w' : World} {v23 v24 v25 v26 v27 v28 v29 v30 v31 v32 v33 v34 v5 : Value} (H : K4 w ad ad2 n1 c1 n2 c2 x y A3 kk c3 zs cs L w' v23 v24 v25 v26 v27 v28 v29 v30 v31 v32 v33 v34 v5) {z : Value} (k : z = .pointer (some ad2)) : K4 w ad ad2 n1 c1 n2 c2 x y A3 kk c3 zs cs (fun j => j == 6 || L j) w' v23 v24 v25 v26 v27 v28 z v30 v31 v32 v33 v34 v5 := ⟨H.b, H.o, H.e5, H.f0, H.f1, H.f2, H.f3, H.f4, H.f5, fun _ => k, H.f7, H.f8, H.f9, H.f10, H.f11, H.f12, H.d12_11, H.d11_0⟩
theorem K4.s7 {w : World} {ad ad2 : Addr} {n1 c1 n2 c2 : Nat} {x y : Rw} {A3 : Option Addr} {kk c3 : Nat} {zs : List Sp} {cs : Sp} {L : Nat → Bool} {w' : World} {v23 v24 v25 v26 v27 v28 v29 v30 v31 v32 v33 v34 v5 : Value} (H : K4 w ad ad2 n1 c1 n2 c2 x y A3 kk c3 zs cs L w' v23 v24 v25 v26 v27 v28 v29 v30 v31 v32 v33 v34 v5) {z : Value} (k : z = .pointer (some ad2)) : K4 w ad ad2 n1 c1 n2 c2 x y A3 kk c3 zs cs (fun j => j == 7 || L j) w' v23 v24 v25 v26 v27 v28 v29 z v31 v32 v33 v34 v5 := ⟨H.b, H.o, H.e5, H.f0, H.f1, H.f2, H.f3, H.f4, H.f5, H.f6, fun _ => k, H.f8, H.f9, H.f10, H.f11, H.f12, H.d12_11, H.d11_0⟩
theorem K4.s8 {w : World} {ad ad2 : Addr} {n1 c1 n2 c2 : Nat} {x y : Rw} {A3 : Option Addr} {kk c3 : Nat} {zs : List Sp} {cs : Sp} {L : Nat → Bool} {w' : World} {v23 v24 v25 v26 v27 v28 v29 v30 v31 v32 v33 v34 v5 : Value} (H : K4 w ad ad2 n1 c1 n2 c2 x y A3 kk c3 zs cs L w' v23 v24 v25 v26 v27 v28 v29 v30 v31 v32 v33 v34 v5) {z : Value} (k : z = Spn.ag y.v.s) : K4 w ad ad2 n1 c1 n2 c2 x y A3 kk c3 zs cs (fun j => j == 8 || L j) w' v23 v24 v25 v26 v27 v28 v29 v30 z v32 v33 v34 v5 := ⟨H.b, H.o, H.e5, H.f0, H.f1, H.f2, H.f3, H.f4, H.f5, H.f6, H.f7, fun _ => k, H.f9, H.f10, H.f11, H.f12, H.d12_11, H.d11_0⟩
theorem K4.s9 {w : World} {ad ad2 : Addr} {n1 c1 n2 c2 : Nat} {x y : Rw} {A3 : Option Addr} {kk c3 : Nat} {zs : List Sp} {cs : Sp} {L : Nat → Bool} {w' : World} {v23 v24 v25 v26 v27 v28 v29 v30 v31 v32 v33 v34 v5 : Value} (H : K4 w ad ad2 n1 c1 n2 c2 x y A3 kk c3 zs cs L w' v23 v24 v25 v26 v27 v28 v29 v30 v31 v32 v33 v34 v5) {z : Value} (k : z = Spn.ag cs) : K4 w ad ad2 n1 c1 n2 c2 x y A3 kk c3 zs cs (fun j => j == 9 || L j) w' v23 v24 v25 v26 v27 v28 v29 v30 v31 z v33 v34 v5 := ⟨H.b, H.o, H.e5, H.f0, H.f1, H.f2, H.f3, H.f4, H.f5, H.f6, H.f7, H.f8, fun _ => k, H.f10, H.f11, H.f12, H.d12_11, H.d11_0⟩
theorem K4.s10 {w : World} {ad ad2 : Addr} {n1 c1 n2 c2 : Nat} {x y : Rw} {A3 : Option Addr} {kk c3 : Nat} {zs : List Sp} {cs : Sp} {L : Nat → Bool} {w' : World} {v23 v24 v25 v26 v27 v28 v29 v30 v31 v32 v33 v34 v5 : Value} (H : K4 w ad ad2 n1 c1 n2 c2 x y A3 kk c3 zs cs L w' v23 v24 v25 v26 v27 v28 v29 v30 v31 v32 v33 v34 v5) {z : Value} (k : ∃ g, z = .slice (some ⟨g, 0, none⟩) 1 1 ∧ (L 11 = false → Spn.Spans w' w'.heap.size (some ⟨g, 0, none⟩) 1 [(cs.1, cs.2)])) : K4 w ad ad2 n1 c1 n2 c2 x y A3 kk c3 zs cs (fun j => j == 10 || L j) w' v23 v24 v25 v26 v27 v28 v29 v30 v31 v32 z v34 v5 := ⟨H.b, H.o, H.e5, H.f0, H.f1, H.f2, H.f3, H.f4, H.f5, H.f6, H.f7, H.f8, H.f9, fun _ => k, H.f11, H.f12, H.d12_11, H.d11_0⟩
theorem K4.s11 {w : World} {ad ad2 : Addr} {n1 c1 n2 c2 : Nat} {x y : Rw} {A3 : Option Addr} {kk c3 : Nat} {zs : List Sp} {cs : Sp} {L : Nat → Bool} {w' w2 : World} {v23 v24 v25 v26 v27 v28 v29 v30 v31 v32 v33 v34 v5 : Value} (H : K4 w ad ad2 n1 c1 n2 c2 x y A3 kk c3 zs cs L w' v23 v24 v25 v26 v27 v28 v29 v30 v31 v32 v33 v34 v5) (hf : L 12 = false) (h0 : L 0 = true) (hb : Below w.heap.size w' w2) {z34 : Value} (k0 : ∃ A7 c7, z34 = .slice A7 (kk + 1) c7 ∧ Spn.Own w2 w.heap.size A7 (kk + 1) c7 (zs ++ [cs])) : K4 w ad ad2 n1 c1 n2 c2 x y A3 kk c3 zs cs (fun j => j == 11 || L j) w2 v23 v24 v25 v26 v27 v28 v29 v30 v31 v32 v33 z34 v5 :=
 ⟨H.b.trans hb, (fun l => by cases l), H.e5, H.f0, H.f1, H.f2, H.f3, H.f4, H.f5, H.f6, H.f7, H.f8, H.f9, (fun l => by obtain ⟨g, e, h1⟩ := H.f10 l; exact ⟨g, e, fun l3 => by cases l3⟩), fun _ => k0, (fun l => absurd (show L 12 = true from l) (by rw [hf]; decide)), fun _ => rfl, fun _ => h0⟩
theorem K4.s12 {w : World} {ad ad2 : Addr} {n1 c1 n2 c2 : Nat} {x y : Rw} {A3 : Option Addr} {kk c3 : Nat} {zs : List Sp} {cs : Sp} {L : Nat → Bool} {w' : World} {v23 v24 v25 v26 v27 v28 v29 v30 v31 v32 v33 v34 v5 : Value} (H : K4 w ad ad2 n1 c1 n2 c2 x y A3 kk c3 zs cs L w' v23 v24 v25 v26 v27 v28 v29 v30 v31 v32 v33 v34 v5) (h11 : L 11 = true) : K4 w ad ad2 n1 c1 n2 c2 x y A3 kk c3 zs cs (fun j => j == 12 || L j) w' v23 v24 v25 v26 v27 v28 v29 v30 v31 v32 v33 v34 v34 :=
 ⟨H.b, H.o, (fun l => by cases l), H.f0, H.f1, H.f2, H.f3, H.f4, H.f5, H.f6, H.f7, H.f8, H.f9, H.f10, H.f11, fun _ => rfl, fun _ => h11, H.d11_0⟩
set_option maxRecDepth 100000 in
set_option maxHeartbeats 4000000 in
theorem apart_ (f t : Int) (A A2 : Option Addr) (n n2 c c2 : Nat) (rs qs : List Rw) (w : World) (S : Sls w A n rs) (S2 : Sls w A2 n2 qs) (hn : n ≤ c) (hn2 : n2 ≤ c2) (R1 : Row f t (rs.map Rw.v)) (R2 : Row f t (qs.map Rw.v)) (hl : n ≤ 1100) (hl2 : n2 ≤ 1100) : Calls Tryz.prog 31 #[.slice A n c, .slice A2 n2 c2] w (ApTo w (rs.map Rw.v) (qs.map Rw.v)) := by
 have HR1 := Lib.hid R1; have HR2 := Lib.hid R2; have HS := Lib.hid S; have HS2 := Lib.hid S2; have HL1 := Lib.hid (show rs.length ≤ 1100 by have := S.r.1; omega); have HL2 := Lib.hid (show qs.length ≤ 1100 by have := S2.r.1; omega); clear R1 R2 S S2; go_enter Tryz.func31, Tryz.ntmps31; go_wp2
 go_loopw [0, 1, 5] (fun a b d w' => ∃ (i j : Nat) (A1 : Option Addr) (n1 c1 : Nat) (A2 : Option Addr) (n2 c2 : Nat) (A3 : Option Addr) (k c3 : Nat) (zs : List Sp) (e : Int) (W : World), a = .slice A1 n1 c1 ∧ b = .slice A2 n2 c2 ∧ d = .slice A3 k c3 ∧ W = w' ∧ Hid (AJ w f t rs qs W i j A1 n1 c1 A2 n2 c2 A3 k c3 zs e)) (fun a b _ _ => lenV a + lenV b)
 case atStart => exact ⟨0, 0, A, n, c, A2, n2, c2, none, 0, 0, [], f, w, rfl, rfl, rfl, rfl, Lib.hid ⟨Below.refl _ _, by rw [List.drop_zero]; exact HS.out, hn, by rw [List.drop_zero]; exact HS2.out, hn2, Spn.Own.nil, Went.start HR1.out HR2.out⟩⟩
 case round =>
  clear HS HS2 hn hn2; obtain ⟨i, j, A1, n1, c1, A2', n2', c2', A3, k, c3, zs, e', W, rfl, rfl, rfl, rfl, H⟩ := hrel; by_cases h0 : 0 < n1 ∧ 0 < n2'
  ·obtain ⟨h1, h2⟩ := h0; have t1 : decide ((0 : Int) < (n1 : Int)) = true := decide_eq_true (by omega); have t2 : decide ((0 : Int) < (n2' : Int)) = true := decide_eq_true (by omega); have t3 : (0 : Int) < (n1 : Int) := by omega
   have t4 : (0 : Int) < (n2' : Int) := by omega
   obtain ⟨ad, x, rfl, hb, hx, N⟩ := (H.out.x.below H.out.b).r.get h1; obtain ⟨ad2, y, rfl, hb2, hy, N2⟩ := (H.out.y.below H.out.b).r.get h2; have hx' : rs[i]? = some x := by rw [List.getElem?_drop] at hx; simpa using hx
   have hy' : qs[j]? = some y := by rw [List.getElem?_drop] at hy; simpa using hy
   have HX := Lib.hid hx; have HY := Lib.hid hy; have HXs := Lib.hid (show (rs.map Rw.v)[i]? = some x.v by rw [List.getElem?_map, hx']; rfl); have HYs := Lib.hid (show (qs.map Rw.v)[j]? = some y.v by rw [List.getElem?_map, hy']; rfl); have HGX := Lib.hid ((H.out.x.below H.out.b).g x (List.mem_of_getElem? hx)); have HGY := Lib.hid ((H.out.y.below H.out.b).g y (List.mem_of_getElem? hy)); have HN := Lib.hid (show Nin W ad x from N); have HN2 := Lib.hid (show Nin W ad2 y from N2); have HB := Lib.hid hb; have HB2 := Lib.hid hb2; have HP1 := Lib.hid h1; have HP2 := Lib.hid h2; clear hx hy hx' hy' N N2 hb hb2
   go_upto_region 3 with fail
   refine wp_region_steps (fun L_ a_ w_ => ∃ (v15 v16 v17 v18 v19 v20 v21 v22 : Value), a_ = { tmps := #[.slice (some ad) n1 c1, .slice (some ad2) n2' c2', undef, undef, .slice none 0 0, .slice A3 k c3, u6, .slice (some ad) n1 c1, .int .i64 (n1 : Int), .bool true, .bool true, .slice (some ad2) n2' c2', .int .i64 (n2' : Int), .bool true, .bool true, v15, v16, v17, v18, v19, v20, v21, v22, u23, u24, u25, u26, u27, u28, u29, u30, u31, u32, u33, u34, u35, u36, u37, u38, u39, u40, u41, u42, u43, u44, u45, u46, u47, u48, u49, u50, u51, undef], defers := [] } ∧ Hid (K3 W ad n1 c1 x ad2 n2' c2' y L_ w_ v15 v16 v17 v18 v19 v20 v21 v22)) (by kernel_rfl) (by kernel_rfl) ?_ (AllSteps.cons ?_ (AllSteps.cons ?_ (AllSteps.cons ?_ (AllSteps.cons ?_ (AllSteps.cons ?_ (AllSteps.cons ?_ (AllSteps.cons ?_ (AllSteps.cons ?_ AllSteps.nil)))))))) ?_
   ·exact ⟨_, _, _, _, _, _, _, _, rfl, Lib.hid ⟨⟨rfl, rfl, rfl, Nat.le_refl _, fun _ _ => rfl⟩, (fun h => by cases h), (fun h => by cases h), (fun h => by cases h), (fun h => by cases h), (fun h => by cases h), (fun h => by cases h), (fun h => by cases h), (fun h => by cases h)⟩⟩
   ·rintro L_ a_ w_ hL hd ⟨v15, v16, v17, v18, v19, v20, v21, v22, rfl, HR⟩ K hK; clear hd; go_simp; exact hK.out _ _ ⟨_, _, _, _, _, _, _, _, rfl, Lib.hid (HR.out.s0 rfl)⟩
   ·rintro L_ a_ w_ hL hd ⟨v15, v16, v17, v18, v19, v20, v21, v22, rfl, HR⟩ K hK; have e0 := HR.out.f0 (hd ⟨0, .data⟩ (by simp) rfl); subst e0; clear hd; go_simp; exact hK.out _ _ ⟨_, _, _, _, _, _, _, _, rfl, Lib.hid (HR.out.s1 rfl)⟩
   ·rintro L_ a_ w_ hL hd ⟨v15, v16, v17, v18, v19, v20, v21, v22, rfl, HR⟩ K hK; have e1 := HR.out.f1 (hd ⟨1, .data⟩ (by simp) rfl); subst e1; obtain ⟨q0, q1, q2, q3, q4, q5, q6, q7, q8⟩ := HN.out.keep (fun p hp => HR.out.b.cell (p := p) (by rw [hp]; exact HB.out)); clear hd; go_simp; exact hK.out _ _ ⟨_, _, _, _, _, _, _, _, rfl, Lib.hid (HR.out.s2 rfl)⟩
   ·rintro L_ a_ w_ hL hd ⟨v15, v16, v17, v18, v19, v20, v21, v22, rfl, HR⟩ K hK; have e2 := HR.out.f2 (hd ⟨2, .data⟩ (by simp) rfl); subst e2; have C := Lib.hid (unlike_ x w_); clear hd; go_simp; refine C.out.mono ?_; rintro e w5 ⟨rfl, hw5⟩; have HR2 := Lib.hid (HR.out.up (hw5 ▸ alloc_ w_ _)); have F := Lib.hid (show UnF w5 _ x from ⟨_, rfl, hw5 ▸ Bx.new w_ 73 (vc x)⟩); clear hw5 C
    try go_simp
    exact hK.out _ _ ⟨_, _, _, _, _, _, _, _, rfl, Lib.hid (HR2.out.s3 F.out)⟩
   ·rintro L_ a_ w_ hL hd ⟨v15, v16, v17, v18, v19, v20, v21, v22, rfl, HR⟩ K hK; clear hd; go_simp; exact hK.out _ _ ⟨_, _, _, _, _, _, _, _, rfl, Lib.hid (HR.out.s4 rfl)⟩
   ·rintro L_ a_ w_ hL hd ⟨v15, v16, v17, v18, v19, v20, v21, v22, rfl, HR⟩ K hK; have e4 := HR.out.f4 (hd ⟨4, .data⟩ (by simp) rfl); subst e4; clear hd; go_simp; exact hK.out _ _ ⟨_, _, _, _, _, _, _, _, rfl, Lib.hid (HR.out.s5 rfl)⟩
   ·rintro L_ a_ w_ hL hd ⟨v15, v16, v17, v18, v19, v20, v21, v22, rfl, HR⟩ K hK; have e5 := HR.out.f5 (hd ⟨5, .data⟩ (by simp) rfl); subst e5; obtain ⟨q0, q1, q2, q3, q4, q5, q6, q7, q8⟩ := HN2.out.keep (fun p hp => HR.out.b.cell (p := p) (by rw [hp]; exact HB2.out)); clear hd; go_simp; exact hK.out _ _ ⟨_, _, _, _, _, _, _, _, rfl, Lib.hid (HR.out.s6 rfl)⟩
   ·rintro L_ a_ w_ hL hd ⟨v15, v16, v17, v18, v19, v20, v21, v22, rfl, HR⟩ K hK; obtain ⟨p, e3, hp⟩ := HR.out.f3 (hd ⟨3, .data⟩ (by simp) rfl); subst e3; have e6 := HR.out.f6 (hd ⟨6, .data⟩ (by simp) rfl); subst e6; have C := Lib.hid (unlike1 p x y w_ hp (HGX.out.below HR.out.b) (HGY.out.below HR.out.b)); clear hd hp; go_simp; refine C.out.mono ?_; rintro e w5 ⟨rfl, hb5⟩; have HR2 := Lib.hid (HR.out.up hb5); clear hb5 C
    try go_simp
    exact hK.out _ _ ⟨_, _, _, _, _, _, _, _, rfl, Lib.hid (HR2.out.s7 rfl)⟩
   ·rintro L_ a_ w_ hL ⟨v15, v16, v17, v18, v19, v20, v21, v22, rfl, HR⟩; obtain rfl := HR.out.f0 (hL 0 (by decide)); obtain rfl := HR.out.f1 (hL 1 (by decide)); obtain rfl := HR.out.f2 (hL 2 (by decide)); obtain rfl := HR.out.f4 (hL 4 (by decide)); obtain rfl := HR.out.f5 (hL 5 (by decide)); obtain rfl := HR.out.f6 (hL 6 (by decide)); obtain rfl := HR.out.f7 (hL 7 (by decide)); have HH := Lib.hid (H.out.next HR.out.b); have HNw := Lib.hid (HN.out.keep (fun p hp => HR.out.b.cell (p := p) (by rw [hp]; exact HB.out))); have HN2w := Lib.hid (HN2.out.keep (fun p hp => HR.out.b.cell (p := p) (by rw [hp]; exact HB2.out))); have HBW := Lib.hid (HR.out.b.size); clear HR hL H HN HN2; obtain ⟨u, hu⟩ : ∃ u, unl x.v y.v = u := ⟨_, rfl⟩; have HU := Lib.hid hu; rw [hu]; clear hu; dsimp only [Exit.then]; go_step; cases u
    ·have q1 := HNw.out.c1; have r1 := HN2w.out.c1
     go_upto_region 5 with fail
     go_still_tail 10, (by kernel_rfl)
     go_upto_region 6 with fail
     obtain ⟨W5, hW5⟩ : ∃ W5, w_.drew = W5 := ⟨_, rfl⟩; have hb5 : Below w_.heap.size w_ W5 := by rw [← hW5]; exact ⟨rfl, rfl, rfl, Nat.le_refl _, fun _ _ => rfl⟩
     have H5 := Lib.hid (HH.out.next hb5)
     try rw [hW5]
     have E5 := Lib.hid hW5; clear q1 r1 hb5 hW5; have C := Lib.hid (behind_ (some ad) n1 c1 (rs.drop i) (min x.v.s.2 y.v.s.2) w W5 H5.out.b H5.out.x H5.out.xc HP1.out HX.out); have D := fun w0 h0 => Lib.hid (behind_ (some ad2) n2' c2' (qs.drop j) (min x.v.s.2 y.v.s.2) w w0 h0 H5.out.y H5.out.yc HP2.out HY.out)
     go_wp2_with fail
     refine C.out.mono ?_; rintro e w6 ⟨A5, n5, c5, j5, rfl, hj5, hS5, hc5, hb6⟩; have H6 := Lib.hid (H5.out.next hb6); have F5 := Lib.hid (And.intro hj5 (And.intro hS5 hc5)); clear hj5 hS5 hc5 hb6 C
     go_wp2_with fail
     refine (D _ H6.out.b).out.mono ?_; rintro e w7 ⟨A6, n6, c6, j6, rfl, hj6, hS6, hc6, hb7⟩; have H7 := Lib.hid (H6.out.next hb7); have F6 := Lib.hid (And.intro hj6 (And.intro hS6 hc6)); clear hj6 hS6 hc6 hb7 D H5 H6; go_wp2; have G := Lib.hid (H7.out.g.step HR1.out HR2.out HXs.out HYs.out (ws := zs) (by rw [if_neg (of_decide_eq_false (show decide ((x.v.h, x.v.y) ≠ (y.v.h, y.v.y)) = false from HU.out))]) (i' := i + j5) (j' := j + j6) (by rw [F5.out.1]; split <;> rfl) (by rw [F6.out.1]; split <;> rfl))
     have M := Lib.hid (show n5 + n6 < n1 + n2' by
      have g1 := G.out.2; have a1 := F5.out.2.1.r.1; have a2 := F6.out.2.1.r.1; have a3 := H7.out.x.r.1; have a4 := H7.out.y.r.1; have a5 := HP1.out; have a6 := HP2.out; simp only [List.length_drop] at a1 a2 a3 a4; omega)
     go_roundw
     case rel => exact ⟨i + j5, j + j6, A5, n5, c5, A6, n6, c6, A3, k, c3, zs, _, w7, rfl, rfl, rfl, rfl, Lib.hid ⟨H7.out.b, by have := F5.out.2.1; rwa [List.drop_drop] at this, F5.out.2.2, by have := F6.out.2.1; rwa [List.drop_drop] at this, F6.out.2.2, H7.out.o, G.out.1⟩⟩
     case measure => exact M.out
    ·have q0 := HNw.out.c0; have q1 := HNw.out.c1; have r0 := HN2w.out.c0; have r1 := HN2w.out.c1
     go_upto_region 4 with fail
     obtain ⟨cs, hz⟩ : ∃ cs, ct x.v.s y.v.s = cs := ⟨_, rfl⟩; have C := fun W => Lib.hid (Spn.cut x.v.s y.v.s W)
     simp only [hz] at C; have HZ := Lib.hid hz
     have HNA := Lib.hid (show ∀ W', Below w.heap.size w W' → Nin W' ad x by
      intro W' hW'; obtain ⟨ad', x', e1, _, hx1, N7⟩ := (HH.out.x.below hW').r.get HP1.out; rw [HX.out] at hx1; injection e1 with e1
      injection hx1 with hx1
      subst e1 hx1; exact N7)
     have HNB := Lib.hid (show ∀ W', Below w.heap.size w W' → Nin W' ad2 y by
      intro W' hW'; obtain ⟨ad', x', e1, _, hx1, N7⟩ := (HH.out.y.below hW').r.get HP2.out; rw [HY.out] at hx1; injection e1 with e1
      injection hx1 with hx1
      subst e1 hx1; exact N7)
     have hk : k ≤ 2200 := by
      have g1 := HH.out.g.n; have g2 := Spn.Own.len HH.out.o; have a3 := HH.out.x.r.1; have a4 := HH.out.y.r.1; have a5 := HP1.out; have a6 := HP2.out; simp only [List.length_drop] at a3 a4; have b1 := HL1.out; have b2 := HL2.out; omega
     clear hz HNw HN2w q0 q1 r0 r1; refine wp_region_steps (fun L_ a_ w_ => ∃ (v23 v24 v25 v26 v27 v28 v29 v30 v31 v32 v33 v34 v5 : Value), a_ = { tmps := #[.slice (some ad) n1 c1, .slice (some ad2) n2' c2', undef, undef, .slice none 0 0, v5, u6, .slice (some ad) n1 c1, .int .i64 (n1 : Int), .bool true, .bool true, .slice (some ad2) n2' c2', .int .i64 (n2' : Int), .bool true, .bool true, .slice (some ad) n1 c1, .pointer (some ad), vg x, v18, .slice (some ad2) n2' c2', .pointer (some ad2), vg y, .bool true, v23, v24, v25, v26, v27, v28, v29, v30, v31, v32, v33, v34, u35, u36, u37, u38, u39, u40, u41, u42, u43, u44, u45, u46, u47, u48, u49, u50, u51, undef], defers := [] } ∧ Hid (K4 w ad ad2 n1 c1 n2' c2' x y A3 k c3 zs cs L_ w_ v23 v24 v25 v26 v27 v28 v29 v30 v31 v32 v33 v34 v5)) (by kernel_rfl) (by kernel_rfl) ?_ (AllSteps.cons ?_ (AllSteps.cons ?_ (AllSteps.cons ?_ (AllSteps.cons ?_ (AllSteps.cons ?_ (AllSteps.cons ?_ (AllSteps.cons ?_ (AllSteps.cons ?_ (AllSteps.cons ?_ (AllSteps.cons ?_ (AllSteps.cons ?_ (AllSteps.cons ?_ (AllSteps.cons ?_ AllSteps.nil))))))))))))) ?_
     ·exact ⟨_, _, _, _, _, _, _, _, _, _, _, _, _, rfl, Lib.hid ⟨(HH.out.next (W' := w_.drew) ⟨rfl, rfl, rfl, Nat.le_refl _, fun _ _ => rfl⟩).b, (fun _ => (HH.out.next (W' := w_.drew) ⟨rfl, rfl, rfl, Nat.le_refl _, fun _ _ => rfl⟩).o), (fun _ => rfl), (fun h => by cases h), (fun h => by cases h), (fun h => by cases h), (fun h => by cases h), (fun h => by cases h), (fun h => by cases h), (fun h => by cases h), (fun h => by cases h), (fun h => by cases h), (fun h => by cases h), (fun h => by cases h), (fun h => by cases h), (fun h => by cases h), (fun h => by cases h), (fun h => by cases h)⟩⟩
     ·rintro L_ a_ w_ hL hd ⟨v23, v24, v25, v26, v27, v28, v29, v30, v31, v32, v33, v34, v5, rfl, HR⟩ K hK; have e5 := HR.out.e5 (by cases h : L_ 12 with | false => rfl | true => have h' := HR.out.d11_0 (HR.out.d12_11 h); rw [hL] at h'; cases h'); subst e5; clear hd; go_simp; exact hK.out _ _ ⟨_, _, _, _, _, _, _, _, _, _, _, _, _, rfl, Lib.hid (HR.out.s0 rfl)⟩
     ·rintro L_ a_ w_ hL hd ⟨v23, v24, v25, v26, v27, v28, v29, v30, v31, v32, v33, v34, v5, rfl, HR⟩ K hK; clear hd; go_simp; exact hK.out _ _ ⟨_, _, _, _, _, _, _, _, _, _, _, _, _, rfl, Lib.hid (HR.out.s1 rfl)⟩
     ·rintro L_ a_ w_ hL hd ⟨v23, v24, v25, v26, v27, v28, v29, v30, v31, v32, v33, v34, v5, rfl, HR⟩ K hK; have e1 := HR.out.f1 (hd ⟨1, .data⟩ (by simp) rfl); subst e1; clear hd; go_simp; exact hK.out _ _ ⟨_, _, _, _, _, _, _, _, _, _, _, _, _, rfl, Lib.hid (HR.out.s2 rfl)⟩
     ·rintro L_ a_ w_ hL hd ⟨v23, v24, v25, v26, v27, v28, v29, v30, v31, v32, v33, v34, v5, rfl, HR⟩ K hK; have e2 := HR.out.f2 (hd ⟨2, .data⟩ (by simp) rfl); subst e2; clear hd; go_simp; exact hK.out _ _ ⟨_, _, _, _, _, _, _, _, _, _, _, _, _, rfl, Lib.hid (HR.out.s3 rfl)⟩
     ·rintro L_ a_ w_ hL hd ⟨v23, v24, v25, v26, v27, v28, v29, v30, v31, v32, v33, v34, v5, rfl, HR⟩ K hK; have e3 := HR.out.f3 (hd ⟨3, .data⟩ (by simp) rfl); subst e3; obtain ⟨q0, q1, q2, q3, q4, q5, q6, q7, q8⟩ := HNA.out w_ HR.out.b; clear hd; go_simp; exact hK.out _ _ ⟨_, _, _, _, _, _, _, _, _, _, _, _, _, rfl, Lib.hid (HR.out.s4 rfl)⟩
     ·rintro L_ a_ w_ hL hd ⟨v23, v24, v25, v26, v27, v28, v29, v30, v31, v32, v33, v34, v5, rfl, HR⟩ K hK; clear hd; go_simp; exact hK.out _ _ ⟨_, _, _, _, _, _, _, _, _, _, _, _, _, rfl, Lib.hid (HR.out.s5 rfl)⟩
     ·rintro L_ a_ w_ hL hd ⟨v23, v24, v25, v26, v27, v28, v29, v30, v31, v32, v33, v34, v5, rfl, HR⟩ K hK; have e5 := HR.out.f5 (hd ⟨5, .data⟩ (by simp) rfl); subst e5; clear hd; go_simp; exact hK.out _ _ ⟨_, _, _, _, _, _, _, _, _, _, _, _, _, rfl, Lib.hid (HR.out.s6 rfl)⟩
     ·rintro L_ a_ w_ hL hd ⟨v23, v24, v25, v26, v27, v28, v29, v30, v31, v32, v33, v34, v5, rfl, HR⟩ K hK; have e6 := HR.out.f6 (hd ⟨6, .data⟩ (by simp) rfl); subst e6; clear hd; go_simp; exact hK.out _ _ ⟨_, _, _, _, _, _, _, _, _, _, _, _, _, rfl, Lib.hid (HR.out.s7 rfl)⟩
     ·rintro L_ a_ w_ hL hd ⟨v23, v24, v25, v26, v27, v28, v29, v30, v31, v32, v33, v34, v5, rfl, HR⟩ K hK; have e7 := HR.out.f7 (hd ⟨7, .data⟩ (by simp) rfl); subst e7; obtain ⟨q0, q1, q2, q3, q4, q5, q6, q7, q8⟩ := HNB.out w_ HR.out.b; clear hd; go_simp; exact hK.out _ _ ⟨_, _, _, _, _, _, _, _, _, _, _, _, _, rfl, Lib.hid (HR.out.s8 rfl)⟩
     ·rintro L_ a_ w_ hL hd ⟨v23, v24, v25, v26, v27, v28, v29, v30, v31, v32, v33, v34, v5, rfl, HR⟩ K hK; have e4 := HR.out.f4 (hd ⟨4, .data⟩ (by simp) rfl); subst e4; have e8 := HR.out.f8 (hd ⟨8, .data⟩ (by simp) rfl); subst e8; clear hd; go_simp; refine (C w_).out.mono ?_; rintro e w5 ⟨rfl, hb5⟩; have HR2 := Lib.hid (HR.out.up hb5); clear hb5
      try go_simp
      exact hK.out _ _ ⟨_, _, _, _, _, _, _, _, _, _, _, _, _, rfl, Lib.hid (HR2.out.s9 rfl)⟩
     ·rintro L_ a_ w_ hL hd ⟨v23, v24, v25, v26, v27, v28, v29, v30, v31, v32, v33, v34, v5, rfl, HR⟩ K hK; have e9 := HR.out.f9 (hd ⟨9, .data⟩ (by simp) rfl); subst e9; have HR2 := Lib.hid (HR.out.up (alloc_ w_ (.cells #[.int .i64 cs.1, .int .i64 cs.2] 23))); have F := Lib.hid (Spn.spans_new1 w_ cs.1 cs.2); clear hd; go_simp; exact hK.out _ _ ⟨_, _, _, _, _, _, _, _, _, _, _, _, _, rfl, Lib.hid (HR2.out.s10 ⟨_, rfl, fun _ => F.out⟩)⟩
     ·rintro L_ a_ w_ hL hd ⟨v23, v24, v25, v26, v27, v28, v29, v30, v31, v32, v33, v34, v5, rfl, HR⟩ K hK; have e0 := HR.out.f0 (hd ⟨0, .data⟩ (by simp) rfl); subst e0; obtain ⟨g, e10, hsp⟩ := HR.out.f10 (hd ⟨10, .data⟩ (by simp) rfl); subst e10; have h0' := hd ⟨0, .data⟩ (by simp) rfl; have h12 := Lib.hid (show L_ 12 = false from (by cases h : L_ 12 with | false => rfl | true => have h' := HR.out.d12_11 h; rw [hL] at h'; cases h')); have how := HR.out.o hL; have hsz := HR.out.b.size; have h00 := Lib.hid h0'; clear hd h0'; refine step_appS _ rfl (.tmp 23) (.tmp 33) rfl w.heap.size A3 k c3 zs rfl how w_.heap.size ⟨g, 0, none⟩ 1 1 [(cs.1, cs.2)] rfl (hsp hL) (k + 1) rfl (by omega) hsz ?_; intro A7 c7 w7' hO7 hg7; have HR2 := Lib.hid (HR.out.s11 h12.out h00.out ((Below.refl _ w_).grown hg7 hsz fun b hb => (Spn.Own.lt how b hb).1) ⟨A7, c7, rfl, hO7⟩); clear hO7 hg7 how hsp; exact hK.out _ _ ⟨_, _, _, _, _, _, _, _, _, _, _, _, _, rfl, Lib.hid (HR2.out)⟩
     ·rintro L_ a_ w_ hL hd ⟨v23, v24, v25, v26, v27, v28, v29, v30, v31, v32, v33, v34, v5, rfl, HR⟩ K hK; have h11 := hd ⟨11, .data⟩ (by simp) rfl; obtain ⟨A7, c7, e11, h7⟩ := HR.out.f11 h11; subst e11; clear hd h7; go_simp; exact hK.out _ _ ⟨_, _, _, _, _, _, _, _, _, _, _, _, _, rfl, Lib.hid (HR.out.s12 h11)⟩
     ·rintro L_ a_ w_' hL ⟨v23, v24, v25, v26, v27, v28, v29, v30, v31, v32, v33, v34, v5, rfl, HR⟩; obtain rfl := HR.out.f12 (hL 12 (by decide)); obtain ⟨A7, c7, rfl, hO7⟩ := HR.out.f11 (hL 11 (by decide)); obtain rfl := HR.out.f0 (hL 0 (by decide)); obtain rfl := HR.out.f1 (hL 1 (by decide)); obtain rfl := HR.out.f2 (hL 2 (by decide)); obtain rfl := HR.out.f3 (hL 3 (by decide)); obtain rfl := HR.out.f4 (hL 4 (by decide)); obtain rfl := HR.out.f5 (hL 5 (by decide)); obtain rfl := HR.out.f6 (hL 6 (by decide)); obtain rfl := HR.out.f7 (hL 7 (by decide)); obtain rfl := HR.out.f8 (hL 8 (by decide)); obtain rfl := HR.out.f9 (hL 9 (by decide)); obtain ⟨g9, rfl, _⟩ := HR.out.f10 (hL 10 (by decide)); have N8 := Lib.hid (HNA.out _ HR.out.b); have N8' := Lib.hid (HNB.out _ HR.out.b); have H8 := Lib.hid (show AJ' w f t rs qs w_' i j (some ad) n1 c1 (some ad2) n2' c2' A7 (k + 1) c7 zs (zs ++ [cs]) e' from ⟨HR.out.b, HH.out.x, HH.out.xc, HH.out.y, HH.out.yc, hO7, HH.out.g⟩); clear HR hL HNA HNB HH hO7 hk C; dsimp only [Exit.then]; go_step; have q1 := N8.out.c1; have r1 := N8'.out.c1
      go_upto_region 5 with fail
      go_still_tail 10, (by kernel_rfl)
      go_upto_region 6 with fail
      obtain ⟨W5, hW5⟩ : ∃ W5, w_'.drew = W5 := ⟨_, rfl⟩; have hb5 : Below w_'.heap.size w_' W5 := by rw [← hW5]; exact ⟨rfl, rfl, rfl, Nat.le_refl _, fun _ _ => rfl⟩
      have H5 := Lib.hid (H8.out.next hb5)
      try rw [hW5]
      have E5 := Lib.hid hW5; clear q1 r1 hb5 hW5; have C := Lib.hid (behind_ (some ad) n1 c1 (rs.drop i) (min x.v.s.2 y.v.s.2) w W5 H5.out.b H5.out.x H5.out.xc HP1.out HX.out); have D := fun w0 h0 => Lib.hid (behind_ (some ad2) n2' c2' (qs.drop j) (min x.v.s.2 y.v.s.2) w w0 h0 H5.out.y H5.out.yc HP2.out HY.out)
      go_wp2_with fail
      refine C.out.mono ?_; rintro e w6 ⟨A5, n5, c5, j5, rfl, hj5, hS5, hc5, hb6⟩; have H6 := Lib.hid (H5.out.next hb6); have F5 := Lib.hid (And.intro hj5 (And.intro hS5 hc5)); clear hj5 hS5 hc5 hb6 C
      go_wp2_with fail
      refine (D _ H6.out.b).out.mono ?_; rintro e w7 ⟨A6, n6, c6, j6, rfl, hj6, hS6, hc6, hb7⟩; have H7 := Lib.hid (H6.out.next hb7); have F6 := Lib.hid (And.intro hj6 (And.intro hS6 hc6)); clear hj6 hS6 hc6 hb7 D H5 H6; go_wp2; have G := Lib.hid (H7.out.g.step HR1.out HR2.out HXs.out HYs.out (ws := (zs ++ [cs])) (by rw [if_pos (of_decide_eq_true (show decide ((x.v.h, x.v.y) ≠ (y.v.h, y.v.y)) = true from HU.out)), HZ.out]) (i' := i + j5) (j' := j + j6) (by rw [F5.out.1]; split <;> rfl) (by rw [F6.out.1]; split <;> rfl))
      have M := Lib.hid (show n5 + n6 < n1 + n2' by
       have g1 := G.out.2; have a1 := F5.out.2.1.r.1; have a2 := F6.out.2.1.r.1; have a3 := H7.out.x.r.1; have a4 := H7.out.y.r.1; have a5 := HP1.out; have a6 := HP2.out; simp only [List.length_drop] at a1 a2 a3 a4; omega)
      go_roundw
      case rel => exact ⟨i + j5, j + j6, A5, n5, c5, A6, n6, c6, A7, k + 1, c7, (zs ++ [cs]), _, w7, rfl, rfl, rfl, rfl, Lib.hid ⟨H7.out.b, by have := F5.out.2.1; rwa [List.drop_drop] at this, F5.out.2.2, by have := F6.out.2.1; rwa [List.drop_drop] at this, F6.out.2.2, H7.out.o, G.out.1⟩⟩
      case measure => exact M.out
  ·have t9 : (decide ((0 : Int) < (n1 : Int)) && decide ((0 : Int) < (n2' : Int))) = false := by
    rcases Nat.eq_zero_or_pos n1 with h | h
    ·subst h; rfl
    ·have : n2' = 0 := by omega
     subst this; simp
   have HE := Lib.hid (show n1 = 0 ∨ n2' = 0 by omega)
   have FIN := Lib.hid (show ApTo w (rs.map Rw.v) (qs.map Rw.v) (.returned (.slice A3 k c3)) W from by
    have a3 := H.out.x.r.1; have a4 := H.out.y.r.1; simp only [List.length_drop] at a3 a4; have l1 : (rs.map Rw.v).length = rs.length := List.length_map ..; have l2 : (qs.map Rw.v).length = qs.length := List.length_map ..; have g1 := H.out.g.n; have g2 := Spn.Own.len H.out.o; have g3 := H.out.g.a; have g4 := H.out.g.b
    have hi : i ≤ rs.length := by
     rcases g3 with ⟨x, hx, _⟩ | ⟨h, _⟩
     ·have := (List.getElem?_eq_some_iff.1 hx).1; omega
     ·omega
    have hj : j ≤ qs.length := by
     rcases g4 with ⟨x, hx, _⟩ | ⟨h, _⟩
     ·have := (List.getElem?_eq_some_iff.1 hx).1; omega
     ·omega
    have b1 := HL1.out; have b2 := HL2.out; clear g3 g4; have he := HE.out; have hk : k ≤ 2200 := by omega
    have hend : (rs.map Rw.v).length ≤ i ∨ (qs.map Rw.v).length ≤ j := by rw [l1, l2]; omega
    exact ⟨A3, k, c3, zs, rfl, (Spn.Own.spans H.out.o).1, hk, H.out.g.end_ HR1.out HR2.out hend, H.out.b⟩)
   clear H HE; rcases Nat.eq_zero_or_pos n1 with h | h
   ·subst h; go_wp2; go_ret; exact FIN.out
   ·obtain rfl : n2' = 0 := by omega
    have t1 : decide ((0 : Int) < (n1 : Int)) = true := decide_eq_true (by omega); go_wp2; go_ret; exact FIN.out
end Slc
end Go.Proofs.YtbjnjeidgdmdiaaGreat
