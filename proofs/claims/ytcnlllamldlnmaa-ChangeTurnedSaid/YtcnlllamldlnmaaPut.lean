/-
  Put of package change. Conditions: the history and the change read as meant, lists are short.
-/
import Derived.Test.YtcnlllamldlnmaaRBind
import Derived.Test.YtcnlllamldlnmaaRefuse
namespace Go.Proofs.Ytcnlllamldlnmaa
open Go.RowKit Ba Cv Sp Te Ag
namespace Tm
set_option linter.unusedVariables false

/-- What Put tells. -/
def phi (h : Hi) (c : Ch) : Hi := if code h.s h.bk h.hs c = 0 then ⟨h.id, h.bk, h.s, h.r, h.cs, h.hs ++ [c]⟩ else zhi
theorem Own.of {w w' : World} {base n c : Nat} {A : Option Addr} {rs : List Rw} (h : Own w base A n c rs) (hk : ∀ k, base ≤ k → w'.heap[k]? = w.heap[k]?) : Own w' base A n c rs := by
  refine ⟨h.1, ?_⟩
  rcases h.2 with h | ⟨g, cap, cur, e, hb, hh, q⟩
  · exact .inl h
  · exact .inr ⟨g, cap, cur, e, hb, (hk g hb).trans hh, q⟩
/-- The three boxes. -/
structure P3 (w W : World) (k : Hr) (r : Rw) : Prop where
  b : Below w.heap.size w W
  x : Bx W w.heap.size 33 (hc k)
  y : Bx W (w.heap.size + 1) 26 (vc r)
  z : Bx W (w.heap.size + 2) 33 zhc
section
variable {w W W' : World} {k : Hr} {r : Rw}
theorem P3.next (h : P3 w W k r) (hb : Below W.heap.size W W') : P3 w W' k r := ⟨h.b.trans (hb.mono h.b.size), h.x.keep hb, h.y.keep hb, h.z.keep hb⟩
theorem P3.lt (h : P3 w W k r) : w.heap.size + 3 ≤ W.heap.size := h.z.lt
theorem P3.start (w : World) (k : Hr) (r : Rw) : P3 w (((w.alloc (.cells (hc k) 33)).alloc (.cells (vc r) 26)).alloc (.cells zhc 33)) k r := by
  refine ⟨((alloc_ _ _).alloc (by simp) _).alloc (by simp; omega) _, ((Bx.new _ _ _).alloc _).alloc _, ?_, ?_⟩
  · have := (Bx.new (w.alloc (.cells (hc k) 33)) 26 (vc r)).alloc (.cells zhc 33)
    rw [World.size_alloc] at this
    exact this
  · have := Bx.new ((w.alloc (.cells (hc k) 33)).alloc (.cells (vc r) 26)) 33 zhc
    rw [World.size_alloc, World.size_alloc] at this
    exact this
/-- A history into the first box. -/
theorem P3.puth (h : P3 w W k r) (k' : Hr) : P3 w (puth w.heap.size k' W) k' r :=
  ⟨sets_below _ (Nat.le_refl _) 0 W h.b, h.x.puth k', h.y.sets_far (by omega) _ 0, h.z.sets_far (by omega) _ 0⟩
theorem P3.cov (h : P3 w W k r) (A : Option Addr) (c : Nat) : P3 w (W.setCell ⟨w.heap.size + 1, 7, none⟩ (.slice A r.n c)) k ⟨r.v, A, r.n, c⟩ :=
  ⟨h.b.setCell (p := ⟨w.heap.size + 1, 7, none⟩) (by show w.heap.size ≤ w.heap.size + 1; omega) _, h.x.far (by show w.heap.size ≠ w.heap.size + 1; omega) _, h.y.set 7 _, h.z.far (by show w.heap.size + 2 ≠ w.heap.size + 1; omega) _⟩
def Hr.more (k : Hr) (B : Option Addr) (m d : Nat) (rs : List Rw) : Hr := ⟨k.id, k.bk, k.s, k.r, k.A, k.n, k.c, k.cs, B, m, d, rs⟩
theorem P3.chg (h : P3 w W k r) (B : Option Addr) (m d : Nat) (rs : List Rw) : P3 w (W.setCell ⟨w.heap.size, 9, none⟩ (.slice B m d)) (k.more B m d rs) r :=
  ⟨h.b.setCell (p := ⟨w.heap.size, 9, none⟩) (Nat.le_refl _) _, h.x.set 9 _, h.y.far (by show w.heap.size + 1 ≠ w.heap.size; omega) _, h.z.far (by show w.heap.size + 2 ≠ w.heap.size; omega) _⟩
end
/-- Memory from a place on, and not the row's. -/
def nq (lo : Nat) (W : World) (k : Hr) (b : Nat) : Prop := lo ≤ b ∧ b < W.heap.size ∧ some b ≠ (Value.slice k.B k.m k.d).ownBlock
/-- The history's lists are the call's own. -/
structure PQ (w : World) (lo : Nat) (W : World) (k : Hr) (r : Rw) : Prop where
  p : P3 w W k r
  l0 : w.heap.size + 3 ≤ lo
  l1 : lo ≤ W.heap.size
  o : Own W lo k.B k.m k.d k.rs
  t : Cvs W (nq lo W k) k.A k.n k.cs
  q : ∀ x ∈ k.rs, Cvs W (nq lo W k) x.A x.n x.v.cs
section
variable {w W W' : World} {lo : Nat} {k : Hr} {r : Rw}
theorem PQ.start {h : Hr} (hp : P3 w W h r) (H : Ows W h W' k) : PQ w W.heap.size (puth w.heap.size k W') k r := by
  have hlt := hp.lt
  have hp' := (hp.next H.b).puth k
  have keep : ∀ q : Addr, W.heap.size ≤ q.block → (puth w.heap.size k W').cell? q = W'.cell? q := fun q hq => sets_other _ (by omega) 0 W'
  have hsz : (puth w.heap.size k W').heap.size = W'.heap.size := sets_size _ 0 W'
  have kk : ∀ {A : Option Addr} {n : Nat} {cs : List Co}, Cvs W' (fun b => W.heap.size ≤ b ∧ b < W'.heap.size ∧ some b ≠ (Value.slice k.B k.m k.d).ownBlock) A n cs → Cvs (puth w.heap.size k W') (nq W.heap.size (puth w.heap.size k W') k) A n cs := fun C =>
    C.keep (fun q hq => keep q hq.1) fun b hb => ⟨hb.1, by rw [hsz]; exact hb.2.1, hb.2.2⟩
  exact ⟨hp', hlt, by rw [hsz]; exact H.b.size, H.r.of fun g hg => sets_heap _ (by omega) 0 W', kk H.t, fun x hx => kk (H.k x hx)⟩
theorem PQ.next (H : PQ w lo W k r) (hb : Below W.heap.size W W') : PQ w lo W' k r := by
  have kk : ∀ {A : Option Addr} {n : Nat} {cs : List Co}, Cvs W (nq lo W k) A n cs → Cvs W' (nq lo W' k) A n cs := fun C =>
    C.keep (fun q hq => hb.cell hq.2.1) fun b hb' => ⟨hb'.1, Nat.lt_of_lt_of_le hb'.2.1 hb.size, hb'.2.2⟩
  exact ⟨H.p.next hb, H.l0, Nat.le_trans H.l1 hb.size, H.o.below hb, kk H.t, fun x hx => kk (H.q x hx)⟩
/-- The change gets covers of its own. -/
theorem PQ.cov (H : PQ w lo W k r) (hb : Below W.heap.size W W') {A : Option Addr} {c : Nat} (hc : COwn W' W.heap.size A r.n c r.v.cs) :
    PQ w lo (W'.setCell ⟨w.heap.size + 1, 7, none⟩ (.slice A r.n c)) k ⟨r.v, A, r.n, c⟩ ∧ Cvs (W'.setCell ⟨w.heap.size + 1, 7, none⟩ (.slice A r.n c)) (nq lo (W'.setCell ⟨w.heap.size + 1, 7, none⟩ (.slice A r.n c)) k) A r.n r.v.cs := by
  have H' := H.next hb
  have hlo := H.l0
  have hhi := H.l1
  have keep : ∀ q : Addr, lo ≤ q.block → (W'.setCell ⟨w.heap.size + 1, 7, none⟩ (.slice A r.n c)).cell? q = W'.cell? q := fun q hq => World.cell?_setCell_other _ _ _ _ fun e => by rw [← e] at hq; simp only at hq; omega
  have kk : ∀ {A' : Option Addr} {n : Nat} {cs : List Co}, Cvs W' (nq lo W' k) A' n cs → Cvs (W'.setCell ⟨w.heap.size + 1, 7, none⟩ (.slice A r.n c)) (nq lo (W'.setCell ⟨w.heap.size + 1, 7, none⟩ (.slice A r.n c)) k) A' n cs := fun C =>
    C.keep (fun q hq => keep q hq.1) fun b hb' => ⟨hb'.1, by simpa using hb'.2.1, hb'.2.2⟩
  refine ⟨⟨H'.p.cov A c, hlo, by simpa using H'.l1, H'.o.far (by show w.heap.size + 1 < lo; omega) _, kk H'.t, fun x hx => kk (H'.q x hx)⟩, ?_⟩
  refine kk (hc.row.keep (fun _ _ => rfl) fun b hb' => ⟨by omega, hb'.2, fun e => ?_⟩)
  have := H.o.lt b e.symm
  omega
/-- One change more, and all is stored. -/
theorem PQ.app (H : PQ w lo W k r) (hc : Cvs W (nq lo W k) r.A r.n r.v.cs) {o : Obj} {B : Option Addr} {d : Nat} (hO : Own W' lo B (k.m + 1) d (k.rs ++ [r])) (hg : (W.alloc o).grownBy W' (Value.slice k.B k.m k.d).ownBlock) :
    P3 w W' k r := by
  have Ha := H.next (alloc_ W o)
  have row : ∀ g, (Value.slice k.B k.m k.d).ownBlock = some g → lo ≤ g := fun g hg => (H.o.lt g hg).1
  have hlo := H.l0
  have blk : ∀ b, b < lo → b < (W.alloc o).heap.size → W'.heap[b]? = (W.alloc o).heap[b]? := fun b hb hb2 => hg.block b hb2 fun e => by have := row b e.symm; omega
  have hal : (W.alloc o).heap.size = W.heap.size + 1 := World.size_alloc _ _
  have hhi := H.l1
  refine ⟨⟨hg.os.trans Ha.p.b.os, hg.tape.trans Ha.p.b.tape, hg.output.trans Ha.p.b.output, Nat.le_trans Ha.p.b.size hg.size, fun b hb => (blk b (by omega) (by omega)).trans (Ha.p.b.block b hb)⟩, ?_, ?_, ?_⟩
  · exact (blk _ (by omega) (by omega)).trans Ha.p.x
  · exact (blk _ (by omega) (by omega)).trans Ha.p.y
  · exact (blk _ (by omega) (by omega)).trans Ha.p.z
/-- What is told in the end. -/
theorem PQ.out (H : PQ w lo W k r) (hc : Cvs W (nq lo W k) r.A r.n r.v.cs) (hs : ∀ x ∈ k.rs, x.n ≤ 3000) (hn : k.n ≤ 3000) (hm : k.m < 2000) (hr : r.n ≤ 3000) {o : Obj} {B : Option Addr} {d : Nat} (hO : Own W' lo B (k.m + 1) d (k.rs ++ [r])) (hg : (W.alloc o).grownBy W' (Value.slice k.B k.m k.d).ownBlock)
    (l : List Value) {v : Hi} (hv : (k.more B (k.m + 1) d (k.rs ++ [r])).v = v) : Res w v (sets (w.heap.size + 2) 0 l (W'.setCell ⟨w.heap.size, 9, none⟩ (.slice B (k.m + 1) d))) (k.more B (k.m + 1) d (k.rs ++ [r])) := by
  have P := H.app hc hO hg
  have hlo := H.l0
  have hhi := H.l1
  have hal : (W.alloc o).heap.size = W.heap.size + 1 := World.size_alloc _ _
  have hs2 := sets_size (b := w.heap.size + 2) l 0 (W'.setCell ⟨w.heap.size, 9, none⟩ (.slice B (k.m + 1) d))
  have hsz : (W'.setCell ⟨w.heap.size, 9, none⟩ (.slice B (k.m + 1) d)).heap.size = W'.heap.size := by simp
  have keep : ∀ q : Addr, lo ≤ q.block → (sets (w.heap.size + 2) 0 l (W'.setCell ⟨w.heap.size, 9, none⟩ (.slice B (k.m + 1) d))).cell? q = W'.cell? q := fun q hq =>
    (sets_other l (by omega) 0 _).trans (World.cell?_setCell_other _ _ _ _ fun e => by rw [← e] at hq; simp only at hq; omega)
  have kk : ∀ {A : Option Addr} {n : Nat} {cs : List Co}, Cvs W (nq lo W k) A n cs → Cvs (sets (w.heap.size + 2) 0 l (W'.setCell ⟨w.heap.size, 9, none⟩ (.slice B (k.m + 1) d))) (fun b => w.heap.size ≤ b ∧ b < (sets (w.heap.size + 2) 0 l (W'.setCell ⟨w.heap.size, 9, none⟩ (.slice B (k.m + 1) d))).heap.size) A n cs := fun C =>
    C.keep (fun q hq => (keep q hq.1).trans ((World.cell?_of_block (hg.block q.block (by have := hq.2.1; omega) hq.2.2)).trans ((alloc_ W o).cell hq.2.1))) fun b hb => ⟨by have := hb.1; omega, by rw [hs2, hsz]; have := hb.2.1; have := hg.size; omega⟩
  refine ⟨hv, ⟨kk H.t, hO.raws.keep (fun q hq => keep q hq.1) fun b hb => ⟨by omega, by rw [hs2, hsz]; exact hb.2⟩, fun x hx => ?_⟩, ⟨hn, by show k.m + 1 ≤ 2000; omega, fun x hx => ?_, hO.fits.2, hO.fits.1⟩, ?_⟩
  · rcases List.mem_append.1 hx with hx | hx
    · exact kk (H.q x hx)
    · simp at hx; subst hx; exact kk hc
  · rcases List.mem_append.1 hx with hx | hx
    · exact hs x hx
    · simp at hx; subst hx; exact hr
  · exact sets_below l (by omega) 0 _ (P.b.setCell (p := ⟨w.heap.size, 9, none⟩) (Nat.le_refl _) _)
end
theorem more_v {h k : Hr} {r : Rw} {B : Option Addr} {d : Nat} (hv : k.v = h.v) (A : Option Addr) (c : Nat) : (k.more B (k.m + 1) d (k.rs ++ [(⟨r.v, A, r.n, c⟩ : Rw)])).v = ⟨h.v.id, h.v.bk, h.v.s, h.v.r, h.v.cs, h.v.hs ++ [r.v]⟩ := by
  rw [← hv]
  simp [Hr.v, Hr.more]
theorem raws_one {w : World} {b : Nat} {r : Rw} (hx : Bx w b 26 (vc r)) : Raws w (· = b) (some ⟨b, 0, none⟩) 1 [r] := by
  refine ⟨rfl, fun _ => ⟨_, rfl, rfl, fun j x hx2 => ?_⟩⟩
  match j, hx2 with
  | 0, hx2 =>
    simp at hx2
    subst hx2
    rw [Addr.add_lit]
    exact ⟨hx.c 0, hx.c 1, hx.c 2, hx.c 3, hx.c 4, hx.c 5, hx.c 6, hx.c 7, hx.c 8⟩

set_option maxRecDepth 100000 in
set_option maxHeartbeats 8000000 in
theorem put_ (h : Hr) (r : Rw) (w : World) (M : HM w (· < w.heap.size) h) (S : HS h) (hS : Cvs w (· < w.heap.size) r.A r.n r.v.cs) (hn : r.n ≤ 3000) : Calls Try.prog 19 #[hg h, vg r] w (Gives w (phi h.v r.v) (code h.s h.bk h.v.hs r.v)) := by
  obtain ⟨W, hW⟩ : ∃ W, ((w.alloc (.cells (hc h) 33)).alloc (.cells (vc r) 26)).alloc (.cells zhc 33) = W := ⟨_, rfl⟩
  have H0 := Lib.hid (show P3 w W h r by rw [← hW]; exact P3.start w h r)
  have HW := Lib.hid hW
  have HM0 := Lib.hid M
  have HSS := Lib.hid S
  have HCC := Lib.hid (And.intro hS hn)
  have C1 := Lib.hid (refusal h W (M.below H0.out.b) (by have := S.m; omega) r (hS.below H0.out.b) hn)
  have hin := code_in h.s h.bk h.v.hs r.v
  obtain ⟨cd, hcd⟩ : ∃ cd, code h.s h.bk h.v.hs r.v = cd := ⟨_, rfl⟩
  have hphi : phi h.v r.v = if cd = 0 then ⟨h.v.id, h.v.bk, h.v.s, h.v.r, h.v.cs, h.v.hs ++ [r.v]⟩ else zhi := by rw [← hcd]; rfl
  rw [hphi]
  rw [hcd] at C1 hin ⊢
  have HCD := Lib.hid hcd
  clear hW M S hS hn hcd hphi
  have hx := H0.out.x
  have hy := H0.out.y
  have x0 := hx.c 0
  have x1 := hx.c 1
  have x2 := hx.c 2
  have x3 := hx.c 3
  have x4 := hx.c 4
  have x5 := hx.c 5
  have x6 := hx.c 6
  have x7 := hx.c 7
  have x8 := hx.c 8
  have x9 := hx.c 9
  simp at x0 x1 x2 x3 x4 x5 x6 x7 x8 x9
  have y0 := hy.c 0
  have y1 := hy.c 1
  have y2 := hy.c 2
  have y3 := hy.c 3
  have y4 := hy.c 4
  have y5 := hy.c 5
  have y6 := hy.c 6
  have y7 := hy.c 7
  have y8 := hy.c 8
  simp at y0 y1 y2 y3 y4 y5 y6 y7 y8
  have hlx := hx.lt
  have hly := hy.lt
  clear hx hy
  by_cases h0 : cd = 0
  · subst h0
    rw [if_pos rfl]
    have HLM := Lib.hid (show h.m < 2000 by have := (code_zero.1 HCD.out).2.2; have := HM0.out.len; omega)
    clear hin
    go_enter Try.func19, Try.ntmps19
    go_wp2_with fail
    rw [HW.out]
    clear HW
    refine C1.out.mono ?_
    rintro e w1 ⟨rfl, hb1⟩
    have H1 := Lib.hid (H0.out.next hb1)
    clear hb1 x0 x1 x2 x3 x4 x5 x6 x7 x8 x9 y0 y1 y2 y3 y4 y5 y6 y7 y8 H0 hlx hly C1
    have hx := H1.out.x
    have x0 := hx.c 0
    have x1 := hx.c 1
    have x2 := hx.c 2
    have x3 := hx.c 3
    have x4 := hx.c 4
    have x5 := hx.c 5
    have x6 := hx.c 6
    have x7 := hx.c 7
    have x8 := hx.c 8
    have x9 := hx.c 9
    simp at x0 x1 x2 x3 x4 x5 x6 x7 x8 x9
    have hlx := hx.lt
    clear hx
    go_wp2_with fail
    refine (own_ h w1 (HM0.out.below H1.out.b) HSS.out).mono ?_
    rintro e w2 ⟨k, rfl, hk⟩
    have HO := Lib.hid hk
    have H2 := Lib.hid (H1.out.next hk.b)
    have HK := Lib.hid (PQ.start H1.out hk)
    clear hk x0 x1 x2 x3 x4 x5 x6 x7 x8 x9 hlx
    have hx := H2.out.x
    have x0 := hx.c 0
    have x1 := hx.c 1
    have x2 := hx.c 2
    have x3 := hx.c 3
    have x4 := hx.c 4
    have x5 := hx.c 5
    have x6 := hx.c 6
    have x7 := hx.c 7
    have x8 := hx.c 8
    have x9 := hx.c 9
    simp at x0 x1 x2 x3 x4 x5 x6 x7 x8 x9
    have fx0 := hx.f 0
    have fx1 := hx.f 1
    have fx2 := hx.f 2
    have fx3 := hx.f 3
    have fx4 := hx.f 4
    have fx5 := hx.f 5
    have fx6 := hx.f 6
    have fx7 := hx.f 7
    have fx8 := hx.f 8
    have fx9 := hx.f 9
    have hlx := hx.lt
    clear hx
    go_upto_region 5 with (fail)
    change Code.wp _ _ _ _ (puth w.heap.size k w2)
    obtain ⟨W2, hW2⟩ : ∃ W2, puth w.heap.size k w2 = W2 := ⟨_, rfl⟩
    rw [hW2] at HK ⊢
    clear x0 x1 x2 x3 x4 x5 x6 x7 x8 x9 fx0 fx1 fx2 fx3 fx4 fx5 fx6 fx7 fx8 fx9 hlx H2 hW2
    have hy := HK.out.p.y
    have y0 := hy.c 0
    have y1 := hy.c 1
    have y2 := hy.c 2
    have y3 := hy.c 3
    have y4 := hy.c 4
    have y5 := hy.c 5
    have y6 := hy.c 6
    have y7 := hy.c 7
    have y8 := hy.c 8
    simp at y0 y1 y2 y3 y4 y5 y6 y7 y8
    have fy7 := hy.f 7
    have hly := hy.lt
    clear hy
    go_wp2_with fail
    refine (clone_covers r.A r.n r.c r.v.cs _ W2 ((HCC.out.1.below HK.out.p.b).keep (fun _ _ => rfl) fun _ h => h) (fun b hb => hb) HCC.out.2).mono ?_
    rintro e w3 ⟨A3, c3, rfl, hO3, hb3⟩
    have HP3 := Lib.hid (HK.out.next hb3).p
    have HK3 := Lib.hid (HK.out.cov hb3 hO3)
    clear hO3 hb3 y0 y1 y2 y3 y4 y5 y6 y7 y8 fy7 hly
    have hy := HP3.out.y
    have y7 := hy.c 7
    have fy7 := hy.f 7
    have hly := hy.lt
    simp at y7
    clear hy
    go_upto_region 6 with (fail)
    obtain ⟨W3, hW3⟩ : ∃ W3, w3.setCell ⟨w.heap.size + 1, 7, none⟩ (.slice A3 r.n c3) = W3 := ⟨_, rfl⟩
    rw [hW3] at HK3 ⊢
    clear y7 fy7 hly HP3 hW3 HK
    have hx := HK3.out.1.p.x
    have hy := HK3.out.1.p.y
    have x9 := hx.c 9
    have fx9 := hx.f 9
    have hlx := hx.lt
    simp at x9
    have y0 := hy.c 0
    have y1 := hy.c 1
    have y2 := hy.c 2
    have y3 := hy.c 3
    have y4 := hy.c 4
    have y5 := hy.c 5
    have y6 := hy.c 6
    have y7 := hy.c 7
    have y8 := hy.c 8
    simp at y0 y1 y2 y3 y4 y5 y6 y7 y8
    have hly := hy.lt
    have hkb : k.m ≤ 3000 := by have := HLM.out; have := HO.out.m; omega
    clear hx hy
    go_upto_region 7 with (at_builtin; refine wpList_app _ rfl _ _ rfl w1.heap.size k.B k.m k.d k.rs rfl (HK3.out.1.o.below (alloc_ _ _)) (· = W3.heap.size) (some ⟨W3.heap.size, 0, none⟩) 1 1 [⟨r.v, A3, r.n, c3⟩] rfl (raws_one (Bx.new W3 26 (vc ⟨r.v, A3, r.n, c3⟩))) (fun e => by cases e) (k.m + 1) rfl (by omega) (Nat.le_trans HK3.out.1.l1 (alloc_ W3 (.cells (vc ⟨r.v, A3, r.n, c3⟩) 26)).size) ?_; intro B4 d4 w4 hO4 hg4; have HO4 := Lib.hid hO4; have HG4 := Lib.hid hg4; have HP4 := Lib.hid (HK3.out.1.app HK3.out.2 hO4 hg4); have x9' := HP4.out.x.c 9; have fx9' := HP4.out.x.f 9; have hlx' := HP4.out.x.lt; simp at x9'; clear hO4 hg4)
    have H7 := Lib.hid (HP4.out.chg B4 (k.m + 1) d4 (k.rs ++ [⟨r.v, A3, r.n, c3⟩]))
    have HR := Lib.hid (fun l => HK3.out.1.out HK3.out.2 HO.out.kn (by rw [HO.out.n]; exact HSS.out.n) (by have := HLM.out; have := HO.out.m; omega) HCC.out.2 HO4.out HG4.out l (more_v HO.out.v A3 c3))
    obtain ⟨W7, hW7⟩ : ∃ W7, w4.setCell ⟨w.heap.size, 9, none⟩ (.slice B4 (k.m + 1) d4) = W7 := ⟨_, rfl⟩
    rw [hW7] at H7 HR ⊢
    obtain ⟨k7, hk7⟩ : ∃ k7, k.more B4 (k.m + 1) d4 (k.rs ++ [⟨r.v, A3, r.n, c3⟩]) = k7 := ⟨_, rfl⟩
    rw [hk7] at H7 HR
    clear x9' fx9' hlx' x9 fx9 hlx y0 y1 y2 y3 y4 y5 y6 y7 y8 hly hkb HP4 HO4 HG4 HK3 hW7 hk7
    have hx := H7.out.x
    have hz := H7.out.z
    have x0 := hx.c 0
    have x1 := hx.c 1
    have x2 := hx.c 2
    have x3 := hx.c 3
    have x4 := hx.c 4
    have x5 := hx.c 5
    have x6 := hx.c 6
    have x7 := hx.c 7
    have x8 := hx.c 8
    have x9 := hx.c 9
    simp at x0 x1 x2 x3 x4 x5 x6 x7 x8 x9
    have z0 := hz.c 0
    have z1 := hz.c 1
    have z2 := hz.c 2
    have z3 := hz.c 3
    have z4 := hz.c 4
    have z5 := hz.c 5
    have z6 := hz.c 6
    have z7 := hz.c 7
    have z8 := hz.c 8
    have z9 := hz.c 9
    simp at z0 z1 z2 z3 z4 z5 z6 z7 z8 z9
    have fz0 := hz.f 0
    have fz1 := hz.f 1
    have fz2 := hz.f 2
    have fz3 := hz.f 3
    have fz4 := hz.f 4
    have fz5 := hz.f 5
    have fz6 := hz.f 6
    have fz7 := hz.f 7
    have fz8 := hz.f 8
    have fz9 := hz.f 9
    have hlx := hx.lt
    have hlz := hz.lt
    clear hx hz
    go_wp2
    change bodyPost _ _ _ _ _ (puth (w.heap.size + 2) k7 W7)
    have hq := (show Bx W7 (w.heap.size + 2) 33 (hc zhr) from H7.out.z).puth k7
    clear x0 x1 x2 x3 x4 x5 x6 x7 x8 x9 z0 z1 z2 z3 z4 z5 z6 z7 z8 z9 fz0 fz1 fz2 fz3 fz4 fz5 fz6 fz7 fz8 fz9 hlx hlz
    have z0 := hq.c 0
    have z1 := hq.c 1
    have z2 := hq.c 2
    have z3 := hq.c 3
    have z4 := hq.c 4
    have z5 := hq.c 5
    have z6 := hq.c 6
    have z7 := hq.c 7
    have z8 := hq.c 8
    have z9 := hq.c 9
    simp at z0 z1 z2 z3 z4 z5 z6 z7 z8 z9
    exact bodyPost_ret (v := .tuple #[hg k7, .int .i64 0]) (by simp [results, Try.results19, go_sem, z0, z1, z2, z3, z4, z5, z6, z7, z8, z9]) rfl ⟨k7, rfl, HR.out _⟩
  · rw [if_neg h0]
    have t1 : (cd == 0) = false := by rw [beq_eq_false_iff_ne]; exact h0
    have t2 : (cd != 0) = true := by rw [bne_iff_ne]; exact h0
    clear h0 hin
    go_enter Try.func19, Try.ntmps19
    go_wp2_with fail
    rw [HW.out]
    clear HW
    refine C1.out.mono ?_
    rintro e w1 ⟨rfl, hb1⟩
    have H1 := Lib.hid (H0.out.next hb1)
    clear hb1 x0 x1 x2 x3 x4 x5 x6 x7 x8 x9 y0 y1 y2 y3 y4 y5 y6 y7 y8 H0 hlx hly C1
    have hz := H1.out.z
    have z0 := hz.c 0
    have z1 := hz.c 1
    have z2 := hz.c 2
    have z3 := hz.c 3
    have z4 := hz.c 4
    have z5 := hz.c 5
    have z6 := hz.c 6
    have z7 := hz.c 7
    have z8 := hz.c 8
    have z9 := hz.c 9
    simp at z0 z1 z2 z3 z4 z5 z6 z7 z8 z9
    have fz0 := hz.f 0
    have fz1 := hz.f 1
    have fz2 := hz.f 2
    have fz3 := hz.f 3
    have fz4 := hz.f 4
    have fz5 := hz.f 5
    have fz6 := hz.f 6
    have fz7 := hz.f 7
    have fz8 := hz.f 8
    have fz9 := hz.f 9
    have hlz := hz.lt
    clear hz
    go_wp2
    change bodyPost _ _ _ _ _ (puth (w.heap.size + 2) zhr w1)
    have hq := (show Bx w1 (w.heap.size + 2) 33 (hc zhr) from H1.out.z).puth zhr
    clear z0 z1 z2 z3 z4 z5 z6 z7 z8 z9 fz0 fz1 fz2 fz3 fz4 fz5 fz6 fz7 fz8 fz9 hlz
    have z0 := hq.c 0
    have z1 := hq.c 1
    have z2 := hq.c 2
    have z3 := hq.c 3
    have z4 := hq.c 4
    have z5 := hq.c 5
    have z6 := hq.c 6
    have z7 := hq.c 7
    have z8 := hq.c 8
    have z9 := hq.c 9
    simp at z0 z1 z2 z3 z4 z5 z6 z7 z8 z9
    exact bodyPost_ret (v := .tuple #[hg zhr, .int .i64 cd]) (by simp [results, Try.results19, go_sem, z0, z1, z2, z3, z4, z5, z6, z7, z8, z9]) rfl ⟨zhr, rfl, Res.zero H1.out.b (by omega) _⟩

end Tm
end Go.Proofs.Ytcnlllamldlnmaa
