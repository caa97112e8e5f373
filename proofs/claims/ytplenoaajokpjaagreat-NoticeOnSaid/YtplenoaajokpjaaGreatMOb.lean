/-
  The parts Of3, Of4, Of of this proof. Conditions: those of each theorem.
-/
import Derived.Test.YtplenoaajokpjaaGreatMOa
import Derived.Test.YtplenoaajokpjaaGreatKSParts
import Derived.Test.YtplenoaajokpjaaGreatKQYear
import Derived.Test.YtplenoaajokpjaaGreatKTAt
namespace Go.Proofs.YtplenoaajokpjaaGreat
open Go.RowKit Ba Cv Sp Te Ag Sl Tm
namespace Slc
set_option linter.unusedVariables false
structure C0 (w W : World) (h : Hr) : Prop where
 b : Below w.heap.size w W
 x : Bx W w.heap.size 35 (hc h)
 y : Bx W (w.heap.size + 1) 60 (vc ⟨⟨(0, 0), ⟨true, h.r, h.cs⟩, 0⟩, h.A, h.n, h.c⟩)
theorem C0.next {w W W' : World} {h : Hr} (H : C0 w W h) (hb : Below W.heap.size W W') : C0 w W' h := ⟨H.b.trans (hb.mono H.b.size), H.x.keep hb, H.y.keep hb⟩
theorem C0.start (w : World) (h : Hr) : C0 w ((w.alloc (.cells (hc h) 35)).alloc (.cells (vc ⟨⟨(0, 0), ⟨true, h.r, h.cs⟩, 0⟩, h.A, h.n, h.c⟩) 60)) h := by
 refine ⟨(alloc_ _ _).alloc (by simp) _, (Bx.new _ _ _).alloc _, ?_⟩; have := Bx.new (w.alloc (.cells (hc h) 35)) 60 (vc ⟨⟨(0, 0), ⟨true, h.r, h.cs⟩, 0⟩, h.A, h.n, h.c⟩); rw [World.size_alloc] at this; exact this
structure R4 (w W : World) (h : Hr) (L : Nat → Bool) (w' : World) (v17 v18 v19 v20 v21 v22 v23 v24 : Value) : Prop where
 b : Below W.heap.size W w'
 f0 : L 0 = true → v17 = .pointer (some ⟨w.heap.size, 2, none⟩)
 f1 : L 1 = true → v18 = .pointer (some ⟨w.heap.size, 2, none⟩)
 f2 : L 2 = true → v19 = sg h.s
 f3 : L 3 = true → v20 = hg h
 f4 : L 4 = true → ∃ A c, v21 = .slice A h.m c ∧ Tm.Ins w' (· < w'.heap.size) A h.m (h.v.hs.map Ch.dy) ∧ (A = none → h.m = 0 ∧ c = 0)
 f5 : L 5 = true → ∃ zs A k c, v22 = .slice A k c ∧ Parted h.s (h.v.hs.map Ch.dy) zs ∧ Spn.Spans w' w'.heap.size A k zs ∧ ∀ ad : Addr, A = some ad → W.heap.size ≤ ad.block
 f6 : L 6 = true → ∃ A k c, v22 = .slice A k c ∧ v23 = .int .i64 (k : Int)
 f7 : L 7 = true → v24 = .int .i64 0
 d6_5 : L 6 = true → L 5 = true
theorem R4.up {w W : World} {h : Hr} {L : Nat → Bool} {w' w2 : World} {v17 v18 v19 v20 v21 v22 v23 v24 : Value} (H : R4 w W h L w' v17 v18 v19 v20 v21 v22 v23 v24) (hb : Below w'.heap.size w' w2) : R4 w W h L w2 v17 v18 v19 v20 v21 v22 v23 v24 :=
 ⟨H.b.trans (hb.mono H.b.size), H.f0, H.f1, H.f2, H.f3, (fun l => by obtain ⟨A, c, e, hi, hn⟩ := H.f4 l; exact ⟨A, c, e, hi.below hb, hn⟩), (fun l => by obtain ⟨zs, A, k, c, e, hp, hs, ha⟩ := H.f5 l; exact ⟨zs, A, k, c, e, hp, (hs.below hb (Nat.le_refl _)).wide hb.size, ha⟩), H.f6, H.f7, H.d6_5⟩
theorem R4.s0 {w W : World} {h : Hr} {L : Nat → Bool} {w' : World} {v17 v18 v19 v20 v21 v22 v23 v24 : Value} (H : R4 w W h L w' v17 v18 v19 v20 v21 v22 v23 v24) {z : Value} (k : z = .pointer (some ⟨w.heap.size, 2, none⟩)) : R4 w W h (fun j => j == 0 || L j) w' z v18 v19 v20 v21 v22 v23 v24 := ⟨H.b, fun _ => k, H.f1, H.f2, H.f3, H.f4, H.f5, H.f6, H.f7, H.d6_5⟩
theorem R4.s1 {w W : World} {h : Hr} {L : Nat → Bool} {w' : World} {v17 v18 v19 v20 v21 v22 v23 v24 : Value} (H : R4 w W h L w' v17 v18 v19 v20 v21 v22 v23 v24) {z : Value} (k : z = .pointer (some ⟨w.heap.size, 2, none⟩)) : R4 w W h (fun j => j == 1 || L j) w' v17 z v19 v20 v21 v22 v23 v24 := ⟨H.b, H.f0, fun _ => k, H.f2, H.f3, H.f4, H.f5, H.f6, H.f7, H.d6_5⟩
theorem R4.s2 {w W : World} {h : Hr} {L : Nat → Bool} {w' : World} {v17 v18 v19 v20 v21 v22 v23 v24 : Value} (H : R4 w W h L w' v17 v18 v19 v20 v21 v22 v23 v24) {z : Value} (k : z = sg h.s) : R4 w W h (fun j => j == 2 || L j) w' v17 v18 z v20 v21 v22 v23 v24 := ⟨H.b, H.f0, H.f1, fun _ => k, H.f3, H.f4, H.f5, H.f6, H.f7, H.d6_5⟩
theorem R4.s3 {w W : World} {h : Hr} {L : Nat → Bool} {w' : World} {v17 v18 v19 v20 v21 v22 v23 v24 : Value} (H : R4 w W h L w' v17 v18 v19 v20 v21 v22 v23 v24) {z : Value} (k : z = hg h) : R4 w W h (fun j => j == 3 || L j) w' v17 v18 v19 z v21 v22 v23 v24 := ⟨H.b, H.f0, H.f1, H.f2, fun _ => k, H.f4, H.f5, H.f6, H.f7, H.d6_5⟩
theorem R4.s4 {w W : World} {h : Hr} {L : Nat → Bool} {w' : World} {v17 v18 v19 v20 v21 v22 v23 v24 : Value} (H : R4 w W h L w' v17 v18 v19 v20 v21 v22 v23 v24) {z : Value} (k : ∃ A c, z = .slice A h.m c ∧ Tm.Ins w' (· < w'.heap.size) A h.m (h.v.hs.map Ch.dy) ∧ (A = none → h.m = 0 ∧ c = 0)) : R4 w W h (fun j => j == 4 || L j) w' v17 v18 v19 v20 z v22 v23 v24 := ⟨H.b, H.f0, H.f1, H.f2, H.f3, fun _ => k, H.f5, H.f6, H.f7, H.d6_5⟩
theorem R4.s5 {w W : World} {h : Hr} {L : Nat → Bool} {w' : World} {v17 v18 v19 v20 v21 v22 v23 v24 : Value} (H : R4 w W h L w' v17 v18 v19 v20 v21 v22 v23 v24) {z : Value} (k : ∃ zs A k c, z = .slice A k c ∧ Parted h.s (h.v.hs.map Ch.dy) zs ∧ Spn.Spans w' w'.heap.size A k zs ∧ ∀ ad : Addr, A = some ad → W.heap.size ≤ ad.block) (hf : L 5 = false) : R4 w W h (fun j => j == 5 || L j) w' v17 v18 v19 v20 v21 z v23 v24 := ⟨H.b, H.f0, H.f1, H.f2, H.f3, H.f4, fun _ => k, fun l => absurd (H.d6_5 l) (by rw [hf]; decide), H.f7, fun _ => rfl⟩
theorem R4.s6 {w W : World} {h : Hr} {L : Nat → Bool} {w' : World} {v17 v18 v19 v20 v21 v22 v23 v24 : Value} (H : R4 w W h L w' v17 v18 v19 v20 v21 v22 v23 v24) {z : Value} (k : ∃ A k c, v22 = .slice A k c ∧ z = .int .i64 (k : Int)) (d6_56 : L 5 = true) : R4 w W h (fun j => j == 6 || L j) w' v17 v18 v19 v20 v21 v22 z v24 := ⟨H.b, H.f0, H.f1, H.f2, H.f3, H.f4, H.f5, fun _ => k, H.f7, fun _ => d6_56⟩
theorem R4.s7 {w W : World} {h : Hr} {L : Nat → Bool} {w' : World} {v17 v18 v19 v20 v21 v22 v23 v24 : Value} (H : R4 w W h L w' v17 v18 v19 v20 v21 v22 v23 v24) {z : Value} (k : z = .int .i64 0) : R4 w W h (fun j => j == 7 || L j) w' v17 v18 v19 v20 v21 v22 v23 z := ⟨H.b, H.f0, H.f1, H.f2, H.f3, H.f4, H.f5, H.f6, fun _ => k, H.d6_5⟩
theorem setl2 (x0 x1 x2 x3 x4 x5 x6 x7 x8 a0 a1 : Value) : setl 0 [a0, a1] #[x0, x1, x2, x3, x4, x5, x6, x7, x8] = #[a0, a1, x2, x3, x4, x5, x6, x7, x8] := by simp [setl]
structure CJ (w : World) (h : Hr) (base : Nat) (o : List Int) (P : Option Addr) (k : Nat) (zs : List Sp) (W : World) (X : Option Addr) (q p : Nat) (nw : Rw) : Prop where
 b : Below w.heap.size w W
 hb : base ≤ W.heap.size
 lo : w.heap.size + 2 ≤ base
 x : Bx W w.heap.size 35 (hc h)
 y : Bx W (w.heap.size + 1) 60 (vc nw)
 oi : Tm.Ins W (fun b => w.heap.size + 2 ≤ b ∧ b < base) X q (o.drop p)
 s : Spn.Spans W base P k zs
 sl : ∀ ad : Addr, P = some ad → w.heap.size + 2 ≤ ad.block
 cv : Cvs w (· < w.heap.size) nw.A nw.n nw.v.h.cs
 n : nw.n ≤ 3000
 yr : nw.v.y = 0
 st : nw.v.h = ((ordl h.v.hs o).take p).foldl don (ini h.v)
theorem CJ.turn {w W W' : World} {h : Hr} {base : Nat} {o : List Int} {P X X' : Option Addr} {k q p q' p' : Nat} {zs : List Sp} {nw nw' : Rw} (H : CJ w h base o P k zs W X q p nw) (hB : Below w.heap.size w W') (hs : W.heap.size ≤ W'.heap.size) (hk : ∀ b, b < base → b ≠ w.heap.size + 1 → W'.heap[b]? = W.heap[b]?) (hy : Bx W' (w.heap.size + 1) 60 (vc nw')) (hX : Tm.Ins W (fun b => w.heap.size + 2 ≤ b ∧ b < base) X' q' (o.drop p')) (cv : Cvs w (· < w.heap.size) nw'.A nw'.n nw'.v.h.cs) (n : nw'.n ≤ 3000) (yr : nw'.v.y = 0) (st : nw'.v.h = ((ordl h.v.hs o).take p').foldl don (ini h.v)) : CJ w h base o P k zs W' X' q' p' nw' := by
 have hlo := H.lo; refine ⟨hB, Nat.le_trans H.hb hs, hlo, (hk _ (by omega) (by omega)).trans H.x, hy, hX.keep (fun a ha => World.cell?_of_block (hk _ ha.2 (by omega))) (fun _ h => h), ⟨H.s.1, fun hn => ?_⟩, H.sl, cv, n, yr, st⟩; obtain ⟨ad, e, hb, hc⟩ := H.s.2 hn; have hl := H.sl ad e; exact ⟨ad, e, hb, fun j x hx => ⟨(World.cell?_of_block (hk _ (by rw [add_block]; exact hb) (by rw [add_block]; omega))).trans (hc j x hx).1, (World.cell?_of_block (hk _ (by rw [add_block]; exact hb) (by rw [add_block]; omega))).trans (hc j x hx).2⟩⟩
theorem CJ.next {w W W' : World} {h : Hr} {base : Nat} {o : List Int} {P X : Option Addr} {k q p : Nat} {zs : List Sp} {nw : Rw} (H : CJ w h base o P k zs W X q p nw) (hb : Below W.heap.size W W') : CJ w h base o P k zs W' X q p nw :=
 H.turn (H.b.trans (hb.mono H.b.size)) hb.size (fun b hb' _ => hb.block b (Nat.lt_of_lt_of_le hb' H.hb)) (H.y.keep hb) H.oi H.cv H.n H.yr H.st
theorem CJ.grown {w W W' : World} {h : Hr} {base : Nat} {o : List Int} {P X : Option Addr} {k q p : Nat} {zs : List Sp} {nw : Rw} {row : Option Nat} (H : CJ w h base o P k zs W X q p nw) (hg : W.grownBy W' row) (hr : ∀ b, row = some b → base ≤ b) : CJ w h base o P k zs W' X q p nw := by
 have hk : ∀ b, b < base → W'.heap[b]? = W.heap[b]? := fun b hb => hg.block b (Nat.lt_of_lt_of_le hb H.hb) fun e => by have := hr b e.symm; omega
 have hlo := H.lo; exact H.turn (H.b.grown hg H.b.size fun j hj => by have := hr j hj; omega) hg.size (fun b hb _ => hk b hb) ((hk _ (by omega)).trans H.y) H.oi H.cv H.n H.yr H.st
theorem OwnL.lo {w : World} {base n c : Nat} {A : Option Addr} {rs : List Rw} (L : OwnL w base A n c rs) : ∀ b, (Value.slice A n c).ownBlock = some b → base ≤ b := fun b hb => (L.o.lt b hb).1
theorem ins_head {w : World} {ok : Nat → Prop} {X : Option Addr} {q p : Nat} {o : List Int} (H : Tm.Ins w ok X (q + 1) (o.drop p)) : ∃ (ad : Addr) (x : Int), X = some ad ∧ ok ad.block ∧ o[p]? = some x ∧ w.cell? ad = some (.int .i64 x) ∧ Tm.Ins w ok (some (ad.add 1)) q (o.drop (p + 1)) ∧ (q = 0 → Tm.Ins w ok (some ad) q (o.drop (p + 1))) := by
 obtain ⟨ad, e, hb, hc⟩ := H.2 (by omega); have hl : (o.drop p).length = q + 1 := H.1; rw [List.length_drop] at hl; have hp : p < o.length := by omega
 have hx : o[p]? = some o[p] := List.getElem?_eq_getElem hp; refine ⟨ad, o[p], e, hb, hx, ?_, ?_, ?_⟩
 ·have := hc 0 o[p] (by rw [List.getElem?_drop]; exact hx); rwa [show ad.add 0 = ad by simp [Addr.add]] at this
 ·refine ⟨by rw [List.length_drop]; omega, fun _ => ⟨_, rfl, by rw [add_block]; exact hb, fun j x hj => ?_⟩⟩; rw [Go.Deep.add_add]; refine hc (1 + j) x ?_; rw [List.getElem?_drop] at hj ⊢; rw [← hj]; congr 1; omega
 ·intro h0; exact ⟨by rw [List.length_drop]; omega, fun h => by omega⟩
theorem don_step {hs : List Ch} {o : List Int} {p : Nat} {x : Int} {c : Ch} {i s : Hd} (hx : o[p]? = some x) (hc : hs[x.toNat]? = some c) (h : s = ((ordl hs o).take p).foldl don i) : don s c = ((ordl hs o).take (p + 1)).foldl don i := by
 rw [take_get (ordl_get hx hc), List.foldl_append, h]; rfl
theorem take_day {hs : List Ch} {o : List Int} {p : Nat} {x a : Int} {c : Ch} (hx : o[p]? = some x) (hc : hs[x.toNat]? = some c) (h : ∀ c ∈ (ordl hs o).take p, c.dy ≤ a) (hd : c.dy ≤ a) : ∀ c ∈ (ordl hs o).take (p + 1), c.dy ≤ a := by
 rw [take_get (ordl_get hx hc)]; intro d hd'; rcases List.mem_append.1 hd' with h' | h'
 ·exact h d h'
 ·rw [List.mem_singleton] at h'; subst h'; exact hd
theorem part_holds {h : Hr} {o : List Int} {zs : List Sp} {z : Sp} {p : Nat} (hO : Ag.Ord h.v.hs o) (hP : Parted h.s (h.v.hs.map Ch.dy) zs) (hs : has h.s = true) (hz : z ∈ zs) (h1 : ∀ c ∈ (ordl h.v.hs o).take p, c.dy ≤ z.1) (h2 : ∀ c ∈ (ordl h.v.hs o).drop p, z.1 < c.dy) : ∀ d, z.1 ≤ d → d < z.2 → hld (ini h.v) (ordl h.v.hs o) d = ((ordl h.v.hs o).take p).foldl don (ini h.v) := by
 intro d hd1 hd2; rw [hld_same hd1 (fun c hc hq => part_quiet hP hs hz (List.mem_map.2 ⟨c, (ordl_mem hO).1 hc, rfl⟩) ⟨hq.1, by omega⟩)]; unfold hld; rw [ups_take h1 h2]
structure Dn (h : Hr) (o : List Int) (zs : List Sp) (j p : Nat) (rs : List Rw) : Prop where
 e : ∃ m, Cutd (hld (ini h.v) (ordl h.v.hs o)) h.s.1 m (rs.map pr) ∧ Chain m h.s.2 (zs.drop j) ∧ ∀ c ∈ (ordl h.v.hs o).take p, c.dy ≤ m
theorem Dn.at {h : Hr} {o : List Int} {zs : List Sp} {j p : Nat} {rs : List Rw} {z : Sp} (D : Dn h o zs j p rs) (hz : zs[j]? = some z) : Cutd (hld (ini h.v) (ordl h.v.hs o)) h.s.1 z.1 (rs.map pr) ∧ z.1 < z.2 ∧ Chain z.2 h.s.2 (zs.drop (j + 1)) ∧ ∀ c ∈ (ordl h.v.hs o).take p, c.dy ≤ z.1 := by
 obtain ⟨m, h1, h2, h3⟩ := D.e; rw [drop_get hz] at h2; obtain ⟨e, hl, hc⟩ := h2; subst e; exact ⟨h1, hl, hc, h3⟩
theorem OwnL.low {w : World} {base base' n c : Nat} {A : Option Addr} {rs : List Rw} (L : OwnL w base A n c rs) (hb : base' ≤ base) : OwnL w base' A n c rs :=
 ⟨L.o.low hb, fun r hr => (L.k r hr).keep (fun _ _ => rfl) fun b h => ⟨⟨Nat.le_trans hb h.1.1, h.1.2⟩, h.2⟩, L.m, L.z⟩
def CutTo (w : World) (h : Hr) (e : Ending) (w' : World) : Prop := ∃ A n c rs o, e = .returned (.slice A n c) ∧ OwnL w' w.heap.size A n c rs ∧ Ag.Ord h.v.hs o ∧ Cutd (hld (ini h.v) (ordl h.v.hs o)) h.s.1 h.s.2 (rs.map pr) ∧ n ≤ 1100 ∧ Below w.heap.size w w'
def lenV : Value → Nat
 | .slice _ n _ => n
 | _ => 0
theorem grown_more {W w' w2 : World} {row : Option Nat} (hg : W.grownBy w' row) (hb : Below w'.heap.size w' w2) : W.grownBy w2 row := ⟨hb.os.trans hg.os, hb.tape.trans hg.tape, hb.output.trans hg.output, Nat.le_trans hg.size hb.size, fun k hk hne => (hb.block k (Nat.lt_of_lt_of_le hk hg.size)).trans (hg.block k hk hne)⟩
theorem grown_sets {W w' : World} {b : Nat} (hg : W.grownBy w' (some b)) (l : List Value) : W.grownBy (sets b 0 l w') (some b) := by
 have h := sets_below (w0 := w') l (Nat.le_refl b) 0 w' (Below.refl _ _); exact ⟨h.os.trans hg.os, h.tape.trans hg.tape, h.output.trans hg.output, by rw [sets_size]; exact hg.size, fun k hk hne => (sets_heap l (fun e => hne (by rw [e])) 0 w').trans (hg.block k hk hne)⟩
structure R8 (w Wa : World) (h : Hr) (nw : Rw) (r : Tm.Rw) (aB aX : Addr) (q cq i : Nat) (L : Nat → Bool) (w' : World) (v44 v45 v46 v47 v48 v49 v50 v51 v52 : Value) : Prop where
 g : Wa.grownBy w' (some (w.heap.size + 1))
 y : ∃ x0 x1 x2 x3 x4 x5 x6 x7 x8 : Value, Bx w' (w.heap.size + 1) 60 #[x0, x1, x2, x3, x4, x5, x6, x7, x8]
 y0 : L 9 = false → w'.heap[w.heap.size + 1]? = Wa.heap[w.heap.size + 1]?
 f0 : L 0 = true → v44 = vg nw
 f1 : L 1 = true → v45 = .pointer (some ⟨w.heap.size, 9, none⟩)
 f2 : L 2 = true → v46 = .slice (some aB) h.m h.d
 f3 : L 3 = true → v47 = .slice (some aX) (q + 1) cq
 f4 : L 4 = true → v48 = .pointer (some aX)
 f5 : L 5 = true → v49 = .int .i64 (i : Int)
 f6 : L 6 = true → v50 = .pointer (some (aB.add (i * 9)))
 f7 : L 7 = true → v51 = Tm.vg r
 f8 : L 8 = true → v52 = vg (dn nw r)
 f9 : L 9 = true → Bx w' (w.heap.size + 1) 60 (vc (dn nw r))
 d8_0 : L 8 = true → L 0 = true
 d9_0 : L 9 = true → L 0 = true
theorem R8.up {w Wa : World} {h : Hr} {nw : Rw} {r : Tm.Rw} {aB aX : Addr} {q cq i : Nat} {L : Nat → Bool} {w' w2 : World} {v44 v45 v46 v47 v48 v49 v50 v51 v52 : Value} (H : R8 w Wa h nw r aB aX q cq i L w' v44 v45 v46 v47 v48 v49 v50 v51 v52) (hb : Below w'.heap.size w' w2) : R8 w Wa h nw r aB aX q cq i L w2 v44 v45 v46 v47 v48 v49 v50 v51 v52 :=
 ⟨grown_more H.g hb, (by obtain ⟨x0, x1, x2, x3, x4, x5, x6, x7, x8, h⟩ := H.y; exact ⟨_, _, _, _, _, _, _, _, _, h.keep hb⟩), (fun l => (hb.block _ (by obtain ⟨x0, x1, x2, x3, x4, x5, x6, x7, x8, h⟩ := H.y; exact h.lt)).trans (H.y0 l)), H.f0, H.f1, H.f2, H.f3, H.f4, H.f5, H.f6, H.f7, H.f8, (fun l => (H.f9 l).keep hb), H.d8_0, H.d9_0⟩
theorem R8.s0 {w Wa : World} {h : Hr} {nw : Rw} {r : Tm.Rw} {aB aX : Addr} {q cq i : Nat} {L : Nat → Bool} {w' : World} {v44 v45 v46 v47 v48 v49 v50 v51 v52 : Value} (H : R8 w Wa h nw r aB aX q cq i L w' v44 v45 v46 v47 v48 v49 v50 v51 v52) {z : Value} (k : z = vg nw) : R8 w Wa h nw r aB aX q cq i (fun j => j == 0 || L j) w' z v45 v46 v47 v48 v49 v50 v51 v52 := ⟨H.g, H.y, H.y0, fun _ => k, H.f1, H.f2, H.f3, H.f4, H.f5, H.f6, H.f7, H.f8, H.f9, fun _ => rfl, fun _ => rfl⟩
theorem R8.s1 {w Wa : World} {h : Hr} {nw : Rw} {r : Tm.Rw} {aB aX : Addr} {q cq i : Nat} {L : Nat → Bool} {w' : World} {v44 v45 v46 v47 v48 v49 v50 v51 v52 : Value} (H : R8 w Wa h nw r aB aX q cq i L w' v44 v45 v46 v47 v48 v49 v50 v51 v52) {z : Value} (k : z = .pointer (some ⟨w.heap.size, 9, none⟩)) : R8 w Wa h nw r aB aX q cq i (fun j => j == 1 || L j) w' v44 z v46 v47 v48 v49 v50 v51 v52 := ⟨H.g, H.y, H.y0, H.f0, fun _ => k, H.f2, H.f3, H.f4, H.f5, H.f6, H.f7, H.f8, H.f9, H.d8_0, H.d9_0⟩
theorem R8.s2 {w Wa : World} {h : Hr} {nw : Rw} {r : Tm.Rw} {aB aX : Addr} {q cq i : Nat} {L : Nat → Bool} {w' : World} {v44 v45 v46 v47 v48 v49 v50 v51 v52 : Value} (H : R8 w Wa h nw r aB aX q cq i L w' v44 v45 v46 v47 v48 v49 v50 v51 v52) {z : Value} (k : z = .slice (some aB) h.m h.d) : R8 w Wa h nw r aB aX q cq i (fun j => j == 2 || L j) w' v44 v45 z v47 v48 v49 v50 v51 v52 := ⟨H.g, H.y, H.y0, H.f0, H.f1, fun _ => k, H.f3, H.f4, H.f5, H.f6, H.f7, H.f8, H.f9, H.d8_0, H.d9_0⟩
theorem R8.s3 {w Wa : World} {h : Hr} {nw : Rw} {r : Tm.Rw} {aB aX : Addr} {q cq i : Nat} {L : Nat → Bool} {w' : World} {v44 v45 v46 v47 v48 v49 v50 v51 v52 : Value} (H : R8 w Wa h nw r aB aX q cq i L w' v44 v45 v46 v47 v48 v49 v50 v51 v52) {z : Value} (k : z = .slice (some aX) (q + 1) cq) : R8 w Wa h nw r aB aX q cq i (fun j => j == 3 || L j) w' v44 v45 v46 z v48 v49 v50 v51 v52 := ⟨H.g, H.y, H.y0, H.f0, H.f1, H.f2, fun _ => k, H.f4, H.f5, H.f6, H.f7, H.f8, H.f9, H.d8_0, H.d9_0⟩
theorem R8.s4 {w Wa : World} {h : Hr} {nw : Rw} {r : Tm.Rw} {aB aX : Addr} {q cq i : Nat} {L : Nat → Bool} {w' : World} {v44 v45 v46 v47 v48 v49 v50 v51 v52 : Value} (H : R8 w Wa h nw r aB aX q cq i L w' v44 v45 v46 v47 v48 v49 v50 v51 v52) {z : Value} (k : z = .pointer (some aX)) : R8 w Wa h nw r aB aX q cq i (fun j => j == 4 || L j) w' v44 v45 v46 v47 z v49 v50 v51 v52 := ⟨H.g, H.y, H.y0, H.f0, H.f1, H.f2, H.f3, fun _ => k, H.f5, H.f6, H.f7, H.f8, H.f9, H.d8_0, H.d9_0⟩
theorem R8.s5 {w Wa : World} {h : Hr} {nw : Rw} {r : Tm.Rw} {aB aX : Addr} {q cq i : Nat} {L : Nat → Bool} {w' : World} {v44 v45 v46 v47 v48 v49 v50 v51 v52 : Value} (H : R8 w Wa h nw r aB aX q cq i L w' v44 v45 v46 v47 v48 v49 v50 v51 v52) {z : Value} (k : z = .int .i64 (i : Int)) : R8 w Wa h nw r aB aX q cq i (fun j => j == 5 || L j) w' v44 v45 v46 v47 v48 z v50 v51 v52 := ⟨H.g, H.y, H.y0, H.f0, H.f1, H.f2, H.f3, H.f4, fun _ => k, H.f6, H.f7, H.f8, H.f9, H.d8_0, H.d9_0⟩
theorem R8.s6 {w Wa : World} {h : Hr} {nw : Rw} {r : Tm.Rw} {aB aX : Addr} {q cq i : Nat} {L : Nat → Bool} {w' : World} {v44 v45 v46 v47 v48 v49 v50 v51 v52 : Value} (H : R8 w Wa h nw r aB aX q cq i L w' v44 v45 v46 v47 v48 v49 v50 v51 v52) {z : Value} (k : z = .pointer (some (aB.add (i * 9)))) : R8 w Wa h nw r aB aX q cq i (fun j => j == 6 || L j) w' v44 v45 v46 v47 v48 v49 z v51 v52 := ⟨H.g, H.y, H.y0, H.f0, H.f1, H.f2, H.f3, H.f4, H.f5, fun _ => k, H.f7, H.f8, H.f9, H.d8_0, H.d9_0⟩
theorem R8.s7 {w Wa : World} {h : Hr} {nw : Rw} {r : Tm.Rw} {aB aX : Addr} {q cq i : Nat} {L : Nat → Bool} {w' : World} {v44 v45 v46 v47 v48 v49 v50 v51 v52 : Value} (H : R8 w Wa h nw r aB aX q cq i L w' v44 v45 v46 v47 v48 v49 v50 v51 v52) {z : Value} (k : z = Tm.vg r) : R8 w Wa h nw r aB aX q cq i (fun j => j == 7 || L j) w' v44 v45 v46 v47 v48 v49 v50 z v52 := ⟨H.g, H.y, H.y0, H.f0, H.f1, H.f2, H.f3, H.f4, H.f5, H.f6, fun _ => k, H.f8, H.f9, H.d8_0, H.d9_0⟩
theorem R8.s8 {w Wa : World} {h : Hr} {nw : Rw} {r : Tm.Rw} {aB aX : Addr} {q cq i : Nat} {L : Nat → Bool} {w' : World} {v44 v45 v46 v47 v48 v49 v50 v51 v52 : Value} (H : R8 w Wa h nw r aB aX q cq i L w' v44 v45 v46 v47 v48 v49 v50 v51 v52) {z : Value} (k : z = vg (dn nw r)) (d8_08 : L 0 = true) : R8 w Wa h nw r aB aX q cq i (fun j => j == 8 || L j) w' v44 v45 v46 v47 v48 v49 v50 v51 z := ⟨H.g, H.y, H.y0, H.f0, H.f1, H.f2, H.f3, H.f4, H.f5, H.f6, H.f7, fun _ => k, H.f9, fun _ => d8_08, H.d9_0⟩
theorem R8.s9 {w Wa : World} {h : Hr} {nw : Rw} {r : Tm.Rw} {aB aX : Addr} {q cq i : Nat} {L : Nat → Bool} {w' : World} {v44 v45 v46 v47 v48 v49 v50 v51 v52 : Value} (H : R8 w Wa h nw r aB aX q cq i L w' v44 v45 v46 v47 v48 v49 v50 v51 v52) (h8 : L 8 = true) : R8 w Wa h nw r aB aX q cq i (fun j => j == 9 || L j) (sets (w.heap.size + 1) 0 [.int .i64 (dn nw r).v.s.1, .int .i64 (dn nw r).v.s.2, .bool (dn nw r).v.h.on, .int .i64 (dn nw r).v.h.r.k, .int .i64 (dn nw r).v.h.r.v, .int .i64 (dn nw r).v.h.r.a, .int .i64 (dn nw r).v.h.r.z, .slice (dn nw r).A (dn nw r).n (dn nw r).c, .int .i64 (dn nw r).v.y] w') v44 v45 v46 v47 v48 v49 v50 v51 v52 := by
 obtain ⟨x0, x1, x2, x3, x4, x5, x6, x7, x8, hy⟩ := H.y; have hx := hy.sets [.int .i64 (dn nw r).v.s.1, .int .i64 (dn nw r).v.s.2, .bool (dn nw r).v.h.on, .int .i64 (dn nw r).v.h.r.k, .int .i64 (dn nw r).v.h.r.v, .int .i64 (dn nw r).v.h.r.a, .int .i64 (dn nw r).v.h.r.z, .slice (dn nw r).A (dn nw r).n (dn nw r).c, .int .i64 (dn nw r).v.y] 0; rw [setl9] at hx; exact ⟨grown_sets H.g _, ⟨_, _, _, _, _, _, _, _, _, hx⟩, (fun l => by cases l), H.f0, H.f1, H.f2, H.f3, H.f4, H.f5, H.f6, H.f7, H.f8, (fun _ => hx), H.d8_0, fun _ => H.d8_0 h8⟩
theorem CJ.ran {w W W' : World} {h : Hr} {base : Nat} {o : List Int} {P X X' : Option Addr} {k q p q' p' : Nat} {zs : List Sp} {nw nw' : Rw} (H : CJ w h base o P k zs W X q p nw) (hg : W.grownBy W' (some (w.heap.size + 1))) (hy : Bx W' (w.heap.size + 1) 60 (vc nw')) (hX : Tm.Ins W (fun b => w.heap.size + 2 ≤ b ∧ b < base) X' q' (o.drop p')) (cv : Cvs w (· < w.heap.size) nw'.A nw'.n nw'.v.h.cs) (n : nw'.n ≤ 3000) (yr : nw'.v.y = 0) (st : nw'.v.h = ((ordl h.v.hs o).take p').foldl don (ini h.v)) : CJ w h base o P k zs W' X' q' p' nw' :=
 H.turn (H.b.grown hg H.b.size fun j hj => by injection hj with hj; omega) hg.size (fun b hb hne => hg.block b (Nat.lt_of_lt_of_le hb H.hb) fun e => hne (by injection e)) hy hX cv n yr st
theorem OwnL.ran {w W W' : World} {base n c : Nat} {A : Option Addr} {rs : List Rw} {nw : Rw} (L : OwnL W base A n c rs) (hy : Bx W (w.heap.size + 1) 60 (vc nw)) (hlo : w.heap.size + 2 ≤ base) (hg : W.grownBy W' (some (w.heap.size + 1))) : OwnL W' base A n c rs := by
 refine ⟨World.ownsRow.kept L.o hg ?_, fun r hr => cvs_kept (L.k r hr) hg fun b hb e => ?_, L.m, L.z⟩
 ·cases hA : (Value.slice A n c).ownBlock with
  | none => exact .inl rfl
  | some a => exact .inr fun e => by have := L.lo a hA; injection e with e; omega
 ·injection e with e
  subst e; obtain ⟨xs, t, hx⟩ := hb; unfold Bx at hy; rw [hy] at hx; injection hx with hx
  injection hx with _ hx _
  exact absurd hx (by decide)
theorem hs_n {h : Hr} (S : HS h) : h.n ≤ 3000 := S.n
theorem hrt_has {h : Hr} (hr : hrt h.v = true) : has h.s = true := by
 have h1 := (hrt_iff.1 hr).1; have h2 : te h.s h.r h.cs = true := h1; unfold te at h2; simp only [Bool.and_eq_true] at h2; obtain ⟨_, h3, _⟩ := h2; have := Ba.wi_iff.1 h3; unfold has; exact decide_eq_true (by omega)
theorem hrt_days {h : Hr} (hr : hrt h.v = true) : h.s.2 - h.s.1 ≤ 1100 := by
 have h2 : te h.s h.r h.cs = true := (hrt_iff.1 hr).1; have hh := hrt_has hr; unfold te at h2; simp only [Bool.and_eq_true] at h2; obtain ⟨_, h3, _⟩ := h2; have := Ba.wi_iff.1 h3; rw [mn_has hh] at this; omega
set_option maxRecDepth 100000 in
set_option maxHeartbeats 4000000 in
theorem cut_ (h : Hr) (w : World) (M : HM w (· < w.heap.size) h) (S : HS h) (hm : h.m ≤ 100) (hr : hrt h.v = true) : Calls Tryz.prog 49 #[hg h] w (CutTo w h) := by
 obtain ⟨W, hW⟩ : ∃ W, (w.alloc (.cells (hc h) 35)).alloc (.cells (vc ⟨⟨(0, 0), ⟨true, h.r, h.cs⟩, 0⟩, h.A, h.n, h.c⟩) 60) = W := ⟨_, rfl⟩; have H0 := Lib.hid (show C0 w W h by rw [← hW]; exact C0.start w h); have HW := Lib.hid hW; have HMM := Lib.hid M; have HSS := Lib.hid S; have hsz := H0.out.y.lt; have x0 := H0.out.x.c 0; have x1 := H0.out.x.c 1; have x2 := H0.out.x.c 2; have x3 := H0.out.x.c 3; have x4 := H0.out.x.c 4; have x5 := H0.out.x.c 5; have x6 := H0.out.x.c 6; have x7 := H0.out.x.c 7; have x8 := H0.out.x.c 8; have x9 := H0.out.x.c 9; simp at x0 x1 x2 x3 x4 x5 x6 x7 x8 x9; clear hW M S; go_enter Tryz.func49, Tryz.ntmps49
 go_wp2_with fail
 rw [HW.out]; clear HW; refine (order_ h W (HMM.out.below H0.out.b) (by omega)).mono ?_; rintro e W1 ⟨Ao, co, o, rfl, hI, hO, hb1, hco⟩; have HCO := Lib.hid hco; clear hco; have H1 := Lib.hid (H0.out.next hb1); have HI1 := Lib.hid hI; have HO := Lib.hid hO; clear hI hO hb1 x0 x1 x2 x3 x4 x5 x6 x7 x8 x9; have x0 := H1.out.x.c 0; have x1 := H1.out.x.c 1; have x2 := H1.out.x.c 2; have x3 := H1.out.x.c 3; have x4 := H1.out.x.c 4; have x5 := H1.out.x.c 5; have x6 := H1.out.x.c 6; have x7 := H1.out.x.c 7; have x8 := H1.out.x.c 8; have x9 := H1.out.x.c 9; simp at x0 x1 x2 x3 x4 x5 x6 x7 x8 x9
 go_upto_region 4 with fail
 refine wp_region_steps (fun L_ a_ w_ => ∃ (v17 v18 v19 v20 v21 v22 v23 v24 : Value), a_ = { tmps := #[hg h, .pointer (some ⟨w.heap.size, 0, none⟩), .slice none 0 0, .slice none 0 0, .pointer (some ⟨w.heap.size + 1, 0, none⟩), .slice Ao h.m co, undef, undef, .pointer (some ⟨w.heap.size, 2, none⟩), .pointer (some ⟨w.heap.size, 4, none⟩), rg h.r, .pointer (some ⟨w.heap.size, 2, none⟩), .pointer (some ⟨w.heap.size, 8, none⟩), .slice h.A h.n h.c, vg ⟨⟨(0, 0), ⟨true, h.r, h.cs⟩, 0⟩, h.A, h.n, h.c⟩, hg h, .slice Ao h.m co, v17, v18, v19, v20, v21, v22, v23, v24, undef, undef, undef, undef, undef, undef, undef, undef, undef, undef, undef, undef, undef, undef, undef, undef, undef, undef, undef, undef, undef, undef, undef, undef, undef, undef, undef, undef, undef, undef, undef, undef, undef, undef, undef, undef, undef], defers := [] } ∧ Hid (R4 w W1 h L_ w_ v17 v18 v19 v20 v21 v22 v23 v24)) (by kernel_rfl) (by kernel_rfl) ?_ (AllSteps.cons ?_ (AllSteps.cons ?_ (AllSteps.cons ?_ (AllSteps.cons ?_ (AllSteps.cons ?_ (AllSteps.cons ?_ (AllSteps.cons ?_ (AllSteps.cons ?_ AllSteps.nil)))))))) ?_
 ·exact ⟨_, _, _, _, _, _, _, _, rfl, Lib.hid ⟨⟨rfl, rfl, rfl, Nat.le_refl _, fun _ _ => rfl⟩, (fun h => by cases h), (fun h => by cases h), (fun h => by cases h), (fun h => by cases h), (fun h => by cases h), (fun h => by cases h), (fun h => by cases h), (fun h => by cases h), (fun h => by cases h)⟩⟩
 ·rintro L_ a_ w_ hL hd ⟨v17, v18, v19, v20, v21, v22, v23, v24, rfl, HR⟩ K hK; clear hd; go_simp; exact hK.out _ _ ⟨_, _, _, _, _, _, _, _, rfl, Lib.hid (HR.out.s0 rfl)⟩
 ·rintro L_ a_ w_ hL hd ⟨v17, v18, v19, v20, v21, v22, v23, v24, rfl, HR⟩ K hK; have e0 := HR.out.f0 (hd ⟨0, .data⟩ (by simp) rfl); subst e0; clear hd; go_simp; exact hK.out _ _ ⟨_, _, _, _, _, _, _, _, rfl, Lib.hid (HR.out.s1 rfl)⟩
 ·rintro L_ a_ w_ hL hd ⟨v17, v18, v19, v20, v21, v22, v23, v24, rfl, HR⟩ K hK; have e1 := HR.out.f1 (hd ⟨1, .data⟩ (by simp) rfl); subst e1; have H2 := H1.out.next HR.out.b; have x2 := H2.x.c 2; have x3 := H2.x.c 3; simp at x2 x3; clear hd H2; go_simp; exact hK.out _ _ ⟨_, _, _, _, _, _, _, _, rfl, Lib.hid (HR.out.s2 rfl)⟩
 ·rintro L_ a_ w_ hL hd ⟨v17, v18, v19, v20, v21, v22, v23, v24, rfl, HR⟩ K hK; have H2 := H1.out.next HR.out.b; have x0 := H2.x.c 0; have x1 := H2.x.c 1; have x2 := H2.x.c 2; have x3 := H2.x.c 3; have x4 := H2.x.c 4; have x5 := H2.x.c 5; have x6 := H2.x.c 6; have x7 := H2.x.c 7; have x8 := H2.x.c 8; have x9 := H2.x.c 9; simp at x0 x1 x2 x3 x4 x5 x6 x7 x8 x9; clear hd H2; go_simp; exact hK.out _ _ ⟨_, _, _, _, _, _, _, _, rfl, Lib.hid (HR.out.s3 rfl)⟩
 ·rintro L_ a_ w_ hL hd ⟨v17, v18, v19, v20, v21, v22, v23, v24, rfl, HR⟩ K hK; have e3 := HR.out.f3 (hd ⟨3, .data⟩ (by simp) rfl); subst e3; have C := Lib.hid (changeDays_ h w_ (HMM.out.below (H1.out.next HR.out.b).b) (by omega)); clear hd; go_simp; refine C.out.mono ?_; rintro e w5 ⟨A5, c5, rfl, hI5, hn5, hb5⟩; have HR2 := Lib.hid (HR.out.up hb5); have F := Lib.hid (And.intro hI5 hn5); clear hb5 hI5 hn5 C
  try go_simp
  exact hK.out _ _ ⟨_, _, _, _, _, _, _, _, rfl, Lib.hid (HR2.out.s4 ⟨A5, c5, rfl, F.out.1, F.out.2⟩)⟩
 ·rintro L_ a_ w_ hL hd ⟨v17, v18, v19, v20, v21, v22, v23, v24, rfl, HR⟩ K hK; have e2 := HR.out.f2 (hd ⟨2, .data⟩ (by simp) rfl); subst e2; obtain ⟨A4, c4, e4, hI4, hn4⟩ := HR.out.f4 (hd ⟨4, .data⟩ (by simp) rfl); subst e4; have C := Lib.hid (Spn.parts h.s A4 h.m c4 (h.v.hs.map Ch.dy) w_ hI4 hn4 (by omega)); clear hd hI4 hn4; go_simp; refine C.out.mono ?_; rintro e w5 ⟨zs, hP, A5, k5, c5, rfl, hS5, hc5, hb5, hl5⟩; have HR2 := Lib.hid (HR.out.up hb5); have F := Lib.hid (show Parted h.s (h.v.hs.map Ch.dy) zs ∧ Spn.Spans w5 w5.heap.size A5 k5 zs ∧ ∀ ad : Addr, A5 = some ad → W1.heap.size ≤ ad.block from ⟨hP, hS5, fun ad e => Nat.le_trans HR.out.b.size (hl5 ad e)⟩); clear hb5 hP hS5 hl5 hc5 C
  try go_simp
  exact hK.out _ _ ⟨_, _, _, _, _, _, _, _, rfl, Lib.hid (HR2.out.s5 ⟨zs, A5, k5, c5, rfl, F.out.1, F.out.2.1, F.out.2.2⟩ hL)⟩
 ·rintro L_ a_ w_ hL hd ⟨v17, v18, v19, v20, v21, v22, v23, v24, rfl, HR⟩ K hK; have h5 := hd ⟨5, .data⟩ (by simp) rfl; obtain ⟨zs5, A5, k5, c5, e5, _⟩ := HR.out.f5 h5; subst e5; clear hd; go_simp; exact hK.out _ _ ⟨_, _, _, _, _, _, _, _, rfl, Lib.hid (HR.out.s6 ⟨A5, k5, c5, rfl, rfl⟩ h5)⟩
 ·rintro L_ a_ w_ hL hd ⟨v17, v18, v19, v20, v21, v22, v23, v24, rfl, HR⟩ K hK; clear hd; go_simp; exact hK.out _ _ ⟨_, _, _, _, _, _, _, _, rfl, Lib.hid (HR.out.s7 rfl)⟩
 ·rintro L_ a_ w_ hL ⟨v17, v18, v19, v20, v21, v22, v23, v24, rfl, HR⟩; obtain rfl := HR.out.f0 (hL 0 (by decide)); obtain rfl := HR.out.f1 (hL 1 (by decide)); obtain rfl := HR.out.f2 (hL 2 (by decide)); obtain rfl := HR.out.f3 (hL 3 (by decide)); obtain ⟨A4, c4, rfl, _, _⟩ := HR.out.f4 (hL 4 (by decide)); obtain ⟨zs, P, k, ck, e5, hP, hZ, hzl⟩ := HR.out.f5 (hL 5 (by decide)); obtain ⟨P', k', ck', e6, rfl⟩ := HR.out.f6 (hL 6 (by decide)); obtain rfl := HR.out.f7 (hL 7 (by decide)); subst e5; injection e6 with e6 e7 e8
  subst e6 e7 e8; have HB := Lib.hid HR.out.b; have HP := Lib.hid hP; have HZ := Lib.hid hZ; have HZL := Lib.hid hzl; clear hL HR hP hZ hzl; dsimp only [Exit.then]; go_step; go_wp2; obtain ⟨base, hbase⟩ : ∃ base, w_.heap.size = base := ⟨_, rfl⟩; have H2 := Lib.hid (H1.out.next HB.out); have HLO := Lib.hid (show w.heap.size + 2 ≤ base by rw [← hbase]; exact H2.out.y.lt); have hw1 : w.heap.size + 2 ≤ W1.heap.size := H1.out.y.lt
  have HCJ := Lib.hid (show CJ w h base o P k zs w_ Ao h.m 0 ⟨⟨(0, 0), ⟨true, h.r, h.cs⟩, 0⟩, h.A, h.n, h.c⟩ from
   ⟨H2.out.b, Nat.le_of_eq hbase.symm, HLO.out, H2.out.x, H2.out.y, by rw [List.drop_zero]; exact HI1.out.keep (fun a ha => HB.out.cell ha.2) (fun b hb => ⟨by have := hb.1; have := hsz; omega, by rw [← hbase]; exact Nat.lt_of_lt_of_le hb.2 HB.out.size⟩), by rw [← hbase]; exact HZ.out, fun ad e => by have := HZL.out ad e; omega, HMM.out.t, Nat.le_trans (hs_n HSS.out) (by omega), rfl, by rw [List.take_zero]; rfl⟩)
  have HHS := Lib.hid (show has h.s = true from hrt_has hr); have HD := Lib.hid (show Dn h o zs 0 0 [] from ⟨h.s.1, Cutd.nil, (HP.out.chain HHS.out), fun c hc => by rw [List.take_zero] at hc; cases hc⟩); have HKK := Lib.hid (show k ≤ 1100 by have h1 := (HP.out.chain HHS.out).length; have h2 := hrt_days hr; have h3 := HZ.out.1; omega); have hqc : h.m ≤ co := HCO.out; have hkk : k ≤ 1100 := HKK.out; clear hbase HB HZ HZL H2 HI1 H1 x0 x1 x2 x3 x4 x5 x6 x7 x8 x9 hsz hw1
  go_loopw [3, 5, 24] (fun l s5 vi w' => ∃ (j : Nat) (W : World) (A : Option Addr) (n c : Nat) (rs : List Rw) (X : Option Addr) (q cq p : Nat) (nw : Rw), j ≤ k ∧ l = .slice A n c ∧ s5 = .slice X q cq ∧ vi = .int .i64 (j : Int) ∧ W = w' ∧ n ≤ j ∧ q ≤ cq ∧ Hid (CJ w h base o P k zs W X q p nw) ∧ Hid (OwnL W base A n c rs) ∧ Hid (Dn h o zs j p rs)) (fun _ _ vi _ => k - (intOf vi).toNat)
  case atStart => exact ⟨0, _, none, 0, 0, [], Ao, h.m, co, 0, _, Nat.zero_le _, rfl, rfl, rfl, rfl, Nat.le_refl _, hqc, HCJ, Lib.hid OwnL.nil, HD⟩
  case round =>
   obtain ⟨j, W, A, n, c, rs, X, q, cq, p, nw, hj, rfl, rfl, rfl, rfl, hnj, hqc, HC, HL, HDn⟩ := hrel; clear HCJ HD; by_cases hlt : j < k
   ·obtain ⟨adP, x, y, hPe, hbP, hzj, z0, z1⟩ := HC.out.s.get hlt; have HPE := Lib.hid hPe; subst hPe; have hlt2 : (j : Int) < (k : Int) := by omega
    have HZJ := Lib.hid hzj; obtain ⟨W2, hW2⟩ : ∃ W2, W.alloc (.cells #[.int .i64 x, .int .i64 y] 27) = W2 := ⟨_, rfl⟩; have hb2 : Below W.heap.size W W2 := hW2 ▸ alloc_ _ _; have HC2 := Lib.hid (HC.out.next hb2); have HL2 := Lib.hid (HL.out.below hb2); have HQ2 := Lib.hid (show Bx W2 W.heap.size 27 #[.int .i64 x, .int .i64 y] from hW2 ▸ Bx.new W 27 #[.int .i64 x, .int .i64 y]); have HBW := Lib.hid (show base ≤ W.heap.size from HC.out.hb); have HW2 := Lib.hid hW2; have HDA := Lib.hid (HDn.out.at hzj); clear hzj hbP hW2 hb2 HC HL HDn
    go_wp2_with fail
    rw [HW2.out]; clear z0 z1 HW2
    go_loopw [5] (fun s5 w' => ∃ (W3 : World) (X : Option Addr) (q cq p : Nat) (nw : Rw), s5 = .slice X q cq ∧ W3 = w' ∧ q ≤ cq ∧ Hid (CJ w h base o (some adP) k zs W3 X q p nw) ∧ Hid (OwnL W3 base A n c rs) ∧ Hid (Bx W3 W.heap.size 27 #[.int .i64 x, .int .i64 y]) ∧ Hid (∀ c ∈ (ordl h.v.hs o).take p, c.dy ≤ x)) (fun s5 _ => lenV s5)
    case atStart => exact ⟨_, X, q, cq, p, nw, rfl, rfl, hqc, HC2, HL2, HQ2, Lib.hid HDA.out.2.2.2⟩
    case round =>
     obtain ⟨W3, X, q, cq, p, nw, rfl, rfl, hqc, HC, HL, HQ, HDY⟩ := hrel; clear HC2 HL2 HQ2; cases q with
     | zero =>
      have h2 : ∀ c ∈ (ordl h.v.hs o).drop p, x < c.dy := by
       have hl := HC.out.oi.1; rw [List.length_drop] at hl; intro c hc; rw [List.drop_of_length_le (by rw [ordl_len]; omega)] at hc; cases hc
      have HDZ := Lib.hid h2; clear h2
      go_upto_region 7 with fail
      have ne : Nonempty (Ext W3) := ⟨⟨W3, Below.refl _ _⟩⟩; refine quietE (by kernel_rfl) (by kernel_rfl) ?_
      repeat (first | go_big_quiet_skip | quiet_step (fail))
      refine wpQuiet_nil ?_; rintro _ ⟨p2, rfl⟩; clear ne; have HC4 := Lib.hid (HC.out.next p2.b); have HL4 := Lib.hid (HL.out.below p2.b); have HQ4 := Lib.hid (HQ.out.keep p2.b); generalize p2.W = W4 at HC4 HL4 HQ4 ⊢; clear HC HL HQ; have hbx := HQ4.out.c 0; have hby := HQ4.out.c 1; simp at hbx hby
      have fy := HC4.out.y.f; have y0 := HC4.out.y.c 0; have y1 := HC4.out.y.c 1; have y2 := HC4.out.y.c 2; have y3 := HC4.out.y.c 3; have y4 := HC4.out.y.c 4; have y5 := HC4.out.y.c 5; have y6 := HC4.out.y.c 6; have y7 := HC4.out.y.c 7; have y8 := HC4.out.y.c 8; simp at y0 y1 y2 y3 y4 y5 y6 y7 y8; obtain ⟨W5, hW5⟩ : ∃ W5, (W4.setCell ⟨w.heap.size + 1, 0, none⟩ (.int .i64 x)).setCell ⟨w.heap.size + 1, 1, none⟩ (.int .i64 y) = W5 := ⟨_, rfl⟩; have hg5 : W4.grownBy W5 (some (w.heap.size + 1)) := by rw [← hW5]; exact grown_sets (b := w.heap.size + 1) (World.grownBy.refl W4 _) [.int .i64 x, .int .i64 y]
      have hy5 : Bx W5 (w.heap.size + 1) 60 (vc ⟨⟨(x, y), nw.v.h, nw.v.y⟩, nw.A, nw.n, nw.c⟩) := by
       rw [← hW5]; have := HC4.out.y.sets [.int .i64 x, .int .i64 y] 0; rwa [setl2] at this
      have HC5 := Lib.hid (HC4.out.ran (nw' := ⟨⟨(x, y), nw.v.h, nw.v.y⟩, nw.A, nw.n, nw.c⟩) hg5 hy5 HC4.out.oi HC4.out.cv HC4.out.n HC4.out.yr HC4.out.st); have HL5 := Lib.hid (HL4.out.ran HC4.out.y HC4.out.lo hg5); have C := Lib.hid (lengthened_ A n c rs ⟨⟨(x, y), nw.v.h, nw.v.y⟩, nw.A, nw.n, nw.c⟩ base W5 HL5.out (HC5.out.cv.keep (fun a ha => HC5.out.b.cell ha) (fun b hb => Nat.lt_of_lt_of_le hb HC5.out.b.size)) HC5.out.n HC5.out.yr HC5.out.hb (by have := HKK.out; omega)); have HW5 := Lib.hid hW5; clear hW5 hg5 hy5
      go_wp2_with fail
      rw [HW5.out]; refine C.out.mono ?_; rintro e W6 ⟨A6, n6, c6, rs6, rfl, hL6, hmap, hn6, hg6⟩; have HC6 := Lib.hid (HC5.out.grown hg6 HL5.out.lo); have HL6 := Lib.hid hL6
      have HD6 := Lib.hid (show Dn h o zs (j + 1) p rs6 from by
       refine ⟨y, ?_, HDA.out.2.2.1, fun c hc => by have := HDY.out c hc; have h' : x < y := HDA.out.2.1; omega⟩; rw [hmap]; have hh := part_holds HO.out HP.out HHS.out (List.mem_of_getElem? HZJ.out) HDY.out HDZ.out; exact lng_cutd (z := (x, y)) HDA.out.1 HDA.out.2.1 (fun d h1 h2 => (hh d h1 h2).trans HC5.out.st.symm))
      clear hL6 hmap hg6 C HC4 HL4 HQ4 HC5 HL5 hbx hby fy y0 y1 y2 y3 y4 y5 y6 y7 y8; go_wp2; go_roundw
      case rel => exact ⟨j + 1, W6, A6, n6, c6, rs6, _, _, cq, p, ⟨⟨(x, y), nw.v.h, nw.v.y⟩, nw.A, nw.n, nw.c⟩, by omega, rfl, rfl, by go_num, rfl, by omega, hqc, HC6, HL6, HD6⟩
      case measure => simp [intOf]; omega
     | succ q =>
      obtain ⟨aX, xx, rfl, haX, hox, hcX, hT1, hT0⟩ := ins_head HC.out.oi; obtain ⟨hx0, hx1⟩ := ord_at HO.out (List.mem_of_getElem? hox); obtain ⟨i, rfl⟩ := Int.eq_ofNat_of_zero_le hx0; have hhs : h.v.hs.length = h.m := by show (h.rs.map Tm.Rw.v).length = _; rw [List.length_map]; exact HMM.out.r.1
      have hi : i < h.m := by omega
      have hi2 : (i : Int) < (h.m : Int) := by omega
      obtain ⟨aB, r, hB, hbB, hr, N, hcv, hv⟩ := HMM.out.get hi; have hv' : h.v.hs[((i : Nat) : Int).toNat]? = some r.v := by rw [Int.toNat_natCast]; exact hv
      have HV := Lib.hid (And.intro hox hv'); have HN := Lib.hid N; have HCV := Lib.hid hcv; have HRN := Lib.hid (HSS.out.k r (List.mem_of_getElem? hr)); have HBB := Lib.hid hbB; have HT := Lib.hid (And.intro hT1 hT0); have HAX := Lib.hid haX; have HCX := Lib.hid hcX; have k9 : ∀ p : Ext W3, p.W.cell? ⟨w.heap.size, 9, none⟩ = some (.slice (some aB) h.m h.d) := fun p => by rw [← hB]; exact HC.out.x.ext p 9
      have kX : ∀ p : Ext W3, p.W.cell? aX = some (.int .i64 ((i : Nat) : Int)) := fun p => (p.b.cell (Nat.lt_of_lt_of_le haX.2 HC.out.hb)).trans hcX
      have kd : ∀ p : Ext W3, p.W.cell? ⟨(aB.add (i * 9)).block, (aB.add (i * 9)).off + 1, none⟩ = some (.int .i64 r.v.dy) := fun p => ((HC.out.b.trans (p.b.mono HC.out.b.size)).cell (p := ⟨(aB.add (i * 9)).block, (aB.add (i * 9)).off + 1, none⟩) (by show (aB.add (i * 9)).block < _; rw [add_block]; exact hbB)).trans N.c1
      have kp : ∀ p : Ext W3, p.W.cell? ⟨W.heap.size, 0, none⟩ = some (.int .i64 x) := fun p => HQ.out.ext p 0
      have hHB := Lib.hid hB; obtain ⟨u, hu⟩ : ∃ u, decide (r.v.dy ≤ x) = u := ⟨_, rfl⟩; have HU := Lib.hid hu; have tq : decide ((0 : Int) < ((q + 1 : Nat) : Int)) = true := decide_eq_true (by omega); clear haX hox hcX hT1 hT0 hx0 hx1 hhs hB hbB hr N hcv hv hv'
      go_upto_region 7 with fail
      have ne : Nonempty (Ext W3) := ⟨⟨W3, Below.refl _ _⟩⟩; refine quietE (by kernel_rfl) (by kernel_rfl) ?_
      repeat (first | go_big_quiet_skip | quiet_step (fail))
      refine wpQuiet_nil ?_; rintro _ ⟨p2, rfl⟩; clear k9 kX kd kp ne; cases u
      ·have HDZ := Lib.hid (show ∀ c ∈ (ordl h.v.hs o).drop p, x < c.dy from rise_drop (ordl_rise HO.out) fun c hc => by
        rw [ordl_get HV.out.1 HV.out.2] at hc; obtain rfl := Option.some.inj hc; have := of_decide_eq_false HU.out; omega)
       have HC4 := Lib.hid (HC.out.next p2.b); have HL4 := Lib.hid (HL.out.below p2.b); have HQ4 := Lib.hid (HQ.out.keep p2.b); generalize p2.W = W4 at HC4 HL4 HQ4 ⊢; clear HC HL HQ; have hbx := HQ4.out.c 0; have hby := HQ4.out.c 1; simp at hbx hby
       have fy := HC4.out.y.f; have y0 := HC4.out.y.c 0; have y1 := HC4.out.y.c 1; have y2 := HC4.out.y.c 2; have y3 := HC4.out.y.c 3; have y4 := HC4.out.y.c 4; have y5 := HC4.out.y.c 5; have y6 := HC4.out.y.c 6; have y7 := HC4.out.y.c 7; have y8 := HC4.out.y.c 8; simp at y0 y1 y2 y3 y4 y5 y6 y7 y8; obtain ⟨W5, hW5⟩ : ∃ W5, (W4.setCell ⟨w.heap.size + 1, 0, none⟩ (.int .i64 x)).setCell ⟨w.heap.size + 1, 1, none⟩ (.int .i64 y) = W5 := ⟨_, rfl⟩; have hg5 : W4.grownBy W5 (some (w.heap.size + 1)) := by rw [← hW5]; exact grown_sets (b := w.heap.size + 1) (World.grownBy.refl W4 _) [.int .i64 x, .int .i64 y]
       have hy5 : Bx W5 (w.heap.size + 1) 60 (vc ⟨⟨(x, y), nw.v.h, nw.v.y⟩, nw.A, nw.n, nw.c⟩) := by
        rw [← hW5]; have := HC4.out.y.sets [.int .i64 x, .int .i64 y] 0; rwa [setl2] at this
       have HC5 := Lib.hid (HC4.out.ran (nw' := ⟨⟨(x, y), nw.v.h, nw.v.y⟩, nw.A, nw.n, nw.c⟩) hg5 hy5 HC4.out.oi HC4.out.cv HC4.out.n HC4.out.yr HC4.out.st); have HL5 := Lib.hid (HL4.out.ran HC4.out.y HC4.out.lo hg5); have C := Lib.hid (lengthened_ A n c rs ⟨⟨(x, y), nw.v.h, nw.v.y⟩, nw.A, nw.n, nw.c⟩ base W5 HL5.out (HC5.out.cv.keep (fun a ha => HC5.out.b.cell ha) (fun b hb => Nat.lt_of_lt_of_le hb HC5.out.b.size)) HC5.out.n HC5.out.yr HC5.out.hb (by have := HKK.out; omega)); have HW5 := Lib.hid hW5; clear hW5 hg5 hy5
       go_wp2_with fail
       rw [HW5.out]; refine C.out.mono ?_; rintro e W6 ⟨A6, n6, c6, rs6, rfl, hL6, hmap, hn6, hg6⟩; have HC6 := Lib.hid (HC5.out.grown hg6 HL5.out.lo); have HL6 := Lib.hid hL6
       have HD6 := Lib.hid (show Dn h o zs (j + 1) p rs6 from by
        refine ⟨y, ?_, HDA.out.2.2.1, fun c hc => by have := HDY.out c hc; have h' : x < y := HDA.out.2.1; omega⟩; rw [hmap]; have hh := part_holds HO.out HP.out HHS.out (List.mem_of_getElem? HZJ.out) HDY.out HDZ.out; exact lng_cutd (z := (x, y)) HDA.out.1 HDA.out.2.1 (fun d h1 h2 => (hh d h1 h2).trans HC5.out.st.symm))
       clear hL6 hmap hg6 C HC4 HL4 HQ4 HC5 HL5 hbx hby fy y0 y1 y2 y3 y4 y5 y6 y7 y8; go_wp2; go_roundw
       case rel => exact ⟨j + 1, W6, A6, n6, c6, rs6, _, _, cq, p, ⟨⟨(x, y), nw.v.h, nw.v.y⟩, nw.A, nw.n, nw.c⟩, by omega, rfl, rfl, by go_num, rfl, by omega, hqc, HC6, HL6, HD6⟩
       case measure => simp [intOf]; omega
      ·have HC4 := Lib.hid (HC.out.next p2.b); have HL4 := Lib.hid (HL.out.below p2.b); have HQ4 := Lib.hid (HQ.out.keep p2.b); have HCX4 := Lib.hid (show p2.W.cell? aX = some (.int .i64 (i : Int)) from (p2.b.cell (Nat.lt_of_lt_of_le HAX.out.2 HC.out.hb)).trans HCX.out); have HT4 := Lib.hid (And.intro (HT.out.1.keep (w' := p2.W) (fun a ha => p2.b.cell (Nat.lt_of_lt_of_le ha.2 HC.out.hb)) (fun _ h => h)) (fun e => (HT.out.2 e).keep (w' := p2.W) (fun a ha => p2.b.cell (Nat.lt_of_lt_of_le ha.2 HC.out.hb)) (fun _ h => h))); generalize p2.W = W4 at HC4 HL4 HQ4 HCX4 HT4 ⊢; clear HC HL HQ HCX HT
       go_upto_region 8 with fail
       refine wp_region_steps (fun L_ a_ w_ => ∃ (v44 v45 v46 v47 v48 v49 v50 v51 v52 : Value), a_ = { tmps := #[hg h, Value.pointer (some ⟨w.heap.size, 0, none⟩), Value.slice none 0 0, Value.slice A n c, Value.pointer (some ⟨w.heap.size + 1, 0, none⟩), Value.slice (some aX) (q + 1) cq, undef, Value.pointer (some ⟨W.heap.size, 0, none⟩), Value.pointer (some ⟨w.heap.size, 2, none⟩), Value.pointer (some ⟨w.heap.size, 4, none⟩), rg h.r, Value.pointer (some ⟨w.heap.size, 2, none⟩), Value.pointer (some ⟨w.heap.size, 8, none⟩), Value.slice h.A h.n h.c, vg ⟨⟨(0, 0), ⟨true, h.r, h.cs⟩, 0⟩, h.A, h.n, h.c⟩, hg h, Value.slice Ao h.m co, Value.pointer (some ⟨w.heap.size, 2, none⟩), Value.pointer (some ⟨w.heap.size, 2, none⟩), sg h.s, hg h, Value.slice A4 h.m c4, Value.slice (some adP) k ck, Value.int IntKind.i64 (k : Int), Value.int IntKind.i64 (j : Int), Value.bool true, Value.pointer (some (adP.add (j * 2))), Value.agg #[Value.int IntKind.i64 x, Value.int IntKind.i64 y], Value.slice (some aX) (q + 1) cq, Value.int IntKind.i64 ((q : Int) + 1), Value.bool true, Value.bool true, Value.pointer (some ⟨w.heap.size, 9, none⟩), Value.slice (some aB) h.m h.d, Value.slice (some aX) (q + 1) cq, Value.pointer (some aX), Value.int IntKind.i64 (i : Int), Value.pointer (some (aB.add (i * 9))), Value.pointer (some ⟨(aB.add (i * 9)).block, (aB.add (i * 9)).off + 1, none⟩), Value.int IntKind.i64 r.v.dy, Value.pointer (some ⟨W.heap.size, 0, none⟩), Value.int IntKind.i64 x, Value.bool true, Value.bool true, v44, v45, v46, v47, v48, v49, v50, v51, v52, u53, u54, u55, u56, u57, u58, u59, u60, undef], defers := [] } ∧ Hid (R8 w W4 h nw r aB aX q cq i L_ w_ v44 v45 v46 v47 v48 v49 v50 v51 v52)) (by kernel_rfl) (by kernel_rfl) ?_ (AllSteps.cons ?_ (AllSteps.cons ?_ (AllSteps.cons ?_ (AllSteps.cons ?_ (AllSteps.cons ?_ (AllSteps.cons ?_ (AllSteps.cons ?_ (AllSteps.cons ?_ (AllSteps.cons ?_ (AllSteps.cons ?_ AllSteps.nil)))))))))) ?_
       ·exact ⟨_, _, _, _, _, _, _, _, _, rfl, Lib.hid ⟨⟨rfl, rfl, rfl, Nat.le_refl _, fun _ _ _ => rfl⟩, ⟨_, _, _, _, _, _, _, _, _, HC4.out.y⟩, (fun _ => rfl), (fun h => by cases h), (fun h => by cases h), (fun h => by cases h), (fun h => by cases h), (fun h => by cases h), (fun h => by cases h), (fun h => by cases h), (fun h => by cases h), (fun h => by cases h), (fun h => by cases h), (fun h => by cases h), (fun h => by cases h)⟩⟩
       ·rintro L_ a_ w_ hL hd ⟨v44, v45, v46, v47, v48, v49, v50, v51, v52, rfl, HR⟩ K hK; have h9 := no8 HR.out.d9_0 hL; have hy : Bx w_ (w.heap.size + 1) 60 (vc nw) := (HR.out.y0 h9).trans HC4.out.y; have y0 := hy.c 0; have y1 := hy.c 1; have y2 := hy.c 2; have y3 := hy.c 3; have y4 := hy.c 4; have y5 := hy.c 5; have y6 := hy.c 6; have y7 := hy.c 7; have y8 := hy.c 8; simp at y0 y1 y2 y3 y4 y5 y6 y7 y8; clear hd; go_simp; exact hK.out _ _ ⟨_, _, _, _, _, _, _, _, _, rfl, Lib.hid (HR.out.s0 rfl)⟩
       ·rintro L_ a_ w_ hL hd ⟨v44, v45, v46, v47, v48, v49, v50, v51, v52, rfl, HR⟩ K hK; clear hd; go_simp; exact hK.out _ _ ⟨_, _, _, _, _, _, _, _, _, rfl, Lib.hid (HR.out.s1 rfl)⟩
       ·rintro L_ a_ w_ hL hd ⟨v44, v45, v46, v47, v48, v49, v50, v51, v52, rfl, HR⟩ K hK; have e1 := HR.out.f1 (hd ⟨1, .data⟩ (by simp) rfl); subst e1; have hx : Bx w_ w.heap.size 35 (hc h) := (HR.out.g.block w.heap.size HC4.out.x.lt (by simp)).trans HC4.out.x; have x9 := hx.c 9; simp at x9; rw [hHB.out] at x9; clear hd; go_simp; exact hK.out _ _ ⟨_, _, _, _, _, _, _, _, _, rfl, Lib.hid (HR.out.s2 rfl)⟩
       ·rintro L_ a_ w_ hL hd ⟨v44, v45, v46, v47, v48, v49, v50, v51, v52, rfl, HR⟩ K hK; clear hd; go_simp; exact hK.out _ _ ⟨_, _, _, _, _, _, _, _, _, rfl, Lib.hid (HR.out.s3 rfl)⟩
       ·rintro L_ a_ w_ hL hd ⟨v44, v45, v46, v47, v48, v49, v50, v51, v52, rfl, HR⟩ K hK; have e3 := HR.out.f3 (hd ⟨3, .data⟩ (by simp) rfl); subst e3; clear hd; go_simp; exact hK.out _ _ ⟨_, _, _, _, _, _, _, _, _, rfl, Lib.hid (HR.out.s4 rfl)⟩
       ·rintro L_ a_ w_ hL hd ⟨v44, v45, v46, v47, v48, v49, v50, v51, v52, rfl, HR⟩ K hK; have e4 := HR.out.f4 (hd ⟨4, .data⟩ (by simp) rfl); subst e4; have hX : w_.cell? aX = some (.int .i64 (i : Int)) := (World.cell?_of_block (HR.out.g.block aX.block (Nat.lt_of_lt_of_le HAX.out.2 HC4.out.hb) (by have := HAX.out.1; simp; omega))).trans HCX4.out; clear hd; go_simp; exact hK.out _ _ ⟨_, _, _, _, _, _, _, _, _, rfl, Lib.hid (HR.out.s5 rfl)⟩
       ·rintro L_ a_ w_ hL hd ⟨v44, v45, v46, v47, v48, v49, v50, v51, v52, rfl, HR⟩ K hK; have e2 := HR.out.f2 (hd ⟨2, .data⟩ (by simp) rfl); subst e2; have e5 := HR.out.f5 (hd ⟨5, .data⟩ (by simp) rfl); subst e5; clear hd; go_simp; exact hK.out _ _ ⟨_, _, _, _, _, _, _, _, _, rfl, Lib.hid (HR.out.s6 rfl)⟩
       ·rintro L_ a_ w_ hL hd ⟨v44, v45, v46, v47, v48, v49, v50, v51, v52, rfl, HR⟩ K hK; have e6 := HR.out.f6 (hd ⟨6, .data⟩ (by simp) rfl); subst e6; have hBw : Below w.heap.size w w_ := HC4.out.b.grown HR.out.g HC4.out.b.size (fun j hj => by injection hj with hj; omega); obtain ⟨n0, n1, n2, n3, n4, n5, n6, n7, n8⟩ := HN.out.keep (w' := w_) (fun a ha => hBw.cell (by rw [ha, add_block]; exact HBB.out)); clear hd; go_simp; exact hK.out _ _ ⟨_, _, _, _, _, _, _, _, _, rfl, Lib.hid (HR.out.s7 rfl)⟩
       ·rintro L_ a_ w_ hL hd ⟨v44, v45, v46, v47, v48, v49, v50, v51, v52, rfl, HR⟩ K hK; have h0 := hd ⟨0, .data⟩ (by simp) rfl; have e0 := HR.out.f0 h0; subst e0; have e7 := HR.out.f7 (hd ⟨7, .data⟩ (by simp) rfl); subst e7; have C := Lib.hid (done_ nw r w_); clear hd; go_simp; refine C.out.mono ?_; rintro e w5 ⟨rfl, hb5⟩; have HR2 := Lib.hid (HR.out.up hb5); clear hb5 C
        try go_simp
        exact hK.out _ _ ⟨_, _, _, _, _, _, _, _, _, rfl, Lib.hid (HR2.out.s8 rfl h0)⟩
       ·rintro L_ a_ w_ hL hd ⟨v44, v45, v46, v47, v48, v49, v50, v51, v52, rfl, HR⟩ K hK; have h8 := hd ⟨8, .data⟩ (by simp) rfl; have e8 := HR.out.f8 h8; subst e8; obtain ⟨x0, x1, x2, x3, x4, x5, x6, x7, x8, hy⟩ := HR.out.y; have fy := hy.f; have z0 := hy.c 0; have z1 := hy.c 1; have z2 := hy.c 2; have z3 := hy.c 3; have z4 := hy.c 4; have z5 := hy.c 5; have z6 := hy.c 6; have z7 := hy.c 7; have z8 := hy.c 8; simp at z0 z1 z2 z3 z4 z5 z6 z7 z8; clear hd; go_simp; exact hK.out _ _ ⟨_, _, _, _, _, _, _, _, _, rfl, Lib.hid (HR.out.s9 h8)⟩
       ·rintro L_ a_ w_ hL ⟨v44, v45, v46, v47, v48, v49, v50, v51, v52, rfl, HR⟩; have HY := Lib.hid (HR.out.f9 (hL 9 (by decide))); have HG := Lib.hid HR.out.g; clear hL HR; have hrch := (hrt_iff.1 hr).2.2 r.v (List.mem_of_getElem? HV.out.2); have hst := don_step HV.out.1 HV.out.2 HC4.out.st; have hdn := dn_v nw r; have hday := take_day HV.out.1 HV.out.2 HDY.out (of_decide_eq_true HU.out); have hlow : Tm.Ins W4 (fun b => w.heap.size + 2 ≤ b ∧ b < base) (some (aX.add 1)) q (o.drop (p + 1)) := HT4.out.1; have RUN := fun (X' : Option Addr) (hX : Tm.Ins W4 (fun b => w.heap.size + 2 ≤ b ∧ b < base) X' q (o.drop (p + 1))) => Lib.hid (HC4.out.ran (nw' := dn nw r) (p' := p + 1) HG.out HY.out hX (dn_good HC4.out.cv HCV.out) (dn_n HC4.out.n HRN.out) (by rw [hdn]; exact HC4.out.yr) (by rw [hdn]; exact hst))
        have HLN := Lib.hid (HL4.out.ran HC4.out.y HC4.out.lo HG.out); have HQN := Lib.hid (show Bx w_ W.heap.size 27 #[.int .i64 x, .int .i64 y] from (HG.out.block _ HQ4.out.lt (by have h1 := HBW.out; have h2 := HC4.out.lo; simp; omega)).trans HQ4.out); have HDYN := Lib.hid hday; clear hrch hst hdn hday hlow; dsimp only [Exit.then]; go_step; go_wp2; by_cases hcq : cq = 1
        ·exact ⟨⟨w_, some aX, q, cq - 1, p + 1, dn nw r, by rw [if_pos hcq], rfl, by omega, RUN _ (HT4.out.2 (by omega)), HLN, HQN, HDYN⟩, by simp [lenV]⟩
        ·exact ⟨⟨w_, some ⟨aX.block, aX.off + 1, none⟩, q, cq - 1, p + 1, dn nw r, by rw [if_neg hcq], rfl, by omega, RUN _ (by have := HT4.out.1; rwa [show aX.add 1 = ⟨aX.block, aX.off + 1, none⟩ by simp [Addr.add]] at this), HLN, HQN, HDYN⟩, by simp [lenV]⟩
   ·obtain rfl : j = k := by omega
    obtain ⟨m, hm1, hm2, hm3⟩ := HDn.out.e; have hzl := HC.out.s.1; rw [List.drop_of_length_le (by omega)] at hm2; have hm2 : m = h.s.2 := hm2; subst hm2; have HR := Lib.hid (show CutTo w h (.returned (.slice A n c)) W from ⟨A, n, c, rs, o, rfl, HL.out.low (by have := HC.out.lo; omega), HO.out, hm1, by omega, HC.out.b⟩); clear hm1 hm3 HC HL HDn; go_wp2; go_ret; exact HR.out
end Slc
end Go.Proofs.YtplenoaajokpjaaGreat

namespace Go.Proofs.YtplenoaajokpjaaGreat
open Go.RowKit Ba Cv Sp Te Ag Sl Tm
namespace Slc
set_option linter.unusedVariables false
theorem qcvs {w : World} {ok : Nat → Prop} {A : Option Addr} {n : Nat} {cs : List Co} (h : Cvs w ok A n cs) : Qo.Cvs w ok A n cs :=
 ⟨h.1, fun hn => by
  obtain ⟨ad, e, hb, hc⟩ := h.2 hn; exact ⟨ad, e, hb, fun j c hj => ⟨(hc j c hj).c0, (hc j c hj).c1, (hc j c hj).c2, (hc j c hj).c3, (hc j c hj).c4⟩⟩⟩
structure OwnQ (w : World) (base : Nat) (A : Option Addr) (n c : Nat) (rs : List Rw) : Prop where
 o : Own w base A n c rs
 k : ∀ r ∈ rs, Cvs w (fun b => (base ≤ b ∧ b < w.heap.size) ∧ cov w b) r.A r.n r.v.h.cs
 m : ∀ r ∈ rs, r.n ≤ 3000
theorem OwnL.q {w : World} {base n c : Nat} {A : Option Addr} {rs : List Rw} (L : OwnL w base A n c rs) : OwnQ w base A n c rs := ⟨L.o, L.k, L.m⟩
theorem OwnQ.nil {w : World} {base : Nat} : OwnQ w base none 0 0 [] := ⟨Own.nil, (fun r h => by cases h), (fun r h => by cases h)⟩
theorem OwnQ.below {w w' : World} {base n c : Nat} {A : Option Addr} {rs : List Rw} (h : OwnQ w base A n c rs) (hb : Below w.heap.size w w') : OwnQ w' base A n c rs := ⟨h.o.below hb, fun r hr => cvs_below (h.k r hr) hb, h.m⟩
theorem OwnQ.set {w : World} {base n c g i : Nat} {rs : List Rw} {r : Rw} (h : OwnQ w base (some ⟨g, 0, none⟩) n c rs) (hr : rs[i]? = some r) (y : Int) : OwnQ (w.setCell ⟨g, i * 9 + 8, none⟩ (.int .i64 y)) base (some ⟨g, 0, none⟩) n c (rs.set i (r.setY y)) := by
 have hc : ∀ b, cov w b → some b ≠ (Value.slice (some ⟨g, 0, none⟩) n c).ownBlock := fun b hb => cov_not h.o hb
 have hg := grown_set (w := w) (g := g) (i * 9 + 8) (.int .i64 y) n c; have hmem := List.mem_of_getElem? hr; refine ⟨h.o.putY hr y, fun q hq => ?_, fun q hq => ?_⟩
 all_goals rcases List.mem_or_eq_of_mem_set hq with h' | h'
 ·exact cvs_kept (h.k q h') hg hc
 ·subst h'; exact cvs_kept (h.k r hmem) hg hc
 ·exact h.m q h'
 ·subst h'; exact h.m r hmem
theorem OwnQ.sls {w : World} {base n c : Nat} {A : Option Addr} {rs : List Rw} (h : OwnQ w base A n c rs) : Sls w A n rs := ⟨h.o.raws.keep (fun _ _ => rfl) (fun b hb => hb.2), fun r hr => ⟨(h.k r hr).keep (fun _ _ => rfl) (fun b hb => hb.1.2), h.m r hr⟩⟩
def st (q : Ri → List Co → Int × Int) (L : List (Sp × Hd)) (i : Nat) : List Sc := (L.take i).map (prc q) ++ (L.drop i).map fun x => ⟨x.1, x.2, 0⟩
theorem st_zero (q : Ri → List Co → Int × Int) (L : List (Sp × Hd)) : st q L 0 = L.map fun x => ⟨x.1, x.2, 0⟩ := by simp [st]
theorem st_end {q : Ri → List Co → Int × Int} {L : List (Sp × Hd)} {i : Nat} (h : L.length ≤ i) : st q L i = L.map (prc q) := by unfold st; rw [List.take_of_length_le h, List.drop_of_length_le h]; simp
theorem st_at {q : Ri → List Co → Int × Int} {L : List (Sp × Hd)} {i : Nat} {x : Sp × Hd} (h : L[i]? = some x) : st q L i = (L.take i).map (prc q) ++ ⟨x.1, x.2, 0⟩ :: (L.drop (i + 1)).map fun x => ⟨x.1, x.2, 0⟩ := by unfold st; rw [drop_get h]; rfl
theorem st_next {q : Ri → List Co → Int × Int} {L : List (Sp × Hd)} {i : Nat} {x : Sp × Hd} (h : L[i]? = some x) : st q L (i + 1) = (L.take i).map (prc q) ++ prc q x :: (L.drop (i + 1)).map fun x => ⟨x.1, x.2, 0⟩ := by unfold st; rw [take_get h]; simp
theorem st_get {q : Ri → List Co → Int × Int} {L : List (Sp × Hd)} {i : Nat} {x : Sp × Hd} {rs : List Rw} {r : Rw} (h : L[i]? = some x) (hm : rs.map Rw.v = st q L i) (hr : rs[i]? = some r) : r.v = ⟨x.1, x.2, 0⟩ := by
 have h1 : (rs.map Rw.v)[i]? = some r.v := by rw [List.getElem?_map, hr]; rfl
 have hl := (List.getElem?_eq_some_iff.1 h).1; rw [hm, st_at h, List.getElem?_append_right (by rw [List.length_map, List.length_take]; omega), List.length_map, List.length_take, Nat.min_eq_left (by omega), Nat.sub_self] at h1; simp at h1; exact h1.symm
theorem st_off {q : Ri → List Co → Int × Int} {L : List (Sp × Hd)} {i : Nat} {x : Sp × Hd} (h : L[i]? = some x) (hx : x.2.on = false) : st q L (i + 1) = st q L i := by rw [st_next h, st_at h, prc_off hx]
theorem st_set {q : Ri → List Co → Int × Int} {L : List (Sp × Hd)} {i : Nat} {x : Sp × Hd} {rs : List Rw} {r : Rw} (h : L[i]? = some x) (hm : rs.map Rw.v = st q L i) (hr : rs[i]? = some r) (hx : x.2.on = true) : (rs.set i (r.setY (q x.2.r x.2.cs).1)).map Rw.v = st q L (i + 1) := by
 have hv := st_get h hm hr; have hl := (List.getElem?_eq_some_iff.1 h).1; rw [List.map_set, hm, st_at h, st_next h, prc_on hx, List.set_append_right _ _ (by rw [List.length_map, List.length_take]; omega), List.length_map, List.length_take, Nat.min_eq_left (by omega), Nat.sub_self]; show _ ++ ((r.setY (q x.2.r x.2.cs).1).v :: _) = _
 unfold Rw.setY; rw [hv]
theorem bad_drop {q : Ri → List Co → Int × Int} {L : List (Sp × Hd)} {i : Nat} {x : Sp × Hd} (h : L[i]? = some x) : bad q (L.drop i) = bad q (x :: L.drop (i + 1)) := by rw [drop_get h]
theorem pr_of {rs : List Rw} (h : ∀ r ∈ rs, r.v.y = 0) : rs.map Rw.v = (rs.map pr).map fun x => ⟨x.1, x.2, 0⟩ := by
 rw [List.map_map]; refine List.map_congr_left fun r hr => ?_
 have := h r hr; obtain ⟨⟨s, h, y⟩, A, n, c⟩ := r; simp only at this; subst this; rfl
def PrcTo (w : World) (base : Nat) (A : Option Addr) (n c : Nat) (q : Ri → List Co → Int × Int) (L : List (Sp × Hd)) (e : Ending) (w' : World) : Prop := ∃ A' n' c' rs', e = .returned (.tuple #[.slice A' n' c', .int .i64 (bad q L)]) ∧ OwnQ w' base A' n' c' rs' ∧ n' ≤ n ∧ rs'.map Rw.v = (if bad q L = 0 then L.map (prc q) else []) ∧ w.grownBy w' (Value.slice A n c).ownBlock
structure PI (w : World) (v : Qo.Rw) (base : Nat) (A : Option Addr) (n c : Nat) (q : Ri → List Co → Int × Int) (L : List (Sp × Hd)) (W : World) (i : Nat) (rs : List Rw) : Prop where
 x : Bx W w.heap.size 70 (Qo.vc v)
 g : w.grownBy W (Value.slice A n c).ownBlock
 o : OwnQ W base A n c rs
 m : rs.map Rw.v = st q L i
 d : bad q L = bad q (L.drop i)
theorem PI.next {w W W' : World} {v : Qo.Rw} {base n c i : Nat} {A : Option Addr} {q : Ri → List Co → Int × Int} {L : List (Sp × Hd)} {rs : List Rw} (H : PI w v base A n c q L W i rs) (hb : Below W.heap.size W W') : PI w v base A n c q L W' i rs := ⟨H.x.keep hb, grown_more H.g hb, H.o.below hb, H.m, H.d⟩
theorem grown_put {w W : World} {g n c : Nat} (hg : w.grownBy W (Value.slice (some ⟨g, 0, none⟩) n c).ownBlock) (o : Nat) (u : Value) : w.grownBy (W.setCell ⟨g, o, none⟩ u) (Value.slice (some ⟨g, 0, none⟩) n c).ownBlock :=
 ⟨hg.os, hg.tape, hg.output, by rw [World.size_setCell]; exact hg.size, fun k hk hne => (Below.heap_setCell W _ u k (fun e => hne (by rw [e]; rfl))).trans (hg.block k hk hne)⟩
theorem grown_low {w W : World} {base n c : Nat} {A : Option Addr} {rs : List Rw} (hg : w.grownBy W (Value.slice A n c).ownBlock) (hl : ∀ b, (Value.slice A n c).ownBlock = some b → base ≤ b) (hb : base ≤ w.heap.size) : Below base w W := (Below.refl _ _).grown hg hb fun j hj => hl j hj
set_option maxRecDepth 100000 in
set_option maxHeartbeats 4000000 in
theorem priced_ (v : Qo.Rw) (A : Option Addr) (n c : Nat) (rs : List Rw) (base : Nat) (w : World) (L : OwnL w base A n c rs) (M : Qo.Mean w (· < base) v) (S : Qo.Lo v) (hb : base ≤ w.heap.size) (hn : n ≤ 3000) : Calls Tryz.prog 48 #[Qo.vg v, .slice A n c] w (PrcTo w base A n c (fun x cs => Qm.yr (Qm.qd v.v x) 0 cs) (rs.map pr)) := by
 obtain ⟨W, hW⟩ : ∃ W, w.alloc (.cells (Qo.vc v) 70) = W := ⟨_, rfl⟩; obtain ⟨q, hq⟩ : ∃ q : Ri → List Co → Int × Int, (fun x cs => Qm.yr (Qm.qd v.v x) 0 cs) = q := ⟨_, rfl⟩; rw [hq]; have HQ := Lib.hid (show ∀ x cs, Qm.yr (Qm.qd v.v x) 0 cs = q x cs from fun x cs => by rw [← hq]); obtain ⟨K, hK⟩ : ∃ K, rs.map pr = K := ⟨_, rfl⟩; rw [hK]; have hlr := L.o.len; have HKL := Lib.hid (show K.length = n by rw [← hK, List.length_map]; exact hlr)
 have H0 := Lib.hid (show PI w v base A n c q K W 0 rs by
  rw [← hW]; have h1 := alloc_ w (.cells (Qo.vc v) 70); exact ⟨Bx.new _ _ _, grown_below h1 (World.grownBy.refl _ _), L.q.below h1, by rw [st_zero, ← hK]; exact pr_of L.z, by rw [List.drop_zero]⟩)
 have HLO := Lib.hid (OwnL.lo L); have HMV := Lib.hid M; have HSV := Lib.hid S; have HW := Lib.hid hW; have HFM := Lib.hid (show 0 < n → ∃ g, A = some ⟨g, 0, none⟩ ∧ base ≤ g ∧ g < w.heap.size from L.o.form); clear hW hq hK L M S hlr; go_enter Tryz.func48, Tryz.ntmps48
 go_upto_region 1 with fail
 rw [HW.out]; go_wp2
 go_loopw [12] (fun vi w' => ∃ (i : Nat) (W : World) (rs : List Rw), i ≤ n ∧ vi = .int .i64 (i : Int) ∧ W = w' ∧ Hid (PI w v base A n c q K W i rs)) (fun vi _ => n - (intOf vi).toNat)
 case atStart => exact ⟨0, _, rs, Nat.zero_le _, rfl, rfl, H0⟩
 case round =>
  obtain ⟨i, W, rs, hi, rfl, rfl, H⟩ := hrel; clear H0; by_cases hlt : i < n
  ·have hlt2 : (i : Int) < (n : Int) := by omega
   obtain ⟨g, rfl, hg1, hg2⟩ := HFM.out (by omega); have hrl := H.out.o.o.len; obtain ⟨r, hr⟩ : ∃ r, rs[i]? = some r := ⟨rs[i]'(by omega), List.getElem?_eq_getElem (by omega)⟩; have hkl := HKL.out; obtain ⟨x, hx⟩ : ∃ x, K[i]? = some x := ⟨K[i]'(by omega), List.getElem?_eq_getElem (by omega)⟩; have HV := Lib.hid (st_get hx H.out.m hr); have HX := Lib.hid hx; have HR := Lib.hid hr; have HDR := Lib.hid (bad_drop (q := q) hx); have N := H.out.o.o.raws.at hr; obtain ⟨c0, c1, c2, c3, c4, c5, c6, c7, c8⟩ := N; simp only at c1 c2 c3 c4 c5 c6 c7 c8; obtain ⟨W2, hW2⟩ : ∃ W2, W.alloc (.cells (vc r) 60) = W2 := ⟨_, rfl⟩; have hb2 : Below W.heap.size W W2 := hW2 ▸ alloc_ _ _; have H2 := Lib.hid (H.out.next hb2); have HB2 := Lib.hid (show Bx W2 W.heap.size 60 (vc r) from hW2 ▸ Bx.new W 60 (vc r)); have HW2 := Lib.hid hW2; have HSZ := Lib.hid (show w.heap.size < W.heap.size from H.out.x.lt); clear hr hx hrl hkl hW2 hb2
   go_upto_region 4 with fail
   rw [HW2.out]; clear c0 c1 c2 c3 c4 c5 c6 c7 c8 HW2 H; have x0 := HB2.out.c 0; have x1 := HB2.out.c 1; have x2 := HB2.out.c 2; have x3 := HB2.out.c 3; have x4 := HB2.out.c 4; have x5 := HB2.out.c 5; have x6 := HB2.out.c 6; have x7 := HB2.out.c 7; have x8 := HB2.out.c 8; simp at x0 x1 x2 x3 x4 x5 x6 x7 x8; have hron : r.v.h.on = x.2.on := by rw [HV.out]
   cases hon : x.2.on
   ·have HN := Lib.hid (show PI w v base (some ⟨g, 0, none⟩) n c q K W2 (i + 1) rs from ⟨H2.out.x, H2.out.g, H2.out.o, by rw [st_off HX.out hon]; exact H2.out.m, by rw [H2.out.d, HDR.out, bad_off hon]⟩); rw [hron, hon] at x2; clear hron hon; go_wp2; go_roundw
    case rel => exact ⟨i + 1, W2, rs, by omega, by go_num, rfl, HN⟩
    case measure => simp [intOf]; omega
   ·rw [hron, hon] at x2; have HON := Lib.hid hon; have hmv : Qo.Mean W2 (· < W2.heap.size) v := HMV.out.keep (fun a ha => (grown_low (base := base) (rs := rs) H2.out.g HLO.out hb).cell ha) (fun b h => Nat.lt_of_lt_of_le h (Nat.le_trans hb H2.out.g.size)); have C := Lib.hid (Qo.year v r.v.h.r r.A r.n r.c r.v.h.cs W2 hmv HSV.out (qcvs ((H2.out.o.k r (List.mem_of_getElem? HR.out)).keep (fun _ _ => rfl) (fun b hb => hb.1.2))) (by have := H2.out.o.m r (List.mem_of_getElem? HR.out); unfold maxLen; omega)); rw [HQ.out] at C; have HRX := Lib.hid (show q r.v.h.r r.v.h.cs = q x.2.r x.2.cs by rw [HV.out]); rw [HRX.out] at C; obtain ⟨a, hqa⟩ : ∃ a, q x.2.r x.2.cs = a := ⟨_, rfl⟩; rw [hqa] at C; obtain ⟨cost, cd⟩ := a; have HQA := Lib.hid hqa; have v0 := H2.out.x.c 0; have v1 := H2.out.x.c 1; have v2 := H2.out.x.c 2; have v3 := H2.out.x.c 3; have v4 := H2.out.x.c 4; have v5 := H2.out.x.c 5; have v6 := H2.out.x.c 6; have v7 := H2.out.x.c 7; have v8 := H2.out.x.c 8; simp at v0 v1 v2 v3 v4 v5 v6 v7 v8; clear hmv hqa hron hon
    go_wp2_with fail
    refine C.out.mono ?_; rintro e w3 ⟨rfl, hb3⟩; have H3 := Lib.hid (H2.out.next hb3); clear hb3 C x0 x1 x2 x3 x4 x5 x6 x7 x8 v0 v1 v2 v3 v4 v5 v6 v7 v8 H2; by_cases hcd : cd = 0
    ·subst hcd; have N := H3.out.o.o.raws.at HR.out; have c8 := N.c8; simp only at c8; have fg := H3.out.o.o.frozen; clear N
     have HN := Lib.hid (show PI w v base (some ⟨g, 0, none⟩) n c q K (w3.setCell ⟨g, i * 9 + 8, none⟩ (.int .i64 cost)) (i + 1) (rs.set i (r.setY cost)) from
      ⟨H3.out.x.far (by simp only; omega) _, grown_put H3.out.g _ _, H3.out.o.set HR.out cost, by have := st_set HX.out H3.out.m HR.out HON.out; rwa [HQA.out] at this, by rw [H3.out.d, HDR.out, bad_ok (by rw [HQA.out])]⟩)
     go_wp2; go_roundw
     case rel => exact ⟨i + 1, _, _, by omega, by go_num, rfl, HN⟩
     case measure => simp [intOf]; omega
    ·have t1 : decide (cd = 0) = false := decide_eq_false hcd; have HBD := Lib.hid (show bad q K = cd by rw [H3.out.d, HDR.out, bad_is HON.out (by rw [HQA.out]; exact hcd), HQA.out]); have HNE := Lib.hid hcd; go_wp2; go_ret2; exact ⟨none, 0, 0, [], by rw [HBD.out]; rfl, OwnQ.nil, by omega, by rw [HBD.out, if_neg HNE.out]; rfl, H3.out.g⟩
  ·obtain rfl : i = n := by omega
   have HBD := Lib.hid (show bad q K = 0 by rw [H.out.d, List.drop_of_length_le (Nat.le_of_eq HKL.out)]; rfl); go_wp2; go_ret2; exact ⟨A, i, c, rs, by rw [HBD.out]; rfl, H.out.o, Nat.le_refl _, by rw [if_pos HBD.out, H.out.m, st_end (Nat.le_of_eq HKL.out)], H.out.g⟩
end Slc
end Go.Proofs.YtplenoaajokpjaaGreat

namespace Go.Proofs.YtplenoaajokpjaaGreat
open Go.RowKit Ba Cv Sp Te Ag Tf Sl Tm
namespace Slc
set_option linter.unusedVariables false
def qf (v : Ve) (x : Ri) (cs : List Co) : Int × Int := Qm.yr (Qm.qd v x) 0 cs
inductive OfIs (h : Hi) (vs : List Ve) (code : Int) (ss : List Sc) : Prop where
 | wrong (h0 : hrt h = false) (h1 : code = 1) (h2 : ss = [])
 | none (h0 : hrt h = true) (h1 : Trf.cod h.s.1 vs ≠ 0) (h2 : code = Trf.cod h.s.1 vs) (h3 : ss = [])
 | some (h0 : hrt h = true) (h1 : Trf.cod h.s.1 vs = 0) (o : List Int) (L : List (Sp × Hd)) (h2 : Ag.Ord h.hs o) (h3 : Cutd (hld (ini h) (ordl h.hs o)) h.s.1 h.s.2 L) (h4 : code = bad (qf (Trf.tol h.s.1 vs)) L) (h5 : ss = if bad (qf (Trf.tol h.s.1 vs)) L = 0 then L.map (prc (qf (Trf.tol h.s.1 vs))) else [])
theorem OfIs.one {h : Hi} {vs : List Ve} {c1 c2 : Int} {s1 s2 : List Sc} (H : OfIs h vs c1 s1) (K : OfIs h vs c2 s2) : c1 = c2 ∧ s1 = s2 := by
 cases H with
 | wrong h0 h1 h2 =>
  cases K with
  | wrong k0 k1 k2 => exact ⟨h1.trans k1.symm, h2.trans k2.symm⟩
  | none k0 _ _ _ => rw [h0] at k0; cases k0
  | some k0 _ _ _ _ _ _ _ => rw [h0] at k0; cases k0
 | none h0 h1 h2 h3 =>
  cases K with
  | wrong k0 k1 k2 => rw [h0] at k0; cases k0
  | none k0 k1 k2 k3 => exact ⟨h2.trans k2.symm, h3.trans k3.symm⟩
  | some k0 k1 _ _ _ _ _ _ => exact absurd k1 h1
 | some h0 h1 o L h2 h3 h4 h5 =>
  cases K with
  | wrong k0 k1 k2 => rw [h0] at k0; cases k0
  | none k0 k1 k2 k3 => exact absurd h1 k1
  | some k0 k1 p K k2 k3 k4 k5 =>
   have e : o = p := St.Good.one h2 k2; subst e; have e : L = K := h3.unique k3; subst e; exact ⟨h4.trans k4.symm, h5.trans k5.symm⟩
def OfTo (w : World) (h : Hi) (vs : List Ve) (e : Ending) (w' : World) : Prop := ∃ A n c rs code, e = .returned (.tuple #[.slice A n c, .int .i64 code]) ∧ Sls w' A n rs ∧ n ≤ 1100 ∧ n ≤ c ∧ OfIs h vs code (rs.map Rw.v) ∧ Below w.heap.size w w'
theorem vmean {w : World} {ok : Nat → Prop} {r : Trf.Rw} (M : Trf.Mean w ok r) : Qo.Mean w ok ⟨r.v, r.A, r.la, r.ca, r.Z, r.lz, r.cz, r.P, r.lp, r.cp⟩ := ⟨M.a, M.z, M.p⟩
theorem vlow {r : Trf.Rw} (S : Trf.Sm r) : Qo.Lo ⟨r.v, r.A, r.la, r.ca, r.Z, r.lz, r.cz, r.P, r.lp, r.cp⟩ := ⟨Nat.le_trans S.a (by omega), Nat.le_trans S.z (by omega), Nat.le_trans S.p (by omega)⟩
abbrev qv (r : Trf.Rw) : Qo.Rw := ⟨r.v, r.A, r.la, r.ca, r.Z, r.lz, r.cz, r.P, r.lp, r.cp⟩
structure O2 (w W : World) (h : Hr) (T : Option Addr) (n c : Nat) : Prop where
 b : Below w.heap.size w W
 x : Bx W w.heap.size 35 (hc h)
 y : Bx W (w.heap.size + 1) 38 #[.slice T n c]
theorem O2.next {w W W' : World} {h : Hr} {T : Option Addr} {n c : Nat} (H : O2 w W h T n c) (hb : Below W.heap.size W W') : O2 w W' h T n c := ⟨H.b.trans (hb.mono H.b.size), H.x.keep hb, H.y.keep hb⟩
theorem O2.start (w : World) (h : Hr) (T : Option Addr) (n c : Nat) : O2 w ((w.alloc (.cells (hc h) 35)).alloc (.cells #[.slice T n c] 38)) h T n c := by
 refine ⟨(alloc_ _ _).alloc (by simp) _, (Bx.new _ _ _).alloc _, ?_⟩; have := Bx.new (w.alloc (.cells (hc h) 35)) 38 #[.slice T n c]; rw [World.size_alloc] at this; exact this
structure R6 (W : World) (P6 : Nat) (h : Hr) (r : Trf.Rw) (L : Nat → Bool) (w' : World) (v23 v24 v25 v26 v27 v28 v4 v5 : Value) : Prop where
 b : Below W.heap.size W w'
 f0 : L 0 = true → v23 = Qo.vg (qv r)
 f1 : L 1 = true → v24 = hg h
 f2 : L 2 = true → ∃ A n c rs o, v25 = .slice A n c ∧ Ag.Ord h.v.hs o ∧ Cutd (hld (ini h.v) (ordl h.v.hs o)) h.s.1 h.s.2 (rs.map pr) ∧ n ≤ 1100 ∧ (L 3 = false → OwnL w' W.heap.size A n c rs)
 f3 : L 3 = true → ∃ A n c rs code o K, v26 = .tuple #[.slice A n c, .int .i64 code] ∧ OwnQ w' W.heap.size A n c rs ∧ n ≤ 1100 ∧ Ag.Ord h.v.hs o ∧ Cutd (hld (ini h.v) (ordl h.v.hs o)) h.s.1 h.s.2 K ∧ code = bad (qf r.v) K ∧ rs.map Rw.v = if bad (qf r.v) K = 0 then K.map (prc (qf r.v)) else []
 f4 : L 4 = true → ∃ a b, v26 = .tuple #[a, b] ∧ v27 = a
 f5 : L 5 = true → ∃ a b, v26 = .tuple #[a, b] ∧ v28 = b
 f6 : L 6 = true → v4 = v27
 f7 : L 7 = true → v5 = v28
 d4_3 : L 4 = true → L 3 = true
 d5_3 : L 5 = true → L 3 = true
 d6_4 : L 6 = true → L 4 = true
 d7_5 : L 7 = true → L 5 = true
theorem R6.up {W : World} {P6 : Nat} {h : Hr} {r : Trf.Rw} {L : Nat → Bool} {w' w2 : World} {v23 v24 v25 v26 v27 v28 v4 v5 : Value} (H : R6 W P6 h r L w' v23 v24 v25 v26 v27 v28 v4 v5) (hb : Below w'.heap.size w' w2) : R6 W P6 h r L w2 v23 v24 v25 v26 v27 v28 v4 v5 :=
 ⟨H.b.trans (hb.mono H.b.size), H.f0, H.f1, (fun l => by obtain ⟨A, n, c, rs, o, e, h1, h2, h3, h4⟩ := H.f2 l; exact ⟨A, n, c, rs, o, e, h1, h2, h3, fun l3 => (h4 l3).below hb⟩), (fun l => by obtain ⟨A, n, c, rs, code, o, K, e, h1, h2⟩ := H.f3 l; exact ⟨A, n, c, rs, code, o, K, e, h1.below hb, h2⟩), H.f4, H.f5, H.f6, H.f7, H.d4_3, H.d5_3, H.d6_4, H.d7_5⟩
theorem R6.s0 {W : World} {P6 : Nat} {h : Hr} {r : Trf.Rw} {L : Nat → Bool} {w' : World} {v23 v24 v25 v26 v27 v28 v4 v5 : Value} (H : R6 W P6 h r L w' v23 v24 v25 v26 v27 v28 v4 v5) {z : Value} (k : z = Qo.vg (qv r)) : R6 W P6 h r (fun j => j == 0 || L j) w' z v24 v25 v26 v27 v28 v4 v5 := ⟨H.b, fun _ => k, H.f1, H.f2, H.f3, H.f4, H.f5, H.f6, H.f7, H.d4_3, H.d5_3, H.d6_4, H.d7_5⟩
theorem R6.s1 {W : World} {P6 : Nat} {h : Hr} {r : Trf.Rw} {L : Nat → Bool} {w' : World} {v23 v24 v25 v26 v27 v28 v4 v5 : Value} (H : R6 W P6 h r L w' v23 v24 v25 v26 v27 v28 v4 v5) {z : Value} (k : z = hg h) : R6 W P6 h r (fun j => j == 1 || L j) w' v23 z v25 v26 v27 v28 v4 v5 := ⟨H.b, H.f0, fun _ => k, H.f2, H.f3, H.f4, H.f5, H.f6, H.f7, H.d4_3, H.d5_3, H.d6_4, H.d7_5⟩
theorem R6.s2 {W : World} {P6 : Nat} {h : Hr} {r : Trf.Rw} {L : Nat → Bool} {w' : World} {v23 v24 v25 v26 v27 v28 v4 v5 : Value} (H : R6 W P6 h r L w' v23 v24 v25 v26 v27 v28 v4 v5) {z : Value} (k : ∃ A n c rs o, z = .slice A n c ∧ Ag.Ord h.v.hs o ∧ Cutd (hld (ini h.v) (ordl h.v.hs o)) h.s.1 h.s.2 (rs.map pr) ∧ n ≤ 1100 ∧ (L 3 = false → OwnL w' W.heap.size A n c rs)) : R6 W P6 h r (fun j => j == 2 || L j) w' v23 v24 z v26 v27 v28 v4 v5 := ⟨H.b, H.f0, H.f1, fun _ => k, H.f3, H.f4, H.f5, H.f6, H.f7, H.d4_3, H.d5_3, H.d6_4, H.d7_5⟩
theorem R6.s3 {W : World} {P6 : Nat} {h : Hr} {r : Trf.Rw} {L : Nat → Bool} {w' w2 : World} {v23 v24 v25 v26 v27 v28 v4 v5 : Value} (H : R6 W P6 h r L w' v23 v24 v25 v26 v27 v28 v4 v5) (hf : L 3 = false) (hb : Below W.heap.size w' w2) {z : Value} (k : ∃ A n c rs code o K, z = .tuple #[.slice A n c, .int .i64 code] ∧ OwnQ w2 W.heap.size A n c rs ∧ n ≤ 1100 ∧ Ag.Ord h.v.hs o ∧ Cutd (hld (ini h.v) (ordl h.v.hs o)) h.s.1 h.s.2 K ∧ code = bad (qf r.v) K ∧ rs.map Rw.v = if bad (qf r.v) K = 0 then K.map (prc (qf r.v)) else []) : R6 W P6 h r (fun j => j == 3 || L j) w2 v23 v24 v25 z v27 v28 v4 v5 :=
 ⟨H.b.trans hb, H.f0, H.f1, (fun l => by obtain ⟨A, n, c, rs, o, e, h1, h2, h3, h4⟩ := H.f2 l; exact ⟨A, n, c, rs, o, e, h1, h2, h3, fun l3 => by cases l3⟩), fun _ => k, (fun l => absurd (H.d4_3 l) (by rw [hf]; decide)), (fun l => absurd (H.d5_3 l) (by rw [hf]; decide)), H.f6, H.f7, fun _ => rfl, fun _ => rfl, H.d6_4, H.d7_5⟩
theorem R6.s4 {W : World} {P6 : Nat} {h : Hr} {r : Trf.Rw} {L : Nat → Bool} {w' : World} {v23 v24 v25 v26 v27 v28 v4 v5 : Value} (H : R6 W P6 h r L w' v23 v24 v25 v26 v27 v28 v4 v5) {z : Value} (k : ∃ a b, v26 = .tuple #[a, b] ∧ z = a) (hf : L 4 = false) (d4_34 : L 3 = true) : R6 W P6 h r (fun j => j == 4 || L j) w' v23 v24 v25 v26 z v28 v4 v5 := ⟨H.b, H.f0, H.f1, H.f2, H.f3, fun _ => k, H.f5, fun l => absurd (H.d6_4 l) (by rw [hf]; decide), H.f7, fun _ => d4_34, H.d5_3, fun _ => rfl, H.d7_5⟩
theorem R6.s5 {W : World} {P6 : Nat} {h : Hr} {r : Trf.Rw} {L : Nat → Bool} {w' : World} {v23 v24 v25 v26 v27 v28 v4 v5 : Value} (H : R6 W P6 h r L w' v23 v24 v25 v26 v27 v28 v4 v5) {z : Value} (k : ∃ a b, v26 = .tuple #[a, b] ∧ z = b) (hf : L 5 = false) (d5_35 : L 3 = true) : R6 W P6 h r (fun j => j == 5 || L j) w' v23 v24 v25 v26 v27 z v4 v5 := ⟨H.b, H.f0, H.f1, H.f2, H.f3, H.f4, fun _ => k, H.f6, fun l => absurd (H.d7_5 l) (by rw [hf]; decide), H.d4_3, fun _ => d5_35, H.d6_4, fun _ => rfl⟩
theorem R6.s6 {W : World} {P6 : Nat} {h : Hr} {r : Trf.Rw} {L : Nat → Bool} {w' : World} {v23 v24 v25 v26 v27 v28 v4 v5 : Value} (H : R6 W P6 h r L w' v23 v24 v25 v26 v27 v28 v4 v5) {z : Value} (k : z = v27) (d6_46 : L 4 = true) : R6 W P6 h r (fun j => j == 6 || L j) w' v23 v24 v25 v26 v27 v28 z v5 := ⟨H.b, H.f0, H.f1, H.f2, H.f3, H.f4, H.f5, fun _ => k, H.f7, H.d4_3, H.d5_3, fun _ => d6_46, H.d7_5⟩
theorem R6.s7 {W : World} {P6 : Nat} {h : Hr} {r : Trf.Rw} {L : Nat → Bool} {w' : World} {v23 v24 v25 v26 v27 v28 v4 v5 : Value} (H : R6 W P6 h r L w' v23 v24 v25 v26 v27 v28 v4 v5) {z : Value} (k : z = v28) (d7_57 : L 5 = true) : R6 W P6 h r (fun j => j == 7 || L j) w' v23 v24 v25 v26 v27 v28 v4 z := ⟨H.b, H.f0, H.f1, H.f2, H.f3, H.f4, H.f5, H.f6, fun _ => k, H.d4_3, H.d5_3, H.d6_4, fun _ => d7_57⟩
set_option maxRecDepth 100000 in
set_option maxHeartbeats 4000000 in
theorem of_ (h : Hr) (T : Option Addr) (nt ct : Nat) (vs : List Trf.Rw) (w : World) (M : HM w (· < w.heap.size) h) (S : HS h) (hm : h.m ≤ 100) (V : Trf.Vers w T nt vs) (hnt : nt ≤ 1000) : Calls Tryz.prog 34 #[hg h, Trf.tg T nt ct] w (OfTo w h.v (vs.map Trf.Rw.v)) := by
 obtain ⟨W, hW⟩ : ∃ W, (w.alloc (.cells (hc h) 35)).alloc (.cells #[.slice T nt ct] 38) = W := ⟨_, rfl⟩; have H0 := Lib.hid (show O2 w W h T nt ct by rw [← hW]; exact O2.start w h T nt ct); have HW := Lib.hid hW; have HMM := Lib.hid M; have HSS := Lib.hid S; have HV := Lib.hid V; have CR := Lib.hid (rightS h W (M.below H0.out.b) S); have x0 := H0.out.x.c 0; have x1 := H0.out.x.c 1; have x2 := H0.out.x.c 2; have x3 := H0.out.x.c 3; have x4 := H0.out.x.c 4; have x5 := H0.out.x.c 5; have x6 := H0.out.x.c 6; have x7 := H0.out.x.c 7; have x8 := H0.out.x.c 8; have x9 := H0.out.x.c 9; simp at x0 x1 x2 x3 x4 x5 x6 x7 x8 x9; clear hW M S V; obtain ⟨u, hu⟩ : ∃ u, hrt h.v = u := ⟨_, rfl⟩; have HU := Lib.hid hu; rw [hu] at CR; clear hu; go_enter Tryz.func34, Tryz.ntmps34
 go_upto_region 1 with fail
 rw [HW.out]; clear HW
 go_wp2_with fail
 refine CR.out.mono ?_; rintro e w1 ⟨rfl, hb1⟩; have H1 := Lib.hid (H0.out.next hb1); clear hb1 CR H0 x0 x1 x2 x3 x4 x5 x6 x7 x8 x9; cases u
 ·go_wp2; go_ret2; exact ⟨none, 0, 0, [], 1, rfl, Sls.nil, Nat.zero_le _, Nat.le_refl _, .wrong HU.out rfl rfl, H1.out.b⟩
 ·have CA := Lib.hid (Trf.at_ T nt ct vs h.s.1 w1 (HV.out.below H1.out.b) hnt); have y0 := H1.out.y.c 0; simp at y0; have x0 := H1.out.x.c 0; have x1 := H1.out.x.c 1; have x2 := H1.out.x.c 2; have x3 := H1.out.x.c 3; have x4 := H1.out.x.c 4; have x5 := H1.out.x.c 5; have x6 := H1.out.x.c 6; have x7 := H1.out.x.c 7; have x8 := H1.out.x.c 8; have x9 := H1.out.x.c 9; simp at x0 x1 x2 x3 x4 x5 x6 x7 x8 x9
  go_wp2_with fail
  refine CA.out.mono ?_; rintro e w2 ⟨r, rfl, hrv, hM, hS, hb2⟩; have H2 := Lib.hid (H1.out.next hb2); have HR9 := Lib.hid hrv; have HM2 := Lib.hid hM; have HS2 := Lib.hid hS; clear hb2 CA y0 x0 x1 x2 x3 x4 x5 x6 x7 x8 x9 hrv hM hS; obtain ⟨cd, hcd⟩ : ∃ cd, Trf.cod h.s.1 (vs.map Trf.Rw.v) = cd := ⟨_, rfl⟩; have HCD := Lib.hid hcd; rw [hcd]; clear hcd; by_cases h0 : cd = 0
  ·subst h0; obtain ⟨W6, hW6⟩ : ∃ W6, w2.alloc (.cells (Trf.vc r) 70) = W6 := ⟨_, rfl⟩; have hb6 : Below w2.heap.size w2 W6 := hW6 ▸ alloc_ _ _; have H6 := Lib.hid (H2.out.next hb6); have HX6 := Lib.hid (show Bx W6 w2.heap.size 70 (Trf.vc r) from hW6 ▸ Bx.new w2 70 (Trf.vc r)); have HM6 := Lib.hid (vmean (HM2.out.below hb6)); have HW6 := Lib.hid hW6; clear hW6 hb6
   go_upto_region 6 with fail
   rw [HW6.out]; clear H2 HM2 HW6; refine wp_region_steps (fun L_ a_ w_ => ∃ (v23 v24 v25 v26 v27 v28 v4 v5 : Value), a_ = { tmps := #[hg h, Trf.tg T nt ct, .pointer (some ⟨w.heap.size, 0, none⟩), .pointer (some ⟨w.heap.size + 1, 0, none⟩), v4, v5, .pointer (some ⟨w2.heap.size, 0, none⟩), .int .i64 0, hg h, .bool true, .bool false, .tuple #[Trf.vg r, .int .i64 0], .agg #[.slice T nt ct], .pointer (some ⟨w.heap.size, 2, none⟩), .pointer (some ⟨w.heap.size, 2, none⟩), .pointer (some ⟨w.heap.size, 2, none⟩), .int .i64 h.s.1, .tuple #[Trf.vg r, .int .i64 0], Trf.vg r, .int .i64 0, .int .i64 0, .bool false, undef, v23, v24, v25, v26, v27, v28], defers := [] } ∧ Hid (R6 W6 w2.heap.size h r L_ w_ v23 v24 v25 v26 v27 v28 v4 v5)) (by kernel_rfl) (by kernel_rfl) ?_ (AllSteps.cons ?_ (AllSteps.cons ?_ (AllSteps.cons ?_ (AllSteps.cons ?_ (AllSteps.cons ?_ (AllSteps.cons ?_ (AllSteps.cons ?_ (AllSteps.cons ?_ AllSteps.nil)))))))) ?_
   ·exact ⟨_, _, _, _, _, _, _, _, rfl, Lib.hid ⟨⟨rfl, rfl, rfl, Nat.le_refl _, fun _ _ => rfl⟩, (fun h => by cases h), (fun h => by cases h), (fun h => by cases h), (fun h => by cases h), (fun h => by cases h), (fun h => by cases h), (fun h => by cases h), (fun h => by cases h), (fun h => by cases h), (fun h => by cases h), (fun h => by cases h), (fun h => by cases h)⟩⟩
   ·rintro L_ a_ w_ hL hd ⟨v23, v24, v25, v26, v27, v28, v4, v5, rfl, HR⟩ K hK; have hx := HX6.out.keep HR.out.b; have x0 := hx.c 0; have x1 := hx.c 1; have x2 := hx.c 2; have x3 := hx.c 3; have x4 := hx.c 4; have x5 := hx.c 5; have x6 := hx.c 6; have x7 := hx.c 7; have x8 := hx.c 8; simp at x0 x1 x2 x3 x4 x5 x6 x7 x8; clear hd hx; go_simp; exact hK.out _ _ ⟨_, _, _, _, _, _, _, _, rfl, Lib.hid (HR.out.s0 rfl)⟩
   ·rintro L_ a_ w_ hL hd ⟨v23, v24, v25, v26, v27, v28, v4, v5, rfl, HR⟩ K hK; have H7 := H6.out.next HR.out.b; have x0 := H7.x.c 0; have x1 := H7.x.c 1; have x2 := H7.x.c 2; have x3 := H7.x.c 3; have x4 := H7.x.c 4; have x5 := H7.x.c 5; have x6 := H7.x.c 6; have x7 := H7.x.c 7; have x8 := H7.x.c 8; have x9 := H7.x.c 9; simp at x0 x1 x2 x3 x4 x5 x6 x7 x8 x9; clear hd H7; go_simp; exact hK.out _ _ ⟨_, _, _, _, _, _, _, _, rfl, Lib.hid (HR.out.s1 rfl)⟩
   ·rintro L_ a_ w_ hL hd ⟨v23, v24, v25, v26, v27, v28, v4, v5, rfl, HR⟩ K hK; have e1 := HR.out.f1 (hd ⟨1, .data⟩ (by simp) rfl); subst e1; have C := Lib.hid (cut_ h w_ (HMM.out.below (H6.out.next HR.out.b).b) HSS.out hm HU.out); clear hd; go_simp; refine C.out.mono ?_; rintro e w5 ⟨A5, n5, c5, rs5, o5, rfl, hL5, hO5, hC5, hn5, hb5⟩; have HR2 := Lib.hid (HR.out.up hb5); have F := Lib.hid (And.intro (hL5.low HR.out.b.size) (And.intro hO5 hC5)); clear hb5 hL5 hO5 hC5 C
    try go_simp
    exact hK.out _ _ ⟨_, _, _, _, _, _, _, _, rfl, Lib.hid (HR2.out.s2 ⟨A5, n5, c5, rs5, o5, rfl, F.out.2.1, F.out.2.2, hn5, fun _ => F.out.1⟩)⟩
   ·rintro L_ a_ w_ hL hd ⟨v23, v24, v25, v26, v27, v28, v4, v5, rfl, HR⟩ K hK; have e0 := HR.out.f0 (hd ⟨0, .data⟩ (by simp) rfl); subst e0; obtain ⟨A5, n5, c5, rs5, o5, e2, hO5, hC5, hn5, hL5⟩ := HR.out.f2 (hd ⟨2, .data⟩ (by simp) rfl); subst e2; have hL6 := hL5 hL; have C := Lib.hid (priced_ (qv r) A5 n5 c5 rs5 W6.heap.size w_ hL6 (HM6.out.keep (fun a ha => HR.out.b.cell ha) (fun _ h => h)) (vlow HS2.out) HR.out.b.size (by omega)); have F := Lib.hid (And.intro hO5 (And.intro hC5 (OwnL.lo hL6))); clear hd hO5 hC5 hL5 hL6; go_simp; refine C.out.mono ?_; rintro e w5 ⟨A6, n6, c6, rs6, rfl, hQ6, hn6, hm6, hg6⟩; have HR2 := Lib.hid (HR.out.s3 hL (grown_low (rs := rs5) hg6 F.out.2.2 HR.out.b.size) ⟨A6, n6, c6, rs6, _, o5, _, rfl, hQ6, by omega, F.out.1, F.out.2.1, rfl, hm6⟩); clear hQ6 hm6 hg6 C F
    try go_simp
    exact hK.out _ _ ⟨_, _, _, _, _, _, _, _, rfl, Lib.hid (HR2.out)⟩
   ·rintro L_ a_ w_ hL hd ⟨v23, v24, v25, v26, v27, v28, v4, v5, rfl, HR⟩ K hK; have h3 := hd ⟨3, .data⟩ (by simp) rfl; obtain ⟨A6, n6, c6, rs6, cd6, o6, K6, e3, hrest⟩ := HR.out.f3 h3; subst e3; clear hd hrest; go_simp; exact hK.out _ _ ⟨_, _, _, _, _, _, _, _, rfl, Lib.hid (HR.out.s4 ⟨_, _, rfl, rfl⟩ hL h3)⟩
   ·rintro L_ a_ w_ hL hd ⟨v23, v24, v25, v26, v27, v28, v4, v5, rfl, HR⟩ K hK; have h3 := hd ⟨3, .data⟩ (by simp) rfl; obtain ⟨A6, n6, c6, rs6, cd6, o6, K6, e3, hrest⟩ := HR.out.f3 h3; subst e3; clear hd hrest; go_simp; exact hK.out _ _ ⟨_, _, _, _, _, _, _, _, rfl, Lib.hid (HR.out.s5 ⟨_, _, rfl, rfl⟩ hL h3)⟩
   ·rintro L_ a_ w_ hL hd ⟨v23, v24, v25, v26, v27, v28, v4, v5, rfl, HR⟩ K hK; have h4 := hd ⟨4, .data⟩ (by simp) rfl; clear hd; go_simp; exact hK.out _ _ ⟨_, _, _, _, _, _, _, _, rfl, Lib.hid (HR.out.s6 rfl h4)⟩
   ·rintro L_ a_ w_ hL hd ⟨v23, v24, v25, v26, v27, v28, v4, v5, rfl, HR⟩ K hK; have h5 := hd ⟨5, .data⟩ (by simp) rfl; clear hd; go_simp; exact hK.out _ _ ⟨_, _, _, _, _, _, _, _, rfl, Lib.hid (HR.out.s7 rfl h5)⟩
   ·rintro L_ a_ w_ hL ⟨v23, v24, v25, v26, v27, v28, v4, v5, rfl, HR⟩; obtain ⟨A6, n6, c6, rs6, cd6, o6, K6, e3, hQ, hn6, hO, hC, hcd6, hmap⟩ := HR.out.f3 (hL 3 (by decide)); obtain ⟨a1, b1, e4, rfl⟩ := HR.out.f4 (hL 4 (by decide)); obtain ⟨a2, b2, e5, rfl⟩ := HR.out.f5 (hL 5 (by decide)); obtain rfl := HR.out.f6 (hL 6 (by decide)); obtain rfl := HR.out.f7 (hL 7 (by decide)); subst e3; injection e4 with e4
    injection e5 with e5
    simp at e4 e5; obtain ⟨e6, _⟩ := e4; obtain ⟨_, e7⟩ := e5; subst e6 e7; have HB := Lib.hid HR.out.b
    have F := Lib.hid (show OfTo w h.v (vs.map Trf.Rw.v) (.returned (.tuple #[.slice A6 n6 c6, .int .i64 cd6])) w_ from
     ⟨A6, n6, c6, rs6, cd6, rfl, hQ.sls, hn6, hQ.o.fits.1, .some HU.out HCD.out o6 K6 hO hC (by rw [show h.v.s = h.s from rfl, ← HR9.out]; exact hcd6) (by rw [show h.v.s = h.s from rfl, ← HR9.out]; exact hmap), H6.out.b.trans (HB.out.mono H6.out.b.size)⟩)
    clear HR hL hQ hO hC hcd6 hmap; dsimp only [Exit.then]; go_step; go_wp2; go_ret2; exact F.out
  ·have t1 : decide (cd = 0) = false := decide_eq_false h0; have HNE := Lib.hid h0; go_wp2; go_ret2; exact ⟨none, 0, 0, [], cd, rfl, Sls.nil, Nat.zero_le _, Nat.le_refl _, .none HU.out (by rw [show h.v.s = h.s from rfl, HCD.out]; exact HNE.out) HCD.out.symm rfl, H2.out.b.alloc H2.out.b.size _⟩
end Slc
end Go.Proofs.YtplenoaajokpjaaGreat
