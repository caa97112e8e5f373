/-
  The document's Of. Conditions: those of each theorem.
-/
import Derived.Test.YtkdhcloaeifbdaaGreatMOb
import Derived.Test.YtkdhcloaeifbdaaGreatKRRight11
import Derived.Test.YtkdhcloaeifbdaaGreatKROrder
import Derived.Test.YtkdhcloaeifbdaaGreatKTRAt
import Derived.Test.YtkdhcloaeifbdaaGreatKQRYear
namespace Go.Proofs.YtkdhcloaeifbdaaGreat
open Go.RowKit Ba Cv Sp Te Ag Sl Tm
namespace Slc
set_option linter.unusedVariables false

set_option maxRecDepth 100000 in
set_option maxHeartbeats 4000000 in
theorem rrightS (h : Hr) (w : World) (M : HM w (· < w.heap.size) h) (S : HS h) : Calls Tryz.prog 28 #[hg h] w (Yes w (hrt h.v)) := by
  obtain ⟨W, hW⟩ : ∃ W, w.alloc (.cells (hc h) 31) = W := ⟨_, rfl⟩
  have H0 := Lib.hid (show HX w W h by rw [← hW]; exact HX.start w h)
  have HW := Lib.hid hW
  have HMM := Lib.hid M
  have HSS := Lib.hid S
  have hmm := S.m
  have hlen : h.v.hs.length = h.m := by show (h.rs.map Tm.Rw.v).length = _; rw [List.length_map]; exact M.r.1
  have CT := Lib.hid (Tm.rright_ h.s h.r h.A h.n h.c h.cs W (M.t.below H0.out.b) (hs_lens S).1)
  obtain ⟨R, hR⟩ : ∃ R, hrt h.v = R := ⟨_, rfl⟩
  rw [hR]
  have HR := Lib.hid (show (te h.s h.r h.cs && h.v.hs.all fun c => rch c && inn h.s c.dy) = R by
    rw [← hR]; unfold hrt; rw [decide_eq_true (by omega : h.v.hs.length ≤ 2000), Bool.true_and]; rfl)
  obtain ⟨Bv, hBv⟩ : ∃ Bv, h.B = Bv := ⟨_, rfl⟩
  have x0 := H0.out.x.c 0
  have x1 := H0.out.x.c 1
  have x2 := H0.out.x.c 2
  have x3 := H0.out.x.c 3
  have x4 := H0.out.x.c 4
  have x5 := H0.out.x.c 5
  have x6 := H0.out.x.c 6
  have x7 := H0.out.x.c 7
  have x8 := H0.out.x.c 8
  have x9 := H0.out.x.c 9
  simp at x0 x1 x2 x3 x4 x5 x6 x7 x8 x9
  rw [hBv] at x9
  have HBv := Lib.hid hBv
  clear hW M S hR hBv hlen
  cases ht : te h.s h.r h.cs
  · have HQ := Lib.hid (show R = false by rw [← HR.out, ht]; rfl)
    rw [ht] at CT
    clear ht
    go_enter Tryz.func28, Tryz.ntmps28
    go_wp2_with fail
    rw [HW.out]
    go_wp2_with fail
    refine CT.out.mono ?_
    rintro e w1 ⟨rfl, hb1⟩
    have H1 := Lib.hid (H0.out.next hb1)
    clear hb1 CT x0 x1 x2 x3 x4 x5 x6 x7 x8 x9
    have x9 := H1.out.x.c 9
    simp at x9
    rw [HBv.out] at x9
    go_wp2
    go_ret
    exact ⟨congrArg (fun b => Ending.returned (.bool b)) HQ.out.symm, H1.out.b⟩
  · have HR2 := Lib.hid (show ((h.v.hs.drop 0).all fun c => rch c && inn h.s c.dy) = R by rw [← HR.out, ht]; rfl)
    rw [ht] at CT
    clear ht HR
    have tm : decide (2000 < h.m) = false := decide_eq_false (by omega)
    have tm' : decide (2000 < (h.m : Int)) = false := decide_eq_false (by omega)
    go_enter Tryz.func28, Tryz.ntmps28
    go_wp2_with fail
    rw [HW.out]
    go_wp2_with fail
    refine CT.out.mono ?_
    rintro e w1 ⟨rfl, hb1⟩
    have H1 := Lib.hid (H0.out.next hb1)
    clear hb1 CT x0 x1 x2 x3 x4 x5 x6 x7 x8 x9 H0 HW
    have x9 := H1.out.x.c 9
    simp at x9
    rw [HBv.out] at x9
    go_wp2
    go_loopw [4] (fun vi w' => ∃ (i : Nat) (W : World), i ≤ h.m ∧ vi = .int .i64 (i : Int) ∧ W = w' ∧ Hid (HX w W h) ∧ Hid (((h.v.hs.drop i).all fun c => rch c && inn h.s c.dy) = R)) (fun vi _ => h.m - (intOf vi).toNat)
    case atStart => exact ⟨0, w1, Nat.zero_le _, rfl, rfl, H1, HR2⟩
    case round =>
      obtain ⟨i, W1, him, rfl, rfl, HK, HA⟩ := hrel
      clear H1 x9 HR2
      have x9 := HK.out.x.c 9
      simp at x9
      rw [HBv.out] at x9
      by_cases hlt : i < h.m
      · have hMW := HMM.out.below HK.out.b
        obtain ⟨ad, r, hB, hb, hr, N, hcv, hv⟩ := hMW.get hlt
        rw [HBv.out] at hB
        subst hB
        have hlt2 : (i : Int) < (h.m : Int) := by omega
        have HA2 := Lib.hid (all_drop (p := fun c => rch c && inn h.s c.dy) hv)
        have CC := Lib.hid (rright11 r W1 hcv ((hs_lens HSS.out).2.2 r (List.mem_of_getElem? hr)))
        have HN := Lib.hid N
        have HBB := Lib.hid hb
        obtain ⟨c0, c1, c2, c3, c4, c5, c6, c7, c8⟩ := N
        clear hr hv hcv hb hMW
        obtain ⟨q1, hq1⟩ : ∃ q1, rch r.v = q1 := ⟨_, rfl⟩
        obtain ⟨q2, hq2⟩ : ∃ q2, inn h.s r.v.dy = q2 := ⟨_, rfl⟩
        have HQ1 := Lib.hid hq1
        have HQ2 := Lib.hid hq2
        rw [hq1] at CC
        go_wp2_with fail
        refine CC.out.mono ?_
        rintro e w3 ⟨rfl, hb3⟩
        have H3 := Lib.hid (HK.out.next hb3)
        have CI := fun p : Ext w3 => Lib.hid (rspan_in h.s r.v.dy p.W)
        rw [hq2] at CI
        have k2 : ∀ p : Ext w3, p.W.cell? ⟨w.heap.size, 2, none⟩ = some (.int .i64 h.s.1) := fun p => H3.out.x.ext p 2
        have k3 : ∀ p : Ext w3, p.W.cell? ⟨w.heap.size, 3, none⟩ = some (.int .i64 h.s.2) := fun p => H3.out.x.ext p 3
        have k9 : ∀ p : Ext w3, p.W.cell? ⟨w.heap.size, 9, none⟩ = some (.slice (some ad) h.m h.d) := fun p => by rw [← HBv.out]; exact H3.out.x.ext p 9
        have kd : ∀ p : Ext w3, p.W.cell? ⟨(ad.add (i * 9)).block, (ad.add (i * 9)).off + 1, none⟩ = some (.int .i64 r.v.dy) := fun p => ((hb3.trans (p.b.mono hb3.size)).cell (p := ⟨(ad.add (i * 9)).block, (ad.add (i * 9)).off + 1, none⟩) (by show (ad.add (i * 9)).block < _; rw [add_block]; exact HBB.out)).trans HN.out.c1
        clear hb3 CC c0 c1 c2 c3 c4 c5 c6 c7 c8 hq1 hq2 x9
        go_upto_region 8 with fail
        have ne : Nonempty (Ext w3) := ⟨⟨w3, Below.refl _ _⟩⟩
        refine quietE (by kernel_rfl) (by kernel_rfl) ?_
        repeat (first | go_big_quiet_skip | quiet_step (first
          | (go_at_call 19; with_reducible exact ext_of (CI _).out)
          | fail))
        refine wpQuiet_nil ?_
        rintro _ ⟨p, rfl⟩
        clear k2 k3 k9 kd CI ne
        have HP := Lib.hid (H3.out.next p.b)
        generalize p.W = w4 at HP ⊢
        cases q1
        · have HQ := Lib.hid (show R = false by rw [← HA.out, HA2.out, HQ1.out]; rfl)
          go_wp2
          go_ret
          exact ⟨congrArg (fun b => Ending.returned (.bool b)) HQ.out.symm, HP.out.b⟩
        · cases q2
          · have HQ := Lib.hid (show R = false by rw [← HA.out, HA2.out, HQ1.out, HQ2.out]; rfl)
            go_wp2
            go_ret
            exact ⟨congrArg (fun b => Ending.returned (.bool b)) HQ.out.symm, HP.out.b⟩
          · have HA3 := Lib.hid (show ((h.v.hs.drop (i + 1)).all fun c => rch c && inn h.s c.dy) = R by rw [← HA.out, HA2.out, HQ1.out, HQ2.out]; rfl)
            go_wp2
            go_roundw
            case rel => exact ⟨i + 1, _, by omega, by go_num, rfl, HP, HA3⟩
            case measure => simp [intOf]; omega
      · have HQ := Lib.hid (show R = true by rw [← HA.out, List.drop_of_length_le (by show (h.rs.map Tm.Rw.v).length ≤ i; rw [List.length_map, HMM.out.r.1]; omega)]; rfl)
        go_wp2
        go_ret
        exact ⟨congrArg (fun b => Ending.returned (.bool b)) HQ.out.symm, HK.out.b⟩
theorem ups_yes {l : List Ch} {k : Nat} {c : Ch} {d : Int} (h : l[k]? = some c) (hd : c.dy ≤ d) : ups (l.take (k + 1)) d = ups (l.take k) d ++ [c] := by
  unfold ups; rw [take_get h, List.filter_append]; simp [hd]
theorem ups_no {l : List Ch} {k : Nat} {c : Ch} {d : Int} (h : l[k]? = some c) (hd : ¬ c.dy ≤ d) : ups (l.take (k + 1)) d = ups (l.take k) d := by
  unfold ups; rw [take_get h, List.filter_append]; simp [hd]
/-- What Holds gives. -/
def HoTo (w0 w : World) (h : Hr) (o : List Int) (d : Int) (e : Ending) (w' : World) : Prop := ∃ r : Rw, e = .returned (vg r) ∧ r.v = ⟨(0, 0), hld (ini h.v) (ordl h.v.hs o) d, 0⟩ ∧ Cvs w0 (· < w0.heap.size) r.A r.n r.v.h.cs ∧ r.n ≤ 1000 ∧ Below w.heap.size w w'
/-- What holds when so many changes are looked at. -/
structure HJ (w0 w W : World) (h : Hr) (l : List Ch) (d : Int) (k : Nat) (nw : Rw) : Prop where
  b : Below w.heap.size w W
  x : Bx W w.heap.size 31 (hc h)
  z : Bx W (w.heap.size + 1) 43 zc
  y : Bx W (w.heap.size + 2) 43 (vc nw)
  cv : Cvs w0 (· < w0.heap.size) nw.A nw.n nw.v.h.cs
  n : nw.n ≤ 1000
  st : nw.v = ⟨(0, 0), (ups (l.take k) d).foldl don (ini h.v), 0⟩
theorem HJ.next {w0 w W W' : World} {h : Hr} {l : List Ch} {d : Int} {k : Nat} {nw : Rw} (H : HJ w0 w W h l d k nw) (hb : Below W.heap.size W W') : HJ w0 w W' h l d k nw := ⟨H.b.trans (hb.mono H.b.size), H.x.keep hb, H.z.keep hb, H.y.keep hb, H.cv, H.n, H.st⟩
theorem HJ.skip {w0 w W : World} {h : Hr} {l : List Ch} {d : Int} {k : Nat} {nw : Rw} {c : Ch} (H : HJ w0 w W h l d k nw) (hl : l[k]? = some c) (hd : ¬ c.dy ≤ d) : HJ w0 w W h l d (k + 1) nw := ⟨H.b, H.x, H.z, H.y, H.cv, H.n, by rw [ups_no hl hd]; exact H.st⟩
theorem grown_setsG {W w' : World} {b : Nat} (hg : W.grownBy w' (some b)) (l : List Value) (o : Nat) : W.grownBy (sets b o l w') (some b) := by
  have h := sets_below (w0 := w') l (Nat.le_refl b) o w' (Below.refl _ _)
  exact ⟨h.os.trans hg.os, h.tape.trans hg.tape, h.output.trans hg.output, by rw [sets_size]; exact hg.size, fun k hk hne => (sets_heap l (fun e => hne (by rw [e])) o w').trans (hg.block k hk hne)⟩
theorem HJ.put {w0 w W : World} {h : Hr} {l : List Ch} {d : Int} {k : Nat} {nw : Rw} {r : Tm.Rw} (H : HJ w0 w W h l d k nw) (hl : l[k]? = some r.v) (hd : r.v.dy ≤ d) (hcv : Cvs w0 (· < w0.heap.size) r.A r.n r.v.cs) (hn : r.n ≤ 1000) (ls : List Value) (o : Nat) (e : setl o ls (vc nw) = vc (dn nw r)) : HJ w0 w (sets (w.heap.size + 2) o ls W) h l d (k + 1) (dn nw r) := by
  have hg := grown_setsG (World.grownBy.refl W (some (w.heap.size + 2))) ls o
  have h0 := H.x.lt
  have h1 := H.z.lt
  refine ⟨H.b.grown hg H.b.size (fun j hj => by injection hj with hj; omega), H.x.sets_far (by omega) _ _, H.z.sets_far (by omega) _ _, ?_, dn_good H.cv hcv, dn_n H.n hn, ?_⟩
  · have := H.y.sets ls o W _
    rw [← e]; exact H.y.sets ls o W _
  · rw [dn_v, ups_yes hl hd, List.foldl_append, H.st]; rfl
theorem dn_1 {nw : Rw} {r : Tm.Rw} (h : r.v.kd = 1) : setl 3 [.int .i64 r.v.r.k, .int .i64 r.v.r.v, .int .i64 r.v.r.a, .int .i64 r.v.r.z] (vc nw) = vc (dn nw r) := by simp [setl, dn, don, h]
theorem dn_2 {nw : Rw} {r : Tm.Rw} (h : r.v.kd = 2) : setl 7 [.slice r.A r.n r.c] (vc nw) = vc (dn nw r) := by simp [setl, dn, don, h]
theorem dn_3 {nw : Rw} {r : Tm.Rw} (h : r.v.kd = 3) : setl 2 [.bool false] (vc nw) = vc (dn nw r) := by simp [setl, dn, don, h]
theorem dn_4 {nw : Rw} {r : Tm.Rw} (h : r.v.kd = 4) : setl 2 [.bool true] (vc nw) = vc (dn nw r) := by simp [setl, dn, don, h]
theorem dn_0 {nw : Rw} {r : Tm.Rw} (h1 : r.v.kd ≠ 1) (h2 : r.v.kd ≠ 2) (h3 : r.v.kd ≠ 3) (h4 : r.v.kd ≠ 4) : setl 0 [] (vc nw) = vc (dn nw r) := by simp [setl, dn, don, h1, h2, h3, h4]
structure R5 (W : World) (h : Hr) (r : Tm.Rw) (aB aO : Addr) (P n c kk i : Nat) (L : Nat → Bool) (w' : World) (v23 v24 v25 v26 v27 v28 v29 v30 v9 : Value) : Prop where
  b : Below W.heap.size W w'
  f0 : L 0 = true → v23 = .pointer (some ⟨P, 9, none⟩)
  f1 : L 1 = true → v24 = .slice (some aB) h.m h.d
  f2 : L 2 = true → v25 = .slice (some aO) n c
  f3 : L 3 = true → v26 = .int .i64 (kk : Int)
  f4 : L 4 = true → v27 = .pointer (some (aO.add kk))
  f5 : L 5 = true → v28 = .int .i64 (i : Int)
  f6 : L 6 = true → v29 = .pointer (some (aB.add (i * 9)))
  f7 : L 7 = true → v30 = Tm.vg r
  f8 : L 8 = true → ∃ g, v9 = .pointer (some ⟨g, 0, none⟩) ∧ W.heap.size ≤ g ∧ ∃ x0 x1 x2 x3 x4 x5 x6 x7 x8 : Value, Bx w' g 52 #[x0, x1, x2, x3, x4, x5, x6, x7, x8]
  f9 : L 9 = true → ∃ g, v9 = .pointer (some ⟨g, 0, none⟩) ∧ W.heap.size ≤ g ∧ Bx w' g 52 (Tm.vc r)
  d9_8 : L 9 = true → L 8 = true
theorem R5.up {W : World} {h : Hr} {r : Tm.Rw} {aB aO : Addr} {P n c kk i : Nat} {L : Nat → Bool} {w' w2 : World} {v23 v24 v25 v26 v27 v28 v29 v30 v9 : Value} (H : R5 W h r aB aO P n c kk i L w' v23 v24 v25 v26 v27 v28 v29 v30 v9) (hb : Below w'.heap.size w' w2) : R5 W h r aB aO P n c kk i L w2 v23 v24 v25 v26 v27 v28 v29 v30 v9 :=
  ⟨H.b.trans (hb.mono H.b.size), H.f0, H.f1, H.f2, H.f3, H.f4, H.f5, H.f6, H.f7, (fun l => by obtain ⟨g, e, hg, x0, x1, x2, x3, x4, x5, x6, x7, x8, hx⟩ := H.f8 l; exact ⟨g, e, hg, _, _, _, _, _, _, _, _, _, hx.keep hb⟩), (fun l => by obtain ⟨g, e, hg, hx⟩ := H.f9 l; exact ⟨g, e, hg, hx.keep hb⟩), H.d9_8⟩
theorem R5.s0 {W : World} {h : Hr} {r : Tm.Rw} {aB aO : Addr} {P n c kk i : Nat} {L : Nat → Bool} {w' : World} {v23 v24 v25 v26 v27 v28 v29 v30 v9 : Value} (H : R5 W h r aB aO P n c kk i L w' v23 v24 v25 v26 v27 v28 v29 v30 v9) {z : Value} (k : z = .pointer (some ⟨P, 9, none⟩)) : R5 W h r aB aO P n c kk i (fun j => j == 0 || L j) w' z v24 v25 v26 v27 v28 v29 v30 v9 := ⟨H.b, fun _ => k, H.f1, H.f2, H.f3, H.f4, H.f5, H.f6, H.f7, H.f8, H.f9, H.d9_8⟩
theorem R5.s1 {W : World} {h : Hr} {r : Tm.Rw} {aB aO : Addr} {P n c kk i : Nat} {L : Nat → Bool} {w' : World} {v23 v24 v25 v26 v27 v28 v29 v30 v9 : Value} (H : R5 W h r aB aO P n c kk i L w' v23 v24 v25 v26 v27 v28 v29 v30 v9) {z : Value} (k : z = .slice (some aB) h.m h.d) : R5 W h r aB aO P n c kk i (fun j => j == 1 || L j) w' v23 z v25 v26 v27 v28 v29 v30 v9 := ⟨H.b, H.f0, fun _ => k, H.f2, H.f3, H.f4, H.f5, H.f6, H.f7, H.f8, H.f9, H.d9_8⟩
theorem R5.s2 {W : World} {h : Hr} {r : Tm.Rw} {aB aO : Addr} {P n c kk i : Nat} {L : Nat → Bool} {w' : World} {v23 v24 v25 v26 v27 v28 v29 v30 v9 : Value} (H : R5 W h r aB aO P n c kk i L w' v23 v24 v25 v26 v27 v28 v29 v30 v9) {z : Value} (k : z = .slice (some aO) n c) : R5 W h r aB aO P n c kk i (fun j => j == 2 || L j) w' v23 v24 z v26 v27 v28 v29 v30 v9 := ⟨H.b, H.f0, H.f1, fun _ => k, H.f3, H.f4, H.f5, H.f6, H.f7, H.f8, H.f9, H.d9_8⟩
theorem R5.s3 {W : World} {h : Hr} {r : Tm.Rw} {aB aO : Addr} {P n c kk i : Nat} {L : Nat → Bool} {w' : World} {v23 v24 v25 v26 v27 v28 v29 v30 v9 : Value} (H : R5 W h r aB aO P n c kk i L w' v23 v24 v25 v26 v27 v28 v29 v30 v9) {z : Value} (k : z = .int .i64 (kk : Int)) : R5 W h r aB aO P n c kk i (fun j => j == 3 || L j) w' v23 v24 v25 z v27 v28 v29 v30 v9 := ⟨H.b, H.f0, H.f1, H.f2, fun _ => k, H.f4, H.f5, H.f6, H.f7, H.f8, H.f9, H.d9_8⟩
theorem R5.s4 {W : World} {h : Hr} {r : Tm.Rw} {aB aO : Addr} {P n c kk i : Nat} {L : Nat → Bool} {w' : World} {v23 v24 v25 v26 v27 v28 v29 v30 v9 : Value} (H : R5 W h r aB aO P n c kk i L w' v23 v24 v25 v26 v27 v28 v29 v30 v9) {z : Value} (k : z = .pointer (some (aO.add kk))) : R5 W h r aB aO P n c kk i (fun j => j == 4 || L j) w' v23 v24 v25 v26 z v28 v29 v30 v9 := ⟨H.b, H.f0, H.f1, H.f2, H.f3, fun _ => k, H.f5, H.f6, H.f7, H.f8, H.f9, H.d9_8⟩
theorem R5.s5 {W : World} {h : Hr} {r : Tm.Rw} {aB aO : Addr} {P n c kk i : Nat} {L : Nat → Bool} {w' : World} {v23 v24 v25 v26 v27 v28 v29 v30 v9 : Value} (H : R5 W h r aB aO P n c kk i L w' v23 v24 v25 v26 v27 v28 v29 v30 v9) {z : Value} (k : z = .int .i64 (i : Int)) : R5 W h r aB aO P n c kk i (fun j => j == 5 || L j) w' v23 v24 v25 v26 v27 z v29 v30 v9 := ⟨H.b, H.f0, H.f1, H.f2, H.f3, H.f4, fun _ => k, H.f6, H.f7, H.f8, H.f9, H.d9_8⟩
theorem R5.s6 {W : World} {h : Hr} {r : Tm.Rw} {aB aO : Addr} {P n c kk i : Nat} {L : Nat → Bool} {w' : World} {v23 v24 v25 v26 v27 v28 v29 v30 v9 : Value} (H : R5 W h r aB aO P n c kk i L w' v23 v24 v25 v26 v27 v28 v29 v30 v9) {z : Value} (k : z = .pointer (some (aB.add (i * 9)))) : R5 W h r aB aO P n c kk i (fun j => j == 6 || L j) w' v23 v24 v25 v26 v27 v28 z v30 v9 := ⟨H.b, H.f0, H.f1, H.f2, H.f3, H.f4, H.f5, fun _ => k, H.f7, H.f8, H.f9, H.d9_8⟩
theorem R5.s7 {W : World} {h : Hr} {r : Tm.Rw} {aB aO : Addr} {P n c kk i : Nat} {L : Nat → Bool} {w' : World} {v23 v24 v25 v26 v27 v28 v29 v30 v9 : Value} (H : R5 W h r aB aO P n c kk i L w' v23 v24 v25 v26 v27 v28 v29 v30 v9) {z : Value} (k : z = Tm.vg r) : R5 W h r aB aO P n c kk i (fun j => j == 7 || L j) w' v23 v24 v25 v26 v27 v28 v29 z v9 := ⟨H.b, H.f0, H.f1, H.f2, H.f3, H.f4, H.f5, H.f6, fun _ => k, H.f8, H.f9, H.d9_8⟩
theorem R5.s8 {W : World} {h : Hr} {r : Tm.Rw} {aB aO : Addr} {P n c kk i : Nat} {L : Nat → Bool} {w' : World} {v23 v24 v25 v26 v27 v28 v29 v30 v9 : Value} (H : R5 W h r aB aO P n c kk i L w' v23 v24 v25 v26 v27 v28 v29 v30 v9) {z : Value} (k : ∃ g, z = .pointer (some ⟨g, 0, none⟩) ∧ W.heap.size ≤ g ∧ ∃ x0 x1 x2 x3 x4 x5 x6 x7 x8 : Value, Bx w' g 52 #[x0, x1, x2, x3, x4, x5, x6, x7, x8]) (hf : L 8 = false) : R5 W h r aB aO P n c kk i (fun j => j == 8 || L j) w' v23 v24 v25 v26 v27 v28 v29 v30 z := ⟨H.b, H.f0, H.f1, H.f2, H.f3, H.f4, H.f5, H.f6, H.f7, fun _ => k, fun l => absurd (H.d9_8 l) (by rw [hf]; decide), fun _ => rfl⟩
theorem R5.s9 {W : World} {h : Hr} {r : Tm.Rw} {aB aO : Addr} {P n c kk i : Nat} {L : Nat → Bool} {w' : World} {v23 v24 v25 v26 v27 v28 v29 v30 v9 : Value} {g : Nat} {x0 x1 x2 x3 x4 x5 x6 x7 x8 : Value} (H : R5 W h r aB aO P n c kk i L w' v23 v24 v25 v26 v27 v28 v29 v30 v9) (e : v9 = .pointer (some ⟨g, 0, none⟩)) (hg : W.heap.size ≤ g) (hx : Bx w' g 52 #[x0, x1, x2, x3, x4, x5, x6, x7, x8]) (h8 : L 8 = true) : R5 W h r aB aO P n c kk i (fun j => j == 9 || L j) (sets g 0 (Tm.cl r) w') v23 v24 v25 v26 v27 v28 v29 v30 v9 := by
  have h1 := hx.sets (Tm.cl r) 0 w' _
  unfold Tm.cl at h1
  rw [setl9] at h1
  exact ⟨sets_below _ hg 0 w' H.b, H.f0, H.f1, H.f2, H.f3, H.f4, H.f5, H.f6, H.f7, fun _ => ⟨g, e, hg, _, _, _, _, _, _, _, _, _, h1⟩, fun _ => ⟨g, e, hg, h1⟩, fun _ => h8⟩
set_option maxRecDepth 100000 in
set_option maxHeartbeats 4000000 in
theorem holds12 (h : Hr) (O : Option Addr) (n c : Nat) (o : List Int) (d : Int) (w0 w : World) (B : Below w0.heap.size w0 w) (M0 : HM w0 (· < w0.heap.size) h) (hN : h.n ≤ 1000 ∧ ∀ r ∈ h.rs, r.n ≤ 1000) (I : Tm.Ins w (· < w.heap.size) O n o) (hO : Ag.Ord h.v.hs o) (hn : n ≤ 3000) : Calls Tryz.prog 31 #[hg h, .slice O n c, .int .i64 d] w (HoTo w0 w h o d) := by
  have M := M0.below B
  have HM0 := Lib.hid M0
  have HNN := Lib.hid hN
  obtain ⟨W, hW⟩ : ∃ W, ((w.alloc (.cells (hc h) 31)).alloc (.cells zc 43)).alloc (.cells (vc ⟨⟨(0, 0), ⟨true, h.r, h.cs⟩, 0⟩, h.A, h.n, h.c⟩) 43) = W := ⟨_, rfl⟩
  have hnl : o.length = n := I.1
  have H0 := Lib.hid (show HJ w0 w W h (ordl h.v.hs o) d 0 ⟨⟨(0, 0), ⟨true, h.r, h.cs⟩, 0⟩, h.A, h.n, h.c⟩ from by
    rw [← hW]
    have b1 := alloc_ w (.cells (hc h) 31)
    have x1 := Bx.new w 31 (hc h)
    have x2 := Bx.new (w.alloc (.cells (hc h) 31)) 43 zc
    have x3 := Bx.new ((w.alloc (.cells (hc h) 31)).alloc (.cells zc 43)) 43 (vc ⟨⟨(0, 0), ⟨true, h.r, h.cs⟩, 0⟩, h.A, h.n, h.c⟩)
    rw [World.size_alloc] at x2
    rw [World.size_alloc, World.size_alloc] at x3
    exact ⟨alloc3 _ _ _ _, (x1.alloc _).alloc _, x2.alloc _, x3, M0.t, hN.1, rfl⟩)
  have HW := Lib.hid hW
  have HMM := Lib.hid M
  have HI := Lib.hid I
  have HOO := Lib.hid hO
  have hlo : (ordl h.v.hs o).length = n := by rw [ordl_len]; exact hnl
  have HLO := Lib.hid hlo
  clear hW M M0 hN B I hO hlo
  go_enter Tryz.func31, Tryz.ntmps31
  go_upto_region 2 with fail
  rw [HW.out]
  clear HW
  go_wp2
  go_loopw [8] (fun vi w' => ∃ (k : Nat) (W : World) (nw : Rw), k ≤ n ∧ vi = .int .i64 (k : Int) ∧ W = w' ∧ Hid (HJ w0 w W h (ordl h.v.hs o) d k nw)) (fun vi _ => n - (intOf vi).toNat)
  case atStart => exact ⟨0, _, _, Nat.zero_le _, rfl, rfl, H0⟩
  case round =>
    obtain ⟨k, W, nw, hk, rfl, rfl, H⟩ := hrel
    clear H0
    by_cases hlt : k < n
    · obtain ⟨aO, rfl, hbO, hcO⟩ := HI.out.2 (by omega)
      obtain ⟨x, hox⟩ : ∃ x, o[k]? = some x := ⟨o[k]'(by omega), List.getElem?_eq_getElem (by omega)⟩
      obtain ⟨hx0, hx1⟩ := ord_at HOO.out (List.mem_of_getElem? hox)
      obtain ⟨i, rfl⟩ := Int.eq_ofNat_of_zero_le hx0
      have hcx := hcO k _ hox
      have hhs : h.v.hs.length = h.m := by show (h.rs.map Tm.Rw.v).length = _; rw [List.length_map]; exact HMM.out.r.1
      have hi : i < h.m := by omega
      have hi2 : (i : Int) < (h.m : Int) := by omega
      have hlt2 : (k : Int) < (n : Int) := by omega
      obtain ⟨aB, r, hB, hbB, hr, N, hcv, hv⟩ := HMM.out.get hi
      have HV := Lib.hid (show (ordl h.v.hs o)[k]? = some r.v from ordl_get hox (by rw [Int.toNat_natCast]; exact hv))
      have HN := Lib.hid N
      have HCV := Lib.hid (HM0.out.k r (List.mem_of_getElem? hr))
      have HRN := Lib.hid (HNN.out.2 r (List.mem_of_getElem? hr))
      have HBB := Lib.hid (And.intro hbB hbO)
      have HCX := Lib.hid hcx
      have hHB := Lib.hid hB
      clear hbO hcO hox hx0 hx1 hcx hhs hB hbB hr N hcv hv
      go_upto_region 5 with fail
      refine wp_region_steps (fun L_ a_ w_ => ∃ (v23 v24 v25 v26 v27 v28 v29 v30 v9 : Value), a_ = { tmps := #[hg h, .slice (some aO) n c, .int .i64 d, .pointer (some ⟨w.heap.size, 0, none⟩), undef, undef, .pointer (some ⟨w.heap.size + 1, 0, none⟩), .pointer (some ⟨w.heap.size + 1 + 1, 0, none⟩), .int .i64 (k : Int), v9, .pointer (some ⟨w.heap.size, 2, none⟩), .pointer (some ⟨w.heap.size, 4, none⟩), .agg #[.int .i64 h.r.k, .int .i64 h.r.v, .int .i64 h.r.a, .int .i64 h.r.z], .pointer (some ⟨w.heap.size, 2, none⟩), .pointer (some ⟨w.heap.size, 8, none⟩), .slice h.A h.n h.c, .agg #[.int .i64 0, .int .i64 0, .bool true, .int .i64 h.r.k, .int .i64 h.r.v, .int .i64 h.r.a, .int .i64 h.r.z, .slice h.A h.n h.c, .int .i64 0], .int .i64 (k : Int), .slice (some aO) n c, .int .i64 (n : Int), .bool true, u21, u22, v23, v24, v25, v26, v27, v28, v29, v30, u31, u32, u33, u34, u35, u36, u37, u38, u39, u40, u41, u42, u43, u44, u45, u46, u47, u48, u49, u50, u51, u52, undef], defers := [] } ∧ Hid (R5 W h r aB aO w.heap.size n c k i L_ w_ v23 v24 v25 v26 v27 v28 v29 v30 v9)) (by kernel_rfl) (by kernel_rfl) ?_ (AllSteps.cons ?_ (AllSteps.cons ?_ (AllSteps.cons ?_ (AllSteps.cons ?_ (AllSteps.cons ?_ (AllSteps.cons ?_ (AllSteps.cons ?_ (AllSteps.cons ?_ (AllSteps.cons ?_ (AllSteps.cons ?_ AllSteps.nil)))))))))) ?_
      · exact ⟨_, _, _, _, _, _, _, _, _, rfl, Lib.hid ⟨⟨rfl, rfl, rfl, Nat.le_refl _, fun _ _ => rfl⟩, (fun h => by cases h), (fun h => by cases h), (fun h => by cases h), (fun h => by cases h), (fun h => by cases h), (fun h => by cases h), (fun h => by cases h), (fun h => by cases h), (fun h => by cases h), (fun h => by cases h), (fun h => by cases h)⟩⟩
      · rintro L_ a_ w_ hL hd ⟨v23, v24, v25, v26, v27, v28, v29, v30, v9, rfl, HR⟩ K hK
        clear hd
        go_simp
        exact hK.out _ _ ⟨_, _, _, _, _, _, _, _, _, rfl, Lib.hid (HR.out.s0 rfl)⟩
      · rintro L_ a_ w_ hL hd ⟨v23, v24, v25, v26, v27, v28, v29, v30, v9, rfl, HR⟩ K hK
        have e0 := HR.out.f0 (hd ⟨0, .data⟩ (by simp) rfl)
        subst e0
        have hx := H.out.x.keep HR.out.b
        have x9 := hx.c 9
        simp at x9
        rw [hHB.out] at x9
        clear hd
        go_simp
        exact hK.out _ _ ⟨_, _, _, _, _, _, _, _, _, rfl, Lib.hid (HR.out.s1 rfl)⟩
      · rintro L_ a_ w_ hL hd ⟨v23, v24, v25, v26, v27, v28, v29, v30, v9, rfl, HR⟩ K hK
        clear hd
        go_simp
        exact hK.out _ _ ⟨_, _, _, _, _, _, _, _, _, rfl, Lib.hid (HR.out.s2 rfl)⟩
      · rintro L_ a_ w_ hL hd ⟨v23, v24, v25, v26, v27, v28, v29, v30, v9, rfl, HR⟩ K hK
        clear hd
        go_simp
        exact hK.out _ _ ⟨_, _, _, _, _, _, _, _, _, rfl, Lib.hid (HR.out.s3 rfl)⟩
      · rintro L_ a_ w_ hL hd ⟨v23, v24, v25, v26, v27, v28, v29, v30, v9, rfl, HR⟩ K hK
        have e2 := HR.out.f2 (hd ⟨2, .data⟩ (by simp) rfl)
        subst e2
        have e3 := HR.out.f3 (hd ⟨3, .data⟩ (by simp) rfl)
        subst e3
        clear hd
        go_simp
        exact hK.out _ _ ⟨_, _, _, _, _, _, _, _, _, rfl, Lib.hid (HR.out.s4 rfl)⟩
      · rintro L_ a_ w_ hL hd ⟨v23, v24, v25, v26, v27, v28, v29, v30, v9, rfl, HR⟩ K hK
        have e4 := HR.out.f4 (hd ⟨4, .data⟩ (by simp) rfl)
        subst e4
        have hBw : Below w.heap.size w w_ := H.out.b.trans (HR.out.b.mono H.out.b.size)
        have hX : w_.cell? (aO.add k) = some (.int .i64 (i : Int)) := (hBw.cell (by rw [add_block]; exact HBB.out.2)).trans HCX.out
        clear hd
        go_simp
        exact hK.out _ _ ⟨_, _, _, _, _, _, _, _, _, rfl, Lib.hid (HR.out.s5 rfl)⟩
      · rintro L_ a_ w_ hL hd ⟨v23, v24, v25, v26, v27, v28, v29, v30, v9, rfl, HR⟩ K hK
        have e1 := HR.out.f1 (hd ⟨1, .data⟩ (by simp) rfl)
        subst e1
        have e5 := HR.out.f5 (hd ⟨5, .data⟩ (by simp) rfl)
        subst e5
        clear hd
        go_simp
        exact hK.out _ _ ⟨_, _, _, _, _, _, _, _, _, rfl, Lib.hid (HR.out.s6 rfl)⟩
      · rintro L_ a_ w_ hL hd ⟨v23, v24, v25, v26, v27, v28, v29, v30, v9, rfl, HR⟩ K hK
        have e6 := HR.out.f6 (hd ⟨6, .data⟩ (by simp) rfl)
        subst e6
        have hBw : Below w.heap.size w w_ := H.out.b.trans (HR.out.b.mono H.out.b.size)
        obtain ⟨n0, n1, n2, n3, n4, n5, n6, n7, n8⟩ := HN.out.keep (w' := w_) (fun a ha => hBw.cell (by rw [ha, add_block]; exact HBB.out.1))
        clear hd
        go_simp
        exact hK.out _ _ ⟨_, _, _, _, _, _, _, _, _, rfl, Lib.hid (HR.out.s7 rfl)⟩
      · rintro L_ a_ w_ hL hd ⟨v23, v24, v25, v26, v27, v28, v29, v30, v9, rfl, HR⟩ K hK
        have HR2 := Lib.hid (HR.out.up (alloc_ w_ (.cells Tm.zc 52)))
        have HSZ := Lib.hid HR.out.b.size
        clear hd
        go_simp
        exact hK.out _ _ ⟨_, _, _, _, _, _, _, _, _, rfl, Lib.hid (HR2.out.s8 ⟨_, rfl, HSZ.out, _, _, _, _, _, _, _, _, _, Bx.new _ _ _⟩ hL)⟩
      · rintro L_ a_ w_ hL hd ⟨v23, v24, v25, v26, v27, v28, v29, v30, v9, rfl, HR⟩ K hK
        have e7 := HR.out.f7 (hd ⟨7, .data⟩ (by simp) rfl)
        subst e7
        have h8 := hd ⟨8, .data⟩ (by simp) rfl
        obtain ⟨g, e8, hg, x0, x1, x2, x3, x4, x5, x6, x7, x8, hy⟩ := HR.out.f8 h8
        subst e8
        have fy := hy.f
        have z0 := hy.c 0
        have z1 := hy.c 1
        have z2 := hy.c 2
        have z3 := hy.c 3
        have z4 := hy.c 4
        have z5 := hy.c 5
        have z6 := hy.c 6
        have z7 := hy.c 7
        have z8 := hy.c 8
        simp at z0 z1 z2 z3 z4 z5 z6 z7 z8
        clear hd
        go_simp
        exact hK.out _ _ ⟨_, _, _, _, _, _, _, _, _, rfl, Lib.hid (HR.out.s9 rfl hg hy h8)⟩
      · rintro L_ a_ w_ hL ⟨v23, v24, v25, v26, v27, v28, v29, v30, v9, rfl, HR⟩
        obtain rfl := HR.out.f0 (hL 0 (by decide))
        obtain rfl := HR.out.f1 (hL 1 (by decide))
        obtain rfl := HR.out.f2 (hL 2 (by decide))
        obtain rfl := HR.out.f3 (hL 3 (by decide))
        obtain rfl := HR.out.f4 (hL 4 (by decide))
        obtain rfl := HR.out.f5 (hL 5 (by decide))
        obtain rfl := HR.out.f6 (hL 6 (by decide))
        obtain rfl := HR.out.f7 (hL 7 (by decide))
        obtain ⟨g, e9, hg, HY0⟩ := HR.out.f9 (hL 9 (by decide))
        subst e9
        have HY := Lib.hid HY0
        have H2 := Lib.hid (H.out.next HR.out.b)
        clear hL HR hg HY0 H
        have c0 := HY.out.c 0
        have c1 := HY.out.c 1
        have c2 := HY.out.c 2
        have c3 := HY.out.c 3
        have c4 := HY.out.c 4
        have c5 := HY.out.c 5
        have c6 := HY.out.c 6
        have c7 := HY.out.c 7
        have c8 := HY.out.c 8
        simp at c0 c1 c2 c3 c4 c5 c6 c7 c8
        have y0 := H2.out.y.c 0
        have y1 := H2.out.y.c 1
        have y2 := H2.out.y.c 2
        have y3 := H2.out.y.c 3
        have y4 := H2.out.y.c 4
        have y5 := H2.out.y.c 5
        have y6 := H2.out.y.c 6
        have y7 := H2.out.y.c 7
        have y8 := H2.out.y.c 8
        simp at y0 y1 y2 y3 y4 y5 y6 y7 y8
        have fy := H2.out.y.f
        dsimp only [Exit.then]
        go_step
        by_cases hd : r.v.dy ≤ d
        · have t1 : decide (d < r.v.dy) = false := decide_eq_false (by omega)
          have HD := Lib.hid hd
          clear hd
          by_cases hk1 : r.v.kd = 1
          · have HJ2 := Lib.hid (H2.out.put HV.out HD.out HCV.out HRN.out [.int .i64 r.v.r.k, .int .i64 r.v.r.v, .int .i64 r.v.r.a, .int .i64 r.v.r.z] 3 (dn_1 hk1))
            rw [hk1] at c2
            have s1 : decide ((1 : Int) = 1) = true := by decide
            have s2 : decide ((1 : Int) = 2) = false := by decide
            have s3 : decide ((1 : Int) = 3) = false := by decide
            have s4 : decide ((1 : Int) = 4) = false := by decide
            clear HV HD HCV HRN
            go_wp2
            go_roundw
            case rel => exact ⟨k + 1, _, _, by omega, by go_num, rfl, HJ2⟩
            case measure => simp [intOf]; omega
          by_cases hk2 : r.v.kd = 2
          · have HJ2 := Lib.hid (H2.out.put HV.out HD.out HCV.out HRN.out [.slice r.A r.n r.c] 7 (dn_2 hk2))
            rw [hk2] at c2
            have s1 : decide ((2 : Int) = 1) = false := by decide
            have s2 : decide ((2 : Int) = 2) = true := by decide
            have s3 : decide ((2 : Int) = 3) = false := by decide
            have s4 : decide ((2 : Int) = 4) = false := by decide
            clear HV HD HCV HRN
            go_wp2
            go_roundw
            case rel => exact ⟨k + 1, _, _, by omega, by go_num, rfl, HJ2⟩
            case measure => simp [intOf]; omega
          by_cases hk3 : r.v.kd = 3
          · have HJ2 := Lib.hid (H2.out.put HV.out HD.out HCV.out HRN.out [.bool false] 2 (dn_3 hk3))
            rw [hk3] at c2
            have s1 : decide ((3 : Int) = 1) = false := by decide
            have s2 : decide ((3 : Int) = 2) = false := by decide
            have s3 : decide ((3 : Int) = 3) = true := by decide
            have s4 : decide ((3 : Int) = 4) = false := by decide
            clear HV HD HCV HRN
            go_wp2
            go_roundw
            case rel => exact ⟨k + 1, _, _, by omega, by go_num, rfl, HJ2⟩
            case measure => simp [intOf]; omega
          by_cases hk4 : r.v.kd = 4
          · have HJ2 := Lib.hid (H2.out.put HV.out HD.out HCV.out HRN.out [.bool true] 2 (dn_4 hk4))
            rw [hk4] at c2
            have s1 : decide ((4 : Int) = 1) = false := by decide
            have s2 : decide ((4 : Int) = 2) = false := by decide
            have s3 : decide ((4 : Int) = 3) = false := by decide
            have s4 : decide ((4 : Int) = 4) = true := by decide
            clear HV HD HCV HRN
            go_wp2
            go_roundw
            case rel => exact ⟨k + 1, _, _, by omega, by go_num, rfl, HJ2⟩
            case measure => simp [intOf]; omega
          · have HJ2 := Lib.hid (H2.out.put HV.out HD.out HCV.out HRN.out [] 0 (dn_0 hk1 hk2 hk3 hk4))
            have s1 : decide (r.v.kd = 1) = false := decide_eq_false hk1
            have s2 : decide (r.v.kd = 2) = false := decide_eq_false hk2
            have s3 : decide (r.v.kd = 3) = false := decide_eq_false hk3
            have s4 : decide (r.v.kd = 4) = false := decide_eq_false hk4
            clear HV HD HCV HRN
            go_wp2
            go_roundw
            case rel => exact ⟨k + 1, _, _, by omega, by go_num, rfl, HJ2⟩
            case measure => simp [intOf]; omega
        · have t1 : decide (d < r.v.dy) = true := decide_eq_true (by omega)
          have HJ2 := Lib.hid (H2.out.skip HV.out hd)
          clear HV hd
          go_wp2
          go_roundw
          case rel => exact ⟨k + 1, _, _, by omega, by go_num, rfl, HJ2⟩
          case measure => simp [intOf]; omega
    · obtain rfl : k = n := by omega
      have HST := Lib.hid (show nw.v = ⟨(0, 0), hld (ini h.v) (ordl h.v.hs o) d, 0⟩ by
        have := H.out.st
        rwa [List.take_of_length_le (Nat.le_of_eq HLO.out)] at this)
      have fz := H.out.z.f
      have y0 := H.out.y.c 0
      have y1 := H.out.y.c 1
      have y2 := H.out.y.c 2
      have y3 := H.out.y.c 3
      have y4 := H.out.y.c 4
      have y5 := H.out.y.c 5
      have y6 := H.out.y.c 6
      have y7 := H.out.y.c 7
      have y8 := H.out.y.c 8
      simp at y0 y1 y2 y3 y4 y5 y6 y7 y8
      have z0 := H.out.z.c 0
      have z1 := H.out.z.c 1
      have z2 := H.out.z.c 2
      have z3 := H.out.z.c 3
      have z4 := H.out.z.c 4
      have z5 := H.out.z.c 5
      have z6 := H.out.z.c 6
      have z7 := H.out.z.c 7
      have z8 := H.out.z.c 8
      simp at z0 z1 z2 z3 z4 z5 z6 z7 z8
      go_wp2
      change bodyPost _ _ _ _ _ (sets (w.heap.size + 1) 0 [.int .i64 nw.v.s.1, .int .i64 nw.v.s.2, .bool nw.v.h.on, .int .i64 nw.v.h.r.k, .int .i64 nw.v.h.r.v, .int .i64 nw.v.h.r.a, .int .i64 nw.v.h.r.z, .slice nw.A nw.n nw.c, .int .i64 nw.v.y] W)
      have hz := H.out.z.sets [.int .i64 nw.v.s.1, .int .i64 nw.v.s.2, .bool nw.v.h.on, .int .i64 nw.v.h.r.k, .int .i64 nw.v.h.r.v, .int .i64 nw.v.h.r.a, .int .i64 nw.v.h.r.z, .slice nw.A nw.n nw.c, .int .i64 nw.v.y] 0 W _
      rw [setl9] at hz
      have HB := Lib.hid (sets_below (w0 := w) [.int .i64 nw.v.s.1, .int .i64 nw.v.s.2, .bool nw.v.h.on, .int .i64 nw.v.h.r.k, .int .i64 nw.v.h.r.v, .int .i64 nw.v.h.r.a, .int .i64 nw.v.h.r.z, .slice nw.A nw.n nw.c, .int .i64 nw.v.y] (Nat.le_succ w.heap.size) 0 W H.out.b)
      generalize sets (w.heap.size + 1) 0 [.int .i64 nw.v.s.1, .int .i64 nw.v.s.2, .bool nw.v.h.on, .int .i64 nw.v.h.r.k, .int .i64 nw.v.h.r.v, .int .i64 nw.v.h.r.a, .int .i64 nw.v.h.r.z, .slice nw.A nw.n nw.c, .int .i64 nw.v.y] W = W2 at hz HB ⊢
      clear fz y0 y1 y2 y3 y4 y5 y6 y7 y8 z0 z1 z2 z3 z4 z5 z6 z7 z8
      refine bodyPost_ret (v := vg nw) ?res rfl ⟨nw, rfl, HST.out, H.out.cv, H.out.n, HB.out⟩
      case res =>
        have x0 := hz.c 0
        have x1 := hz.c 1
        have x2 := hz.c 2
        have x3 := hz.c 3
        have x4 := hz.c 4
        have x5 := hz.c 5
        have x6 := hz.c 6
        have x7 := hz.c 7
        have x8 := hz.c 8
        simp at x0 x1 x2 x3 x4 x5 x6 x7 x8
        simp [results, Tryz.results31, go_sem, x0, x1, x2, x3, x4, x5, x6, x7, x8]

end Slc
end Go.Proofs.YtkdhcloaeifbdaaGreat

namespace Go.Proofs.YtkdhcloaeifbdaaGreat
open Go.RowKit Ba Cv Sp Te Ag Tf Sl Tm
namespace Slc
set_option linter.unusedVariables false

theorem cutd_app {g : Int → Hd} {a f t : Int} {L : List (Sp × Hd)} {h : Hd} (H : Cutd g a f L) (hm : f < t) (hg : ∀ d, f ≤ d → d < t → g d = h) (hx : ∀ x M, L = M ++ [x] → x.2 ≠ h) : Cutd g a t (L ++ [((f, t), h)]) := by
  rcases List.eq_nil_or_concat L with rfl | ⟨M, x, rfl⟩
  · have e : a = f := H.ch
    subst e
    exact Cutd.one hm hg
  · rw [List.concat_eq_append] at H hx ⊢
    exact H.more hm hg (hx x M rfl)
/-- So many changes are looked at: what is cut, and from which day on what holds now. -/
structure Fr (i0 : Hd) (l : List Ch) (s : Sp) (k : Nat) (f : Int) (L : List (Sp × Hd)) : Prop where
  c : Cutd (hld i0 l) s.1 f L
  x : ∀ x M, L = M ++ [x] → x.2 ≠ hld i0 l f
  m : ∃ m, f ≤ m ∧ (∀ d, f ≤ d → d ≤ m → hld i0 l d = hld i0 l f) ∧ (∀ c ∈ l.take k, c.dy ≤ m) ∧ (∀ c ∈ l.drop k, m ≤ c.dy)
  e : f < s.2
theorem Fr.start {i0 : Hd} {l : List Ch} {s : Sp} (hs : s.1 < s.2) (hl : ∀ c ∈ l, s.1 ≤ c.dy) : Fr i0 l s 0 s.1 [] :=
  ⟨Cutd.nil, (fun x M e => by simp at e), ⟨s.1, Int.le_refl _, (fun d h1 h2 => by rw [Int.le_antisymm h2 h1]), (fun c hc => by simp at hc), fun c hc => hl c (by simpa using hc)⟩, hs⟩
section
variable {i0 : Hd} {l : List Ch} {s : Sp} {k : Nat} {f : Int} {L : List (Sp × Hd)} {c : Ch}
theorem Fr.step (H : Fr i0 l s k f L) (hr : l.Pairwise fun a b => a.dy ≤ b.dy) (hc : l[k]? = some c) : f ≤ c.dy ∧ (∀ d, f ≤ d → d < c.dy → hld i0 l d = hld i0 l f) ∧ (∀ x ∈ l.take (k + 1), x.dy ≤ c.dy) ∧ (∀ x ∈ l.drop (k + 1), c.dy ≤ x.dy) := by
  obtain ⟨m, h1, h2, h3, h4⟩ := H.m
  have hcm : c ∈ l.drop k := by rw [drop_get hc]; exact List.mem_cons_self
  have h5 := h4 c hcm
  have hd : ∀ x ∈ l.drop (k + 1), c.dy ≤ x.dy := by
    have hp : (l.drop k).Pairwise fun a b => a.dy ≤ b.dy := hr.sublist (List.drop_sublist k l)
    rw [drop_get hc] at hp
    exact (List.pairwise_cons.1 hp).1
  refine ⟨by omega, fun d hd1 hd2 => ?_, ?_, hd⟩
  · by_cases hm : d ≤ m
    · exact h2 d hd1 hm
    · rw [← h2 m h1 (Int.le_refl _)]
      refine hld_same (by omega) fun x hx hq => ?_
      rw [← List.take_append_drop k l] at hx
      rcases List.mem_append.1 hx with hx | hx
      · have := h3 x hx; omega
      · rw [drop_get hc] at hx
        rcases List.mem_cons.1 hx with rfl | hx
        · omega
        · have := hd x hx; omega
  · rw [take_get hc]
    intro x hx
    rcases List.mem_append.1 hx with hx | hx
    · have := h3 x hx; omega
    · rw [List.mem_singleton] at hx; subst hx; exact Int.le_refl _
theorem Fr.same (H : Fr i0 l s k f L) (hr : l.Pairwise fun a b => a.dy ≤ b.dy) (hc : l[k]? = some c) (e : hld i0 l f = hld i0 l c.dy) : Fr i0 l s (k + 1) f L := by
  obtain ⟨h1, h2, h3, h4⟩ := H.step hr hc
  refine ⟨H.c, H.x, ⟨c.dy, h1, fun d hd1 hd2 => ?_, h3, h4⟩, H.e⟩
  by_cases hd : d < c.dy
  · exact h2 d hd1 hd
  · rw [show d = c.dy by omega, e]
theorem Fr.more (H : Fr i0 l s k f L) (hr : l.Pairwise fun a b => a.dy ≤ b.dy) (hc : l[k]? = some c) (hin : c.dy < s.2) (e : hld i0 l f ≠ hld i0 l c.dy) : Fr i0 l s (k + 1) c.dy (L ++ [((f, c.dy), hld i0 l f)]) := by
  obtain ⟨h1, h2, h3, h4⟩ := H.step hr hc
  have hlt : f < c.dy := by
    rcases Int.lt_or_eq_of_le h1 with h | h
    · exact h
    · exact absurd (by rw [h]) e
  refine ⟨cutd_app H.c hlt h2 H.x, fun x M ex => ?_, ⟨c.dy, Int.le_refl _, (fun d hd1 hd2 => by rw [Int.le_antisymm hd2 hd1]), h3, h4⟩, hin⟩
  have := (List.append_inj' ex rfl).2
  injection this with this
  subst this
  exact e
theorem Fr.done (H : Fr i0 l s k f L) (hk : l.length ≤ k) : Cutd (hld i0 l) s.1 s.2 (L ++ [((f, s.2), hld i0 l f)]) := by
  obtain ⟨m, h1, h2, h3, h4⟩ := H.m
  refine cutd_app H.c H.e (fun d hd1 hd2 => ?_) H.x
  by_cases hm : d ≤ m
  · exact h2 d hd1 hm
  · rw [← h2 m h1 (Int.le_refl _)]
    refine hld_same (by omega) fun x hx hq => ?_
    rw [List.take_of_length_le hk] at h3
    have := h3 x hx; omega
end
def noy (x : Sp × Hd) : Sc := ⟨x.1, x.2, 0⟩
/-- What holds while the slices are made. -/
structure FJ (w : World) (h : Hr) (r7 : Trf.Rw) (g7 g12 base no : Nat) (O : Option Addr) (o : List Int) (W : World) (A : Option Addr) (n c : Nat) (rs : List Rw) (nw : Rw) : Prop where
  b : Below w.heap.size w W
  lo : w.heap.size + 2 ≤ g7 ∧ g7 < g12 ∧ g12 < base ∧ base ≤ W.heap.size
  x : Bx W w.heap.size 31 (hc h)
  v : Bx W g7 58 (Trf.vc r7)
  m : Trf.Mean W (· < g12) r7
  i : Tm.Ins W (· < g12) O no o
  y : Bx W g12 43 (vc nw)
  o : Own W base A n c rs
  k : ∀ r ∈ rs, Cvs w (· < w.heap.size) r.A r.n r.v.h.cs ∧ r.n ≤ 1000
  cv : Cvs w (· < w.heap.size) nw.A nw.n nw.v.h.cs
  nn : nw.n ≤ 1000
section
variable {w W W' : World} {h : Hr} {r7 : Trf.Rw} {g7 g12 base no n c n' c' : Nat} {O A A' : Option Addr} {o : List Int} {rs rs' : List Rw} {nw nw' : Rw}
theorem FJ.move (H : FJ w h r7 g7 g12 base no O o W A n c rs nw) (hs : W.heap.size ≤ W'.heap.size) (hB : Below w.heap.size w W') (hk : ∀ b, b < base → b ≠ g12 → W'.heap[b]? = W.heap[b]?) (hy : Bx W' g12 43 (vc nw')) (ho : Own W' base A' n' c' rs') (hkk : ∀ r ∈ rs', Cvs w (· < w.heap.size) r.A r.n r.v.h.cs ∧ r.n ≤ 1000) (hcv : Cvs w (· < w.heap.size) nw'.A nw'.n nw'.v.h.cs) (hnn : nw'.n ≤ 1000) : FJ w h r7 g7 g12 base no O o W' A' n' c' rs' nw' := by
  obtain ⟨l1, l2, l3, l4⟩ := H.lo
  have hc : ∀ a : Addr, a.block < g12 → W'.cell? a = W.cell? a := fun a ha => World.cell?_of_block (hk _ (by omega) (by omega))
  exact ⟨hB, ⟨l1, l2, l3, Nat.le_trans l4 hs⟩, (hk _ (by omega) (by omega)).trans H.x, (hk _ (by omega) (by omega)).trans H.v, H.m.keep hc (fun _ h => h), H.i.keep hc (fun _ h => h), hy, ho, hkk, hcv, hnn⟩
theorem FJ.next (H : FJ w h r7 g7 g12 base no O o W A n c rs nw) (hb : Below W.heap.size W W') : FJ w h r7 g7 g12 base no O o W' A n c rs nw :=
  H.move hb.size (H.b.trans (hb.mono H.b.size)) (fun b h1 _ => hb.block b (Nat.lt_of_lt_of_le h1 H.lo.2.2.2)) (H.y.keep hb) (H.o.below hb) H.k H.cv H.nn
/-- What holds now is set. -/
theorem FJ.sety (H : FJ w h r7 g7 g12 base no O o W A n c rs nw) (l : List Value) (e : setl 0 l (vc nw) = vc nw') (hcv : Cvs w (· < w.heap.size) nw'.A nw'.n nw'.v.h.cs) (hnn : nw'.n ≤ 1000) : FJ w h r7 g7 g12 base no O o (sets g12 0 l W) A n c rs nw' := by
  obtain ⟨l1, l2, l3, l4⟩ := H.lo
  have hg := grown_setsG (World.grownBy.refl W (some g12)) l 0
  refine H.move hg.size (H.b.grown hg H.b.size (fun j hj => by injection hj with hj; omega)) (fun b h1 h2 => sets_heap l h2 0 W) (by rw [← e]; exact H.y.sets l 0 W _) ?_ H.k hcv hnn
  refine ⟨H.o.1, ?_⟩
  rcases H.o.2 with h | ⟨g, cap, cur, e2, hb, hh, r⟩
  · exact .inl h
  · exact .inr ⟨g, cap, cur, e2, hb, (sets_heap l (by omega) 0 W).trans hh, r⟩
/-- A row that is longer. -/
theorem FJ.app (H : FJ w h r7 g7 g12 base no O o W A n c rs nw) (ho : Own W' base A' n' c' rs') (hg : W.grownBy W' (Value.slice A n c).ownBlock) (hkk : ∀ r ∈ rs', Cvs w (· < w.heap.size) r.A r.n r.v.h.cs ∧ r.n ≤ 1000) : FJ w h r7 g7 g12 base no O o W' A' n' c' rs' nw := by
  obtain ⟨l1, l2, l3, l4⟩ := H.lo
  have hne : ∀ b, b < base → some b ≠ (Value.slice A n c).ownBlock := fun b hb e => by have := (H.o.lt b e.symm).1; omega
  exact H.move hg.size (H.b.grown hg H.b.size (fun j hj => by have := (H.o.lt j hj).1; omega)) (fun b h1 h2 => hg.block b (by omega) (hne b h1)) ((hg.block _ (by omega) (hne _ l3)).trans H.y) ho hkk H.cv H.nn
theorem FJ.good (H : FJ w h r7 g7 g12 base no O o W A n c rs nw) : Gd W nw := ⟨H.cv.keep (fun a ha => H.b.cell ha) (fun b hb => Nat.lt_of_lt_of_le hb H.b.size), Nat.le_trans H.nn (by omega)⟩
theorem FJ.sls (H : FJ w h r7 g7 g12 base no O o W A n c rs nw) : Sls W A n rs := ⟨H.o.raws.keep (fun _ _ => rfl) (fun b hb => hb.2), fun r hr => ⟨(H.k r hr).1.keep (fun a ha => H.b.cell ha) (fun b hb => Nat.lt_of_lt_of_le hb H.b.size), Nat.le_trans (H.k r hr).2 (by omega)⟩⟩
theorem FJ.setc {g i : Nat} {r : Rw} (H : FJ w h r7 g7 g12 base no O o W (some ⟨g, 0, none⟩) n c rs nw) (hr : rs[i]? = some r) (y : Int) : FJ w h r7 g7 g12 base no O o (W.setCell ⟨g, i * 9 + 8, none⟩ (.int .i64 y)) (some ⟨g, 0, none⟩) n c (rs.set i (r.setY y)) nw :=
  H.app (H.o.putY hr y) (grown_set _ _ _ _) fun q hq => by
    rcases List.mem_or_eq_of_mem_set hq with h' | h'
    · exact H.k q h'
    · subst h'; exact H.k r (List.mem_of_getElem? hr)
end
theorem ordl_in {h : Hr} {o : List Int} (hO : Ag.Ord h.v.hs o) (hr : hrt h.v = true) : ∀ c ∈ ordl h.v.hs o, h.s.1 ≤ c.dy ∧ c.dy < h.s.2 := by
  intro c hc
  exact ((inn_iff _ _).1 ((hrt_iff.1 hr).2.2 c ((ordl_mem hO).1 hc)).2).2.2
set_option maxRecDepth 100000 in
set_option maxHeartbeats 4000000 in
theorem rof (h : Hr) (T : Option Addr) (nt ct : Nat) (vs : List Trf.Rw) (w : World) (M : HM w (· < w.heap.size) h) (S : HS h) (hm : h.m ≤ 100) (hN : h.n ≤ 1000 ∧ ∀ r ∈ h.rs, r.n ≤ 1000) (V : Trf.Vers w T nt vs) (hnt : nt ≤ 1000) : Calls Tryz.prog 13 #[hg h, Trf.tg T nt ct] w (OfTo w h.v (vs.map Trf.Rw.v)) := by
  obtain ⟨W, hW⟩ : ∃ W, (w.alloc (.cells (hc h) 31)).alloc (.cells #[.slice T nt ct] 34) = W := ⟨_, rfl⟩
  have H0 := Lib.hid (show O2 w W h T nt ct by rw [← hW]; exact O2.start w h T nt ct)
  have HW := Lib.hid hW
  have HMM := Lib.hid M
  have HSS := Lib.hid S
  have HNN := Lib.hid hN
  have HV := Lib.hid V
  have CR := Lib.hid (rrightS h W (M.below H0.out.b) S)
  have x0 := H0.out.x.c 0
  have x1 := H0.out.x.c 1
  have x2 := H0.out.x.c 2
  have x3 := H0.out.x.c 3
  have x4 := H0.out.x.c 4
  have x5 := H0.out.x.c 5
  have x6 := H0.out.x.c 6
  have x7 := H0.out.x.c 7
  have x8 := H0.out.x.c 8
  have x9 := H0.out.x.c 9
  simp at x0 x1 x2 x3 x4 x5 x6 x7 x8 x9
  clear hW M S V hN
  obtain ⟨u, hu⟩ : ∃ u, hrt h.v = u := ⟨_, rfl⟩
  have HU := Lib.hid hu
  rw [hu] at CR
  clear hu
  go_enter Tryz.func13, Tryz.ntmps13
  go_upto_region 1 with fail
  rw [HW.out]
  clear HW
  go_wp2_with fail
  refine CR.out.mono ?_
  rintro e w1 ⟨rfl, hb1⟩
  have H1 := Lib.hid (H0.out.next hb1)
  clear hb1 CR H0 x0 x1 x2 x3 x4 x5 x6 x7 x8 x9
  cases u
  · go_wp2
    go_ret2
    exact ⟨none, 0, 0, [], 1, rfl, Sls.nil, Nat.zero_le _, .wrong HU.out rfl rfl, H1.out.b⟩
  · have CA := Lib.hid (Trf.rat T nt ct vs h.s.1 w1 (HV.out.below H1.out.b) hnt)
    have y0 := H1.out.y.c 0
    simp at y0
    have x0 := H1.out.x.c 0
    have x1 := H1.out.x.c 1
    have x2 := H1.out.x.c 2
    have x3 := H1.out.x.c 3
    have x4 := H1.out.x.c 4
    have x5 := H1.out.x.c 5
    have x6 := H1.out.x.c 6
    have x7 := H1.out.x.c 7
    have x8 := H1.out.x.c 8
    have x9 := H1.out.x.c 9
    simp at x0 x1 x2 x3 x4 x5 x6 x7 x8 x9
    go_wp2_with fail
    refine CA.out.mono ?_
    rintro e w2 ⟨r, rfl, hrv, hM, hS, hb2⟩
    have H2 := Lib.hid (H1.out.next hb2)
    have HR9 := Lib.hid hrv
    have HM2 := Lib.hid hM
    have HS2 := Lib.hid hS
    clear hb2 CA y0 x0 x1 x2 x3 x4 x5 x6 x7 x8 x9 hrv hM hS
    obtain ⟨cd, hcd⟩ : ∃ cd, Trf.cod h.s.1 (vs.map Trf.Rw.v) = cd := ⟨_, rfl⟩
    have HCD := Lib.hid hcd
    rw [hcd]
    clear hcd
    by_cases h0 : cd = 0
    · subst h0
      obtain ⟨W6, hW6⟩ : ∃ W6, w2.alloc (.cells (Trf.vc r) 58) = W6 := ⟨_, rfl⟩
      have hb6 : Below w2.heap.size w2 W6 := hW6 ▸ alloc_ _ _
      have H6 := Lib.hid (H2.out.next hb6)
      have HX6 := Lib.hid (show Bx W6 w2.heap.size 58 (Trf.vc r) from hW6 ▸ Bx.new w2 58 (Trf.vc r))
      have HM6 := Lib.hid (HM2.out.below hb6)
      have HG7 := Lib.hid (show w.heap.size + 2 ≤ w2.heap.size from H2.out.y.lt)
      obtain ⟨g7, hg7⟩ : ∃ g7, w2.heap.size = g7 := ⟨_, rfl⟩
      have HW6 := Lib.hid hW6
      rw [hg7] at HX6 HG7
      have HG7E := Lib.hid hg7
      clear hW6 hb6
      have CO := Lib.hid (rorder h W6 (HMM.out.below H6.out.b) (by omega))
      have x0 := H6.out.x.c 0
      have x1 := H6.out.x.c 1
      have x2 := H6.out.x.c 2
      have x3 := H6.out.x.c 3
      have x4 := H6.out.x.c 4
      have x5 := H6.out.x.c 5
      have x6 := H6.out.x.c 6
      have x7 := H6.out.x.c 7
      have x8 := H6.out.x.c 8
      have x9 := H6.out.x.c 9
      simp at x0 x1 x2 x3 x4 x5 x6 x7 x8 x9
      go_upto_region 5 with fail
      rw [HW6.out]
      clear H2 HM2 HW6 hg7 HG7E
      go_wp2_with fail
      refine CO.out.mono ?_
      rintro e w3 ⟨v3, rfl, ⟨O, co, o, rfl, hI, hO⟩, hb3⟩
      have H3 := Lib.hid (H6.out.next hb3)
      have HX3 := Lib.hid (HX6.out.keep hb3)
      have HM3 := Lib.hid (HM6.out.below hb3)
      have HI3 := Lib.hid hI
      have HO := Lib.hid (show Ag.Ord h.v.hs o from hO)
      have HOL := Lib.hid (show o.length = h.m from hI.1)
      clear hb3 hI hO CO x0 x1 x2 x3 x4 x5 x6 x7 x8 x9 H6 HX6 HM6
      have x0 := H3.out.x.c 0
      have x1 := H3.out.x.c 1
      have x2 := H3.out.x.c 2
      have x3 := H3.out.x.c 3
      have x4 := H3.out.x.c 4
      have x5 := H3.out.x.c 5
      have x6 := H3.out.x.c 6
      have x7 := H3.out.x.c 7
      have x8 := H3.out.x.c 8
      have x9 := H3.out.x.c 9
      simp at x0 x1 x2 x3 x4 x5 x6 x7 x8 x9
      have CH1 := Lib.hid (holds12 h O h.m co o h.s.1 w w3 H3.out.b HMM.out HNN.out HI3.out HO.out (by omega))
      go_wp2_with fail
      refine CH1.out.mono ?_
      rintro e w4 ⟨r1, rfl, hr1, hc1, hn1, hb4⟩
      obtain ⟨W5, hW5⟩ : ∃ W5, w4.alloc (.cells (vc r1) 43) = W5 := ⟨_, rfl⟩
      have hb5 : Below w4.heap.size w4 W5 := hW5 ▸ alloc_ _ _
      have hb45 : Below w3.heap.size w3 W5 := hb4.trans (hb5.mono hb4.size)
      obtain ⟨g12, hg12⟩ : ∃ g12, w4.heap.size = g12 := ⟨_, rfl⟩
      obtain ⟨base, hbase⟩ : ∃ base, W5.heap.size = base := ⟨_, rfl⟩
      have hsz : base = g12 + 1 := by rw [← hbase, ← hW5, World.size_alloc, hg12]
      have hlt7 : g7 < g12 := by rw [← hg12]; exact Nat.lt_of_lt_of_le HX3.out.lt hb4.size
      have HFJ := Lib.hid (show FJ w h r g7 g12 base h.m O o W5 none 0 0 [] r1 from
        ⟨(H3.out.next hb45).b, ⟨HG7.out, hlt7, by omega, by omega⟩, (H3.out.next hb45).x, HX3.out.keep hb45, HM3.out.keep (fun a ha => hb45.cell ha) (fun b hb => by rw [← hg12]; exact Nat.lt_of_lt_of_le hb hb4.size), HI3.out.keep (fun a ha => hb45.cell ha) (fun b hb => by rw [← hg12]; exact Nat.lt_of_lt_of_le hb hb4.size), by rw [← hg12, ← hW5]; exact Bx.new _ _ _, Own.nil, (fun r h => by cases h), hc1, hn1⟩)
      have HRS := Lib.hid (ordl_rise HO.out)
      have HIN := Lib.hid (ordl_in HO.out HU.out)
      have hlen : (ordl h.v.hs o).length = h.m := by rw [ordl_len]; exact HOL.out
      have HLEN := Lib.hid hlen
      have HFR := Lib.hid (show Fr (ini h.v) (ordl h.v.hs o) h.s 0 h.s.1 [] from Fr.start ((Sp.has_iff _).1 (hrt_has HU.out)).2.1 (fun c hc => (HIN.out c hc).1))
      have HNW := Lib.hid (show r1.v = ⟨(0, 0), hld (ini h.v) (ordl h.v.hs o) h.s.1, 0⟩ from hr1)
      have HW5 := Lib.hid hW5
      have HG12E := Lib.hid hg12
      clear hb4 CH1 x0 x1 x2 x3 x4 x5 x6 x7 x8 x9 hr1 hc1 hn1 hW5 hb5 hb45 hbase hsz hlt7 hlen H3 HX3 HM3 HI3 H1
      go_upto_region 11 with fail
      rw [HW5.out]
      clear HW5 HG12E hg12
      go_wp2
      go_loopw [10, 11, 13] (fun s10 s11 vi w' => ∃ (k : Nat) (f : Int) (W : World) (A : Option Addr) (n c : Nat) (rs : List Rw) (nw : Rw) (L : List (Sp × Hd)), k ≤ h.m ∧ s10 = .slice A n c ∧ s11 = .int .i64 f ∧ vi = .int .i64 (k : Int) ∧ W = w' ∧ n ≤ k ∧ Hid (FJ w h r g7 g12 base h.m O o W A n c rs nw) ∧ Hid (Fr (ini h.v) (ordl h.v.hs o) h.s k f L) ∧ Hid (rs.map Rw.v = L.map noy) ∧ Hid (nw.v.h = hld (ini h.v) (ordl h.v.hs o) f ∧ nw.v.y = 0)) (fun _ _ vi _ => h.m - (intOf vi).toNat)
      case atStart => exact ⟨0, h.s.1, _, none, 0, 0, [], r1, [], Nat.zero_le _, rfl, rfl, rfl, rfl, Nat.le_refl _, HFJ, HFR, Lib.hid rfl, Lib.hid ⟨by rw [HNW.out], by rw [HNW.out]⟩⟩
      case round =>
        obtain ⟨k, f, W, A, n, c, rs, nw, L, hk, rfl, rfl, rfl, rfl, hnk, HJ, HF, HMAP, HN⟩ := hrel
        clear HFJ HFR HNW
        by_cases hlt : k < h.m
        · obtain ⟨aO, rfl, hbO, hcO⟩ := HJ.out.i.2 (by omega)
          have hol := HOL.out
          obtain ⟨x, hox⟩ : ∃ x, o[k]? = some x := ⟨o[k]'(by omega), List.getElem?_eq_getElem (by omega)⟩
          obtain ⟨hx0, hx1⟩ := ord_at HO.out (List.mem_of_getElem? hox)
          obtain ⟨i, rfl⟩ := Int.eq_ofNat_of_zero_le hx0
          have hcx := hcO k _ hox
          have hhs : h.v.hs.length = h.m := by show (h.rs.map Tm.Rw.v).length = _; rw [List.length_map]; exact HMM.out.r.1
          have hi : i < h.m := by omega
          have hi2 : (i : Int) < (h.m : Int) := by omega
          have hlt2 : (k : Int) < (h.m : Int) := by omega
          obtain ⟨aB, r2, hB, hbB, hr2, N, hcv, hv⟩ := HMM.out.get hi
          obtain ⟨day, hday⟩ : ∃ day, r2.v.dy = day := ⟨_, rfl⟩
          have HV2 := Lib.hid (show (ordl h.v.hs o)[k]? = some r2.v from ordl_get hox (by rw [Int.toNat_natCast]; exact hv))
          have HDAY := Lib.hid hday
          have hHB := Lib.hid hB
          have hnb : n ≤ 100 := by omega
          have k9 : ∀ p : Ext W, p.W.cell? ⟨w.heap.size, 9, none⟩ = some (.slice (some aB) h.m h.d) := fun p => by rw [← hB]; exact HJ.out.x.ext p 9
          have hlo := HJ.out.lo
          have kX : ∀ p : Ext W, p.W.cell? (aO.add k) = some (.int .i64 ((i : Nat) : Int)) := fun p => (p.b.cell (by rw [add_block]; have : aO.block < g12 := hbO; omega)).trans hcx
          have kd : ∀ p : Ext W, p.W.cell? ⟨(aB.add (i * 9)).block, (aB.add (i * 9)).off + 1, none⟩ = some (.int .i64 day) := fun p => by rw [← hday]; exact ((HJ.out.b.trans (p.b.mono HJ.out.b.size)).cell (p := ⟨(aB.add (i * 9)).block, (aB.add (i * 9)).off + 1, none⟩) (by show (aB.add (i * 9)).block < _; rw [add_block]; exact hbB)).trans N.c1
          clear hbO hcO hox hx0 hx1 hcx hhs hB hbB hr2 N hcv hv hday hlo hol
          go_upto_region 14 with fail
          have ne : Nonempty (Ext W) := ⟨⟨W, Below.refl _ _⟩⟩
          refine quietE (by kernel_rfl) (by kernel_rfl) ?_
          repeat (first | go_big_quiet_skip | quiet_step (fail))
          refine wpQuiet_nil ?_
          rintro _ ⟨p2, rfl⟩
          clear k9 kX kd ne
          have HJ2 := Lib.hid (HJ.out.next p2.b)
          generalize p2.W = w2' at HJ2 ⊢
          clear HJ
          have CH2 := Lib.hid (holds12 h (some aO) h.m co o day w w2' HJ2.out.b HMM.out HNN.out (HJ2.out.i.keep (fun _ _ => rfl) (fun b hb => by have := HJ2.out.lo; omega)) HO.out (by omega))
          have x0 := HJ2.out.x.c 0
          have x1 := HJ2.out.x.c 1
          have x2 := HJ2.out.x.c 2
          have x3 := HJ2.out.x.c 3
          have x4 := HJ2.out.x.c 4
          have x5 := HJ2.out.x.c 5
          have x6 := HJ2.out.x.c 6
          have x7 := HJ2.out.x.c 7
          have x8 := HJ2.out.x.c 8
          have x9 := HJ2.out.x.c 9
          simp at x0 x1 x2 x3 x4 x5 x6 x7 x8 x9
          go_wp2_with fail
          refine CH2.out.mono ?_
          rintro e w3' ⟨q, rfl, hqv, hqc, hqn, hb3⟩
          obtain ⟨W4, hW4⟩ : ∃ W4, w3'.alloc (.cells (vc q) 43) = W4 := ⟨_, rfl⟩
          have hb4 : Below w3'.heap.size w3' W4 := hW4 ▸ alloc_ _ _
          have hb34 := hb3.trans (hb4.mono hb3.size)
          have HJ4 := Lib.hid (HJ2.out.next hb34)
          obtain ⟨g15, hg15⟩ : ∃ g15, w3'.heap.size = g15 := ⟨_, rfl⟩
          have HQ4 := Lib.hid (show Bx W4 g15 43 (vc q) by rw [← hg15, ← hW4]; exact Bx.new _ _ _)
          have HQV := Lib.hid hqv
          have HQG := Lib.hid (And.intro hqc hqn)
          have HG15 := Lib.hid (show base ≤ g15 ∧ ∀ b, (Value.slice A n c).ownBlock = some b → b < g15 from ⟨by have := HJ2.out.lo; have := hb3.size; omega, fun b hb => by have := (HJ2.out.o.lt b hb).2; have := hb3.size; omega⟩)
          have HW4 := Lib.hid hW4
          have HG15E := Lib.hid hg15
          have CL := Lib.hid (like_ nw q W4 HJ4.out.good ⟨hqc.keep (fun a ha => HJ4.out.b.cell ha) (fun b hb => Nat.lt_of_lt_of_le hb HJ4.out.b.size), Nat.le_trans hqn (by omega)⟩)
          obtain ⟨u, hu⟩ : ∃ u, decide (nw.v.h = q.v.h) = u := ⟨_, rfl⟩
          rw [hu] at CL
          have HUU := Lib.hid hu
          clear hb3 CH2 x0 x1 x2 x3 x4 x5 x6 x7 x8 x9 hqv hqc hqn hW4 hb4 hb34 hu
          go_upto_region 16 with fail
          rw [HW4.out]
          clear HW4 HG15E hg15 HJ2
          have y0 := HJ4.out.y.c 0
          have y1 := HJ4.out.y.c 1
          have y2 := HJ4.out.y.c 2
          have y3 := HJ4.out.y.c 3
          have y4 := HJ4.out.y.c 4
          have y5 := HJ4.out.y.c 5
          have y6 := HJ4.out.y.c 6
          have y7 := HJ4.out.y.c 7
          have y8 := HJ4.out.y.c 8
          simp at y0 y1 y2 y3 y4 y5 y6 y7 y8
          have z0 := HQ4.out.c 0
          have z1 := HQ4.out.c 1
          have z2 := HQ4.out.c 2
          have z3 := HQ4.out.c 3
          have z4 := HQ4.out.c 4
          have z5 := HQ4.out.c 5
          have z6 := HQ4.out.c 6
          have z7 := HQ4.out.c 7
          have z8 := HQ4.out.c 8
          simp at z0 z1 z2 z3 z4 z5 z6 z7 z8
          go_wp2_with fail
          refine CL.out.mono ?_
          rintro e w5' ⟨rfl, hb5⟩
          have HJ5 := Lib.hid (HJ4.out.next hb5)
          have HQ5 := Lib.hid (HQ4.out.keep hb5)
          clear hb5 CL y0 y1 y2 y3 y4 y5 y6 y7 y8 z0 z1 z2 z3 z4 z5 z6 z7 z8 HJ4 HQ4
          cases u
          · have HF2 := Lib.hid (HF.out.more HRS.out HV2.out (HIN.out r2.v (List.mem_of_getElem? HV2.out)).2 (by rw [← HN.out.1, HDAY.out]; have := of_decide_eq_false HUU.out; rw [HQV.out] at this; exact this))
            rw [HDAY.out] at HF2
            have hy := HJ5.out.y.f
            have y0 := HJ5.out.y.c 0
            have y1 := HJ5.out.y.c 1
            have y2 := HJ5.out.y.c 2
            have y3 := HJ5.out.y.c 3
            have y4 := HJ5.out.y.c 4
            have y5 := HJ5.out.y.c 5
            have y6 := HJ5.out.y.c 6
            have y7 := HJ5.out.y.c 7
            have y8 := HJ5.out.y.c 8
            simp at y0 y1 y2 y3 y4 y5 y6 y7 y8
            obtain ⟨W6', hW6'⟩ : ∃ W6', sets g12 0 [.int .i64 f, .int .i64 day] w5' = W6' := ⟨_, rfl⟩
            have HJ6 := Lib.hid (show FJ w h r g7 g12 base h.m (some aO) o W6' A n c rs (Rw.mk ⟨(f, day), nw.v.h, nw.v.y⟩ nw.A nw.n nw.c) by rw [← hW6']; exact HJ5.out.sety [.int .i64 f, .int .i64 day] (by rw [setl2]) HJ5.out.cv HJ5.out.nn)
            have HQ6 := Lib.hid (show Bx W6' g15 43 (vc q) by rw [← hW6']; exact HQ5.out.sets_far (by have := HG15.out.1; have := HJ5.out.lo; omega) _ _)
            have HW6' := Lib.hid (show (w5'.setCell ⟨g12, 0, none⟩ (.int .i64 f)).setCell ⟨g12, 1, none⟩ (.int .i64 day) = W6' from hW6')
            clear hW6'
            go_upto_region 18 with fail
            rw [HW6'.out]
            clear HW6' y0 y1 y2 y3 y4 y5 y6 y7 y8 hy HJ5 HQ5
            have y0 := HJ6.out.y.c 0
            have y1 := HJ6.out.y.c 1
            have y2 := HJ6.out.y.c 2
            have y3 := HJ6.out.y.c 3
            have y4 := HJ6.out.y.c 4
            have y5 := HJ6.out.y.c 5
            have y6 := HJ6.out.y.c 6
            have y7 := HJ6.out.y.c 7
            have y8 := HJ6.out.y.c 8
            simp at y0 y1 y2 y3 y4 y5 y6 y7 y8
            have KQ := Lib.hid (show ∀ w5 : World, (W6'.alloc (.cells (vc (Rw.mk ⟨(f, day), nw.v.h, nw.v.y⟩ nw.A nw.n nw.c)) 43)).grownBy w5 (Value.slice A n c).ownBlock → Bx w5 g15 43 (vc q) ∧ Bx w5 g12 43 (vc (Rw.mk ⟨(f, day), nw.v.h, nw.v.y⟩ nw.A nw.n nw.c)) from fun w5 hg5 => by
              have hal := alloc_ W6' (.cells (vc (Rw.mk ⟨(f, day), nw.v.h, nw.v.y⟩ nw.A nw.n nw.c)) 43)
              exact ⟨(hg5.block g15 (HQ6.out.keep hal).lt (fun e => by have := HG15.out.2 g15 e.symm; omega)).trans (HQ6.out.keep hal), (hg5.block g12 (HJ6.out.y.keep hal).lt (fun e => by have := (HJ6.out.o.lt g12 e.symm).1; have := HJ6.out.lo; omega)).trans (HJ6.out.y.keep hal)⟩)
            go_wp2_with (at_builtin; refine wpList_app _ rfl _ _ rfl base A n c rs rfl (HJ6.out.o.below (alloc_ _ _)) (fun b => W6'.heap.size ≤ b ∧ b < (W6'.alloc (.cells (vc (Rw.mk ⟨(f, day), nw.v.h, nw.v.y⟩ nw.A nw.n nw.c)) 43)).heap.size) (some ⟨W6'.heap.size, 0, none⟩) 1 1 [(Rw.mk ⟨(f, day), nw.v.h, nw.v.y⟩ nw.A nw.n nw.c)] rfl (raws_one W6' (Rw.mk ⟨(f, day), nw.v.h, nw.v.y⟩ nw.A nw.n nw.c)) (fun e => by cases e) (n + 1) rfl (by have := hnb; omega) (by have := HJ6.out.lo.2.2.2; simp; omega) ?_; intro A5 c5 w5 hO5 hg5; have HO5 := Lib.hid hO5; have HG5 := Lib.hid hg5; clear hO5 hg5; have hq7 := (KQ.out w5 HG5.out).1; have hy7 := (KQ.out w5 HG5.out).2; have fy := hy7.f; have z0 := hq7.c 0; have v0 := hy7.c 0; have z1 := hq7.c 1; have v1 := hy7.c 1; have z2 := hq7.c 2; have v2 := hy7.c 2; have z3 := hq7.c 3; have v3 := hy7.c 3; have z4 := hq7.c 4; have v4 := hy7.c 4; have z5 := hq7.c 5; have v5 := hy7.c 5; have z6 := hq7.c 6; have v6 := hy7.c 6; have z7 := hq7.c 7; have v7 := hy7.c 7; have z8 := hq7.c 8; have v8 := hy7.c 8; simp at z0 z1 z2 z3 z4 z5 z6 z7 z8 v0 v1 v2 v3 v4 v5 v6 v7 v8; clear hq7 hy7)
            have hal := alloc_ W6' (.cells (vc (Rw.mk ⟨(f, day), nw.v.h, nw.v.y⟩ nw.A nw.n nw.c)) 43)
            have HJ7 := Lib.hid ((HJ6.out.next hal).app HO5.out HG5.out (fun r hr => by
              rcases List.mem_append.1 hr with hr | hr
              · exact HJ6.out.k r hr
              · rw [List.mem_singleton] at hr; subst hr; exact ⟨HJ6.out.cv, HJ6.out.nn⟩))
            have HQ7 := Lib.hid (show Bx w5 g15 43 (vc q) from (HG5.out.block g15 (HQ6.out.keep hal).lt (fun e => by have := HG15.out.2 g15 e.symm; omega)).trans (HQ6.out.keep hal))
            have HMAP2 := Lib.hid (show (rs ++ [(Rw.mk ⟨(f, day), nw.v.h, nw.v.y⟩ nw.A nw.n nw.c)]).map Rw.v = (L ++ [((f, day), hld (ini h.v) (ordl h.v.hs o) f)]).map noy by rw [List.map_append, List.map_append, HMAP.out, ← HN.out.1]; show _ ++ [Sc.mk (f, day) nw.v.h nw.v.y] = _; rw [HN.out.2]; rfl)
            clear hal y0 y1 y2 y3 y4 y5 y6 y7 y8 z0 z1 z2 z3 z4 z5 z6 z7 z8 v0 v1 v2 v3 v4 v5 v6 v7 v8 HJ6 HQ6 HO5 HG5
            have HJ8 := Lib.hid (HJ7.out.sety [.int .i64 q.v.s.1, .int .i64 q.v.s.2, .bool q.v.h.on, .int .i64 q.v.h.r.k, .int .i64 q.v.h.r.v, .int .i64 q.v.h.r.a, .int .i64 q.v.h.r.z, .slice q.A q.n q.c, .int .i64 q.v.y] (nw' := q) (by rw [setl9]) HQG.out.1 HQG.out.2)
            clear HJ7 HQ7 KQ fy
            try go_wp2
            go_roundw
            case rel => exact ⟨k + 1, day, _, A5, n + 1, c5, _, q, _, by omega, rfl, rfl, by go_num, rfl, by omega, HJ8, HF2, HMAP2, Lib.hid ⟨by rw [HQV.out], by rw [HQV.out]⟩⟩
            case measure => simp [intOf]; omega
          · have HF2 := Lib.hid (HF.out.same HRS.out HV2.out (by rw [← HN.out.1, HDAY.out]; have := of_decide_eq_true HUU.out; rw [HQV.out] at this; exact this))
            clear HQ5
            go_wp2
            go_roundw
            case rel => exact ⟨k + 1, f, _, A, n, c, rs, nw, L, by omega, rfl, rfl, by go_num, rfl, by omega, HJ5, HF2, HMAP, HN⟩
            case measure => simp [intOf]; omega
        · obtain rfl : k = h.m := by omega
          have HCU := Lib.hid (HF.out.done (Nat.le_of_eq HLEN.out))
          have hy := HJ.out.y.f
          have hnb : n ≤ 100 := by omega
          have y0 := HJ.out.y.c 0
          have y1 := HJ.out.y.c 1
          have y2 := HJ.out.y.c 2
          have y3 := HJ.out.y.c 3
          have y4 := HJ.out.y.c 4
          have y5 := HJ.out.y.c 5
          have y6 := HJ.out.y.c 6
          have y7 := HJ.out.y.c 7
          have y8 := HJ.out.y.c 8
          simp at y0 y1 y2 y3 y4 y5 y6 y7 y8
          have x0 := HJ.out.x.c 0
          have x1 := HJ.out.x.c 1
          have x2 := HJ.out.x.c 2
          have x3 := HJ.out.x.c 3
          have x4 := HJ.out.x.c 4
          have x5 := HJ.out.x.c 5
          have x6 := HJ.out.x.c 6
          have x7 := HJ.out.x.c 7
          have x8 := HJ.out.x.c 8
          have x9 := HJ.out.x.c 9
          simp at x0 x1 x2 x3 x4 x5 x6 x7 x8 x9
          obtain ⟨W6', hW6'⟩ : ∃ W6', sets g12 0 [.int .i64 f, .int .i64 h.s.2] W = W6' := ⟨_, rfl⟩
          have HJ6 := Lib.hid (show FJ w h r g7 g12 base h.m O o W6' A n c rs (Rw.mk ⟨(f, h.s.2), nw.v.h, nw.v.y⟩ nw.A nw.n nw.c) by rw [← hW6']; exact HJ.out.sety [.int .i64 f, .int .i64 h.s.2] (by rw [setl2]) HJ.out.cv HJ.out.nn)
          have HW6' := Lib.hid (show (W.setCell ⟨g12, 0, none⟩ (.int .i64 f)).setCell ⟨g12, 1, none⟩ (.int .i64 h.s.2) = W6' from hW6')
          clear hW6'
          go_upto_region 22 with fail
          rw [HW6'.out]
          clear HW6' y0 y1 y2 y3 y4 y5 y6 y7 y8 x0 x1 x2 x3 x4 x5 x6 x7 x8 x9 hy HJ
          have y0 := HJ6.out.y.c 0
          have y1 := HJ6.out.y.c 1
          have y2 := HJ6.out.y.c 2
          have y3 := HJ6.out.y.c 3
          have y4 := HJ6.out.y.c 4
          have y5 := HJ6.out.y.c 5
          have y6 := HJ6.out.y.c 6
          have y7 := HJ6.out.y.c 7
          have y8 := HJ6.out.y.c 8
          simp at y0 y1 y2 y3 y4 y5 y6 y7 y8
          go_wp2_with (at_builtin; refine wpList_app _ rfl _ _ rfl base A n c rs rfl (HJ6.out.o.below (alloc_ _ _)) (fun b => W6'.heap.size ≤ b ∧ b < (W6'.alloc (.cells (vc (Rw.mk ⟨(f, h.s.2), nw.v.h, nw.v.y⟩ nw.A nw.n nw.c)) 43)).heap.size) (some ⟨W6'.heap.size, 0, none⟩) 1 1 [(Rw.mk ⟨(f, h.s.2), nw.v.h, nw.v.y⟩ nw.A nw.n nw.c)] rfl (raws_one W6' (Rw.mk ⟨(f, h.s.2), nw.v.h, nw.v.y⟩ nw.A nw.n nw.c)) (fun e => by cases e) (n + 1) rfl (by have := hnb; omega) (by have := HJ6.out.lo.2.2.2; simp; omega) ?_; intro A5 c5 w5 hO5 hg5; have HO5 := Lib.hid hO5; have HG5 := Lib.hid hg5; clear hO5 hg5)
          have hal := alloc_ W6' (.cells (vc (Rw.mk ⟨(f, h.s.2), nw.v.h, nw.v.y⟩ nw.A nw.n nw.c)) 43)
          obtain ⟨rs0, hrs0⟩ : ∃ rs0, rs ++ [(Rw.mk ⟨(f, h.s.2), nw.v.h, nw.v.y⟩ nw.A nw.n nw.c)] = rs0 := ⟨_, rfl⟩
          obtain ⟨K, hK⟩ : ∃ K, L ++ [((f, h.s.2), hld (ini h.v) (ordl h.v.hs o) f)] = K := ⟨_, rfl⟩
          have HJ7 := Lib.hid (show FJ w h r g7 g12 base h.m O o w5 A5 (n + 1) c5 rs0 (Rw.mk ⟨(f, h.s.2), nw.v.h, nw.v.y⟩ nw.A nw.n nw.c) by
            rw [← hrs0]
            refine (HJ6.out.next hal).app HO5.out HG5.out (fun r hr => ?_)
            rcases List.mem_append.1 hr with hr | hr
            · exact HJ6.out.k r hr
            · rw [List.mem_singleton] at hr; subst hr; exact ⟨HJ6.out.cv, HJ6.out.nn⟩)
          obtain ⟨qq, hqq⟩ : ∃ qq : Ri → List Co → Int × Int, qf r.v = qq := ⟨_, rfl⟩
          have HMAP2 := Lib.hid (show rs0.map Rw.v = st qq K 0 by
            rw [← hrs0, ← hK, st_zero, List.map_append, List.map_append, HMAP.out, ← HN.out.1]
            show _ ++ [Sc.mk (f, h.s.2) nw.v.h nw.v.y] = _
            rw [HN.out.2]; rfl)
          have HCK := Lib.hid (show Cutd (hld (ini h.v) (ordl h.v.hs o)) h.s.1 h.s.2 K by rw [← hK]; exact HCU.out)
          obtain ⟨nn, hnn⟩ : ∃ nn, n + 1 = nn := ⟨_, rfl⟩
          rw [hnn] at HJ7 ⊢
          have hnb2 : nn ≤ 101 := by omega
          have HKL := Lib.hid (show K.length = nn by
            have h1 := HJ7.out.o.len
            have h2 := congrArg List.length HMAP2.out
            rw [st_zero, List.length_map, List.length_map] at h2
            omega)
          have HQQ := Lib.hid hqq
          have HQY := Lib.hid (show ∀ x cs, Qm.yr (Qm.qd r.v x) 0 cs = qq x cs from fun x cs => by rw [← hqq]; rfl)
          clear hal y0 y1 y2 y3 y4 y5 y6 y7 y8 HJ6 HO5 HG5 hrs0 hK hnn hqq HCU HMAP HN HF hnb
          go_wp2
          go_loopw [16] (fun vi w' => ∃ (i : Nat) (W : World) (rs : List Rw), i ≤ nn ∧ vi = .int .i64 (i : Int) ∧ W = w' ∧ Hid (FJ w h r g7 g12 base h.m O o W A5 nn c5 rs (Rw.mk ⟨(f, h.s.2), nw.v.h, nw.v.y⟩ nw.A nw.n nw.c)) ∧ Hid (rs.map Rw.v = st qq K i) ∧ Hid (bad qq K = bad qq (K.drop i))) (fun vi _ => nn - (intOf vi).toNat)
          case atStart => exact ⟨0, _, rs0, Nat.zero_le _, rfl, rfl, HJ7, HMAP2, Lib.hid (by rw [List.drop_zero])⟩
          case round =>
            obtain ⟨i, W, rs, hi, rfl, rfl, HJ, HMAP, HBAD⟩ := hrel
            clear HJ7 HMAP2
            by_cases hlt : i < nn
            · have hlt2 : (i : Int) < (nn : Int) := by omega
              obtain ⟨g, rfl, hg1, hg2⟩ := HJ.out.o.form (by omega)
              have hrl := HJ.out.o.len
              obtain ⟨r2, hr2⟩ : ∃ r2, rs[i]? = some r2 := ⟨rs[i]'(by omega), List.getElem?_eq_getElem (by omega)⟩
              have hkl := HKL.out
              obtain ⟨x, hx⟩ : ∃ x, K[i]? = some x := ⟨K[i]'(by omega), List.getElem?_eq_getElem (by omega)⟩
              have HV := Lib.hid (st_get hx HMAP.out hr2)
              have HX := Lib.hid hx
              have HR := Lib.hid hr2
              have HDR := Lib.hid (bad_drop (q := qq) hx)
              have N := HJ.out.o.raws.at hr2
              obtain ⟨c0, c1, c2, c3, c4, c5', c6, c7, c8⟩ := N
              simp only at c1 c2 c3 c4 c5' c6 c7 c8
              have hron : r2.v.h.on = x.2.on := by rw [HV.out]
              clear hr2 hx hrl hkl
              cases hon : x.2.on
              · have HMAP2 := Lib.hid (show rs.map Rw.v = st qq K (i + 1) by rw [st_off HX.out hon]; exact HMAP.out)
                have HBAD2 := Lib.hid (show bad qq K = bad qq (K.drop (i + 1)) by rw [HBAD.out, HDR.out, bad_off hon])
                rw [hron, hon] at c2
                clear hron hon
                go_wp2
                go_roundw
                case rel => exact ⟨i + 1, W, rs, by omega, by go_num, rfl, HJ, HMAP2, HBAD2⟩
                case measure => simp [intOf]; omega
              · rw [hron, hon] at c2
                have HON := Lib.hid hon
                have HRK := Lib.hid (HJ.out.k r2 (List.mem_of_getElem? HR.out))
                have hlo := HJ.out.lo
                have CY := fun p : Ext W => Lib.hid (Qo.ryear (qv r) r2.v.h.r r2.A r2.n r2.c r2.v.h.cs p.W (vmean (HJ.out.m.keep (fun a ha => p.b.cell (by have := hlo; omega)) (fun b hb => by have := p.b.size; omega))) (vlow HS2.out) (qcvs (HRK.out.1.keep (fun a ha => (HJ.out.b.trans (p.b.mono HJ.out.b.size)).cell ha) (fun b hb => Nat.lt_of_lt_of_le hb (Nat.le_trans HJ.out.b.size p.b.size)))) HRK.out.2)
                rw [HQY.out] at CY
                have HRX := Lib.hid (show qq r2.v.h.r r2.v.h.cs = qq x.2.r x.2.cs by rw [HV.out])
                rw [HRX.out] at CY
                obtain ⟨a, hqa⟩ : ∃ a, qq x.2.r x.2.cs = a := ⟨_, rfl⟩
                rw [hqa] at CY
                obtain ⟨cost, cd⟩ := a
                have HQA := Lib.hid hqa
                have N : ∀ p : Ext W, Nin p.W ⟨g, i * 9, none⟩ r2 := fun p => ((HJ.out.o.below p.b).raws).at HR.out
                have n3 : ∀ p : Ext W, p.W.cell? ⟨g, i * 9 + 3, none⟩ = _ := fun p => (N p).c3
                have n4 : ∀ p : Ext W, p.W.cell? ⟨g, i * 9 + 4, none⟩ = _ := fun p => (N p).c4
                have n5 : ∀ p : Ext W, p.W.cell? ⟨g, i * 9 + 5, none⟩ = _ := fun p => (N p).c5
                have n6 : ∀ p : Ext W, p.W.cell? ⟨g, i * 9 + 6, none⟩ = _ := fun p => (N p).c6
                have n7 : ∀ p : Ext W, p.W.cell? ⟨g, i * 9 + 7, none⟩ = _ := fun p => (N p).c7
                have v0 : ∀ p : Ext W, p.W.cell? ⟨g7, 0, none⟩ = some (.int .i64 r.v.fr) := fun p => HJ.out.v.ext p 0
                have v1 : ∀ p : Ext W, p.W.cell? ⟨g7, 1, none⟩ = some (.int .i64 r.v.b0) := fun p => HJ.out.v.ext p 1
                have v2 : ∀ p : Ext W, p.W.cell? ⟨g7, 2, none⟩ = some (.int .i64 r.v.b1) := fun p => HJ.out.v.ext p 2
                have v3 : ∀ p : Ext W, p.W.cell? ⟨g7, 3, none⟩ = some (.int .i64 r.v.b2) := fun p => HJ.out.v.ext p 3
                have v4 : ∀ p : Ext W, p.W.cell? ⟨g7, 4, none⟩ = some (.int .i64 r.v.b3) := fun p => HJ.out.v.ext p 4
                have v5 : ∀ p : Ext W, p.W.cell? ⟨g7, 5, none⟩ = some (.slice r.A r.la r.ca) := fun p => HJ.out.v.ext p 5
                have v6 : ∀ p : Ext W, p.W.cell? ⟨g7, 6, none⟩ = some (.slice r.Z r.lz r.cz) := fun p => HJ.out.v.ext p 6
                have v7 : ∀ p : Ext W, p.W.cell? ⟨g7, 7, none⟩ = some (.slice r.P r.lp r.cp) := fun p => HJ.out.v.ext p 7
                have v8 : ∀ p : Ext W, p.W.cell? ⟨g7, 8, none⟩ = some (.int .i64 r.v.mn) := fun p => HJ.out.v.ext p 8
                clear hqa hron hon N hlo
                go_upto_region 27 with fail
                have ne : Nonempty (Ext W) := ⟨⟨W, Below.refl _ _⟩⟩
                refine quietE (by kernel_rfl) (by kernel_rfl) ?_
                repeat (first | go_big_quiet_skip | quiet_step (first
                  | (go_at_call 33; with_reducible exact ext_of (CY _).out)
                  | fail))
                refine wpQuiet_nil ?_
                rintro _ ⟨p, rfl⟩
                have HJ3 := Lib.hid (HJ.out.next p.b)
                generalize p.W = w3 at HJ3 ⊢
                clear CY ne n3 n4 n5 n6 n7 v0 v1 v2 v3 v4 v5 v6 v7 v8 c0 c1 c2 c3 c4 c5' c6 c7 c8 HJ
                by_cases hcd : cd = 0
                · subst hcd
                  have N := HJ3.out.o.raws.at HR.out
                  have c8 := N.c8
                  simp only at c8
                  have fg := HJ3.out.o.frozen
                  clear N
                  have HJ4 := Lib.hid (HJ3.out.setc HR.out cost)
                  have HMAP2 := Lib.hid (show (rs.set i (r2.setY cost)).map Rw.v = st qq K (i + 1) by have := st_set HX.out HMAP.out HR.out HON.out; rwa [HQA.out] at this)
                  have HBAD2 := Lib.hid (show bad qq K = bad qq (K.drop (i + 1)) by rw [HBAD.out, HDR.out, bad_ok (by rw [HQA.out])])
                  go_wp2
                  go_roundw
                  case rel => exact ⟨i + 1, _, _, by omega, by go_num, rfl, HJ4, HMAP2, HBAD2⟩
                  case measure => simp [intOf]; omega
                · have t1 : decide (cd = 0) = false := decide_eq_false hcd
                  have HBD := Lib.hid (show bad qq K = cd by rw [HBAD.out, HDR.out, bad_is HON.out (by rw [HQA.out]; exact hcd), HQA.out])
                  have HNE := Lib.hid hcd
                  have HVV := Lib.hid (show qf (Trf.tol h.v.s.1 (vs.map Trf.Rw.v)) = qq by rw [← HQQ.out, HR9.out]; rfl)
                  go_wp2
                  go_ret2
                  exact ⟨none, 0, 0, [], cd, rfl, Sls.nil, Nat.zero_le _, .some HU.out HCD.out o K HO.out HCK.out (by rw [HVV.out]; exact HBD.out.symm) (by rw [HVV.out, HBD.out, if_neg HNE.out]; rfl), HJ3.out.b⟩
            · obtain rfl : i = nn := by omega
              have HBD := Lib.hid (show bad qq K = 0 by rw [HBAD.out, List.drop_of_length_le (Nat.le_of_eq HKL.out)]; rfl)
              have HVV := Lib.hid (show qf (Trf.tol h.v.s.1 (vs.map Trf.Rw.v)) = qq by rw [← HQQ.out, HR9.out]; rfl)
              go_wp2
              go_ret2
              exact ⟨A5, i, c5, rs, 0, rfl, HJ.out.sls, by omega, .some HU.out HCD.out o K HO.out HCK.out (by rw [HVV.out]; exact HBD.out.symm) (by rw [HVV.out, if_pos HBD.out, HMAP.out, st_end (Nat.le_of_eq HKL.out)]), HJ.out.b⟩
    · have t1 : decide (cd = 0) = false := decide_eq_false h0
      have HNE := Lib.hid h0
      go_wp2
      go_ret2
      exact ⟨none, 0, 0, [], cd, rfl, Sls.nil, Nat.zero_le _, .none HU.out (by rw [show h.v.s = h.s from rfl, HCD.out]; exact HNE.out) HCD.out.symm rfl, H2.out.b.alloc H2.out.b.size _⟩

end Slc
end Go.Proofs.YtkdhcloaeifbdaaGreat
