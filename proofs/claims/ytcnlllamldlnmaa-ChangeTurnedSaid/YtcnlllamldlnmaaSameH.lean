/-
  The document's Same of two histories that mean the same. Conditions: those of each theorem.
-/
import Derived.Test.YtcnlllamldlnmaaSame
import Derived.BigQuiet
namespace Go.Proofs.Ytcnlllamldlnmaa
open Go.RowKit Ba Cv Sp Te Ag
namespace Tm
set_option linter.unusedVariables false

abbrev hcx (id bk : Int) (s : Sp) (r : Ri) (A : Option Addr) (n c : Nat) (B : Option Addr) (m d : Nat) : Array Value := #[.int .i64 id, .int .i64 bk, .int .i64 s.1, .int .i64 s.2, .int .i64 r.k, .int .i64 r.v, .int .i64 r.a, .int .i64 r.z, .slice A n c, .slice B m d]
theorem Nin.ext {w : World} {a : Addr} {r : Rw} (h : Nin w a r) (hb : a.block < w.heap.size) (p : Ext w) : Nin p.W a r := h.keep fun q hq => p.b.cell (by rw [hq]; exact hb)
theorem rv_get {rs : List Rw} {k : Nat} {r : Rw} (h : rs[k]? = some r) : (rs.map Rw.v)[k]? = some r.v := by rw [List.getElem?_map, h]; rfl

set_option maxRecDepth 100000 in
set_option maxHeartbeats 8000000 in
theorem same0 (id bk : Int) (s : Sp) (r : Ri) (A A2 : Option Addr) (n c c2 : Nat) (cs : List Co) (B B2 : Option Addr) (m d d2 : Nat) (rs rs2 : List Rw) (w : World)
    (hS : Cvs w (· < w.heap.size) A n cs) (hS2 : Cvs w (· < w.heap.size) A2 n cs) (hR : Raws w (· < w.heap.size) B m rs) (hR2 : Raws w (· < w.heap.size) B2 m rs2)
    (hK : ∀ r ∈ rs, Cvs w (· < w.heap.size) r.A r.n r.v.cs) (hK2 : ∀ r ∈ rs2, Cvs w (· < w.heap.size) r.A r.n r.v.cs) (he : rs2.map Rw.v = rs.map Rw.v)
    (hn : n ≤ maxLen) (hm : m ≤ maxLen) (hk : ∀ r ∈ rs, r.n ≤ maxLen) :
    Calls Try.prog 18 #[.agg (hcx id bk s r A n c B m d), .agg (hcx id bk s r A2 n c2 B2 m d2)] w (Yes w true) := by
  obtain ⟨W, hW⟩ : ∃ W, (w.alloc (.cells (hcx id bk s r A n c B m d) 33)).alloc (.cells (hcx id bk s r A2 n c2 B2 m d2) 33) = W := ⟨_, rfl⟩
  have H0 := Lib.hid (show Two 33 (hcx id bk s r A n c B m d) (hcx id bk s r A2 n c2 B2 m d2) w W by rw [← hW]; exact Two.start _ _ _ w)
  have CT := Lib.hid (same_terms s r A A2 n c c2 cs W (hS.below H0.out.b) (hS2.below H0.out.b) hn)
  have HS := Lib.hid hR
  have HS2 := Lib.hid hR2
  have HK1 := Lib.hid hK
  have HK2 := Lib.hid hK2
  have HE := Lib.hid he
  have HKN := Lib.hid hk
  have HW := Lib.hid hW
  unfold maxLen at hm
  clear hW hS hS2 hn hR hR2 hK hK2 he hk
  have hx := H0.out.x
  have x0 := hx.c 0
  have x1 := hx.c 1
  have x2 := hx.c 2
  have x3 := hx.c 3
  have x4 := hx.c 4
  have x5 := hx.c 5
  have x6 := hx.c 6
  have x7 := hx.c 7
  have x8 := hx.c 8
  have x9 := hx.c 9
  simp at x0 x1 x2 x3 x4 x5 x6 x7 x8 x9
  have hlx := hx.lt
  have hy := H0.out.y
  have y0 := hy.c 0
  have y1 := hy.c 1
  have y2 := hy.c 2
  have y3 := hy.c 3
  have y4 := hy.c 4
  have y5 := hy.c 5
  have y6 := hy.c 6
  have y7 := hy.c 7
  have y8 := hy.c 8
  have y9 := hy.c 9
  simp at y0 y1 y2 y3 y4 y5 y6 y7 y8 y9
  have hly := hy.lt
  clear hx hy
  go_enter Try.func18, Try.ntmps18
  go_wp2_with fail
  rw [HW.out]
  clear HW
  refine CT.out.mono ?_
  rintro e w1 ⟨rfl, hb1⟩
  have H1 := Lib.hid (H0.out.next hb1)
  clear hb1 CT H0 x0 x1 x2 x3 x4 x5 x6 x7 x8 x9 y0 y1 y2 y3 y4 y5 y6 y7 y8 y9 hlx hly
  have x9 := H1.out.x.c 9
  have y9 := H1.out.y.c 9
  simp at x9 y9
  go_wp2
  clear x9 y9
  go_loopw [5] (fun i w' => ∃ (k : Nat) (w1 : World), k ≤ m ∧ i = .int .i64 (k : Int) ∧ w1 = w' ∧ Hid (Two 33 (hcx id bk s r A n c B m d) (hcx id bk s r A2 n c2 B2 m d2) w w1)) (fun i _ => m - (intOf i).toNat)
  case atStart => exact ⟨0, w1, Nat.zero_le _, rfl, rfl, H1⟩
  case round =>
    clear H1
    obtain ⟨k, w1, hk, rfl, rfl, HQ⟩ := hrel
    have x9 := HQ.out.x.c 9
    simp at x9
    by_cases hlt : k < m
    · obtain ⟨ad, r1, rfl, hb, hx, hN⟩ := (HS.out.below HQ.out.b).get hlt
      obtain ⟨ad2, r2, rfl, hb2, hx2, hN2⟩ := (HS2.out.below HQ.out.b).get hlt
      have hlt2 : (k : Int) < (m : Int) := by omega
      have hv : r2.v = r1.v := by
        have h1 := rv_get hx
        have h2 := rv_get hx2
        rw [HE.out, h1] at h2
        injection h2 with h2
        exact h2.symm
      have hM := (HK1.out r1 (List.mem_of_getElem? hx)).below HQ.out.b
      have hM2 := (HK2.out r2 (List.mem_of_getElem? hx2)).below HQ.out.b
      have hSm := HKN.out r1 (List.mem_of_getElem? hx)
      have C := fun p : Ext w1 => Lib.hid (same_change r1 r2 hv p.W (hM.below p.b) (hM2.below p.b) hSm)
      have X0 : ∀ p : Ext w1, p.W.cell? ⟨w.heap.size, 9, none⟩ = some (.slice (some ad) m d) := fun p => HQ.out.x.ext p 9
      have Y0 : ∀ p : Ext w1, p.W.cell? ⟨w.heap.size + 1, 9, none⟩ = some (.slice (some ad2) m d2) := fun p => HQ.out.y.ext p 9
      have c0 : ∀ p : Ext w1, p.W.cell? (ad.add (k * 9)) = some (.int .i64 r1.v.bk) := fun p => (hN.ext (by rw [add_block]; exact hb) p).c0
      have c1 : ∀ p : Ext w1, p.W.cell? ⟨(ad.add (k * 9)).block, (ad.add (k * 9)).off + 1, none⟩ = some (.int .i64 r1.v.dy) := fun p => (hN.ext (by rw [add_block]; exact hb) p).c1
      have c2 : ∀ p : Ext w1, p.W.cell? ⟨(ad.add (k * 9)).block, (ad.add (k * 9)).off + 2, none⟩ = some (.int .i64 r1.v.kd) := fun p => (hN.ext (by rw [add_block]; exact hb) p).c2
      have c3 : ∀ p : Ext w1, p.W.cell? ⟨(ad.add (k * 9)).block, (ad.add (k * 9)).off + 3, none⟩ = some (.int .i64 r1.v.r.k) := fun p => (hN.ext (by rw [add_block]; exact hb) p).c3
      have c4 : ∀ p : Ext w1, p.W.cell? ⟨(ad.add (k * 9)).block, (ad.add (k * 9)).off + 4, none⟩ = some (.int .i64 r1.v.r.v) := fun p => (hN.ext (by rw [add_block]; exact hb) p).c4
      have c5 : ∀ p : Ext w1, p.W.cell? ⟨(ad.add (k * 9)).block, (ad.add (k * 9)).off + 5, none⟩ = some (.int .i64 r1.v.r.a) := fun p => (hN.ext (by rw [add_block]; exact hb) p).c5
      have c6 : ∀ p : Ext w1, p.W.cell? ⟨(ad.add (k * 9)).block, (ad.add (k * 9)).off + 6, none⟩ = some (.int .i64 r1.v.r.z) := fun p => (hN.ext (by rw [add_block]; exact hb) p).c6
      have c7 : ∀ p : Ext w1, p.W.cell? ⟨(ad.add (k * 9)).block, (ad.add (k * 9)).off + 7, none⟩ = some (.slice r1.A r1.n r1.c) := fun p => (hN.ext (by rw [add_block]; exact hb) p).c7
      have c8 : ∀ p : Ext w1, p.W.cell? ⟨(ad.add (k * 9)).block, (ad.add (k * 9)).off + 8, none⟩ = some (.int .i64 r1.v.wy) := fun p => (hN.ext (by rw [add_block]; exact hb) p).c8
      have d0 : ∀ p : Ext w1, p.W.cell? (ad2.add (k * 9)) = some (.int .i64 r2.v.bk) := fun p => (hN2.ext (by rw [add_block]; exact hb2) p).c0
      have d1 : ∀ p : Ext w1, p.W.cell? ⟨(ad2.add (k * 9)).block, (ad2.add (k * 9)).off + 1, none⟩ = some (.int .i64 r2.v.dy) := fun p => (hN2.ext (by rw [add_block]; exact hb2) p).c1
      have d2 : ∀ p : Ext w1, p.W.cell? ⟨(ad2.add (k * 9)).block, (ad2.add (k * 9)).off + 2, none⟩ = some (.int .i64 r2.v.kd) := fun p => (hN2.ext (by rw [add_block]; exact hb2) p).c2
      have d3 : ∀ p : Ext w1, p.W.cell? ⟨(ad2.add (k * 9)).block, (ad2.add (k * 9)).off + 3, none⟩ = some (.int .i64 r2.v.r.k) := fun p => (hN2.ext (by rw [add_block]; exact hb2) p).c3
      have d4 : ∀ p : Ext w1, p.W.cell? ⟨(ad2.add (k * 9)).block, (ad2.add (k * 9)).off + 4, none⟩ = some (.int .i64 r2.v.r.v) := fun p => (hN2.ext (by rw [add_block]; exact hb2) p).c4
      have d5 : ∀ p : Ext w1, p.W.cell? ⟨(ad2.add (k * 9)).block, (ad2.add (k * 9)).off + 5, none⟩ = some (.int .i64 r2.v.r.a) := fun p => (hN2.ext (by rw [add_block]; exact hb2) p).c5
      have d6 : ∀ p : Ext w1, p.W.cell? ⟨(ad2.add (k * 9)).block, (ad2.add (k * 9)).off + 6, none⟩ = some (.int .i64 r2.v.r.z) := fun p => (hN2.ext (by rw [add_block]; exact hb2) p).c6
      have d7 : ∀ p : Ext w1, p.W.cell? ⟨(ad2.add (k * 9)).block, (ad2.add (k * 9)).off + 7, none⟩ = some (.slice r2.A r2.n r2.c) := fun p => (hN2.ext (by rw [add_block]; exact hb2) p).c7
      have d8 : ∀ p : Ext w1, p.W.cell? ⟨(ad2.add (k * 9)).block, (ad2.add (k * 9)).off + 8, none⟩ = some (.int .i64 r2.v.wy) := fun p => (hN2.ext (by rw [add_block]; exact hb2) p).c8
      have ne : Nonempty (Ext w1) := ⟨⟨w1, Below.refl _ _⟩⟩
      clear hx hx2 hN hN2 hM hM2 hb hb2 hv hSm
      go_wp2
      refine quietE (by kernel_rfl) (by kernel_rfl) ?_
      repeat (quiet_step (first
        | (go_at_call 23; with_reducible exact ext_of (C _).out)
        | fail))
      refine wpQuiet_nil ?_
      rintro _ ⟨p, rfl⟩
      go_wp2
      go_roundw
      case rel => exact ⟨k + 1, _, by omega, by go_num, rfl, Lib.hid (HQ.out.next p.b)⟩
      case measure => simp [intOf]; omega
    · go_wp2
      go_ret
      exact ⟨rfl, HQ.out.b⟩
/-- Two histories that mean the same. -/
theorem same_ (h h2 : Hr) (w : World) (hv : h2.v = h.v) (M : HM w (· < w.heap.size) h) (M2 : HM w (· < w.heap.size) h2) (hn : h.n ≤ maxLen) (hm : h.m ≤ maxLen) (hk : ∀ r ∈ h.rs, r.n ≤ maxLen) :
    Calls Try.prog 18 #[hg h, hg h2] w (Yes w true) := by
  have e0 := M.len
  have e1 := M2.len
  rw [hv] at e1
  obtain ⟨id, bk, s, r, A, n, c, cs, B, m, d, rs⟩ := h
  obtain ⟨id2, bk2, s2, r2, A2, n2, c2, cs2, B2, m2, d2, rs2⟩ := h2
  have e2 := M.t.1
  have e3 := M2.t.1
  simp only at e2 e3 e0 e1
  unfold Hr.v at hv
  injection hv with h1 h2 h3 h4 h5 h6
  subst h1 h2 h3 h4 h5
  obtain rfl : n2 = n := by rw [← e3, ← e2]
  obtain rfl : m2 = m := by rw [← e0, ← e1]
  exact same0 id2 bk2 s2 r2 A A2 n2 c c2 cs2 B B2 m2 d d2 rs rs2 w M.t M2.t M.r M2.r M.k M2.k h6 hn hm hk

end Tm
end Go.Proofs.Ytcnlllamldlnmaa
