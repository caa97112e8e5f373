/-
  The statement QuoteOrder holds: for every input the call returns true, and each argument reads afterwards as it read before. Conditions: none beside those that the row itself bears.
-/
import Derived.Test.YtinhhphnbbdoeaaGiven
namespace Go.Proofs.Ytinhhphnbbdoeaa.quoteOrder
open Go.ChangeShapes Go.WideShapes Go.ChangeAt Go.RowKit Ba Tf Cv Qm Qo
set_option linter.unusedVariables false


/-- A version's and a risk's box, one behind the other. -/
structure B2 (w W : World) (r : Rw) (x : Ri) : Prop where
  b : Below w.heap.size w W
  v : Bx W w.heap.size 26 (vc r)
  r : Bx W (w.heap.size + 1) 28 (rc x)
section
variable {w W W' : World} {r : Rw} {x : Ri}
theorem B2.next (h : B2 w W r x) (hb : Below W.heap.size W W') : B2 w W' r x := ⟨h.b.trans (hb.mono h.b.size), h.v.keep hb, h.r.keep hb⟩
theorem B2.start (w : World) (r : Rw) (x : Ri) : B2 w ((w.alloc (.cells (vc r) 26)).alloc (.cells (rc x) 28)) r x := by
  refine ⟨(alloc_ _ _).alloc (by simp) _, (Bx.new _ _ _).alloc _, ?_⟩
  have := Bx.new (w.alloc (.cells (vc r) 26)) 28 (rc x)
  rw [World.size_alloc] at this
  exact this
end

/-- A version's and a risk's box, and the row of covers behind them. -/
structure RO (w W : World) (r : Rw) (x : Ri) (A : Option Addr) (k d : Nat) (zs : List Co) : Prop extends B2 w W r x where
  o : COwn W (w.heap.size + 1 + 1) A k d zs
section
variable {w W W' : World} {r : Rw} {x : Ri} {A A' : Option Addr} {k d k' d' : Nat} {zs zs' : List Co}
theorem RO.next (h : RO w W r x A k d zs) (hb : Below W.heap.size W W') : RO w W' r x A k d zs := ⟨h.toB2.next hb, h.o.below hb⟩
theorem RO.grow (h : RO w W r x A k d zs) (hO : COwn W' (w.heap.size + 1 + 1) A' k' d' zs') (hg : W.grownBy W' (Value.slice A k d).ownBlock) : RO w W' r x A' k' d' zs' := by
  have hl := h.r.lt
  have hb : Below (w.heap.size + 1 + 1) W W' := (Below.refl _ W).grown hg (by omega) fun j hj => (h.o.lt j hj).1
  exact ⟨⟨h.b.trans (hb.mono (by omega)), h.v.below hb (by omega), h.r.below hb (by omega)⟩, hO⟩
end
theorem rev_get {cs : List Co} {n k j : Nat} {c : Co} (hl : cs.length = n) (hk : k < n) (hj : j = n - 1 - k) (h : cs[j]? = some c) : cs.reverse.take (k + 1) = cs.reverse.take k ++ [c] := by
  refine take_get ?_
  rw [List.getElem?_reverse (by omega), hl, ← hj]
  exact h
theorem cvs_one (w : World) (c : Co) : Cvs (w.alloc (.cells (cc c) 30)) (fun _ => True) (some ⟨w.heap.size, 0, none⟩) 1 [c] := by
  have h := Bx.new w 30 (cc c)
  refine ⟨rfl, fun _ => ⟨_, rfl, trivial, fun j z hz => ?_⟩⟩
  match j, hz with
  | 0, hz => simp at hz; subst hz; rw [Addr.add_lit]; exact ⟨h.c 0, h.c 1, h.c 2, h.c 3, h.c 4⟩
set_option maxRecDepth 100000 in
set_option maxHeartbeats 4000000 in
theorem way_no (r : Rw) (x : Ri) (A : Option Addr) (n d : Nat) (w : World) (CF : ∀ W : World, Hid (Calls Try.prog 9 #[vg r, .slice A n d] W (Yes W false))) (CA : ∀ W : World, Hid (Calls Try.prog 10 #[] W (Yes W true))) : Calls Try.prog 8 #[vg r, rg x, .slice A n d] w (Yes w true) := by
  obtain ⟨W, hW⟩ : ∃ W, ((w.alloc (.cells (vc r) 26)).alloc (.cells (rc x) 28)) = W := ⟨_, rfl⟩
  have HB0 := Lib.hid (show B2 w W r x by rw [← hW]; exact B2.start w r x)
  have HW := Lib.hid hW
  clear hW
  go_enter Try.func8, Try.ntmps8
  go_wp2_with fail
  rw [HW.out]
  clear HW
  refine (CF _).out.mono ?_
  rintro e w1 ⟨rfl, hb1⟩
  have HB1 := Lib.hid (HB0.out.next hb1)
  clear hb1 HB0 CF
  go_wp2_with fail
  refine (CA _).out.mono ?_
  rintro e w2 ⟨rfl, hb2⟩
  have HB2 := Lib.hid (HB1.out.next hb2)
  clear hb2 HB1 CA
  go_wp2
  go_ret
  exact ⟨rfl, HB2.out.b⟩

set_option maxRecDepth 100000 in
set_option maxHeartbeats 4000000 in
theorem way_yes (r : Rw) (x : Ri) (A : Option Addr) (n d : Nat) (w : World) (cs : List Co) (f : Co → Int × Int) (hC : Cvs w (· < w.heap.size) A n cs) (hn : n ≤ 50) (hcap : n ≤ d) (hnil : A = none → n = 0 ∧ d = 0)
    (CF : ∀ W : World, Hid (Calls Try.prog 9 #[vg r, .slice A n d] W (Yes W true))) (CA : ∀ W : World, Hid (Calls Try.prog 10 #[] W (Yes W true))) (C : ∀ (W : World) (B : Option Addr) (m e : Nat) (ks : List Co), Below w.heap.size w W → Cvs W (· < W.heap.size) B m ks → m ≤ 50 → Hid (Calls Try.prog 13 #[vg r, rg x, .slice B m e] W (Tells W (yr f 0 ks))))
    (h : Nat) (hh : h = n / 2) (eh : Hid ((n : Int) / 2 = (h : Int))) (a0 e0 e1 a2 e2 a3 e3 : Int) (Y0 : Hid (yr f 0 cs = (a0, e0))) (Y1 : Hid (yr f 0 cs.reverse = (a0, e1))) (Y2 : Hid (yr f 0 (cs.take h) = (a2, e2))) (Y3 : Hid (yr f 0 (cs.drop h) = (a3, e3)))
    (b1 : 0 ≤ a0 ∧ a0 ≤ 4000000000000000000) (g1 : e0 = 0 → e1 = 0 ∧ e2 = 0 ∧ e3 = 0 ∧ a2 + a3 = a0) (g2 : e0 ≠ 0 → e1 ≠ 0) : Calls Try.prog 8 #[vg r, rg x, .slice A n d] w (Yes w true) := by
  have HC := Lib.hid hC
  have HNIL := Lib.hid hnil
  clear hC hnil
  obtain ⟨W, hW⟩ : ∃ W, ((w.alloc (.cells (vc r) 26)).alloc (.cells (rc x) 28)) = W := ⟨_, rfl⟩
  have HB0 := Lib.hid (show B2 w W r x by rw [← hW]; exact B2.start w r x)
  have HW := Lib.hid hW
  clear hW
  go_enter Try.func8, Try.ntmps8
  go_wp2_with fail
  rw [HW.out]
  clear HW
  refine (CF _).out.mono ?_
  rintro e w1 ⟨rfl, hb1⟩
  have HB1 := Lib.hid (HB0.out.next hb1)
  clear hb1 HB0 CF
  go_wp2
  have HO := Lib.hid (show RO w w1 r x none 0 0 [] from ⟨HB1.out, COwn.nil⟩)
  clear HB1
  go_loopw [7, 8, 25] (fun s7 s8 i w' => ∃ (k : Nat) (A1 : Option Addr) (d1 : Nat) (W : World), k ≤ n ∧ i = .int .i64 (k : Int) ∧ s7 = .slice A1 k d1 ∧ W = w' ∧ Hid (RO w W r x A1 k d1 (cs.reverse.take k))) (fun _ _ i _ => n - (intOf i).toNat)
  case atStart => exact ⟨0, none, 0, _, Nat.zero_le _, rfl, rfl, rfl, HO⟩
  case round =>
    obtain ⟨k, A1, d1, W3, hk, rfl, rfl, rfl, HB⟩ := hrel
    clear HO
    by_cases hlt : k < n
    · obtain ⟨j, hj⟩ : ∃ j, j = n - 1 - k := ⟨_, rfl⟩
      obtain ⟨m, hm⟩ : ∃ m, m = n - 1 := ⟨_, rfl⟩
      have u1 : (n : Int) - 1 = (m : Int) := by omega
      have u2 : (m : Int) - (k : Int) = (j : Int) := by omega
      have u3 : (j : Int) < (n : Int) := by omega
      have u4 : (m : Int) ≤ 50 := by omega
      obtain ⟨ad, c, rfl, hb, hc, hN⟩ := (HC.out.below HB.out.b).get (show j < n by omega)
      obtain ⟨c0, c1, c2, c3, c4⟩ := hN
      have HRV := Lib.hid (rev_get HC.out.1 hlt hj hc)
      have hlt2 : (k : Int) < (n : Int) := by omega
      have HB3 := Lib.hid (HB.out.next (alloc_ W3 (.cells (cc c) 30)))
      have HI := Lib.hid (cvs_one W3 c)
      have hk2 : k + 1 ≤ 4000000 := by omega
      have hbase : w.heap.size + 1 + 1 ≤ (W3.alloc (.cells (cc c) 30)).heap.size := by have := HB3.out.r.lt; omega
      clear hb hc HB C hj hm g1 g2 b1 hh
      go_wp2_with (at_builtin; refine wpList_app_c (W3.alloc (.cells (cc c) 30)) (by rfl) (.tmp 28) (.tmp 37) (by rfl) (w.heap.size + 1 + 1) A1 k d1 (cs.reverse.take k) (by rfl) HB3.out.o _ (some ⟨W3.heap.size, 0, none⟩) 1 1 [c] (by rfl) HI.out (fun h => by cases h) (k + 1) rfl hk2 hbase ?_; intro A4 c4' W4 hO4 hg4; have HB4 := Lib.hid (HB3.out.grow hO4 hg4); clear hO4 hg4)
      go_roundw
      case rel => exact ⟨k + 1, A4, c4', _, by omega, by go_num, rfl, rfl, Lib.hid (by rw [HRV.out]; exact HB4.out)⟩
      case measure => simp [intOf]; omega
    · obtain rfl : n = k := by omega
      have hlen := HC.out.1
      have HB3 := HB
      have HRV := Lib.hid (show cs.reverse.take n = cs.reverse from List.take_of_length_le (by rw [List.length_reverse, hlen]; exact Nat.le_refl _))
      have CY0 := C W3 A n d cs HB.out.b (HC.out.below HB.out.b) (by omega)
      rw [Y0.out] at CY0
      clear HB
      have x0 := HB3.out.v.c 0
      have x1 := HB3.out.v.c 1
      have x2 := HB3.out.v.c 2
      have x3 := HB3.out.v.c 3
      have x4 := HB3.out.v.c 4
      have x5 := HB3.out.v.c 5
      have x6 := HB3.out.v.c 6
      have x7 := HB3.out.v.c 7
      have x8 := HB3.out.v.c 8
      have y0 := HB3.out.r.c 0
      have y1 := HB3.out.r.c 1
      have y2 := HB3.out.r.c 2
      have y3 := HB3.out.r.c 3
      simp at x0 x1 x2 x3 x4 x5 x6 x7 x8 y0 y1 y2 y3
      go_wp2_with fail
      refine CY0.out.mono ?_
      rintro e w4 ⟨rfl, hb4⟩
      have HB4 := Lib.hid (HB3.out.next hb4)
      clear hb4 HB3 CY0 x0 x1 x2 x3 x4 x5 x6 x7 x8 y0 y1 y2 y3
      have CY1 := C w4 A1 n d1 cs.reverse HB4.out.b ((HRV.out ▸ HB4.out.o.row).keep (fun _ _ => rfl) fun b hb => hb.2) (by omega)
      rw [Y1.out] at CY1
      have x0 := HB4.out.v.c 0
      have x1 := HB4.out.v.c 1
      have x2 := HB4.out.v.c 2
      have x3 := HB4.out.v.c 3
      have x4 := HB4.out.v.c 4
      have x5 := HB4.out.v.c 5
      have x6 := HB4.out.v.c 6
      have x7 := HB4.out.v.c 7
      have x8 := HB4.out.v.c 8
      have y0 := HB4.out.r.c 0
      have y1 := HB4.out.r.c 1
      have y2 := HB4.out.r.c 2
      have y3 := HB4.out.r.c 3
      simp at x0 x1 x2 x3 x4 x5 x6 x7 x8 y0 y1 y2 y3
      go_wp2_with fail
      refine CY1.out.mono ?_
      rintro e w5 ⟨rfl, hb5⟩
      have HB5 := Lib.hid (HB4.out.toB2.next hb5)
      clear hb5 HB4 CY1 x0 x1 x2 x3 x4 x5 x6 x7 x8 y0 y1 y2 y3
      cases A with
      | none =>
        obtain ⟨rfl, rfl⟩ := HNIL.out rfl
        obtain rfl : h = 0 := hh
        have x0 : ∀ p : Ext w5, p.W.cell? ⟨w.heap.size, 0, none⟩ = some (.int .i64 r.v.fr) := fun p => HB5.out.v.ext p 0
        have x1 : ∀ p : Ext w5, p.W.cell? ⟨w.heap.size, 1, none⟩ = some (.int .i64 r.v.b0) := fun p => HB5.out.v.ext p 1
        have x2 : ∀ p : Ext w5, p.W.cell? ⟨w.heap.size, 2, none⟩ = some (.int .i64 r.v.b1) := fun p => HB5.out.v.ext p 2
        have x3 : ∀ p : Ext w5, p.W.cell? ⟨w.heap.size, 3, none⟩ = some (.int .i64 r.v.b2) := fun p => HB5.out.v.ext p 3
        have x4 : ∀ p : Ext w5, p.W.cell? ⟨w.heap.size, 4, none⟩ = some (.int .i64 r.v.b3) := fun p => HB5.out.v.ext p 4
        have x5 : ∀ p : Ext w5, p.W.cell? ⟨w.heap.size, 5, none⟩ = some (.slice r.A r.la r.ca) := fun p => HB5.out.v.ext p 5
        have x6 : ∀ p : Ext w5, p.W.cell? ⟨w.heap.size, 6, none⟩ = some (.slice r.Z r.lz r.cz) := fun p => HB5.out.v.ext p 6
        have x7 : ∀ p : Ext w5, p.W.cell? ⟨w.heap.size, 7, none⟩ = some (.slice r.P r.lp r.cp) := fun p => HB5.out.v.ext p 7
        have x8 : ∀ p : Ext w5, p.W.cell? ⟨w.heap.size, 8, none⟩ = some (.int .i64 r.v.mn) := fun p => HB5.out.v.ext p 8
        have y0 : ∀ p : Ext w5, p.W.cell? ⟨w.heap.size + 1, 0, none⟩ = some (.int .i64 x.k) := fun p => HB5.out.r.ext p 0
        have y1 : ∀ p : Ext w5, p.W.cell? ⟨w.heap.size + 1, 1, none⟩ = some (.int .i64 x.v) := fun p => HB5.out.r.ext p 1
        have y2 : ∀ p : Ext w5, p.W.cell? ⟨w.heap.size + 1, 2, none⟩ = some (.int .i64 x.a) := fun p => HB5.out.r.ext p 2
        have y3 : ∀ p : Ext w5, p.W.cell? ⟨w.heap.size + 1, 3, none⟩ = some (.int .i64 x.z) := fun p => HB5.out.r.ext p 3
        have CY := fun (p : Ext w5) => C p.W none (0) (0) (cs.take 0) (HB5.out.b.trans (p.b.mono HB5.out.b.size)) (((HC.out.below HB5.out.b).keep (fun q hq => p.b.cell hq) (fun b hb => Nat.lt_of_lt_of_le hb p.b.size) |>.take (Nat.zero_le _))) (by omega)
        rw [Y2.out] at CY
        have ne : Nonempty (Ext w5) := ⟨⟨w5, Below.refl _ _⟩⟩
        go_wp2
        refine quietE (by kernel_rfl) (by kernel_rfl) ?_
        repeat (quiet_step (first
          | (go_at_call 13; with_reducible exact ext_of (CY _).out)
          | fail))
        refine wpQuiet_nil ?_
        rintro _ ⟨p, rfl⟩
        have HB6 := Lib.hid (HB5.out.next p.b)
        generalize p.W = w6 at HB6 ⊢
        clear CY HB5 ne x0 x1 x2 x3 x4 x5 x6 x7 x8 y0 y1 y2 y3
        have x0 : ∀ p : Ext w6, p.W.cell? ⟨w.heap.size, 0, none⟩ = some (.int .i64 r.v.fr) := fun p => HB6.out.v.ext p 0
        have x1 : ∀ p : Ext w6, p.W.cell? ⟨w.heap.size, 1, none⟩ = some (.int .i64 r.v.b0) := fun p => HB6.out.v.ext p 1
        have x2 : ∀ p : Ext w6, p.W.cell? ⟨w.heap.size, 2, none⟩ = some (.int .i64 r.v.b1) := fun p => HB6.out.v.ext p 2
        have x3 : ∀ p : Ext w6, p.W.cell? ⟨w.heap.size, 3, none⟩ = some (.int .i64 r.v.b2) := fun p => HB6.out.v.ext p 3
        have x4 : ∀ p : Ext w6, p.W.cell? ⟨w.heap.size, 4, none⟩ = some (.int .i64 r.v.b3) := fun p => HB6.out.v.ext p 4
        have x5 : ∀ p : Ext w6, p.W.cell? ⟨w.heap.size, 5, none⟩ = some (.slice r.A r.la r.ca) := fun p => HB6.out.v.ext p 5
        have x6 : ∀ p : Ext w6, p.W.cell? ⟨w.heap.size, 6, none⟩ = some (.slice r.Z r.lz r.cz) := fun p => HB6.out.v.ext p 6
        have x7 : ∀ p : Ext w6, p.W.cell? ⟨w.heap.size, 7, none⟩ = some (.slice r.P r.lp r.cp) := fun p => HB6.out.v.ext p 7
        have x8 : ∀ p : Ext w6, p.W.cell? ⟨w.heap.size, 8, none⟩ = some (.int .i64 r.v.mn) := fun p => HB6.out.v.ext p 8
        have y0 : ∀ p : Ext w6, p.W.cell? ⟨w.heap.size + 1, 0, none⟩ = some (.int .i64 x.k) := fun p => HB6.out.r.ext p 0
        have y1 : ∀ p : Ext w6, p.W.cell? ⟨w.heap.size + 1, 1, none⟩ = some (.int .i64 x.v) := fun p => HB6.out.r.ext p 1
        have y2 : ∀ p : Ext w6, p.W.cell? ⟨w.heap.size + 1, 2, none⟩ = some (.int .i64 x.a) := fun p => HB6.out.r.ext p 2
        have y3 : ∀ p : Ext w6, p.W.cell? ⟨w.heap.size + 1, 3, none⟩ = some (.int .i64 x.z) := fun p => HB6.out.r.ext p 3
        have CY := fun (p : Ext w6) => C p.W none (0) (0) (cs.drop 0) (HB6.out.b.trans (p.b.mono HB6.out.b.size)) (((HC.out.below HB6.out.b).keep (fun q hq => p.b.cell hq) (fun b hb => Nat.lt_of_lt_of_le hb p.b.size))) (by omega)
        rw [Y3.out] at CY
        have ne : Nonempty (Ext w6) := ⟨⟨w6, Below.refl _ _⟩⟩
        go_wp2
        refine quietE (by kernel_rfl) (by kernel_rfl) ?_
        repeat (quiet_step (first
          | (go_at_call 13; with_reducible exact ext_of (CY _).out)
          | fail))
        refine wpQuiet_nil ?_
        rintro _ ⟨p, rfl⟩
        have HB7 := Lib.hid (HB6.out.next p.b)
        generalize p.W = w7 at HB7 ⊢
        clear CY HB6 ne x0 x1 x2 x3 x4 x5 x6 x7 x8 y0 y1 y2 y3
        go_wp2_with fail
        refine (CA _).out.mono ?_
        rintro e w8 ⟨rfl, hb8⟩
        have HB8 := Lib.hid (HB7.out.next hb8)
        clear hb8 HB7 CA
        by_cases h0 : e0 = 0
        · obtain ⟨k1, k2, k3, k4⟩ := g1 h0
          subst h0 k1 k2 k3
          have t1 : wrap64 (a2 + a3) = a0 := by rw [← k4]; exact IntWalk.wrap64_in _ ⟨by omega, by omega⟩
          have t2 : IntKind.i64.wrap (a2 + a3) = a0 := (IntWalk.i64_left _).trans t1
          clear g1 g2 k4
          go_wp2
          go_ret
          exact ⟨rfl, HB8.out.b⟩
        · have k1 := g2 h0
          have t1 : (e0 == 0) = false := by rw [beq_eq_false_iff_ne]; exact h0
          have t2 : (e1 == 0) = false := by rw [beq_eq_false_iff_ne]; exact k1
          clear g1 g2
          go_wp2
          go_ret
          exact ⟨rfl, HB8.out.b⟩
      | some ad =>
        have i1 : (0 : Int) ≤ (h : Int) := by omega
        have i2 : (h : Int) ≤ (n : Int) := by omega
        have i3 : (n : Int) ≤ (d : Int) := by omega
        have i4 : (h : Int) ≤ (d : Int) := by omega
        have i5 : h ≤ n := by omega
        have i6 : h ≤ d := by omega
        by_cases i7 : d = h
        · obtain rfl : n = 0 := by omega
          obtain rfl : h = 0 := by omega
          subst i7
          have x0 : ∀ p : Ext w5, p.W.cell? ⟨w.heap.size, 0, none⟩ = some (.int .i64 r.v.fr) := fun p => HB5.out.v.ext p 0
          have x1 : ∀ p : Ext w5, p.W.cell? ⟨w.heap.size, 1, none⟩ = some (.int .i64 r.v.b0) := fun p => HB5.out.v.ext p 1
          have x2 : ∀ p : Ext w5, p.W.cell? ⟨w.heap.size, 2, none⟩ = some (.int .i64 r.v.b1) := fun p => HB5.out.v.ext p 2
          have x3 : ∀ p : Ext w5, p.W.cell? ⟨w.heap.size, 3, none⟩ = some (.int .i64 r.v.b2) := fun p => HB5.out.v.ext p 3
          have x4 : ∀ p : Ext w5, p.W.cell? ⟨w.heap.size, 4, none⟩ = some (.int .i64 r.v.b3) := fun p => HB5.out.v.ext p 4
          have x5 : ∀ p : Ext w5, p.W.cell? ⟨w.heap.size, 5, none⟩ = some (.slice r.A r.la r.ca) := fun p => HB5.out.v.ext p 5
          have x6 : ∀ p : Ext w5, p.W.cell? ⟨w.heap.size, 6, none⟩ = some (.slice r.Z r.lz r.cz) := fun p => HB5.out.v.ext p 6
          have x7 : ∀ p : Ext w5, p.W.cell? ⟨w.heap.size, 7, none⟩ = some (.slice r.P r.lp r.cp) := fun p => HB5.out.v.ext p 7
          have x8 : ∀ p : Ext w5, p.W.cell? ⟨w.heap.size, 8, none⟩ = some (.int .i64 r.v.mn) := fun p => HB5.out.v.ext p 8
          have y0 : ∀ p : Ext w5, p.W.cell? ⟨w.heap.size + 1, 0, none⟩ = some (.int .i64 x.k) := fun p => HB5.out.r.ext p 0
          have y1 : ∀ p : Ext w5, p.W.cell? ⟨w.heap.size + 1, 1, none⟩ = some (.int .i64 x.v) := fun p => HB5.out.r.ext p 1
          have y2 : ∀ p : Ext w5, p.W.cell? ⟨w.heap.size + 1, 2, none⟩ = some (.int .i64 x.a) := fun p => HB5.out.r.ext p 2
          have y3 : ∀ p : Ext w5, p.W.cell? ⟨w.heap.size + 1, 3, none⟩ = some (.int .i64 x.z) := fun p => HB5.out.r.ext p 3
          have CY := fun (p : Ext w5) => C p.W (some ad) (0) (0) (cs.take 0) (HB5.out.b.trans (p.b.mono HB5.out.b.size)) (((HC.out.below HB5.out.b).below p.b |>.take (Nat.zero_le _))) (by omega)
          rw [Y2.out] at CY
          have ne : Nonempty (Ext w5) := ⟨⟨w5, Below.refl _ _⟩⟩
          go_wp2
          refine quietE (by kernel_rfl) (by kernel_rfl) ?_
          repeat (quiet_step (first
            | (go_at_call 13; with_reducible exact ext_of (CY _).out)
            | fail))
          refine wpQuiet_nil ?_
          rintro _ ⟨p, rfl⟩
          have HB6 := Lib.hid (HB5.out.next p.b)
          generalize p.W = w6 at HB6 ⊢
          clear CY HB5 ne x0 x1 x2 x3 x4 x5 x6 x7 x8 y0 y1 y2 y3
          have x0 : ∀ p : Ext w6, p.W.cell? ⟨w.heap.size, 0, none⟩ = some (.int .i64 r.v.fr) := fun p => HB6.out.v.ext p 0
          have x1 : ∀ p : Ext w6, p.W.cell? ⟨w.heap.size, 1, none⟩ = some (.int .i64 r.v.b0) := fun p => HB6.out.v.ext p 1
          have x2 : ∀ p : Ext w6, p.W.cell? ⟨w.heap.size, 2, none⟩ = some (.int .i64 r.v.b1) := fun p => HB6.out.v.ext p 2
          have x3 : ∀ p : Ext w6, p.W.cell? ⟨w.heap.size, 3, none⟩ = some (.int .i64 r.v.b2) := fun p => HB6.out.v.ext p 3
          have x4 : ∀ p : Ext w6, p.W.cell? ⟨w.heap.size, 4, none⟩ = some (.int .i64 r.v.b3) := fun p => HB6.out.v.ext p 4
          have x5 : ∀ p : Ext w6, p.W.cell? ⟨w.heap.size, 5, none⟩ = some (.slice r.A r.la r.ca) := fun p => HB6.out.v.ext p 5
          have x6 : ∀ p : Ext w6, p.W.cell? ⟨w.heap.size, 6, none⟩ = some (.slice r.Z r.lz r.cz) := fun p => HB6.out.v.ext p 6
          have x7 : ∀ p : Ext w6, p.W.cell? ⟨w.heap.size, 7, none⟩ = some (.slice r.P r.lp r.cp) := fun p => HB6.out.v.ext p 7
          have x8 : ∀ p : Ext w6, p.W.cell? ⟨w.heap.size, 8, none⟩ = some (.int .i64 r.v.mn) := fun p => HB6.out.v.ext p 8
          have y0 : ∀ p : Ext w6, p.W.cell? ⟨w.heap.size + 1, 0, none⟩ = some (.int .i64 x.k) := fun p => HB6.out.r.ext p 0
          have y1 : ∀ p : Ext w6, p.W.cell? ⟨w.heap.size + 1, 1, none⟩ = some (.int .i64 x.v) := fun p => HB6.out.r.ext p 1
          have y2 : ∀ p : Ext w6, p.W.cell? ⟨w.heap.size + 1, 2, none⟩ = some (.int .i64 x.a) := fun p => HB6.out.r.ext p 2
          have y3 : ∀ p : Ext w6, p.W.cell? ⟨w.heap.size + 1, 3, none⟩ = some (.int .i64 x.z) := fun p => HB6.out.r.ext p 3
          have CY := fun (p : Ext w6) => C p.W (some ad) (0) (0) (cs.drop 0) (HB6.out.b.trans (p.b.mono HB6.out.b.size)) (((HC.out.below HB6.out.b).below p.b)) (by omega)
          rw [Y3.out] at CY
          have ne : Nonempty (Ext w6) := ⟨⟨w6, Below.refl _ _⟩⟩
          go_wp2
          refine quietE (by kernel_rfl) (by kernel_rfl) ?_
          repeat (quiet_step (first
            | (go_at_call 13; with_reducible exact ext_of (CY _).out)
            | fail))
          refine wpQuiet_nil ?_
          rintro _ ⟨p, rfl⟩
          have HB7 := Lib.hid (HB6.out.next p.b)
          generalize p.W = w7 at HB7 ⊢
          clear CY HB6 ne x0 x1 x2 x3 x4 x5 x6 x7 x8 y0 y1 y2 y3
          go_wp2_with fail
          refine (CA _).out.mono ?_
          rintro e w8 ⟨rfl, hb8⟩
          have HB8 := Lib.hid (HB7.out.next hb8)
          clear hb8 HB7 CA
          by_cases h0 : e0 = 0
          · obtain ⟨k1, k2, k3, k4⟩ := g1 h0
            subst h0 k1 k2 k3
            have t1 : wrap64 (a2 + a3) = a0 := by rw [← k4]; exact IntWalk.wrap64_in _ ⟨by omega, by omega⟩
            have t2 : IntKind.i64.wrap (a2 + a3) = a0 := (IntWalk.i64_left _).trans t1
            clear g1 g2 k4
            go_wp2
            go_ret
            exact ⟨rfl, HB8.out.b⟩
          · have k1 := g2 h0
            have t1 : (e0 == 0) = false := by rw [beq_eq_false_iff_ne]; exact h0
            have t2 : (e1 == 0) = false := by rw [beq_eq_false_iff_ne]; exact k1
            clear g1 g2
            go_wp2
            go_ret
            exact ⟨rfl, HB8.out.b⟩
        · have i8 : h ≤ 50 := by omega
          clear hh
          go_wp2
          rw [eh.out]
          have x0 : ∀ p : Ext w5, p.W.cell? ⟨w.heap.size, 0, none⟩ = some (.int .i64 r.v.fr) := fun p => HB5.out.v.ext p 0
          have x1 : ∀ p : Ext w5, p.W.cell? ⟨w.heap.size, 1, none⟩ = some (.int .i64 r.v.b0) := fun p => HB5.out.v.ext p 1
          have x2 : ∀ p : Ext w5, p.W.cell? ⟨w.heap.size, 2, none⟩ = some (.int .i64 r.v.b1) := fun p => HB5.out.v.ext p 2
          have x3 : ∀ p : Ext w5, p.W.cell? ⟨w.heap.size, 3, none⟩ = some (.int .i64 r.v.b2) := fun p => HB5.out.v.ext p 3
          have x4 : ∀ p : Ext w5, p.W.cell? ⟨w.heap.size, 4, none⟩ = some (.int .i64 r.v.b3) := fun p => HB5.out.v.ext p 4
          have x5 : ∀ p : Ext w5, p.W.cell? ⟨w.heap.size, 5, none⟩ = some (.slice r.A r.la r.ca) := fun p => HB5.out.v.ext p 5
          have x6 : ∀ p : Ext w5, p.W.cell? ⟨w.heap.size, 6, none⟩ = some (.slice r.Z r.lz r.cz) := fun p => HB5.out.v.ext p 6
          have x7 : ∀ p : Ext w5, p.W.cell? ⟨w.heap.size, 7, none⟩ = some (.slice r.P r.lp r.cp) := fun p => HB5.out.v.ext p 7
          have x8 : ∀ p : Ext w5, p.W.cell? ⟨w.heap.size, 8, none⟩ = some (.int .i64 r.v.mn) := fun p => HB5.out.v.ext p 8
          have y0 : ∀ p : Ext w5, p.W.cell? ⟨w.heap.size + 1, 0, none⟩ = some (.int .i64 x.k) := fun p => HB5.out.r.ext p 0
          have y1 : ∀ p : Ext w5, p.W.cell? ⟨w.heap.size + 1, 1, none⟩ = some (.int .i64 x.v) := fun p => HB5.out.r.ext p 1
          have y2 : ∀ p : Ext w5, p.W.cell? ⟨w.heap.size + 1, 2, none⟩ = some (.int .i64 x.a) := fun p => HB5.out.r.ext p 2
          have y3 : ∀ p : Ext w5, p.W.cell? ⟨w.heap.size + 1, 3, none⟩ = some (.int .i64 x.z) := fun p => HB5.out.r.ext p 3
          have CY := fun (p : Ext w5) => C p.W (some ad) (h) (d) (cs.take h) (HB5.out.b.trans (p.b.mono HB5.out.b.size)) (((HC.out.below HB5.out.b).below p.b |>.take i5)) (by omega)
          rw [Y2.out] at CY
          have ne : Nonempty (Ext w5) := ⟨⟨w5, Below.refl _ _⟩⟩
          go_wp2
          refine quietE (by kernel_rfl) (by kernel_rfl) ?_
          repeat (quiet_step (first
            | (go_at_call 13; with_reducible exact ext_of (CY _).out)
            | fail))
          refine wpQuiet_nil ?_
          rintro _ ⟨p, rfl⟩
          have HB6 := Lib.hid (HB5.out.next p.b)
          generalize p.W = w6 at HB6 ⊢
          clear CY HB5 ne x0 x1 x2 x3 x4 x5 x6 x7 x8 y0 y1 y2 y3
          have x0 : ∀ p : Ext w6, p.W.cell? ⟨w.heap.size, 0, none⟩ = some (.int .i64 r.v.fr) := fun p => HB6.out.v.ext p 0
          have x1 : ∀ p : Ext w6, p.W.cell? ⟨w.heap.size, 1, none⟩ = some (.int .i64 r.v.b0) := fun p => HB6.out.v.ext p 1
          have x2 : ∀ p : Ext w6, p.W.cell? ⟨w.heap.size, 2, none⟩ = some (.int .i64 r.v.b1) := fun p => HB6.out.v.ext p 2
          have x3 : ∀ p : Ext w6, p.W.cell? ⟨w.heap.size, 3, none⟩ = some (.int .i64 r.v.b2) := fun p => HB6.out.v.ext p 3
          have x4 : ∀ p : Ext w6, p.W.cell? ⟨w.heap.size, 4, none⟩ = some (.int .i64 r.v.b3) := fun p => HB6.out.v.ext p 4
          have x5 : ∀ p : Ext w6, p.W.cell? ⟨w.heap.size, 5, none⟩ = some (.slice r.A r.la r.ca) := fun p => HB6.out.v.ext p 5
          have x6 : ∀ p : Ext w6, p.W.cell? ⟨w.heap.size, 6, none⟩ = some (.slice r.Z r.lz r.cz) := fun p => HB6.out.v.ext p 6
          have x7 : ∀ p : Ext w6, p.W.cell? ⟨w.heap.size, 7, none⟩ = some (.slice r.P r.lp r.cp) := fun p => HB6.out.v.ext p 7
          have x8 : ∀ p : Ext w6, p.W.cell? ⟨w.heap.size, 8, none⟩ = some (.int .i64 r.v.mn) := fun p => HB6.out.v.ext p 8
          have y0 : ∀ p : Ext w6, p.W.cell? ⟨w.heap.size + 1, 0, none⟩ = some (.int .i64 x.k) := fun p => HB6.out.r.ext p 0
          have y1 : ∀ p : Ext w6, p.W.cell? ⟨w.heap.size + 1, 1, none⟩ = some (.int .i64 x.v) := fun p => HB6.out.r.ext p 1
          have y2 : ∀ p : Ext w6, p.W.cell? ⟨w.heap.size + 1, 2, none⟩ = some (.int .i64 x.a) := fun p => HB6.out.r.ext p 2
          have y3 : ∀ p : Ext w6, p.W.cell? ⟨w.heap.size + 1, 3, none⟩ = some (.int .i64 x.z) := fun p => HB6.out.r.ext p 3
          have CY := fun (p : Ext w6) => C p.W (some (ad.add (h * 5))) (n - h) (d - h) (cs.drop h) (HB6.out.b.trans (p.b.mono HB6.out.b.size)) (((HC.out.below HB6.out.b).below p.b |>.drop i5)) (by omega)
          rw [Y3.out] at CY
          have ne : Nonempty (Ext w6) := ⟨⟨w6, Below.refl _ _⟩⟩
          go_wp2
          refine quietE (by kernel_rfl) (by kernel_rfl) ?_
          repeat (quiet_step (first
            | (go_at_call 13; with_reducible exact ext_of (CY _).out)
            | fail))
          refine wpQuiet_nil ?_
          rintro _ ⟨p, rfl⟩
          have HB7 := Lib.hid (HB6.out.next p.b)
          generalize p.W = w7 at HB7 ⊢
          clear CY HB6 ne x0 x1 x2 x3 x4 x5 x6 x7 x8 y0 y1 y2 y3
          go_wp2_with fail
          refine (CA _).out.mono ?_
          rintro e w8 ⟨rfl, hb8⟩
          have HB8 := Lib.hid (HB7.out.next hb8)
          clear hb8 HB7 CA
          by_cases h0 : e0 = 0
          · obtain ⟨k1, k2, k3, k4⟩ := g1 h0
            subst h0 k1 k2 k3
            have t1 : wrap64 (a2 + a3) = a0 := by rw [← k4]; exact IntWalk.wrap64_in _ ⟨by omega, by omega⟩
            have t2 : IntKind.i64.wrap (a2 + a3) = a0 := (IntWalk.i64_left _).trans t1
            clear g1 g2 k4
            go_wp2
            go_ret
            exact ⟨rfl, HB8.out.b⟩
          · have k1 := g2 h0
            have t1 : (e0 == 0) = false := by rw [beq_eq_false_iff_ne]; exact h0
            have t2 : (e1 == 0) = false := by rw [beq_eq_false_iff_ne]; exact k1
            clear g1 g2
            go_wp2
            go_ret
            exact ⟨rfl, HB8.out.b⟩

theorem walk {w0 : World} (r : Rw) (g : GivenV w0 r) (x : Ri) (A : Option Addr) (n d : Nat) (cs : List Co) (gc : GivenC w0 A n d cs) : Calls Try.prog 8 #[vg r, rg x, .slice A n d] w0 (Yes w0 true) := by
  have CF := fun W => Lib.hid (few_ r A n d W g.l gc.m)
  have CA := fun W => Lib.hid (alive_ W)
  cases hF : fw r n
  · rw [hF] at CF
    exact way_no r x A n d w0 CF CA
  rw [hF] at CF
  have hf := fw_yes hF
  have hq := fun c => (qd_bd r.v x c).1
  have hb := yr_bd hq cs
  obtain ⟨v1, v2⟩ := yr_rev (f := qd r.v x) (l := cs)
  have h2 := fun he => yr_two hq (l := cs.take (n / 2)) (m := cs.drop (n / 2)) he
  rw [List.take_append_drop] at h2
  refine way_yes r x A n d w0 cs (qd r.v x) gc.r hf.2 gc.cap gc.nil CF CA (fun W B m e ks hb hC hm => Lib.hid (year r x B m e ks W (g.m.below hb) g.l hC (by unfold maxLen; omega))) (n / 2) rfl
    (Lib.hid (by omega)) (yr (qd r.v x) 0 cs).1 (yr (qd r.v x) 0 cs).2 (yr (qd r.v x) 0 cs.reverse).2 _ _ _ _ (Lib.hid rfl) (Lib.hid (Prod.ext v2.symm rfl)) (Lib.hid rfl) (Lib.hid rfl) hb (fun he => ?_) (fun he e1 => he (v1.2 e1))
  obtain ⟨p1, p2, p3⟩ := h2 he
  exact ⟨v1.1 he, p1, p2, p3.symm⟩

set_option maxRecDepth 100000 in
theorem lifted (os : Os) (started : os.Started) (H : Type) (enc : TypeId × Value → H) :
    ReturnsInHanded {} Try.checked os 8 .any (Rows.quoteOrderSpec.pre6 enc Try.prog Try.f8 Rows.quoteOrderRow.domain false) (Rows.quoteOrderSpec.post enc Try.prog Try.f8 false true false false) := by
  refine returnsInHanded_of_change_sized (C := Try.checked) Qo.own started (by kernel_rfl) Try.func8
    (ChangeSpec.witness6 (enc := enc) (C := Try.checked) false ⟨#[], #[.agg #[.int .i64 0, .int .i64 0, .int .i64 0, .int .i64 0, .int .i64 0, .slice none 0 0, .slice none 0 0, .slice none 0 0, .int .i64 0], .agg #[.int .i64 0, .int .i64 0, .int .i64 0, .int .i64 0], .slice none 0 0], []⟩ 8 (by kernel_rfl) (by kernel_rfl) (by kernel_rfl) (by kernel_rfl)) ?_
  intro W base args ds gs before hval0 hW hcnd hsz0 _
  have hval : ∀ (j : Nat) t v, Try.f8.params[j]? = some t → args[j]? = some v → Value.okWide Try.prog W .any base t v := hval0
  have hW' := hW
  have hsz : (DataW.weightsEach Try.prog (Try.f8.params.toList ++ Rows.quoteOrderSpec.plain.varTypes Try.prog) (ds ++ gs)).all (· ≤ reachBytes) = true := hsz0
  obtain ⟨p, q, hA0, hV, rfl, hfz, hnd⟩ := hW
  have hA : DataW.TrodAll enc Try.prog W 0 (fun _ => true) true Try.f8.params.toList args.toList ds p := hA0
  rw [Try.params8] at hA hval hsz
  obtain ⟨v0, vs0, d0, ds0, p0, q0, hargs, rfl, rfl, h0, r0⟩ := trodAll_cons hA
  obtain ⟨v1, vs1, d1, ds1, p1, q1, rfl, rfl, rfl, h1, r1⟩ := trodAll_cons r0
  obtain ⟨v2, vs2, d2, ds2, p2, q2, rfl, rfl, rfl, h2, r2⟩ := trodAll_cons r1
  obtain ⟨rfl, rfl, rfl⟩ := trodAll_nil r2
  obtain rfl : args = #[v0, v1, v2] := by cases args; simp_all
  obtain ⟨rfl, rfl⟩ := trodVars_none hV
  have k0 := h0
  have lt0 : ∀ x ∈ p0, x.block < W.heap.size := by obtain ⟨m, hm⟩ := k0; exact DataW.trod_lt m _ _ _ hm
  obtain ⟨z0, rfl, g0⟩ := Qo.open_version (hval 0 26 v0 rfl rfl) h0 (fun k hk => of_decide_eq_true (List.all_eq_true.1 hsz _ (DataW.weights_mem_each (j := 0) rfl rfl k hk)))
  have k1 := h1
  have lt1 : ∀ x ∈ p1, x.block < W.heap.size := by obtain ⟨m, hm⟩ := k1; exact DataW.trod_lt m _ _ _ hm
  obtain ⟨x1, rfl⟩ := Qo.open_risk (hval 1 28 v1 rfl rfl) h1 (fun k hk => of_decide_eq_true (List.all_eq_true.1 hsz _ (DataW.weights_mem_each (j := 1) rfl rfl k hk)))
  have k2 := h2
  have lt2 : ∀ x ∈ p2, x.block < W.heap.size := by obtain ⟨m, hm⟩ := k2; exact DataW.trod_lt m _ _ _ hm
  obtain ⟨A2, n2, d2, s2, rfl, g2⟩ := Qo.open_covers (hval 2 37 v2 rfl rfl) h2 (fun k hk => of_decide_eq_true (List.all_eq_true.1 hsz _ (DataW.weights_mem_each (j := 2) rfl rfl k hk)))
  clear hA0 hval0 hsz hsz0
  refine (walk z0 g0 x1 A2 n2 d2 s2 g2).mono fun e W' ⟨he, bel⟩ => ?_
  subst he
  exact ⟨_, rfl, _, _, _, [], _, [], hW', trodAll_mk1 (shut_bool Try.underlying4 _), (trodAll_cons_mk (Below.trod Qo.laidOut (by kernel_rfl) (of_decide_eq_true (by kernel_rfl)) k0 bel lt0) (trodAll_cons_mk (Below.trod Qo.laidOut (by kernel_rfl) (of_decide_eq_true (by kernel_rfl)) k1 bel lt1) (trodAll_cons_mk (Below.trod Qo.laidOut (by kernel_rfl) (of_decide_eq_true (by kernel_rfl)) k2 bel lt2) trodAll_mk0))), rfl, bel.frame _, fun h => by cases h⟩

theorem over : Rows.quoteOrderRow.holds Try.pinned (OpenSpec.ofChange Rows.quoteOrderSpec) :=
  OpenClaim.holds_of_wide 8 Try.f8 rfl rfl rfl rfl rfl rfl rfl ⟨rfl, rfl, rfl, rfl, rfl⟩ rfl rfl rfl rfl rfl (by kernel_rfl) Try.func8 (by kernel_rfl)
    (of_decide_eq_true (by kernel_rfl)) (by unfold Func.isWrapper; first | (rw [if_pos (by decide +kernel)]; kernel_rfl) | (rw [if_neg (by decide +kernel)]; exact ⟨rfl, rfl⟩))
    (fun os started H enc _ => lifted os started H enc)

theorem proved : Rows.QuoteOrderSaid := over
end Go.Proofs.Ytinhhphnbbdoeaa.quoteOrder
