/-
  The document's Sum, and its Year of layer 9: what a year of all covers costs. Conditions: the version's lists and the row of covers read as lists; there are few covers.
-/
import Derived.Test.YtinhhphnbbdoeaaRCost
import Derived.Test.YtinhhphnbbdoeaaApp
namespace Go.Proofs.Ytinhhphnbbdoeaa
open Go.RowKit Ba Tf Cv Qm
namespace Qo
set_option linter.unusedVariables false

def nonneg (xs : List Int) : Prop := ∀ x ∈ xs, 0 ≤ x
def sumL (xs : List Int) : Int := xs.foldl (· + ·) 0

theorem sumL_snoc (xs : List Int) (x : Int) : sumL (xs ++ [x]) = sumL xs + x := by simp [sumL, List.foldl_append]
theorem foldl_add (xs : List Int) (a : Int) : xs.foldl (· + ·) a = a + xs.foldl (· + ·) 0 := by
  induction xs generalizing a with
  | nil => simp
  | cons x xs ih => simp only [List.foldl_cons]; rw [ih (a + x), ih (0 + x)]; omega
theorem sumL_cons (x : Int) (xs : List Int) : sumL (x :: xs) = x + sumL xs := by
  unfold sumL; rw [List.foldl_cons, foldl_add]; omega
theorem sumL_append (xs ys : List Int) : sumL (xs ++ ys) = sumL xs + sumL ys := by
  unfold sumL; rw [List.foldl_append, foldl_add]
theorem sumL_nonneg {xs : List Int} (h : nonneg xs) : 0 ≤ sumL xs := by
  induction xs with
  | nil => simp [sumL]
  | cons x xs ih => rw [sumL_cons]; have := h x (by simp); have := ih (fun y hy => h y (by simp [hy])); omega
theorem nonneg_take {xs : List Int} (h : nonneg xs) (k : Nat) : nonneg (xs.take k) := fun x hx => h x (List.mem_of_mem_take hx)
theorem sumL_take_le {xs : List Int} (h : nonneg xs) (k : Nat) : sumL (xs.take k) ≤ sumL xs := by
  have e : sumL xs = sumL (xs.take k) + sumL (xs.drop k) := by rw [← sumL_append, List.take_append_drop]
  have := sumL_nonneg (xs := xs.drop k) (fun x hx => h x (List.mem_of_mem_drop hx))
  omega
theorem take_more {xs : List Int} {k : Nat} {x : Int} (h : xs[k]? = some x) : xs.take (k + 1) = xs.take k ++ [x] := take_get h
def sumVal (xs : List Int) : Value := if sumL xs ≤ 4000000000000000000 then .tuple #[.int .i64 (sumL xs), .bool true] else .tuple #[.int .i64 0, .bool false]
theorem sumVal_ok {xs : List Int} (h : sumL xs ≤ 4000000000000000000) : Ending.returned (.tuple #[.int .i64 (sumL xs), .bool true]) = .returned (sumVal xs) := by rw [sumVal, if_pos h]
theorem sumVal_no {xs : List Int} {k : Nat} {x : Int} (hp : nonneg xs) (hx : xs[k]? = some x) (h : 4000000000000000000 - sumL (xs.take k) < x) : Ending.returned (.tuple #[.int .i64 0, .bool false]) = .returned (sumVal xs) := by
  have := sumL_take_le hp (k + 1)
  rw [take_more hx, sumL_snoc] at this
  rw [sumVal, if_neg (by omega)]


set_option maxRecDepth 100000 in
set_option maxHeartbeats 1000000 in
theorem rsum (A : Option Addr) (n c : Nat) (ok : Nat → Prop) (xs : List Int) (w : World) (h : Ins w ok A n xs) (hn : n ≤ maxLen) (hp : nonneg xs) :
    Calls Try.prog 28 #[.slice A n c] w fun e w' => e = .returned (sumVal xs) ∧ w = w' := by
  unfold maxLen at hn
  have H := Lib.hid h
  have HP := Lib.hid hp
  clear h hp
  go_enter Try.func28, Try.ntmps28
  go_wp2
  go_loop [4, 5] (fun s i => ∃ (k : Nat) (t : Int), k ≤ n ∧ i = .int .i64 (k : Int) ∧ s = .int .i64 t ∧ 0 ≤ t ∧ t ≤ 4000000000000000000 ∧ Hid (t = sumL (xs.take k))) (fun _ i => n - (intOf i).toNat)
  case atStart => exact ⟨0, 0, Nat.zero_le _, rfl, rfl, by omega, by omega, Lib.hid (by simp [sumL])⟩
  case round =>
    obtain ⟨k, t, hk, rfl, rfl, ht0, ht1, HT⟩ := hrel
    by_cases hlt : k < n
    · obtain ⟨ad, x, rfl, hb, hx, hc⟩ := H.out.get hlt
      have hx0 : 0 ≤ x := HP.out x (List.mem_of_getElem? hx)
      have HX := Lib.hid hx
      clear hx
      obtain ⟨d, hd⟩ : ∃ d : Int, d = 4000000000000000000 - t := ⟨_, rfl⟩
      have ed : 4000000000000000000 - t = d := hd.symm
      have HD := Lib.hid hd
      clear hd
      by_cases ho : d < x
      · have tt : decide (d < x) = true := by simpa using ho
        go_wp2
        go_ret2
        refine ⟨sumVal_no HP.out HX.out ?_, rfl⟩
        rw [← HT.out, ← HD.out]
        exact ho
      · have tt : decide (d < x) = false := by simpa using ho
        have hs : t + x ≤ 4000000000000000000 := by have := HD.out; omega
        go_wp2
        go_round
        case rel =>
          refine ⟨k + 1, t + x, by omega, by go_num, rfl, by omega, by omega, Lib.hid ?_⟩
          rw [take_more HX.out, sumL_snoc, ← HT.out]
        case measure => simp [intOf]; omega
    · go_wp2
      go_ret2
      have e : xs.take k = xs := List.take_of_length_le (by have := H.out.1; omega)
      have ht := HT.out
      rw [e] at ht
      subst ht
      exact ⟨sumVal_ok ht1, rfl⟩


/-- A version's and a risk's box, and the row of numbers behind them. -/
structure RY (w W : World) (r : Rw) (x : Ri) (A : Option Addr) (k d : Nat) (zs : List Int) : Prop where
  b : Below w.heap.size w W
  v : Bx W w.heap.size 26 (vc r)
  r : Bx W (w.heap.size + 1) 28 (rc x)
  o : IOwn W (w.heap.size + 1 + 1) A k d zs
section
variable {w W W' : World} {r : Rw} {x : Ri} {A A' : Option Addr} {k d k' d' : Nat} {zs zs' : List Int}
theorem RY.next (h : RY w W r x A k d zs) (hb : Below W.heap.size W W') : RY w W' r x A k d zs := ⟨h.b.trans (hb.mono h.b.size), h.v.keep hb, h.r.keep hb, h.o.below hb⟩
theorem RY.grow (h : RY w W r x A k d zs) (hO : IOwn W' (w.heap.size + 1 + 1) A' k' d' zs') (hg : W.grownBy W' (Value.slice A k d).ownBlock) : RY w W' r x A' k' d' zs' := by
  have hl := h.r.lt
  have hb : Below (w.heap.size + 1 + 1) W W' := (Below.refl _ W).grown hg (by omega) fun j hj => (h.o.lt j hj).1
  exact ⟨h.b.trans (hb.mono (by omega)), h.v.below hb (by omega), h.r.below hb (by omega), hO⟩
theorem RY.start (w : World) (r : Rw) (x : Ri) : RY w ((w.alloc (.cells (vc r) 26)).alloc (.cells (rc x) 28)) r x none 0 0 [] := by
  refine ⟨(alloc_ _ _).alloc (by simp) _, (Bx.new _ _ _).alloc _, ?_, IOwn.nil⟩
  have := Bx.new (w.alloc (.cells (vc r) 26)) 28 (rc x)
  rw [World.size_alloc] at this
  exact this
end
theorem below_drew (w : World) : Below w.heap.size w w.drew := ⟨rfl, rfl, rfl, Nat.le_refl _, fun _ _ => rfl⟩

set_option maxRecDepth 100000 in
set_option maxHeartbeats 4000000 in
theorem ryear (r : Rw) (x : Ri) (A : Option Addr) (n d : Nat) (cs : List Co) (w : World) (M : Mean w (· < w.heap.size) r) (S : Lo r) (hC : Cvs w (· < w.heap.size) A n cs) (hn : n ≤ 1000) :
    Calls Try.prog 14 #[vg r, rg x, .slice A n d] w (Tells w (yr (qd r.v x) 0 cs)) := by
  have HC := Lib.hid hC
  have C := fun (c : Co) (W : World) (h : Below w.heap.size w W) => Lib.hid (rcost r x c W (M.below h) S)
  have HQ := Lib.hid (qd_bd r.v x)
  generalize qd r.v x = f at C HQ ⊢
  obtain ⟨R, hR⟩ : ∃ R, yr f 0 cs = R := ⟨_, rfl⟩
  rw [hR]
  have HR := Lib.hid hR
  clear M S hC hR
  obtain ⟨W0, hW⟩ : ∃ W0, ((w.alloc (.cells (vc r) 26)).alloc (.cells (rc x) 28)) = W0 := ⟨_, rfl⟩
  have HY := Lib.hid (show RY w W0 r x none 0 0 [] by rw [← hW]; exact RY.start w r x)
  have HW := Lib.hid hW
  clear hW
  go_enter Try.func14, Try.ntmps14
  go_wp2
  rw [HW.out]
  clear HW
  go_loopw [8, 9] (fun s8 i w' => ∃ (k : Nat) (A1 : Option Addr) (d1 : Nat) (zs : List Int) (W : World), k ≤ n ∧ i = .int .i64 (k : Int) ∧ s8 = .slice A1 k d1 ∧ W = w' ∧ Hid (RY w W r x A1 k d1 zs) ∧ Hid (yr f (sumL zs) (cs.drop k) = R) ∧ Hid (nonneg zs)) (fun _ i _ => n - (intOf i).toNat)
  case atStart => exact ⟨0, none, 0, [], _, Nat.zero_le _, rfl, rfl, rfl, HY, HR, Lib.hid (fun x hx => by cases hx)⟩
  case round =>
    obtain ⟨k, A1, d1, zs, W, hk, rfl, rfl, rfl, HB, HT, HZ⟩ := hrel
    clear HY
    by_cases hlt : k < n
    · obtain ⟨ad, c, rfl, hb, hc, hN⟩ := (HC.out.below HB.out.b).get hlt
      have HD := Lib.hid (drop_get hc)
      obtain ⟨c0, c1, c2, c3, c4⟩ := hN
      have hlt2 : (k : Int) < (n : Int) := by omega
      obtain ⟨q1, q2, q3, q4, q5⟩ := HQ.out c
      have C1 := fun (p : Ext W) => C c p.W (HB.out.b.trans (p.b.mono HB.out.b.size))
      obtain ⟨⟨m, cd⟩, hp⟩ : ∃ p, f c = p := ⟨_, rfl⟩
      rw [hp] at C1 q1 q2 q3 q4 q5
      simp only at q1 q2 q3 q4 q5
      have HE := Lib.hid (fun h : cd ≠ 0 => show R = (0, cd) by rw [← HT.out, HD.out, yr_err (by rw [hp]; exact h), hp])
      have HO := Lib.hid (fun h : cd = 0 => show yr f (sumL zs + m) (cs.drop (k + 1)) = R by rw [← HT.out, HD.out, yr_step (by rw [hp]; exact h), hp])
      clear hc C HT HD hp
      have x0 : ∀ p : Ext W, p.W.cell? ⟨w.heap.size, 0, none⟩ = some (.int .i64 r.v.fr) := fun p => HB.out.v.ext p 0
      have x1 : ∀ p : Ext W, p.W.cell? ⟨w.heap.size, 1, none⟩ = some (.int .i64 r.v.b0) := fun p => HB.out.v.ext p 1
      have x2 : ∀ p : Ext W, p.W.cell? ⟨w.heap.size, 2, none⟩ = some (.int .i64 r.v.b1) := fun p => HB.out.v.ext p 2
      have x3 : ∀ p : Ext W, p.W.cell? ⟨w.heap.size, 3, none⟩ = some (.int .i64 r.v.b2) := fun p => HB.out.v.ext p 3
      have x4 : ∀ p : Ext W, p.W.cell? ⟨w.heap.size, 4, none⟩ = some (.int .i64 r.v.b3) := fun p => HB.out.v.ext p 4
      have x5 : ∀ p : Ext W, p.W.cell? ⟨w.heap.size, 5, none⟩ = some (.slice r.A r.la r.ca) := fun p => HB.out.v.ext p 5
      have x6 : ∀ p : Ext W, p.W.cell? ⟨w.heap.size, 6, none⟩ = some (.slice r.Z r.lz r.cz) := fun p => HB.out.v.ext p 6
      have x7 : ∀ p : Ext W, p.W.cell? ⟨w.heap.size, 7, none⟩ = some (.slice r.P r.lp r.cp) := fun p => HB.out.v.ext p 7
      have x8 : ∀ p : Ext W, p.W.cell? ⟨w.heap.size, 8, none⟩ = some (.int .i64 r.v.mn) := fun p => HB.out.v.ext p 8
      have y0 : ∀ p : Ext W, p.W.cell? ⟨w.heap.size + 1, 0, none⟩ = some (.int .i64 x.k) := fun p => HB.out.r.ext p 0
      have y1 : ∀ p : Ext W, p.W.cell? ⟨w.heap.size + 1, 1, none⟩ = some (.int .i64 x.v) := fun p => HB.out.r.ext p 1
      have y2 : ∀ p : Ext W, p.W.cell? ⟨w.heap.size + 1, 2, none⟩ = some (.int .i64 x.a) := fun p => HB.out.r.ext p 2
      have y3 : ∀ p : Ext W, p.W.cell? ⟨w.heap.size + 1, 3, none⟩ = some (.int .i64 x.z) := fun p => HB.out.r.ext p 3
      have hb5 : (ad.add (k * 5)).block < W.heap.size := by rw [add_block]; exact hb
      have e0 : ∀ p : Ext W, p.W.cell? (ad.add (k * 5)) = some (.int .i64 c.p) := fun p => (p.b.cell hb5).trans c0
      have e1 : ∀ p : Ext W, p.W.cell? ⟨(ad.add (k * 5)).block, (ad.add (k * 5)).off + 1, none⟩ = some (.int .i64 c.l) := fun p => (p.b.cell (p := ⟨(ad.add (k * 5)).block, (ad.add (k * 5)).off + 1, none⟩) hb5).trans c1
      have e2 : ∀ p : Ext W, p.W.cell? ⟨(ad.add (k * 5)).block, (ad.add (k * 5)).off + 2, none⟩ = some (.int .i64 c.g) := fun p => (p.b.cell (p := ⟨(ad.add (k * 5)).block, (ad.add (k * 5)).off + 2, none⟩) hb5).trans c2
      have e3 : ∀ p : Ext W, p.W.cell? ⟨(ad.add (k * 5)).block, (ad.add (k * 5)).off + 3, none⟩ = some (.int .i64 c.d) := fun p => (p.b.cell (p := ⟨(ad.add (k * 5)).block, (ad.add (k * 5)).off + 3, none⟩) hb5).trans c3
      have e4 : ∀ p : Ext W, p.W.cell? ⟨(ad.add (k * 5)).block, (ad.add (k * 5)).off + 4, none⟩ = some (.int .i64 c.s) := fun p => (p.b.cell (p := ⟨(ad.add (k * 5)).block, (ad.add (k * 5)).off + 4, none⟩) hb5).trans c4
      clear c0 c1 c2 c3 c4 hb5 hb
      go_wp2
      have ne : Nonempty (Ext W) := ⟨⟨W, Below.refl _ _⟩⟩
      refine quietE (by kernel_rfl) (by kernel_rfl) ?_
      repeat (quiet_step (first
        | (go_at_call 12; with_reducible exact ext_of (C1 _).out)
        | fail))
      refine wpQuiet_nil ?_
      rintro _ ⟨p, rfl⟩
      have HB2 := Lib.hid (HB.out.next p.b)
      generalize p.W = w2 at HB2 ⊢
      clear C1 HB ne e0 e1 e2 e3 e4 x0 x1 x2 x3 x4 x5 x6 x7 x8 y0 y1 y2 y3
      by_cases hcd : cd = 0
      · subst hcd
        have HO2 := Lib.hid (HO.out rfl)
        have HZ2 := Lib.hid (show nonneg (zs ++ [m]) from fun y hy => by rcases List.mem_append.1 hy with h | h; exact HZ.out y h; simp at h; omega)
        have HB3 := Lib.hid (HB2.out.next (alloc_ w2 (.cells #[.int .i64 m] 3)))
        have HI := Lib.hid (ins_box (xs := [m]) (Bx.new w2 3 #[.int .i64 m]) (fun _ => True) trivial)
        have hk2 : k + 1 ≤ 4000000 := by omega
        have hbase : w.heap.size + 1 + 1 ≤ (w2.alloc (.cells #[.int .i64 m] 3)).heap.size := by have := HB3.out.r.lt; omega
        clear HE HO q5 HB2
        go_wp2_with (at_builtin; refine wpList_app_i (w2.alloc (.cells #[.int .i64 m] 3)) (by rfl) (.tmp 33) (.tmp 35) (by rfl) (w.heap.size + 1 + 1) A1 k d1 zs (by rfl) HB3.out.o _ (some ⟨w2.heap.size, 0, none⟩) 1 1 [m] (by rfl) HI.out (fun h => by cases h) (k + 1) rfl hk2 hbase ?_; intro A4 c4 W4 hO4 hg4; have HB4 := Lib.hid (HB3.out.grow hO4 hg4); clear hO4 hg4)
        go_roundw
        case rel => exact ⟨k + 1, A4, c4, zs ++ [m], _, by omega, by go_num, rfl, rfl, HB4, Lib.hid (by rw [sumL_snoc]; exact HO2.out), HZ2⟩
        case measure => simp [intOf]; omega
      · have t1 : (cd == 0) = false := by rw [beq_eq_false_iff_ne]; exact hcd
        have HE2 := Lib.hid (HE.out hcd)
        clear HO HE hcd
        go_wp2
        go_ret2
        exact ⟨by rw [HE2.out]; rfl, HB2.out.b⟩
    · have HE := Lib.hid (show yr f (sumL zs) [] = R by have := HT.out; rwa [List.drop_of_length_le (by rw [HC.out.1]; omega)] at this)
      have CS := Lib.hid (rsum A1 k d1 _ zs W HB.out.o.row (by unfold maxLen; omega) HZ.out)
      by_cases hs : sumL zs ≤ 4000000000000000000
      · rw [sumVal, if_pos hs] at CS
        have HF := Lib.hid (show R = (sumL zs, 0) by rw [← HE.out, yr_done (by omega)])
        generalize sumL zs = s at CS HF
        clear hs HE HT
        go_wp2_with (go_at_call 28; refine CS.out.mono ?_; rintro e w2 ⟨rfl, rfl⟩)
        go_ret2
        exact ⟨by rw [HF.out]; rfl, HB.out.b⟩
      · rw [sumVal, if_neg hs] at CS
        have HF := Lib.hid (show R = (0, 5) by rw [← HE.out, yr_over (by omega)])
        clear hs HE HT
        go_wp2_with (go_at_call 28; refine CS.out.mono ?_; rintro e w2 ⟨rfl, rfl⟩)
        go_ret2
        exact ⟨by rw [HF.out]; rfl, HB.out.b⟩
end Qo
end Go.Proofs.Ytinhhphnbbdoeaa
