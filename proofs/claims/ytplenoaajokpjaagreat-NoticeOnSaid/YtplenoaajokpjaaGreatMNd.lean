/-
  The parts N4, N5, N7, N8 of this proof. Conditions: those of each theorem.
-/
import Derived.Test.YtplenoaajokpjaaGreatMNa
import Derived.Deep.QuietTactic
import Derived.Test.YtplenoaajokpjaaGreatMFw
import Derived.Test.YtplenoaajokpjaaGreatMGi
namespace Go.Proofs.YtplenoaajokpjaaGreat
open Go.RowKit Ba Cv Sp Te Ag Tf Sl Tm Slc
namespace Ntc
set_option linter.unusedVariables false
abbrev hd2 : Hd := ⟨true, ri2, [co2]⟩
abbrev hd2F : Hd := ⟨false, ri2, [co2]⟩
abbrev yK : Int := (qf (Trf.tol 1 [kV]) ri2 [co2]).1
abbrev sl50 : List Sc := [⟨(1, 101), hd2, yK⟩]
abbrev sl60 : List Sc := [⟨(1, 41), hd2, yK⟩, ⟨(41, 101), hd2F, 0⟩]
abbrev hi0 : Hi := ⟨1, 1, (1, 101), ri2, [co2], []⟩
theorem ordK : Ag.Ord hiK.hs [0] := ⟨List.Perm.refl _, List.pairwise_singleton _ _⟩
theorem hldK (d : Int) : hld (ini hiK) (ordl hiK.hs [0]) d = if d < 41 then hd2 else hd2F := by
 show ((List.filter (fun c : Ch => decide (c.dy ≤ d)) [chK]).foldl don (ini hiK)) = _
 by_cases h1 : d < 41
 ·rw [if_pos h1, List.filter_cons_of_neg (by simp; omega)]; rfl
 ·rw [if_neg h1, List.filter_cons_of_pos (by simp; omega)]; rfl
theorem isK60 : OfIs hiK [kV] 0 sl60 := by
 have hb : bad (qf (Trf.tol hiK.s.1 [kV])) [((1, 41), hd2), ((41, 101), hd2F)] = 0 := by decide +kernel
 refine .some (by decide +kernel) (by decide +kernel) [0] [((1, 41), hd2), ((41, 101), hd2F)] ordK ⟨⟨rfl, by decide, rfl, by decide, rfl⟩, fun x hx d h1 h2 => ?_, fun i x y h0 h1 => ?_⟩ hb.symm ?_
 ·rw [hldK]; rcases List.mem_cons.1 hx with rfl | hx
  ·rw [if_pos h2]
  ·rw [List.mem_singleton] at hx; subst hx; have h1 : (41 : Int) ≤ d := h1; rw [if_neg (by omega)]
 ·match i, h0, h1 with
  | 0, h0, h1 => simp at h0 h1; subst h0 h1; decide +kernel
  | n + 1, h0, h1 => simp at h1
 ·rw [if_pos hb]; rfl
theorem isK0 : OfIs hi0 [kV] 0 sl50 := by
 have hb : bad (qf (Trf.tol hi0.s.1 [kV])) [((1, 101), hd2)] = 0 := by decide +kernel
 refine .some (by decide +kernel) (by decide +kernel) [] [((1, 101), hd2)] ⟨List.Perm.refl _, List.Pairwise.nil⟩ ⟨⟨rfl, by decide, rfl⟩, fun x hx d h1 h2 => ?_, fun i x y h0 h1 => ?_⟩ hb.symm ?_
 ·rw [List.mem_singleton] at hx; subst hx; rfl
 ·simp at h1
 ·rw [if_pos hb]; rfl
abbrev exc0 : Cm := ⟨1, 1, 1, 50, 55, 0⟩
abbrev exc : List Cm := [⟨1, 1, 1, 50, 61, 0⟩, ⟨1, 1, 2, 50, 55, 0⟩, ⟨1, 2, 1, 50, 55, 0⟩, ⟨1, 1, 1, 50, 49, 0⟩, ⟨0, 0, 0, 0, 0, 0⟩]
theorem cvK : CvIs hiK [kV] exc0 co2 0 := .told sl50 (by decide) (by decide) rfl (.known (by decide) isK0) (by decide +kernel) (by decide +kernel)
theorem whK : WhIs hiK [kV] exc [11, 11, 7, 4, 1] := by
 refine ⟨rfl, fun i c k hc hk => ?_⟩
 match i, hc, hk with
 | 0, hc, hk => simp at hc hk; subst hc hk; exact ⟨_, .told sl60 (by decide) (by decide) rfl (.known (by decide) isK60) rfl (by decide +kernel)⟩
 | 1, hc, hk => simp at hc hk; subst hc hk; exact ⟨_, .told sl50 (by decide) (by decide) rfl (.known (by decide) isK0) rfl (by decide +kernel)⟩
 | 2, hc, hk => simp at hc hk; subst hc hk; exact ⟨_, .other (by decide) (by decide) (by decide) rfl rfl⟩
 | 3, hc, hk => simp at hc hk; subst hc hk; exact ⟨_, .order (by decide) (by decide) rfl rfl⟩
 | 4, hc, hk => simp at hc hk; subst hc hk; exact ⟨_, .arg (by decide) rfl rfl⟩
 | n + 5, hc, hk => simp at hc
def mel (l : List Cm) : List Value := l.flatMap ml
theorem mel_append (xs ys : List Cm) : mel (xs ++ ys) = mel xs ++ mel ys := List.flatMap_append
theorem mel_one (b : Cm) : mel [b] = ml b := by simp [mel]
theorem mel_get {xs : List Cm} {j : Nat} {r : Cm} (h : xs[j]? = some r) {o : Nat} (ho : o < 6) : (mel xs)[j * 6 + o]? = (ml r)[o]? := by
 induction xs generalizing j with
 | nil => simp at h
 | cons y ys ih =>
  have hl : (ml y).length = 6 := rfl; rw [show y :: ys = [y] ++ ys from rfl, mel_append, mel_one]; cases j with
  | zero => simp at h; subst h; rw [Nat.zero_mul, Nat.zero_add, List.getElem?_append_left (by omega)]
  | succ j =>
   simp at h; rw [List.getElem?_append_right (by omega), hl, show (j + 1) * 6 + o - 6 = j * 6 + o by omega]; exact ih h
theorem cls_bx {w : World} {g : Nat} {l : List Cm} {xs : Array Value} (h : Bx w g 23 xs) (e : xs.toList = mel l) : Cls w (· = g) (some ⟨g, 0, none⟩) l.length l := by
 refine ⟨rfl, fun hn => ⟨_, rfl, rfl, fun j b hb => six_of fun o u hu => ?_⟩⟩; have ho : o < 6 := (List.getElem?_eq_some_iff.1 hu).1; rw [Addr.add_lit, h.c, ← Array.getElem?_toList, e, Nat.zero_add, mel_get hb ho]; exact hu
theorem ers_bx {w : World} {g : Nat} {l : List Int} {xs : Array Value} (h : Bx w g 42 xs) (e : xs.toList = l.map (Value.int .i64)) : Ers w (· = g) (some ⟨g, 0, none⟩) l.length l := by
 refine ⟨rfl, fun hn => ⟨_, rfl, rfl, fun j x hx => ?_⟩⟩; rw [Addr.add_lit, h.c, ← Array.getElem?_toList, e, Nat.zero_add, List.getElem?_map, hx]; rfl
set_option maxRecDepth 100000 in
set_option maxHeartbeats 2000000 in
theorem same_ (L L2 : Option Addr) (m c c2 : Nat) (xs : List Int) (w : World) (ok ok2 : Nat → Prop) (hS : Ers w ok L m xs) (hS2 : Ers w ok2 L2 m xs) (hm : m ≤ maxLen) :
  Calls Tryz.prog 15 #[.slice L m c, .slice L2 m c2] w (Yes w true) := by
 unfold maxLen at hm; have HS := Lib.hid hS; have HS2 := Lib.hid hS2; clear hS hS2; go_enter Tryz.func15, Tryz.ntmps15; go_wp2
 go_loopw [13] (fun i w' => ∃ (k : Nat) (w1 : World), k ≤ m ∧ i = .int .i64 (k : Int) ∧ w1 = w' ∧ Hid (Below w.heap.size w w1) ∧ Hid (Ers w1 ok L m xs ∧ Ers w1 ok2 L2 m xs)) (fun i _ => m - (intOf i).toNat)
 case atStart => exact ⟨0, _, Nat.zero_le _, rfl, rfl, Lib.hid (Below.refl _ _), Lib.hid ⟨HS.out, HS2.out⟩⟩
 case round =>
  obtain ⟨k, w1, hk, rfl, rfl, HB, HQ⟩ := hrel; by_cases hlt : k < m
  ·obtain ⟨ad, x, rfl, hb, hx, hc0⟩ := HQ.out.1.get hlt; obtain ⟨ad2, y, rfl, hb2, hy, hd0⟩ := HQ.out.2.get hlt; have hlt2 : (k : Int) < (m : Int) := by omega
   rw [hx] at hy; injection hy with hy
   subst hy; clear hx hb hb2; go_wp2
   try go_quiet (fail)
   try go_wp2
   go_roundw
   case rel => exact ⟨k + 1, _, by omega, by go_num, rfl, Lib.hid (by first | exact HB.out | exact below_drewN HB.out _), Lib.hid ⟨HQ.out.1, HQ.out.2⟩⟩
   case measure => simp [intOf]; omega
  ·go_wp2; go_ret; exact ⟨rfl, HB.out⟩
end Ntc
end Go.Proofs.YtplenoaajokpjaaGreat

namespace Go.Proofs.YtplenoaajokpjaaGreat
open Go.RowKit Ba Cv Sp Te Ag Tf Sl Tm Slc
namespace Ntc
set_option linter.unusedVariables false
set_option maxRecDepth 100000 in
set_option maxHeartbeats 4000000 in
theorem alive17 (Q : Hid Asks) (w : World) : Calls Tryz.prog 9 #[] w (Yes w true) := by
 go_enter Tryz.func9, Tryz.ntmps9
 go_wp2_with fail
 refine (plain17 w).mono ?_; rintro e w1 ⟨A, B, T, r, rfl, hr, hV, hM, hS, hb1⟩; obtain ⟨W, hW⟩ : ∃ W, (w1.alloc (.cells (hc (hrK A B)) 35)).alloc (.cells #[.slice T 1 1] 38) = W := ⟨_, rfl⟩; have H0 := Lib.hid (show O2 w1 W (hrK A B) T 1 1 by rw [← hW]; exact O2.start w1 _ T 1 1); have HW := Lib.hid hW; have HVS := Lib.hid (show [r].map Trf.Rw.v = [kV] by rw [List.map_singleton, hr]); have HA := Lib.hid (show Arg w1 (hrK A B) T 1 [r] from ⟨hM, hS, (by show 1 ≤ 100; omega), ⟨by show 1 ≤ 1000; omega, fun r hr => by rw [List.mem_singleton] at hr; subst hr; exact Nat.zero_le _⟩, hV, by omega⟩); have HB1 := Lib.hid hb1; clear hr hV hM hS hb1 hW
 go_upto_region 2 with fail
 rw [HW.out]; clear HW; have x0 := H0.out.x.c 0; have x1 := H0.out.x.c 1; have x2 := H0.out.x.c 2; have x3 := H0.out.x.c 3; have x4 := H0.out.x.c 4; have x5 := H0.out.x.c 5; have x6 := H0.out.x.c 6; have x7 := H0.out.x.c 7; have x8 := H0.out.x.c 8; have x9 := H0.out.x.c 9; have y0 := H0.out.y.c 0; simp at x0 x1 x2 x3 x4 x5 x6 x7 x8 x9 y0; have C := Lib.hid (Q.out.cv (hrK A B) T 1 1 [r] exc0 W (HA.out.below H0.out.b))
 go_wp2_with fail
 refine C.out.mono ?_; rintro e w2 ⟨v, k, rfl, hi, hb⟩; rw [HVS.out] at hi; obtain ⟨rfl, rfl⟩ := CvIs.one (h := hiK) hi cvK; clear hi C; obtain ⟨W3, hW3⟩ : ∃ W3, w2.alloc (.cells (cc co2) 41) = W3 := ⟨_, rfl⟩; have hb3 : Below W.heap.size W W3 := by rw [← hW3]; exact hb.alloc hb.size _
 have HX3 := Lib.hid (show Bx W3 w2.heap.size 41 (cc co2) from hW3 ▸ Bx.new w2 _ _); have H3 := Lib.hid (H0.out.next hb3); have HW3 := Lib.hid hW3; clear hb hb3 hW3 H0 x0 x1 x2 x3 x4 x5 x6 x7 x8 x9 y0
 go_upto_region 3 with fail
 rw [HW3.out]; clear HW3; have x0 := H3.out.x.c 0; have x1 := H3.out.x.c 1; have x2 := H3.out.x.c 2; have x3 := H3.out.x.c 3; have x4 := H3.out.x.c 4; have x5 := H3.out.x.c 5; have x6 := H3.out.x.c 6; have x7 := H3.out.x.c 7; have x8 := H3.out.x.c 8; have x9 := H3.out.x.c 9; have y0 := H3.out.y.c 0; simp at x0 x1 x2 x3 x4 x5 x6 x7 x8 x9 y0; obtain ⟨W4, hW4⟩ : ∃ W4, W3.alloc (.cells (mel exc).toArray 23) = W4 := ⟨_, rfl⟩; have hb4 : Below W3.heap.size W3 W4 := hW4 ▸ alloc_ _ _; have HZ4 := Lib.hid (show Bx W4 W3.heap.size 23 (mel exc).toArray from hW4 ▸ Bx.new W3 _ _); have H4 := Lib.hid (H3.out.next hb4); have HX4 := Lib.hid (HX3.out.keep hb4); have C := Lib.hid (Q.out.wh (hrK A B) T 1 1 [r] (some ⟨W3.heap.size, 0, none⟩) 5 5 exc W4 (HA.out.below H4.out.b) ((cls_bx HZ4.out (l := exc) rfl).keep (fun _ _ => rfl) fun b hb => by rw [hb]; exact HZ4.out.lt) (by omega) (by omega)); have HW4 := Lib.hid (show W3.alloc (.cells #[.int .i64 1, .int .i64 1, .int .i64 1, .int .i64 50, .int .i64 61, .int .i64 0, .int .i64 1, .int .i64 1, .int .i64 2, .int .i64 50, .int .i64 55, .int .i64 0, .int .i64 1, .int .i64 2, .int .i64 1, .int .i64 50, .int .i64 55, .int .i64 0, .int .i64 1, .int .i64 1, .int .i64 1, .int .i64 50, .int .i64 49, .int .i64 0, .int .i64 0, .int .i64 0, .int .i64 0, .int .i64 0, .int .i64 0, .int .i64 0] 23) = W4 from hW4); clear hW4 hb4 H3 HX3
 go_wp2_with fail
 rw [HW4.out]; refine C.out.mono ?_; rintro e w5 ⟨A5, n5, c5, ks5, rfl, hc5, hE, hi, hb⟩; rw [HVS.out] at hi; obtain rfl := WhIs.one (h := hiK) hi whK; obtain rfl : n5 = 5 := hE.1.symm; have H5 := Lib.hid (H4.out.next hb); have HX5 := Lib.hid (HX4.out.keep hb); have HE5 := Lib.hid hE; clear hi hE hb hc5 C HW4 HZ4 H4 HX4 x0 x1 x2 x3 x4 x5 x6 x7 x8 x9 y0; obtain ⟨W6, hW6⟩ : ∃ W6, w5.alloc (.cells #[.int .i64 11, .int .i64 11, .int .i64 7, .int .i64 4, .int .i64 1] 42) = W6 := ⟨_, rfl⟩; have hb6 : Below w5.heap.size w5 W6 := hW6 ▸ alloc_ _ _; have HZ6 := Lib.hid (show Bx W6 w5.heap.size 42 #[.int .i64 11, .int .i64 11, .int .i64 7, .int .i64 4, .int .i64 1] from hW6 ▸ Bx.new w5 _ _); have H6 := Lib.hid (H5.out.next hb6); have C := Lib.hid (same_ A5 (some ⟨w5.heap.size, 0, none⟩) 5 c5 5 [11, 11, 7, 4, 1] W6 _ _ (HE5.out.below hb6) (ers_bx HZ6.out (l := [11, 11, 7, 4, 1]) rfl) (by unfold maxLen; omega)); have HW6 := Lib.hid hW6; have z1 := HX5.out.c 1; simp at z1; clear hb6 hW6 H5 HX5 HE5 HZ6
 go_wp2_with fail
 rw [HW6.out]; refine C.out.mono ?_; rintro e w7 ⟨rfl, hb⟩; have H7 := Lib.hid (H6.out.next hb); have C := Lib.hid (show Calls Tryz.prog 10 #[mg ⟨1, 1, 0, 1, 1, 0⟩] w7 (Yes w7 true) from Q.out.ri ⟨1, 1, 0, 1, 1, 0⟩ w7); clear hb H6 HW6 z1
 go_wp2_with fail
 refine C.out.mono ?_; rintro e w8 ⟨rfl, hb⟩; have H8 := Lib.hid (H7.out.next hb); have C := Lib.hid (show Calls Tryz.prog 10 #[mg ⟨0, 0, 0, 0, 0, 0⟩] w8 (Yes w8 false) from Q.out.ri ⟨0, 0, 0, 0, 0, 0⟩ w8); clear hb H7
 go_wp2_with fail
 refine C.out.mono ?_; rintro e w9 ⟨rfl, hb⟩; have H9 := Lib.hid (H8.out.next hb); clear hb H8 C; go_wp2; go_ret; exact ⟨rfl, HB1.out.trans (H9.out.b.mono HB1.out.size)⟩
end Ntc
end Go.Proofs.YtplenoaajokpjaaGreat

namespace Go.Proofs.YtplenoaajokpjaaGreat
open Go.RowKit Ba Cv Sp Te Ag Tf Sl Tm Slc
namespace Ntc
set_option linter.unusedVariables false
structure N3 (w W : World) (h : Hr) (T : Option Addr) (n c : Nat) (t : TypeId) (xs : Array Value) : Prop where
 o : O2 w W h T n c
 z : Bx W (w.heap.size + 1 + 1) t xs
theorem N3.next {w W W' : World} {h : Hr} {T : Option Addr} {n c : Nat} {t : TypeId} {xs : Array Value} (H : N3 w W h T n c t xs) (hb : Below W.heap.size W W') : N3 w W' h T n c t xs := ⟨H.o.next hb, H.z.keep hb⟩
theorem N3.start (w : World) (h : Hr) (T : Option Addr) (n c : Nat) (t : TypeId) (xs : Array Value) : N3 w (((w.alloc (.cells (hc h) 35)).alloc (.cells #[.slice T n c] 38)).alloc (.cells xs t)) h T n c t xs := by
 refine ⟨(O2.start w h T n c).next (alloc_ _ _), ?_⟩; have := Bx.new ((w.alloc (.cells (hc h) 35)).alloc (.cells #[.slice T n c] 38)) t xs; simp only [World.size_alloc] at this; exact this
theorem arg_small {w : World} {h : Hr} {T : Option Addr} {nt ct : Nat} {vs : List Trf.Rw} (G : GivenH w h) (GT : Trf.GivenT w T nt ct vs) (s : Small h nt vs) : Arg w h T nt vs :=
 ⟨G.M, s.hs G, Nat.le_trans s.m (by omega), s.cov, s.vers GT, Nat.le_trans s.t (by omega)⟩
end Ntc
end Go.Proofs.YtplenoaajokpjaaGreat

namespace Go.Proofs.YtplenoaajokpjaaGreat
open Go.ChangeShapes Go.WideShapes Go.ChangeAt Go.RowKit Ba Cv Sp Te Ag Tf Sl Tm
namespace Ntc
set_option linter.unusedVariables false
set_option maxRecDepth 100000
theorem own : ownKnob Tryz.prog.godebug = none := Slc.own
theorem laidOut : laidOutB Tryz.prog = true := Slc.laidOut
theorem open_history {H : Type} {enc : TypeId × Value → H} {W : World} {base : Nat} {sp : Nat → Bool} {v : Value} {d : DataW H} {p : List MemPlace} (hv : Value.okWide Tryz.prog W .any base 35 v) (h : DataW.Trod enc Tryz.prog W 0 sp true 35 v d p) (hw : ∀ k ∈ d.weights Tryz.prog 35, k ≤ reachBytes) : ∃ h, v = hg h ∧ GivenH W h := Tm.open_history hv h hw
theorem open_tariff {H : Type} {enc : TypeId × Value → H} {W : World} {base : Nat} {sp : Nat → Bool} {v : Value} {d : DataW H} {p : List MemPlace} (hv : Value.okWide Tryz.prog W .any base 38 v) (h : DataW.Trod enc Tryz.prog W 0 sp true 38 v d p) (hw : ∀ k ∈ d.weights Tryz.prog 38, k ≤ reachBytes) : ∃ A n c rs, v = Trf.tg A n c ∧ Trf.GivenT W A n c rs := Trf.open_tariff hv h hw
theorem open_change {H : Type} {enc : TypeId × Value → H} {W : World} {base : Nat} {sp : Nat → Bool} {v : Value} {d : DataW H} {p : List MemPlace} (hv : Value.okWide Tryz.prog W .any base 52 v) (h : DataW.Trod enc Tryz.prog W 0 sp true 52 v d p) (hw : ∀ k ∈ d.weights Tryz.prog 52, k ≤ reachBytes) : ∃ r, v = Tm.vg r ∧ GivenR W r := Tm.open_change hv h hw
theorem open_cells {H : Type} {enc : TypeId × Value → H} {W : World} {sp : Nat → Bool} {cs : List Value} {fuel : Nat} {x : DataW H × List MemPlace}
  (h : DataW.trod enc Tryz.prog W 0 sp true fuel 23 cs = some x) : ∃ b : Cm, cs = ml b := by
 obtain ⟨xs, k', hk', rfl, hlen, hxl, hf⟩ := DataW.trod_struct Tryz.underlying23 h; have hc6 : (Tryz.prog.cellsOf 23) = 6 := by kernel_rfl
 rw [hc6] at hlen
 match xs, hxl, cs, hlen with
 | [y0, y1, y2, y3, y4, y5], _, [v0, v1, v2, v3, v4, v5], _ =>
  have g0 := hf 0 _ rfl; have g1 := hf 1 _ rfl; have g2 := hf 2 _ rfl; have g3 := hf 3 _ rfl; have g4 := hf 4 _ rfl; have g5 := hf 5 _ rfl; have q1 : (Tryz.prog.cellsOf 3) = 1 := by kernel_rfl
  simp [q1] at g0 g1 g2 g3 g4 g5; obtain ⟨p0, e0, _, _⟩ := DataW.trod_int Tryz.underlying3 g0; obtain ⟨p1, e1, _, _⟩ := DataW.trod_int Tryz.underlying3 g1; obtain ⟨p2, e2, _, _⟩ := DataW.trod_int Tryz.underlying3 g2; obtain ⟨p3, e3, _, _⟩ := DataW.trod_int Tryz.underlying3 g3; obtain ⟨p4, e4, _, _⟩ := DataW.trod_int Tryz.underlying3 g4; obtain ⟨p5, e5, _, _⟩ := DataW.trod_int Tryz.underlying3 g5; simp at e0 e1 e2 e3 e4 e5; subst e0 e1 e2 e3 e4 e5; exact ⟨⟨p0, p1, p2, p3, p4, p5⟩, rfl⟩
theorem open_claim {H : Type} {enc : TypeId × Value → H} {W : World} {base : Nat} {sp : Nat → Bool} {v : Value} {d : DataW H} {p : List MemPlace} (hv : Value.okWide Tryz.prog W .any base 23 v) (h : DataW.Trod enc Tryz.prog W 0 sp true 23 v d p) (hw : ∀ k ∈ d.weights Tryz.prog 23, k ≤ reachBytes) : ∃ c, v = mg c := by
 obtain ⟨cs, rfl, hsz⟩ := okWide_struct Tryz.underlying23 hv; obtain ⟨fuel, hf⟩ := h; obtain ⟨b, e⟩ := open_cells hf; obtain ⟨l⟩ := cs; simp [Value.cells] at e; subst e; exact ⟨b, rfl⟩
theorem open_claims {H : Type} {enc : TypeId × Value → H} {W : World} {base : Nat} {sp : Nat → Bool} {v : Value} {d : DataW H} {p : List MemPlace} (hv : Value.okWide Tryz.prog W .any base 46 v) (h : DataW.Trod enc Tryz.prog W 0 sp true 46 v d p) (hw : ∀ k ∈ d.weights Tryz.prog 46, k ≤ reachBytes) : ∃ A n c l, v = .slice A n c ∧ n ≤ c ∧ Cls W (· < W.heap.size) A n l := by
 obtain ⟨A, n, c, rfl⟩ := okWide_slice Tryz.underlying46 hv; refine ⟨A, n, c, ?_⟩; obtain ⟨fuel, hf⟩ := h; rcases Go.Deep.open_slice Tryz.underlying46 hf with ⟨hcs, _⟩ | ⟨a, len, cap, m, k, D, Pl, hcs, _, hl, hm, hmm, _, hx⟩
 ·simp [Value.cells] at hcs; obtain ⟨rfl, rfl, rfl⟩ := hcs; exact ⟨[], rfl, Nat.le_refl _, Cls.nil⟩
 ·simp [Value.cells] at hcs; obtain ⟨rfl, rfl, rfl⟩ := hcs; have hnm : n ≤ m := by rw [hmm]; split <;> omega
  have hc6 : (Tryz.prog.cellsOf 23) = 6 := by kernel_rfl
  have each : ∀ i, i < n → ∃ b : Cm, Six W (a.add (i * 6)) b := by
   intro i hi; obtain ⟨cs', h1, h2⟩ := hx i (by omega); rw [hc6] at h1; obtain ⟨_, hlen, hcell⟩ := World.cells?_some h1; obtain ⟨b, rfl⟩ := open_cells h2; refine ⟨b, six_of fun o u hu => ?_⟩; have ho : o < 6 := (List.getElem?_eq_some_iff.1 hu).1; have := hcell o ho; rw [Go.Deep.add_add] at this; rw [this, ← hu]
  obtain ⟨xs, hlx, hc⟩ := Tm.list_of n each; refine ⟨xs, rfl, hl, hlx, fun hn => ⟨a, rfl, ?_, hc⟩⟩; obtain ⟨z, hz⟩ := each 0 hn; have := World.block_lt_of_cell? _ _ hz.c0; rwa [madd_block] at this
end Ntc
end Go.Proofs.YtplenoaajokpjaaGreat
