/-
  The parts Fns, Cov of this proof. Conditions: those of each theorem.
-/
import Derived.Test.YtplenoaajokpjaaGreatMTm
namespace Go.Proofs.YtplenoaajokpjaaGreat
open Go.RowKit Ba Cv Sp Te
namespace Tm
set_option linter.unusedVariables false
set_option maxHeartbeats 1000000 in
theorem mwithin (n lo hi : Int) (w : World) : Calls Tryz.prog 84 #[.int .i64 n, .int .i64 lo, .int .i64 hi] w fun e w' => e = .returned (.bool (wi n lo hi)) ∧ w = w' := by
 by_cases h1 : lo ≤ n
 ·have t1 : decide (lo ≤ n) = true := by simpa using h1
  by_cases h2 : n ≤ hi
  ·have t2 : decide (n ≤ hi) = true := by simpa using h2
   rw [wi_iff.2 ⟨h1, h2⟩]; clear h1 h2; go_enter Tryz.func84, Tryz.ntmps84; go_wp2; go_ret; exact ⟨rfl, rfl⟩
  ·have t2 : decide (n ≤ hi) = false := by simpa using h2
   rw [wi_no (by omega)]; clear h1 h2; go_enter Tryz.func84, Tryz.ntmps84; go_wp2; go_ret; exact ⟨rfl, rfl⟩
 ·have t1 : decide (lo ≤ n) = false := by simpa using h1
  rw [wi_no (by omega)]; clear h1; go_enter Tryz.func84, Tryz.ntmps84; go_wp2; go_ret; exact ⟨rfl, rfl⟩
set_option maxRecDepth 100000 in
set_option maxHeartbeats 2000000 in
theorem each (A : Option Addr) (n c : Nat) (cs : List Co) (w : World) (h : Cvs w (· < w.heap.size) A n cs) (hm : n ≤ maxLen) :
  Calls Tryz.prog 110 #[.slice A n c, .func (.func 111) #[] #[]] w (Yes w (cs.all ok)) := by
 have C := fun c w => Lib.hid (cov_right c w)
 unfold maxLen at hm; have HS := Lib.hid h; have HL := Lib.hid h.1; obtain ⟨R, hR⟩ : ∃ R, cs.all ok = R := ⟨_, rfl⟩; rw [hR]; have HR := Lib.hid hR; clear h hR; go_enter Tryz.func110, Tryz.ntmps110; go_wp2
 go_loopw [9] (fun i w' => ∃ (k : Nat) (W : World), k ≤ n ∧ i = .int .i64 (k : Int) ∧ W = w' ∧ Hid (Below w.heap.size w W) ∧ Hid ((cs.drop k).all ok = R)) (fun i _ => n - (intOf i).toNat)
 case atStart => exact ⟨0, _, Nat.zero_le _, rfl, rfl, Lib.hid (Below.refl _ _), HR⟩
 case round =>
  obtain ⟨k, W, hk, rfl, rfl, HB, HD⟩ := hrel; by_cases hlt : k < n
  ·obtain ⟨ad, x, rfl, hb, hx, hF⟩ := (HS.out.below HB.out).get hlt; obtain ⟨c0, c1, c2, c3, c4⟩ := hF; have HX := Lib.hid (drop_get hx); have hlt2 : (k : Int) < (n : Int) := by omega
   have CX := C x; cases hq : ok x with
   | false =>
    have HF := Lib.hid (show R = false by rw [← HD.out, HX.out, List.all_cons, hq]; rfl); rw [hq] at CX; clear hq hb hx C
    go_wp2_with fail
    refine (CX _).out.mono ?_; rintro e w1 ⟨rfl, hb1⟩; have HB1 := Lib.hid (HB.out.trans ((below_alloc hb1).mono HB.out.size)); clear hb1; go_wp2; go_ret; exact ⟨by rw [HF.out]; rfl, HB1.out⟩
   | true =>
    have HN := Lib.hid (show (cs.drop (k + 1)).all ok = R by rw [← HD.out, HX.out, List.all_cons, hq]; rfl); rw [hq] at CX; clear hq hb hx C
    go_wp2_with fail
    refine (CX _).out.mono ?_; rintro e w1 ⟨rfl, hb1⟩; have HB1 := Lib.hid (HB.out.trans ((below_alloc hb1).mono HB.out.size)); clear hb1; go_wp2; go_roundw
    case rel => exact ⟨k + 1, _, by omega, by go_num, rfl, HB1, HN⟩
    case measure => simp [intOf]; omega
  ·have HF := Lib.hid (show R = true by rw [← HD.out, List.drop_of_length_le (by rw [HL.out]; omega)]; rfl); obtain rfl : k = n := by omega
   go_wp2; go_ret; exact ⟨by rw [HF.out]; rfl, HB.out⟩
theorem up_long {j : Nat} {cs : List Co} {a b : Co} (ha : cs[j]? = some a) (hb : cs[j + 1]? = some b) : up (cs.drop j) = (decide (a.p < b.p) && up (cs.drop (j + 1))) := by
 rw [drop_get ha, drop_get hb, up_two]
theorem up_short {j : Nat} {cs : List Co} (h : cs.length ≤ j + 1) : up (cs.drop j) = true := by
 match e : cs.drop j with
 | [] => rfl
 | [a] => rfl
 | a :: b :: l =>
  have := congrArg List.length e; rw [List.length_drop] at this; simp at this; omega
set_option maxRecDepth 100000 in
set_option maxHeartbeats 2000000 in
theorem rises (A : Option Addr) (n c : Nat) (cs : List Co) (w : World) (h : Cvs w (· < w.heap.size) A n cs) (hm : n ≤ maxLen) :
  Calls Tryz.prog 113 #[.slice A n c] w (Yes w (up cs)) := by
 unfold maxLen at hm; have HS := Lib.hid h; have HL := Lib.hid h.1; obtain ⟨R, hR⟩ : ∃ R, up cs = R := ⟨_, rfl⟩; rw [hR]; have HR := Lib.hid hR; clear h hR; go_enter Tryz.func113, Tryz.ntmps113; go_wp2
 go_loopw [3] (fun i w' => ∃ (k j : Nat) (W : World), k = j + 1 ∧ j ≤ n ∧ i = .int .i64 (k : Int) ∧ W = w' ∧ Hid (Below w.heap.size w W) ∧ Hid (up (cs.drop j) = R)) (fun i _ => n + 1 - (intOf i).toNat)
 case atStart => exact ⟨1, 0, _, rfl, Nat.zero_le _, rfl, rfl, Lib.hid (Below.refl _ _), HR⟩
 case round =>
  obtain ⟨k, j, W, hkj, hj, rfl, rfl, HB, HD⟩ := hrel; by_cases hlt : k < n
  ·obtain ⟨ad, y, rfl, hb, hy, hF⟩ := (HS.out.below HB.out).get hlt; obtain ⟨ad', x, ead, _, hx, hG⟩ := (HS.out.below HB.out).get (show j < n by omega); injection ead with ead
   subst ead; have c0 := hF.c0; have d0 := hG.c0; have HX := Lib.hid (up_long hx (by rw [← hkj]; exact hy)); have HKJ := Lib.hid hkj; have e1 : (k : Int) - 1 = (j : Int) := by omega
   have hk2 : (k : Int) < (n : Int) := by omega
   have hj2 : (j : Int) < (n : Int) := by omega
   by_cases h1 : y.p ≤ x.p
   ·have t1 : decide (y.p ≤ x.p) = true := by simpa using h1
    have HF := Lib.hid (show R = false by rw [← HD.out, HX.out, decide_eq_false (by omega)]; rfl); clear h1 hF hG hb hy hx hkj hlt; go_wp2
    go_quiet (fail)
    go_wp2; go_ret; exact ⟨by rw [HF.out]; rfl, below_drewN HB.out _⟩
   ·have t1 : decide (y.p ≤ x.p) = false := by simpa using h1
    have HN := Lib.hid (show up (cs.drop k) = R by rw [← HD.out, HX.out, decide_eq_true (by omega), hkj]; rfl); clear h1 hF hG hb hy hx hkj; go_wp2
    go_quiet (fail)
    go_wp2; go_roundw
    case rel => exact ⟨k + 1, k, _, rfl, by omega, by go_num, rfl, Lib.hid (below_drewN HB.out _), HN⟩
    case measure => have := HKJ.out; simp [intOf]; omega
  ·have HF := Lib.hid (show R = true by rw [← HD.out]; exact up_short (by rw [HL.out]; omega)); have hge : ¬ (k : Int) < (n : Int) := by omega
   clear hlt hkj; go_wp2; go_ret; exact ⟨by rw [HF.out]; rfl, HB.out⟩
end Tm
end Go.Proofs.YtplenoaajokpjaaGreat
namespace Go.Proofs.YtplenoaajokpjaaGreat
open Go.RowKit Ba Cv Sp Te
namespace Tm
set_option linter.unusedVariables false
theorem enters {f : Nat} {fn : Func} (hf : Tryz.prog.funcs[f]? = some fn) (hn : (fn.name == "runtime.NumGoroutine") = false) (hb : fn.body.isNone = false) (args : Array Value) (w : World) :
  (callFunc f args).run Tryz.prog w = .ok (.enter f args) w := by
 have h1 : fn.name ≠ "runtime.NumGoroutine" := by simpa using hn
 have h2 : fn.body ≠ none := fun e => by rw [e] at hb; cases hb
 simp [callFunc, hf, h1, h2]
set_option maxHeartbeats 1000000 in
theorem word (a b : Nat) (m : Int) (q x : Bool) (u : FrameMode) (w : World) (h1 : w.cell? ⟨a, 0, none⟩ = some (.int .i64 m)) (h2 : w.cell? ⟨b, 0, none⟩ = some (.bool x)) (h3 : w.frozen? ⟨b, 0, none⟩ = false) (e : (m == 0) = q) :
  CallsD Tryz.prog 114 #[.pointer (some ⟨a, 0, none⟩), .pointer (some ⟨b, 0, none⟩)] u w fun e u' w' => u' = u ∧ (e = .returned (.tuple #[]) ∧ w' = w.setCell ⟨b, 0, none⟩ (.bool q)) := by
 go_enter_d Tryz.func114, Tryz.ntmps114
 go_wp2
 go_end0
 exact ⟨rfl, rfl⟩
structure Op (w W : World) (m : Int) : Prop where
 b : Below w.heap.size w W
 r : Bx W w.heap.size 4 #[.bool false]
 o : Bx W (w.heap.size + 1) 3 #[.int .i64 m]
section
variable {w W W' : World} {m m' : Int}
theorem Op.next (h : Op w W m) (hb : Below W.heap.size W W') : Op w W' m := ⟨h.b.trans (hb.mono h.b.size), h.r.keep hb, h.o.keep hb⟩
theorem Op.set (h : Op w W m) (m' : Int) : Op w (W.setCell ⟨w.heap.size + 1, 0, none⟩ (.int .i64 m')) m' :=
 ⟨h.b.setCell (by simp) _, h.r.far (by simp) _, h.o.set 0 _⟩
theorem Op.start (w : World) (m : Int) : Op w ((w.alloc (.cells #[.bool false] 4)).alloc (.cells #[.int .i64 m] 3)) m := by
 refine ⟨(alloc_ _ _).alloc (by simp) _, (Bx.new _ _ _).alloc _, ?_⟩; have := Bx.new (w.alloc (.cells #[.bool false] 4)) 3 #[.int .i64 m]; rw [World.size_alloc] at this; exact this
end
set_option maxRecDepth 100000 in
set_option maxHeartbeats 2000000 in
theorem met_ (ad : Addr) (n p : Nat) (fs : List Nat) (bs : List Bool) (w : World) (hf : fs.length = n) (hb : bs.length = n) (hn : n ≤ 100) (hbk : ad.block < w.heap.size)
  (hc : ∀ (i f : Nat), fs[i]? = some f → w.cell? (ad.add i) = some (.func (.func f) #[] #[.pointer (some ⟨p, 0, none⟩)]))
  (E : ∀ (i f : Nat), fs[i]? = some f → ∀ (args : Array Value) (w : World), (callFunc f args).run Tryz.prog w = .ok (.enter f args) w)
  (C : ∀ (i f : Nat) (b : Bool) (W : World), fs[i]? = some f → bs[i]? = some b → Below w.heap.size w W → Calls Tryz.prog f #[.pointer (some ⟨p, 0, none⟩)] W (Yes W b)) :
  Calls Tryz.prog 81 #[.slice (some ad) n n] w (Yes w (bs.all id)) := by
 have hmf : ∀ (fn : Fn) (first cap : Array Value) (w : World), (Instr.makeFunc fn first cap).run Tryz.prog w = .ok (.func fn first cap) w := fun _ _ _ _ => rfl
 have HC := Lib.hid hc; have HK := Lib.hid C; have HE := Lib.hid E; have HF := Lib.hid hf; have HN := Lib.hid hb; have HAD := Lib.hid hbk; obtain ⟨R, hR⟩ : ∃ R, bs.all id = R := ⟨_, rfl⟩; rw [hR]; have HR := Lib.hid hR; have H0 := Lib.hid (Op.start w (n : Int)); clear hc C E hf hb hbk hR
 go_enter_defers Tryz.func81, Tryz.ntmps81
 go_wp2
 go_loopw [5, 11] (fun s i w' => ∃ (k : Nat) (m : Int) (W : World), k ≤ n ∧ m = (n : Int) - (k : Int) ∧ i = .int .i64 (k : Int) ∧ W = w' ∧ Hid (Op w W m) ∧ Hid ((bs.drop k).all id = R)) (fun _ i _ => n - (intOf i).toNat)
 case atStart => exact ⟨0, (n : Int), _, Nat.zero_le _, by omega, rfl, rfl, H0, HR⟩
 case round =>
  obtain ⟨k, m, W, hk, hm, rfl, rfl, HW, HD⟩ := hrel; clear H0; by_cases hlt : k < n
  ·have hlt2 : (k : Int) < (n : Int) := by omega
   obtain ⟨f, hf⟩ : ∃ f, fs[k]? = some f := ⟨_, List.getElem?_eq_getElem (by rw [HF.out]; omega)⟩; obtain ⟨b, hb⟩ : ∃ b, bs[k]? = some b := ⟨_, List.getElem?_eq_getElem (by rw [HN.out]; omega)⟩; have hcell : W.cell? (ad.add k) = some (.func (.func f) #[] #[.pointer (some ⟨p, 0, none⟩)]) := (HW.out.b.cell (by rw [add_block]; exact HAD.out)).trans (HC.out k f hf); have HX := Lib.hid (drop_get hb); have CW := Lib.hid (HK.out k f b W hf hb HW.out.b); have HM := Lib.hid hm; have hE := HE.out k f hf; clear hf hm; cases b with
   | false =>
    have HQ := Lib.hid (show R = false by rw [← HD.out, HX.out, List.all_cons]; rfl); have t1 := Lib.hid (show (m == 0) = false by rw [beq_eq_false_iff_ne]; have := HM.out; omega); clear hb HM
    go_wp2_with fail
    refine CW.out.mono ?_; rintro e w1 ⟨rfl, hb1⟩; have HW1 := Lib.hid (HW.out.next hb1); clear hb1 HW CW; go_wp2; refine leaves_cons (f := 114) (args := #[.pointer (some ⟨w.heap.size + 1, 0, none⟩), .pointer (some ⟨w.heap.size, 0, none⟩)]) (by simp) (by simp [go_sem]) ?_; refine (word (w.heap.size + 1) w.heap.size m false false .returning w1 (HW1.out.o.c 0) (HW1.out.r.c 0) (HW1.out.r.f 0) t1.out).mono ?_; rintro e u' w'' ⟨rfl, rfl, rfl⟩; have hc := (HW1.out.r.set 0 (.bool false)).c 0; have hl := HW1.out.r.lt; have HQ' := HQ.out; subst HQ'; simp at hc; have HB := HW1.out.b.setCell (Nat.le_refl _) (p := ⟨w.heap.size, 0, none⟩) (.bool false); simp [Leaves, settle, results, Tryz.results81, go_sem, hc]; exact ⟨rfl, HB⟩
   | true =>
    have HNX := Lib.hid (show (bs.drop (k + 1)).all id = R by rw [← HD.out, HX.out, List.all_cons]; rfl); obtain ⟨m', hm'⟩ : ∃ m', m' = m - 1 := ⟨_, rfl⟩; have e1 : wrap64 (m - 1) = m' := by rw [hm']; exact IntWalk.wrap64_in _ ⟨by have := HM.out; omega, by have := HM.out; omega⟩
    have HM' := Lib.hid (show m' = (n : Int) - ((k + 1 : Nat) : Int) by have := HM.out; omega); clear hb HM hm'
    go_wp2_with fail
    refine CW.out.mono ?_; rintro e w1 ⟨rfl, hb1⟩; have HW1 := Lib.hid (HW.out.next hb1); clear hb1 HW CW; have c0 := HW1.out.o.c 0; have f0 := HW1.out.o.f 0; simp at c0; go_wp2; go_roundw
    case rel => exact ⟨k + 1, m', _, by omega, HM'.out, by go_num, rfl, Lib.hid (HW1.out.set m'), HNX⟩
    case measure => simp [intOf]; omega
  ·have HQ := Lib.hid (show R = true by rw [← HD.out, List.drop_of_length_le (by rw [HN.out]; omega)]; rfl); have t1 := Lib.hid (show (m == 0) = true by rw [beq_iff_eq]; omega); obtain rfl : k = n := by omega
   clear hm hlt; go_wp2; refine leaves_cons (f := 114) (args := #[.pointer (some ⟨w.heap.size + 1, 0, none⟩), .pointer (some ⟨w.heap.size, 0, none⟩)]) (by simp) (by simp [go_sem]) ?_; refine (word (w.heap.size + 1) w.heap.size m true false .returning W (HW.out.o.c 0) (HW.out.r.c 0) (HW.out.r.f 0) t1.out).mono ?_; rintro e u' w'' ⟨rfl, rfl, rfl⟩; have hc := (HW.out.r.set 0 (.bool true)).c 0; have HQ' := HQ.out; subst HQ'; simp at hc; have HB := HW.out.b.setCell (Nat.le_refl _) (p := ⟨w.heap.size, 0, none⟩) (.bool true); simp [Leaves, settle, results, Tryz.results81, go_sem, hc]; exact ⟨rfl, HB⟩
end Tm
end Go.Proofs.YtplenoaajokpjaaGreat

namespace Go.Proofs.YtplenoaajokpjaaGreat
open Go.RowKit Ba Cv Sp Te
namespace Tm
set_option linter.unusedVariables false
set_option maxHeartbeats 1000000 in
theorem need_few (p : Nat) (A : Option Addr) (n c : Nat) (W : World) (h : Bx W p 30 #[.slice A n c]) :
  Calls Tryz.prog 108 #[.pointer (some ⟨p, 0, none⟩)] W (Yes W (wi (n : Int) 1 8)) := by
 have C := fun w => Lib.hid (mwithin (n : Int) 1 8 w)
 have c0 := h.c 0; simp at c0; clear h; go_enter Tryz.func108, Tryz.ntmps108
 go_wp2_with fail
 refine (C _).out.mono ?_; rintro e w1 ⟨rfl, rfl⟩; go_wp2; go_ret; exact ⟨rfl, Below.refl _ _⟩
set_option maxHeartbeats 1000000 in
theorem need_each (p : Nat) (A : Option Addr) (n c : Nat) (cs : List Co) (W : World) (h : Bx W p 30 #[.slice A n c]) (hS : Cvs W (· < W.heap.size) A n cs) (hm : n ≤ maxLen) :
  Calls Tryz.prog 109 #[.pointer (some ⟨p, 0, none⟩)] W (Yes W (cs.all ok)) := by
 have C := Lib.hid (each A n c cs W hS hm); have c0 := h.c 0; simp at c0; clear h hS hm; go_enter Tryz.func109, Tryz.ntmps109
 go_wp2_with fail
 refine C.out.mono ?_; rintro e w1 ⟨rfl, hb⟩; have HB := Lib.hid hb; clear hb; go_wp2; go_ret; exact ⟨rfl, HB.out⟩
set_option maxHeartbeats 1000000 in
theorem need_rise (p : Nat) (A : Option Addr) (n c : Nat) (cs : List Co) (W : World) (h : Bx W p 30 #[.slice A n c]) (hS : Cvs W (· < W.heap.size) A n cs) (hm : n ≤ maxLen) :
  Calls Tryz.prog 112 #[.pointer (some ⟨p, 0, none⟩)] W (Yes W (up cs)) := by
 have C := Lib.hid (rises A n c cs W hS hm); have c0 := h.c 0; simp at c0; clear h hS hm; go_enter Tryz.func112, Tryz.ntmps112
 go_wp2_with fail
 refine C.out.mono ?_; rintro e w1 ⟨rfl, hb⟩; have HB := Lib.hid hb; clear hb; go_wp2; go_ret; exact ⟨rfl, HB.out⟩
abbrev clo (p f : Nat) : Value := .func (.func f) #[] #[.pointer (some ⟨p, 0, none⟩)]
theorem row_cells {w W : World} {t : TypeId} {xs : Array Value} {ys : Array Value} {p : Nat} {fs : List Nat} {s : TypeId} (hp : p = w.heap.size) (hW : (w.alloc (.cells xs s)).alloc (.cells ys t) = W) (hy : ys.toList = fs.map (clo p)) :
  Below w.heap.size w W ∧ Bx W p s xs ∧ p + 1 < W.heap.size ∧ ∀ (i f : Nat), fs[i]? = some f → W.cell? ((⟨p + 1, 0, none⟩ : Addr).add i) = some (clo p f) := by
 subst hW hp; refine ⟨(alloc_ _ _).alloc (by simp) _, (Bx.new _ _ _).alloc _, by simp, fun i f hi => ?_⟩; have h := Bx.new (w.alloc (.cells xs s)) t ys; rw [World.size_alloc] at h
 have e : (⟨w.heap.size + 1, 0, none⟩ : Addr).add i = ⟨w.heap.size + 1, i, none⟩ := by
  unfold Addr.add; by_cases h0 : i = 0 <;> simp [h0]
 rw [e, h.c i]; have : ys.toList[i]? = some (clo w.heap.size f) := by rw [hy, List.getElem?_map, hi]; rfl
 simpa using this
set_option maxRecDepth 100000 in
set_option maxHeartbeats 2000000 in
theorem covers_ (A : Option Addr) (n c : Nat) (cs : List Co) (w : World) (hS : Cvs w (· < w.heap.size) A n cs) (hm : n ≤ maxLen) :
  Calls Tryz.prog 80 #[.slice A n c] w (Yes w (cvr cs)) := by
 have hmf : ∀ (fn : Fn) (first cap : Array Value) (w : World), (Instr.makeFunc fn first cap).run Tryz.prog w = .ok (.func fn first cap) w := fun _ _ _ _ => rfl
 obtain ⟨W, hW⟩ : ∃ W, ((w.alloc (.cells #[.slice A n c] 30)).alloc (.cells #[clo w.heap.size 108, clo w.heap.size 109, clo w.heap.size 112] 24)) = W := ⟨_, rfl⟩; obtain ⟨p, hp⟩ : ∃ p, p = w.heap.size := ⟨_, rfl⟩; obtain ⟨hb, hx, hlt, hc⟩ := row_cells (fs := [108, 109, 112]) hp hW (by rw [hp]; rfl); have hn := hS.1
 have M := Lib.hid (met_ ⟨p + 1, 0, none⟩ 3 p [108, 109, 112] [wi (n : Int) 1 8, cs.all ok, up cs] W rfl rfl (by omega) hlt hc
  (fun i f hi => by
   match i, hi with
   | 0, hi => injection hi with hi; subst hi; exact enters Tryz.func108 (by kernel_rfl) (by kernel_rfl)
   | 1, hi => injection hi with hi; subst hi; exact enters Tryz.func109 (by kernel_rfl) (by kernel_rfl)
   | 2, hi => injection hi with hi; subst hi; exact enters Tryz.func112 (by kernel_rfl) (by kernel_rfl))
  (fun i f b W' hi hbi hW' => by
   have hx' := hx.keep hW'; have hS' := hS.below (hb.trans (hW'.mono hb.size))
   match i, hi, hbi with
   | 0, hi, hbi => injection hi with hi; injection hbi with hbi; subst hi hbi; exact need_few p A n c W' hx'
   | 1, hi, hbi => injection hi with hi; injection hbi with hbi; subst hi hbi; exact need_each p A n c cs W' hx' hS' hm
   | 2, hi, hbi => injection hi with hi; injection hbi with hbi; subst hi hbi; exact need_rise p A n c cs W' hx' hS' hm))
 have e : [wi (n : Int) 1 8, cs.all ok, up cs].all id = cvr cs := by unfold cvr; rw [hn]; simp
 rw [e, hp] at M; generalize cvr cs = R at M ⊢; have HB := Lib.hid hb; have HW := Lib.hid hW; clear hb hx hlt hc hS hm e hW hp; go_enter Tryz.func80, Tryz.ntmps80
 go_wp2_with fail
 rw [HW.out]; refine M.out.mono ?_; rintro e w1 ⟨rfl, hb1⟩; have HB1 := Lib.hid (HB.out.trans (hb1.mono HB.out.size)); clear hb1 HB M HW; go_wp2; go_ret; exact ⟨rfl, HB1.out⟩
set_option maxHeartbeats 1000000 in
theorem need_span (p : Nat) (s : Sp) (r : Ri) (A : Option Addr) (n c : Nat) (W : World) (h : Bx W p 32 (tc s r A n c)) :
  Calls Tryz.prog 82 #[.pointer (some ⟨p, 0, none⟩)] W (Yes W (rt s)) := by
 have C := fun w => Lib.hid (span_right s w)
 have c0 := h.c 0; have c1 := h.c 1; simp at c0 c1; clear h; go_enter Tryz.func82, Tryz.ntmps82
 go_wp2_with fail
 refine (C _).out.mono ?_; rintro e w1 ⟨rfl, hb⟩; have HB := Lib.hid hb; clear hb; go_wp2; go_ret; exact ⟨rfl, HB.out⟩
set_option maxHeartbeats 1000000 in
theorem need_days (p : Nat) (s : Sp) (r : Ri) (A : Option Addr) (n c : Nat) (W : World) (h : Bx W p 32 (tc s r A n c)) :
  Calls Tryz.prog 83 #[.pointer (some ⟨p, 0, none⟩)] W (Yes W (wi (mn s) 1 1100)) := by
 have C := fun w => Lib.hid (span_many s w)
 have D := fun w => Lib.hid (mwithin (mn s) 1 1100 w)
 generalize mn s = m at C D ⊢; have c0 := h.c 0; have c1 := h.c 1; simp at c0 c1; clear h; go_enter Tryz.func83, Tryz.ntmps83
 go_wp2_with fail
 refine (C _).out.mono ?_; rintro e w1 ⟨rfl, hb⟩; have HB := Lib.hid hb; clear hb
 go_wp2_with fail
 refine (D _).out.mono ?_; rintro e w2 ⟨rfl, rfl⟩; go_wp2; go_ret; exact ⟨rfl, HB.out⟩
set_option maxHeartbeats 1000000 in
theorem need_risk (p : Nat) (s : Sp) (r : Ri) (A : Option Addr) (n c : Nat) (W : World) (h : Bx W p 32 (tc s r A n c)) :
  Calls Tryz.prog 86 #[.pointer (some ⟨p, 0, none⟩)] W (Yes W (rk r.k r.v r.a r.z)) := by
 have C := fun w => Lib.hid (risk_right r.k r.v r.a r.z w)
 have c2 := h.c 2; have c3 := h.c 3; have c4 := h.c 4; have c5 := h.c 5; simp at c2 c3 c4 c5; clear h; go_enter Tryz.func86, Tryz.ntmps86
 go_wp2_with fail
 refine (C _).out.mono ?_; rintro e w1 ⟨rfl, hb⟩; have HB := Lib.hid hb; clear hb; go_wp2; go_ret; exact ⟨rfl, HB.out⟩
set_option maxHeartbeats 1000000 in
theorem need_covers (p : Nat) (s : Sp) (r : Ri) (A : Option Addr) (n c : Nat) (cs : List Co) (W : World) (h : Bx W p 32 (tc s r A n c)) (hS : Cvs W (· < W.heap.size) A n cs) (hm : n ≤ maxLen) :
  Calls Tryz.prog 87 #[.pointer (some ⟨p, 0, none⟩)] W (Yes W (cvr cs)) := by
 have C := Lib.hid (covers_ A n c cs W hS hm); have c6 := h.c 6; simp at c6; clear h hS hm; go_enter Tryz.func87, Tryz.ntmps87
 go_wp2_with fail
 refine C.out.mono ?_; rintro e w1 ⟨rfl, hb⟩; have HB := Lib.hid hb; clear hb; go_wp2; go_ret; exact ⟨rfl, HB.out⟩
set_option maxRecDepth 100000 in
set_option maxHeartbeats 2000000 in
theorem right_ (s : Sp) (r : Ri) (A : Option Addr) (n c : Nat) (cs : List Co) (w : World) (hS : Cvs w (· < w.heap.size) A n cs) (hm : n ≤ maxLen) :
  Calls Tryz.prog 64 #[tg s r A n c] w (Yes w (te s r cs)) := by
 have hmf : ∀ (fn : Fn) (first cap : Array Value) (w : World), (Instr.makeFunc fn first cap).run Tryz.prog w = .ok (.func fn first cap) w := fun _ _ _ _ => rfl
 obtain ⟨W, hW⟩ : ∃ W, ((w.alloc (.cells (tc s r A n c) 32)).alloc (.cells #[clo w.heap.size 82, clo w.heap.size 83, clo w.heap.size 86, clo w.heap.size 87] 24)) = W := ⟨_, rfl⟩; obtain ⟨p, hp⟩ : ∃ p, p = w.heap.size := ⟨_, rfl⟩; obtain ⟨hb, hx, hlt, hc⟩ := row_cells (fs := [82, 83, 86, 87]) hp hW (by rw [hp]; rfl)
 have M := Lib.hid (met_ ⟨p + 1, 0, none⟩ 4 p [82, 83, 86, 87] [rt s, wi (mn s) 1 1100, rk r.k r.v r.a r.z, cvr cs] W rfl rfl (by omega) hlt hc
  (fun i f hi => by
   match i, hi with
   | 0, hi => injection hi with hi; subst hi; exact enters Tryz.func82 (by kernel_rfl) (by kernel_rfl)
   | 1, hi => injection hi with hi; subst hi; exact enters Tryz.func83 (by kernel_rfl) (by kernel_rfl)
   | 2, hi => injection hi with hi; subst hi; exact enters Tryz.func86 (by kernel_rfl) (by kernel_rfl)
   | 3, hi => injection hi with hi; subst hi; exact enters Tryz.func87 (by kernel_rfl) (by kernel_rfl))
  (fun i f b W' hi hbi hW' => by
   have hx' := hx.keep hW'; have hS' := hS.below (hb.trans (hW'.mono hb.size))
   match i, hi, hbi with
   | 0, hi, hbi => injection hi with hi; injection hbi with hbi; subst hi hbi; exact need_span p s r A n c W' hx'
   | 1, hi, hbi => injection hi with hi; injection hbi with hbi; subst hi hbi; exact need_days p s r A n c W' hx'
   | 2, hi, hbi => injection hi with hi; injection hbi with hbi; subst hi hbi; exact need_risk p s r A n c W' hx'
   | 3, hi, hbi => injection hi with hi; injection hbi with hbi; subst hi hbi; exact need_covers p s r A n c cs W' hx' hS' hm))
 have e : [rt s, wi (mn s) 1 1100, rk r.k r.v r.a r.z, cvr cs].all id = te s r cs := by unfold te; simp
 rw [e, hp] at M; generalize te s r cs = R at M ⊢; have HB := Lib.hid hb; have HW := Lib.hid hW; clear hb hx hlt hc hS hm e hW hp; go_enter Tryz.func64, Tryz.ntmps64
 go_wp2_with fail
 rw [HW.out]; refine M.out.mono ?_; rintro e w1 ⟨rfl, hb1⟩; have HB1 := Lib.hid (HB.out.trans (hb1.mono HB.out.size)); clear hb1 HB M HW; go_wp2; go_ret; exact ⟨rfl, HB1.out⟩
end Tm
end Go.Proofs.YtplenoaajokpjaaGreat
