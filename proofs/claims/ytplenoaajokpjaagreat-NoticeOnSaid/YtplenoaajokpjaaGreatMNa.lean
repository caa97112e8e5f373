/-
  The parts Find, Nc, Nr, N9a of this proof. Conditions: those of each theorem.
-/
import Derived.Test.YtplenoaajokpjaaGreatMTm
import Derived.Test.YtplenoaajokpjaaGreatMFw
import Derived.Test.YtplenoaajokpjaaGreatMPl
import Derived.Test.YtplenoaajokpjaaGreatKKPl
import Derived.Defers
import Derived.Recover
import Derived.Laws.Pointers
namespace Go.Proofs.YtplenoaajokpjaaGreat
open Go.RowKit Ba Cv Sp Te
namespace Tm
set_option linter.unusedVariables false
abbrev zco : Co := ⟨0, 0, 0, 0, 0⟩
abbrev Found (w : World) (o : Option Co) (e : Ending) (w' : World) : Prop := e = .returned (.tuple #[cg (o.getD zco), .bool o.isSome]) ∧ Below w.heap.size w w'
def five (w : World) (b : Nat) (c : Co) : World := ((((w.setCell ⟨b, 0, none⟩ (.int .i64 c.p)).setCell ⟨b, 1, none⟩ (.int .i64 c.l)).setCell ⟨b, 2, none⟩ (.int .i64 c.g)).setCell ⟨b, 3, none⟩ (.int .i64 c.d)).setCell ⟨b, 4, none⟩ (.int .i64 c.s)
theorem five_arr (x0 x1 x2 x3 x4 a0 a1 a2 a3 a4 : Value) : ((((((#[x0, x1, x2, x3, x4] : Array Value).setIfInBounds 0 a0).setIfInBounds 1 a1).setIfInBounds 2 a2).setIfInBounds 3 a3).setIfInBounds 4 a4) = #[a0, a1, a2, a3, a4] := by simp
theorem five_bx {w : World} {b : Nat} {t : TypeId} {x0 x1 x2 x3 x4 : Value} (h : Bx w b t #[x0, x1, x2, x3, x4]) (c : Co) : Bx (five w b c) b t (cc c) := by
 have := ((((h.set 0 (.int .i64 c.p)).set 1 (.int .i64 c.l)).set 2 (.int .i64 c.g)).set 3 (.int .i64 c.d)).set 4 (.int .i64 c.s); rw [five_arr] at this; exact this
theorem five_below {B : Nat} {w0 w : World} (h : Below B w0 w) {b : Nat} (hb : B ≤ b) (c : Co) : Below B w0 (five w b c) := by
 unfold five; exact ((((h.setCell hb _).setCell hb _).setCell hb _).setCell hb _).setCell hb _
set_option maxRecDepth 100000 in
set_option maxHeartbeats 4000000 in
theorem find_ (A : Option Addr) (n c : Nat) (cs : List Co) (p : Int) (w : World) (h : Cvs w (· < w.heap.size) A n cs) (hm : n ≤ maxLen) :
  Calls Tryz.prog 38 #[.slice A n c, .int .i64 p] w (Found w (fnd p cs)) := by
 unfold maxLen at hm; have HS := Lib.hid h; have HL := Lib.hid h.1; obtain ⟨R, hR⟩ : ∃ R, fnd p cs = R := ⟨_, rfl⟩; rw [hR]; have HR := Lib.hid hR; have HZ0 := Lib.hid (Bx.new w 41 (cc zco)); clear h hR; go_enter Tryz.func38, Tryz.ntmps38; go_wp2
 go_loopw [10] (fun i w' => ∃ (k : Nat) (W : World), k ≤ n ∧ i = .int .i64 (k : Int) ∧ W = w' ∧ Hid (Below w.heap.size w W) ∧ Hid (Bx W w.heap.size 41 (cc zco)) ∧ Hid (fnd p (cs.drop k) = R)) (fun i _ => n - (intOf i).toNat)
 case atStart => exact ⟨0, _, Nat.zero_le _, rfl, rfl, Lib.hid (alloc_ _ _), HZ0, HR⟩
 case round =>
  obtain ⟨k, W, hk, rfl, rfl, HB, HZ, HD⟩ := hrel; clear HZ0; by_cases hlt : k < n
  ·obtain ⟨ad, x, rfl, hb, hx, hF⟩ := (HS.out.below ((Below.refl _ _).trans HB.out)).get hlt; obtain ⟨c0, c1, c2, c3, c4⟩ := hF; have HX := Lib.hid (drop_get hx); have hlt2 : (k : Int) < (n : Int) := by omega
   have HZ3 := Lib.hid (HZ.out.alloc (.cells (cc x) 41)); have HB3 := Lib.hid (HB.out.alloc (by have := HB.out.size; omega) (.cells (cc x) 41)); by_cases h1 : x.p = p
   ·have t1 : (x.p == p) = true := by simpa using h1
    have HO := Lib.hid (show R = some x by rw [← HD.out, HX.out]; exact fnd_yes h1); have hh := HZ3.out; have v0 := hh.c 0; have g0 := hh.f 0; have v1 := hh.c 1; have g1 := hh.f 1; have v2 := hh.c 2; have g2 := hh.f 2; have v3 := hh.c 3; have g3 := hh.f 3; have v4 := hh.c 4; have g4 := hh.f 4; simp at v0 v1 v2 v3 v4; clear h1 hb hx hh; go_wp2; change bodyPost _ _ _ _ _ (five (W.alloc (.cells (cc x) 41)) w.heap.size x); refine bodyPost_ret (v := .tuple #[cg x, .bool true]) ?_ rfl ⟨by rw [HO.out]; rfl, five_below HB3.out (Nat.le_refl _) x⟩; have hx : Bx (five (W.alloc (.cells (cc x) 41)) w.heap.size x) w.heap.size 41 (cc x) := five_bx HZ3.out x; have x0 := hx.c 0; have x1 := hx.c 1; have x2 := hx.c 2; have x3 := hx.c 3; have x4 := hx.c 4; simp at x0 x1 x2 x3 x4; simp [results, Tryz.results38, go_sem, x0, x1, x2, x3, x4]
   ·have t1 : (x.p == p) = false := by simpa using h1
    have HN := Lib.hid (show fnd p (cs.drop (k + 1)) = R by rw [← HD.out, HX.out]; exact (fnd_next h1).symm); clear h1 hb hx; go_wp2; go_roundw
    case rel => exact ⟨k + 1, _, by omega, by go_num, rfl, HB3, HZ3, HN⟩
    case measure => simp [intOf]; omega
  ·have HO := Lib.hid (show R = none by rw [← HD.out, List.drop_of_length_le (by rw [HL.out]; omega)]; rfl); obtain rfl : k = n := by omega
   have hh := HZ.out; have v0 := hh.c 0; have g0 := hh.f 0; have v1 := hh.c 1; have g1 := hh.f 1; have v2 := hh.c 2; have g2 := hh.f 2; have v3 := hh.c 3; have g3 := hh.f 3; have v4 := hh.c 4; have g4 := hh.f 4; simp at v0 v1 v2 v3 v4; clear hh; go_wp2; change bodyPost _ _ _ _ _ (five (W) w.heap.size zco); refine bodyPost_ret (v := .tuple #[cg zco, .bool false]) ?_ rfl ⟨by rw [HO.out]; rfl, five_below HB.out (Nat.le_refl _) zco⟩; have hx : Bx (five (W) w.heap.size zco) w.heap.size 41 (cc zco) := five_bx HZ.out zco; have x0 := hx.c 0; have x1 := hx.c 1; have x2 := hx.c 2; have x3 := hx.c 3; have x4 := hx.c 4; simp at x0 x1 x2 x3 x4; simp [results, Tryz.results38, go_sem, x0, x1, x2, x3, x4]
set_option maxRecDepth 100000 in
set_option maxHeartbeats 4000000 in
theorem rfind_ (A : Option Addr) (n c : Nat) (cs : List Co) (p : Int) (w : World) (h : Cvs w (· < w.heap.size) A n cs) (hm : n ≤ maxLen) :
  Calls Tryz.prog 29 #[.slice A n c, .int .i64 p] w (Found w (fnd p cs)) := by
 unfold maxLen at hm; have HS := Lib.hid h; have HL := Lib.hid h.1; obtain ⟨R, hR⟩ : ∃ R, fnd p cs = R := ⟨_, rfl⟩; rw [hR]; have HR := Lib.hid hR; have HZ0 := Lib.hid (Bx.new w 41 (cc zco)); clear h hR; go_enter Tryz.func29, Tryz.ntmps29; go_wp2
 go_loopw [6] (fun i w' => ∃ (k : Nat) (W : World), k ≤ n ∧ i = .int .i64 (k : Int) ∧ W = w' ∧ Hid (Below w.heap.size w W) ∧ Hid (Bx W w.heap.size 41 (cc zco)) ∧ Hid (fnd p (cs.drop k) = R)) (fun i _ => n - (intOf i).toNat)
 case atStart => exact ⟨0, _, Nat.zero_le _, rfl, rfl, Lib.hid (alloc_ _ _), HZ0, HR⟩
 case round =>
  obtain ⟨k, W, hk, rfl, rfl, HB, HZ, HD⟩ := hrel; clear HZ0; by_cases hlt : k < n
  ·obtain ⟨ad, x, rfl, hb, hx, hF⟩ := (HS.out.below ((Below.refl _ _).trans HB.out)).get hlt; obtain ⟨c0, c1, c2, c3, c4⟩ := hF; have HX := Lib.hid (drop_get hx); have hlt2 : (k : Int) < (n : Int) := by omega
   by_cases h1 : x.p = p
   ·have t1 : (x.p == p) = true := by simpa using h1
    have HO := Lib.hid (show R = some x by rw [← HD.out, HX.out]; exact fnd_yes h1); have hh := HZ.out; have v0 := hh.c 0; have g0 := hh.f 0; have v1 := hh.c 1; have g1 := hh.f 1; have v2 := hh.c 2; have g2 := hh.f 2; have v3 := hh.c 3; have g3 := hh.f 3; have v4 := hh.c 4; have g4 := hh.f 4; simp at v0 v1 v2 v3 v4; clear h1 hb hx hh; go_wp2; change bodyPost _ _ _ _ _ (five (W) w.heap.size x); refine bodyPost_ret (v := .tuple #[cg x, .bool true]) ?_ rfl ⟨by rw [HO.out]; rfl, five_below HB.out (Nat.le_refl _) x⟩; have hx : Bx (five (W) w.heap.size x) w.heap.size 41 (cc x) := five_bx HZ.out x; have x0 := hx.c 0; have x1 := hx.c 1; have x2 := hx.c 2; have x3 := hx.c 3; have x4 := hx.c 4; simp at x0 x1 x2 x3 x4; simp [results, Tryz.results29, go_sem, x0, x1, x2, x3, x4]
   ·have t1 : (x.p == p) = false := by simpa using h1
    have HN := Lib.hid (show fnd p (cs.drop (k + 1)) = R by rw [← HD.out, HX.out]; exact (fnd_next h1).symm); clear h1 hb hx; go_wp2; go_roundw
    case rel => exact ⟨k + 1, _, by omega, by go_num, rfl, HB, HZ, HN⟩
    case measure => simp [intOf]; omega
  ·have HO := Lib.hid (show R = none by rw [← HD.out, List.drop_of_length_le (by rw [HL.out]; omega)]; rfl); obtain rfl : k = n := by omega
   have hh := HZ.out; have v0 := hh.c 0; have g0 := hh.f 0; have v1 := hh.c 1; have g1 := hh.f 1; have v2 := hh.c 2; have g2 := hh.f 2; have v3 := hh.c 3; have g3 := hh.f 3; have v4 := hh.c 4; have g4 := hh.f 4; simp at v0 v1 v2 v3 v4; clear hh; go_wp2; change bodyPost _ _ _ _ _ (five (W) w.heap.size zco); refine bodyPost_ret (v := .tuple #[cg zco, .bool false]) ?_ rfl ⟨by rw [HO.out]; rfl, five_below HB.out (Nat.le_refl _) zco⟩; have hx : Bx (five (W) w.heap.size zco) w.heap.size 41 (cc zco) := five_bx HZ.out zco; have x0 := hx.c 0; have x1 := hx.c 1; have x2 := hx.c 2; have x3 := hx.c 3; have x4 := hx.c 4; simp at x0 x1 x2 x3 x4; simp [results, Tryz.results29, go_sem, x0, x1, x2, x3, x4]
end Tm
end Go.Proofs.YtplenoaajokpjaaGreat

namespace Go.Proofs.YtplenoaajokpjaaGreat
open Go.RowKit Ba Cv Sp Te Ag Tf Sl Tm Slc
namespace Ntc
set_option linter.unusedVariables false
structure Cm where
 id : Int
 po : Int
 pe : Int
 lo : Int
 bk : Int
 ev : Int
def rcm (c : Cm) : Bool := decide ((1 ≤ c.id ∧ c.id ≤ 1000000000) ∧ (1 ≤ c.po ∧ c.po ≤ 1000000000) ∧ (0 ≤ c.ev ∧ c.ev ≤ 1000000000) ∧ (0 ≤ c.pe ∧ c.pe ≤ 7) ∧ (1 ≤ c.lo ∧ c.lo ≤ 292194) ∧ (1 ≤ c.bk ∧ c.bk ≤ 292194))
def cvd (ss : List Sc) (c : Cm) : Option Co := (ss.find? fun x => inn x.s c.lo).bind fun s => if s.h.on = true then Te.fnd c.pe s.h.cs else none
inductive CvIs (h : Hi) (vs : List Ve) (c : Cm) (v : Co) (k : Int) : Prop
 | arg (h0 : rcm c = false) (hv : v = zco) (hk : k = 1)
 | order (h0 : rcm c = true) (h1 : c.bk < c.lo) (hv : v = zco) (hk : k = 4)
 | other (h0 : rcm c = true) (h1 : c.lo ≤ c.bk) (h2 : c.po ≠ h.id) (hv : v = zco) (hk : k = 7)
 | bad (ss : List Sc) (h0 : rcm c = true) (h1 : c.lo ≤ c.bk) (h2 : c.po = h.id) (h3 : SlIs h vs c.bk k ss) (hv : v = zco) (hk : k ≠ 0)
 | told (ss : List Sc) (h0 : rcm c = true) (h1 : c.lo ≤ c.bk) (h2 : c.po = h.id) (h3 : SlIs h vs c.bk 0 ss) (hv : v = (cvd ss c).getD zco) (hk : k = if (cvd ss c).isSome = true then 0 else 11)
section
variable {h x : Hi} {vs : List Ve} {c : Cm} {v u : Co} {k j : Int}
theorem CvIs.one (H : CvIs h vs c v k) (K : CvIs h vs c u j) : v = u ∧ k = j := by
 cases H with
 | arg h0 hv hk =>
  cases K with
  | arg g0 gv gk => exact ⟨hv.trans gv.symm, hk.trans gk.symm⟩
  | order g0 => rw [h0] at g0; cases g0
  | other g0 => rw [h0] at g0; cases g0
  | bad _ g0 => rw [h0] at g0; cases g0
  | told _ g0 => rw [h0] at g0; cases g0
 | order h0 h1 hv hk =>
  cases K with
  | arg g0 => rw [h0] at g0; cases g0
  | order g0 g1 gv gk => exact ⟨hv.trans gv.symm, hk.trans gk.symm⟩
  | other g0 g1 => omega
  | bad _ g0 g1 => omega
  | told _ g0 g1 => omega
 | other h0 h1 h2 hv hk =>
  cases K with
  | arg g0 => rw [h0] at g0; cases g0
  | order g0 g1 => omega
  | other g0 g1 g2 gv gk => exact ⟨hv.trans gv.symm, hk.trans gk.symm⟩
  | bad _ g0 g1 g2 => exact absurd g2 h2
  | told _ g0 g1 g2 => exact absurd g2 h2
 | bad ss h0 h1 h2 h3 hv hk =>
  cases K with
  | arg g0 => rw [h0] at g0; cases g0
  | order g0 g1 => omega
  | other g0 g1 g2 => exact absurd h2 g2
  | bad s2 g0 g1 g2 g3 gv gk => exact ⟨hv.trans gv.symm, (h3.one g3).1⟩
  | told s2 g0 g1 g2 g3 gv gk => exact absurd (h3.one g3).1 hk
 | told ss h0 h1 h2 h3 hv hk =>
  cases K with
  | arg g0 => rw [h0] at g0; cases g0
  | order g0 g1 => omega
  | other g0 g1 g2 => exact absurd h2 g2
  | bad s2 g0 g1 g2 g3 gv gk => exact absurd (h3.one g3).1.symm gk
  | told s2 g0 g1 g2 g3 gv gk =>
   obtain rfl := (h3.one g3).2; exact ⟨hv.trans gv.symm, hk.trans gk.symm⟩
theorem CvIs.zero (H : CvIs h vs c v k) (hk : k ≠ 0) : v = zco := by
 cases H with
 | arg _ hv _ => exact hv
 | order _ _ hv _ => exact hv
 | other _ _ _ hv _ => exact hv
 | bad _ _ _ _ _ hv _ => exact hv
 | told ss _ _ _ _ hv hk2 =>
  cases e : cvd ss c with
  | none => rw [hv, e]; rfl
  | some z => rw [e] at hk2; exact absurd hk2 hk
theorem CvIs.ok (H : CvIs h vs c v 0) : rcm c = true ∧ c.lo ≤ c.bk ∧ c.po = h.id ∧ ∃ ss, SlIs h vs c.bk 0 ss ∧ cvd ss c = some v := by
 cases H with
 | arg _ _ hk => cases hk
 | order _ _ _ hk => cases hk
 | other _ _ _ _ hk => cases hk
 | bad _ _ _ _ _ _ hk => exact absurd rfl hk
 | told ss h0 h1 h2 h3 hv hk =>
  refine ⟨h0, h1, h2, ss, h3, ?_⟩; cases e : cvd ss c with
  | none => rw [e] at hk; cases hk
  | some z => rw [e] at hv; rw [hv]; rfl
theorem slis_before {d : Ch} {b code : Int} {ss : List Sc} (hx : x = ⟨h.id, h.bk, h.s, h.r, h.cs, h.hs ++ [d]⟩) (hd : b < d.bk) (H : SlIs x vs b code ss) : SlIs h vs b code ss := by
 subst hx
 have e : kn ⟨h.id, h.bk, h.s, h.r, h.cs, h.hs ++ [d]⟩ b = kn h b := by
  unfold kn; rw [List.filter_append, List.filter_cons_of_neg (by simp; omega), List.filter_nil, List.append_nil]
 cases H with
 | none h0 h1 h2 => exact .none h0 h1 h2
 | known h0 h1 => rw [e] at h1; exact .known h0 h1
theorem CvIs.before {d : Ch} (hx : x = ⟨h.id, h.bk, h.s, h.r, h.cs, h.hs ++ [d]⟩) (hd : c.bk < d.bk) (H : CvIs x vs c v k) : CvIs h vs c v k := by
 have hid : x.id = h.id := by rw [hx]
 cases H with
 | arg h0 hv hk => exact .arg h0 hv hk
 | order h0 h1 hv hk => exact .order h0 h1 hv hk
 | other h0 h1 h2 hv hk => exact .other h0 h1 (by rw [← hid]; exact h2) hv hk
 | bad ss h0 h1 h2 h3 hv hk => exact .bad ss h0 h1 (h2.trans hid) (slis_before hx hd h3) hv hk
 | told ss h0 h1 h2 h3 hv hk => exact .told ss h0 h1 (h2.trans hid) (slis_before hx hd h3) hv hk
end
theorem fold_own {o : List Ch} : ∀ {i : Hd}, ∀ v ∈ (o.foldl don i).cs, v ∈ i.cs ∨ ∃ d ∈ o, v ∈ d.cs := by
 induction o with
 | nil => intro i v hv; exact .inl hv
 | cons d o ih =>
  intro i v hv; rcases ih v hv with h | ⟨e, he, h⟩
  ·unfold don at h; split at h
   ·exact .inl h
   ·split at h
    ·exact .inr ⟨d, List.mem_cons_self, h⟩
    ·split at h
     ·exact .inl h
     ·split at h
      ·exact .inl h
      ·exact .inl h
  ·exact .inr ⟨e, List.mem_cons_of_mem _ he, h⟩
theorem ordl_mem {hs : List Ch} {o : List Int} (H : Ag.Ord hs o) : ∀ d ∈ ordl hs o, d ∈ hs := by
 intro d hd; unfold ordl at hd; obtain ⟨z, hz, rfl⟩ := List.mem_map.1 hd; have hb := ord_at H hz; rw [List.getElem?_eq_getElem (by omega)]; exact List.getElem_mem _
theorem CvIs.own {h : Hi} {vs : List Ve} {c : Cm} {v : Co} (H : CvIs h vs c v 0) : v.p = c.pe ∧ (v ∈ h.cs ∨ ∃ d ∈ h.hs, v ∈ d.cs ∧ d.bk ≤ c.bk ∧ d.dy ≤ c.lo) := by
 obtain ⟨_, _, _, ss, hs, hc⟩ := H.ok; obtain ⟨h0, h1, o, L, h2, h3, rfl⟩ := hs.ok; have hsp := hrt_span h1; unfold cvd at hc; cases hf : (List.map (prc (qf (Trf.tol h.s.1 vs))) L).find? (fun x => inn x.s c.lo) with
 | none => rw [hf] at hc; cases hc
 | some y =>
  rw [hf] at hc; have hc : (if y.h.on = true then Te.fnd c.pe y.h.cs else none) = some v := hc; split at hc
  ·have hv := fnd_some hc; refine ⟨hv.2, ?_⟩
   have hin : h.s.1 ≤ c.lo ∧ c.lo < h.s.2 := by
    by_cases hd : h.s.1 ≤ c.lo ∧ c.lo < h.s.2
    ·exact hd
    ·have := find_out (q := qf (Trf.tol h.s.1 vs)) h3 hd; rw [hf] at this; cases this
   obtain ⟨z, hz, _, _, he⟩ := find_in (q := qf (Trf.tol h.s.1 vs)) h3 hsp.1 hsp.2.2.1 hin.1 hin.2; rw [hf] at hz; injection hz with hz
   subst hz; have hh : y.h = hld (ini (kn h c.bk)) (ordl (kn h c.bk).hs o) c.lo := by rw [he]; rfl
   have hm := hv.1; rw [hh] at hm; rcases fold_own v hm with hm | ⟨d, hd, hm⟩
   ·exact .inl hm
   ·unfold ups at hd; obtain ⟨hd1, hd2⟩ := List.mem_filter.1 hd; have hk := ordl_mem h2 d hd1; obtain ⟨hk1, hk2⟩ := List.mem_filter.1 hk; exact .inr ⟨d, hk1, hm, of_decide_eq_true hk2, of_decide_eq_true hd2⟩
  ·cases hc
structure OnIs (h : Hi) (c : Cm) (ss : List Sc) (f : Int) (k : Int) : Prop where
 no : (f ≠ 0 ∨ ∀ s, (ss.find? fun x => inn x.s c.lo) = some s → s.h.on = false) → k ≠ 0
 yes : ∀ s, f = 0 → (ss.find? fun x => inn x.s c.lo) = some s → s.h.on = true → ((k = 0 ↔ (rcm c = true ∧ c.lo ≤ c.bk ∧ c.po = h.id) ∧ ∃ v ∈ s.h.cs, v.p = c.pe) ∧ ((rcm c = true ∧ c.lo ≤ c.bk ∧ c.po = h.id) → (¬ ∃ v ∈ s.h.cs, v.p = c.pe) → k = 11))
theorem fnd_has {p : Int} {l : List Co} : (Te.fnd p l).isSome = true ↔ ∃ v ∈ l, v.p = p := by
 cases e : Te.fnd p l with
 | none => exact ⟨fun h => by (cases h), fun ⟨v, hv, hp⟩ => absurd hp (fnd_none e v hv)⟩
 | some v => exact ⟨fun _ => ⟨v, (fnd_some e).1, (fnd_some e).2⟩, fun _ => rfl⟩
theorem CvIs.on {h : Hi} {vs : List Ve} {c : Cm} {v : Co} {k f : Int} {ss : List Sc} (H : CvIs h vs c v k) (S : SlIs h vs c.bk f ss) : OnIs h c ss f k := by
 refine ⟨fun hno hk => ?_, fun s hf hs hon => ?_⟩
 ·subst hk; obtain ⟨_, _, _, s2, h3, h4⟩ := H.ok; obtain ⟨rfl, rfl⟩ := S.one h3; rcases hno with hno | hno
  ·exact hno rfl
  ·unfold cvd at h4; cases e : ss.find? (fun x => inn x.s c.lo) with
   | none => rw [e] at h4; cases h4
   | some s =>
    rw [e] at h4; have h4 : (if s.h.on = true then Te.fnd c.pe s.h.cs else none) = some v := h4; rw [hno s e] at h4; cases h4
 ·subst hf
  have hc : cvd ss c = Te.fnd c.pe s.h.cs := by
   unfold cvd; rw [hs]; show (if s.h.on = true then Te.fnd c.pe s.h.cs else none) = _
   rw [if_pos hon]
  cases H with
  | arg h0 hv hk => exact ⟨⟨fun e => by omega, fun e => by rw [h0] at e; cases e.1.1⟩, fun e => by rw [h0] at e; cases e.1⟩
  | order h0 h1 hv hk => exact ⟨⟨fun e => by omega, fun e => by have := e.1.2.1; omega⟩, fun e => by have := e.2.1; omega⟩
  | other h0 h1 h2 hv hk => exact ⟨⟨fun e => by omega, fun e => absurd e.1.2.2 h2⟩, fun e => absurd e.2.2 h2⟩
  | bad s2 h0 h1 h2 h3 hv hk => exact absurd (S.one h3).1.symm hk
  | told s2 h0 h1 h2 h3 hv hk =>
   obtain rfl := (S.one h3).2; rw [hc] at hk; refine ⟨⟨fun e => ⟨⟨h0, h1, h2⟩, ?_⟩, fun e => ?_⟩, fun _ e => ?_⟩
   ·rw [← fnd_has]; cases e2 : (Te.fnd c.pe s.h.cs).isSome with
    | true => rfl
    | false => rw [e2] at hk; simp at hk; omega
   ·rw [fnd_has.2 e.2] at hk; exact hk
   ·cases e2 : (Te.fnd c.pe s.h.cs).isSome with
    | true => exact absurd (fnd_has.1 e2) e
    | false => rw [e2] at hk; exact hk
end Ntc
end Go.Proofs.YtplenoaajokpjaaGreat

namespace Go.Proofs.YtplenoaajokpjaaGreat
open Go.RowKit Ba Cv Sp Te Ag Tf Sl Tm Slc
namespace Ntc
set_option linter.unusedVariables false
abbrev mc (c : Cm) : Array Value := #[.int .i64 c.id, .int .i64 c.po, .int .i64 c.pe, .int .i64 c.lo, .int .i64 c.bk, .int .i64 c.ev]
abbrev mg (c : Cm) : Value := .agg (mc c)
def ml (c : Cm) : List Value := [.int .i64 c.id, .int .i64 c.po, .int .i64 c.pe, .int .i64 c.lo, .int .i64 c.bk, .int .i64 c.ev]
theorem madd_block (a : Addr) (n : Nat) : (a.add n).block = a.block := by unfold Addr.add; split <;> rfl
theorem madd_more (a : Addr) (i k : Nat) : a.add (i + (k + 1)) = ⟨(a.add i).block, (a.add i).off + (k + 1), none⟩ := by
 unfold Addr.add; by_cases hi : i = 0 <;> simp [hi, Nat.add_assoc]
structure Six (w : World) (a : Addr) (c : Cm) : Prop where
 c0 : w.cell? a = some (.int .i64 c.id)
 c1 : w.cell? ⟨a.block, a.off + 1, none⟩ = some (.int .i64 c.po)
 c2 : w.cell? ⟨a.block, a.off + 2, none⟩ = some (.int .i64 c.pe)
 c3 : w.cell? ⟨a.block, a.off + 3, none⟩ = some (.int .i64 c.lo)
 c4 : w.cell? ⟨a.block, a.off + 4, none⟩ = some (.int .i64 c.bk)
 c5 : w.cell? ⟨a.block, a.off + 5, none⟩ = some (.int .i64 c.ev)
theorem Six.keep {w w' : World} {a : Addr} {r : Cm} (h : Six w a r) (hk : ∀ p : Addr, p.block = a.block → w'.cell? p = w.cell? p) : Six w' a r :=
 ⟨(hk _ rfl).trans h.c0, (hk ⟨a.block, a.off + 1, none⟩ rfl).trans h.c1, (hk ⟨a.block, a.off + 2, none⟩ rfl).trans h.c2, (hk ⟨a.block, a.off + 3, none⟩ rfl).trans h.c3, (hk ⟨a.block, a.off + 4, none⟩ rfl).trans h.c4, (hk ⟨a.block, a.off + 5, none⟩ rfl).trans h.c5⟩
theorem six_of {w : World} {a : Addr} {r : Cm} {j : Nat} (h : ∀ (o : Nat) (u : Value), (ml r)[o]? = some u → w.cell? (a.add (j + o)) = some u) : Six w (a.add j) r :=
 ⟨h 0 _ rfl, by rw [← madd_more a j 0]; exact h 1 _ rfl, by rw [← madd_more a j 1]; exact h 2 _ rfl, by rw [← madd_more a j 2]; exact h 3 _ rfl, by rw [← madd_more a j 3]; exact h 4 _ rfl, by rw [← madd_more a j 4]; exact h 5 _ rfl⟩
def Cls (w : World) (ok : Nat → Prop) (A : Option Addr) (n : Nat) (l : List Cm) : Prop :=
 l.length = n ∧ (0 < n → ∃ ad : Addr, A = some ad ∧ ok ad.block ∧ ∀ (j : Nat) (c : Cm), l[j]? = some c → Six w (ad.add (j * 6)) c)
section
variable {w w' : World} {ok ok' : Nat → Prop} {n : Nat} {A : Option Addr} {l : List Cm}
theorem Cls.nil {A : Option Addr} : Cls w ok A 0 [] := ⟨rfl, fun h => absurd h (by omega)⟩
theorem Cls.keep (h : Cls w ok A n l) (hk : ∀ p : Addr, ok p.block → w'.cell? p = w.cell? p) (hw : ∀ b, ok b → ok' b) : Cls w' ok' A n l :=
 ⟨h.1, fun hn => by
  obtain ⟨ad, e, hb, hc⟩ := h.2 hn; exact ⟨ad, e, hw _ hb, fun j x hx => (hc j x hx).keep fun p hp => hk p (by rw [hp, madd_block]; exact hb)⟩⟩
theorem Cls.below (h : Cls w (· < w.heap.size) A n l) (hb : Below w.heap.size w w') : Cls w' (· < w'.heap.size) A n l := h.keep (fun _ hp => hb.cell hp) fun b h => Nat.lt_of_lt_of_le h hb.size
theorem Cls.get {k : Nat} (h : Cls w ok A n l) (hk : k < n) : ∃ (ad : Addr) (c : Cm), A = some ad ∧ ok ad.block ∧ l[k]? = some c ∧ Six w (ad.add (k * 6)) c := by
 obtain ⟨ad, e, hb, hc⟩ := h.2 (by omega); have hl : k < l.length := by have := h.1; omega
 exact ⟨ad, l[k], e, hb, List.getElem?_eq_getElem hl, hc k _ (List.getElem?_eq_getElem hl)⟩
end
def Ers (w : World) (ok : Nat → Prop) (A : Option Addr) (n : Nat) (xs : List Int) : Prop :=
 xs.length = n ∧ (0 < n → ∃ ad : Addr, A = some ad ∧ ok ad.block ∧ ∀ (j : Nat) (x : Int), xs[j]? = some x → w.cell? (ad.add j) = some (.int .i64 x))
section
variable {w w' : World} {ok ok' : Nat → Prop} {n : Nat} {A : Option Addr} {xs : List Int}
theorem Ers.nil {A : Option Addr} : Ers w ok A 0 [] := ⟨rfl, fun h => absurd h (by omega)⟩
theorem Ers.keep (h : Ers w ok A n xs) (hk : ∀ p : Addr, ok p.block → w'.cell? p = w.cell? p) (hw : ∀ b, ok b → ok' b) : Ers w' ok' A n xs :=
 ⟨h.1, fun hn => by
  obtain ⟨ad, e, hb, hc⟩ := h.2 hn; exact ⟨ad, e, hw _ hb, fun j x hx => (hk _ (by rw [madd_block]; exact hb)).trans (hc j x hx)⟩⟩
theorem Ers.below (h : Ers w (· < w.heap.size) A n xs) (hb : Below w.heap.size w w') : Ers w' (· < w'.heap.size) A n xs := h.keep (fun _ hp => hb.cell hp) fun b h => Nat.lt_of_lt_of_le h hb.size
theorem Ers.get {k : Nat} (h : Ers w ok A n xs) (hk : k < n) : ∃ (ad : Addr) (x : Int), A = some ad ∧ ok ad.block ∧ xs[k]? = some x ∧ w.cell? (ad.add k) = some (.int .i64 x) := by
 obtain ⟨ad, e, hb, hc⟩ := h.2 (by omega); have hl : k < xs.length := by have := h.1; omega
 exact ⟨ad, xs[k], e, hb, List.getElem?_eq_getElem hl, hc k _ (List.getElem?_eq_getElem hl)⟩
theorem Ers.cells {ad : Addr} (h : Ers w ok (some ad) n xs) (j : Nat) (u : Value) (hu : (celi xs)[j]? = some u) : w.cell? (ad.add j) = some u := by
 unfold celi at hu; rw [List.getElem?_map] at hu; cases hx : xs[j]? with
 | none => rw [hx] at hu; cases hu
 | some x =>
  rw [hx] at hu; injection hu with hu
  subst hu; obtain ⟨ad', e, _, hc⟩ := h.2 (by have := h.1; have := (List.getElem?_eq_some_iff.1 hx).1; omega); injection e with e
  subst e; exact hc j x hx
end
theorem info_errno : (Tryz.prog.info? 42).map (fun i => (i.zero, i.size, i.bytes)) = some (some (.int .i64 0), 1, 8) := by kernel_rfl
theorem e_own_ {w : World} {base n : Nat} {v : Value} {xs : List Int} (h : w.ownsRow base 42 1 v n (celi xs)) : ∃ A c, v = .slice A n c ∧ Ers w (fun b => base ≤ b ∧ b < w.heap.size) A n xs := by
 have hl : xs.length = n := by have := h.1; rw [celi_length] at this; omega
 rcases h.2 with ⟨rfl, hn⟩ | ⟨g, cap, cur, rfl, hb, hh, hnc, hm, hs, ht⟩
 ·subst hn; exact ⟨_, _, rfl, hl, fun h => absurd h (by omega)⟩
 ·refine ⟨_, _, rfl, hl, fun _ => ⟨_, rfl, ⟨hb, ?_⟩, fun j x hx => ?_⟩⟩
  ·rcases Nat.lt_or_ge g w.heap.size with hlt | hge
   ·exact hlt
   ·rw [Array.getElem?_eq_none hge] at hh; cases hh
  ·exact World.ownsRow.cells (g := g) h rfl j _ (by unfold celi; rw [List.getElem?_map, hx]; rfl)
def EOwn (w : World) (base : Nat) (A : Option Addr) (n c : Nat) (xs : List Int) : Prop := w.ownsRow base 42 1 (.slice A n c) n (celi xs)
section
variable {w w' : World} {base n c : Nat} {A : Option Addr} {xs : List Int}
theorem EOwn.nil : EOwn w base none 0 0 [] := World.ownsRow_nil w base _ 1
theorem EOwn.len (h : EOwn w base A n c xs) : xs.length = n := by have := h.1; rw [celi_length] at this; omega
theorem EOwn.lt (h : EOwn w base A n c xs) : ∀ k, (Value.slice A n c).ownBlock = some k → base ≤ k ∧ k < w.heap.size := World.ownsRow.lt h
theorem EOwn.below (h : EOwn w base A n c xs) (hb : Below w.heap.size w w') : EOwn w' base A n c xs := by
 refine World.ownsRow.kept h (grown_of_below hb) ?_; cases A with
 | none => exact .inl rfl
 | some a => exact .inr (by simp [Value.ownBlock])
theorem EOwn.row (h : EOwn w base A n c xs) : Ers w (fun b => base ≤ b ∧ b < w.heap.size) A n xs := by
 obtain ⟨A', c', e, hl⟩ := e_own_ h; injection e with e1 e2 e3
 subst e1; exact hl
theorem EOwn.drew (h : EOwn w base A n c xs) : EOwn w.drew base A n c xs := h
theorem EOwn.made (w : World) : EOwn (w.alloc (.cells #[] 42)) w.heap.size (some ⟨w.heap.size, 0, none⟩) 0 0 [] := World.ownsRow_made w #[] 0 (Nat.le_refl _) (Nat.zero_le _) (by simp)
end
theorem own_of_row_e {w : World} {base k : Nat} {v : Value} {xs : List Int} (h : w.ownsRow base 42 1 v k (celi xs)) : ∃ A c, v = .slice A k c ∧ EOwn w base A k c xs := by
 rcases h.2 with ⟨rfl, hn⟩ | ⟨g, cap, cur, rfl, hr⟩
 ·subst hn; exact ⟨_, _, rfl, h⟩
 ·exact ⟨_, _, rfl, h⟩
theorem run_app_e (w : World) (ty : TypeId) (base : Nat) (A : Option Addr) (n c : Nat) (xs : List Int) (hown : EOwn w base A n c xs)
  (ok : Nat → Prop) (C : Option Addr) (m d : Nat) (ys : List Int) (hr : Ers w ok C m ys) (hnil : C = none → m = 0 ∧ d = 0) (hlen : n + m ≤ 4000000) (hbase : base ≤ w.heap.size) :
  ∃ A' c' w', (Builtin.append_ #[48, 48] ty #[.slice A n c, .slice C m d]).run Tryz.prog w = .ok (.slice A' (n + m) c') w' ∧ EOwn w' base A' (n + m) c' (xs ++ ys) ∧ w.grownBy w' (Value.slice A n c).ownBlock := by
 obtain ⟨i, hi, hz, h1, h2⟩ := info_parts info_errno; cases C with
 | none =>
  obtain ⟨rfl, rfl⟩ := hnil rfl; have hy : ys = [] := List.eq_nil_of_length_eq_zero hr.1; subst hy; exact ⟨A, c, w, run_append_owned_none (P := Tryz.prog) (w := w) base _ ty 42 i 1 Tryz.underlying48 hi _ n _ hown, by rw [List.append_nil]; exact hown, World.grownBy.refl w _⟩
 | some ad =>
  obtain ⟨v', w', hrun, hO, hg, _⟩ := run_append_own (P := Tryz.prog) w base 48 ty 42 i _ 1 8 Tryz.underlying48 hi hz h1 h2 rfl (by omega) (.slice A n c) n _ hown ad m d (celi ys) (by rw [celi_length, hr.1]) ((fun j u hu => Ers.cells hr j u (by unfold celi at hu; exact hu))) (celi_cell ys) (by unfold maxLen; omega) (by omega) hbase; rw [← celi_append] at hO; obtain ⟨A', c', rfl, hO'⟩ := own_of_row_e hO; exact ⟨A', c', w', hrun, hO', hg⟩
theorem wpList_app_e (w : World) {ops : Array Oper} {rest : List Oper} {o : Oper} {a : Act} {Q : Exit → Act → World → Prop} (hgd : o.guard = none) (s x : Operand)
  (ho : o.op = .call { callee := .builtin .append, args := #[s, x], argTypes := #[48, 48] })
  (base : Nat) (A : Option Addr) (n c : Nat) (xs : List Int) (hs : a.eval s = .slice A n c) (hown : EOwn w base A n c xs)
  (ok : Nat → Prop) (C : Option Addr) (m d : Nat) (ys : List Int) (hx : a.eval x = .slice C m d) (hr : Ers w ok C m ys) (hnil : C = none → m = 0 ∧ d = 0) (N : Nat) (hN : n + m = N) (hlen : n + m ≤ 4000000) (hbase : base ≤ w.heap.size)
  (h : ∀ A' c' w', EOwn w' base A' N c' (xs ++ ys) → w.grownBy w' (Value.slice A n c).ownBlock → wpList Tryz.prog ops Q rest (a.put o.dst (.slice A' N c')) w') :
  wpList Tryz.prog ops Q (o :: rest) a w := by
 subst hN; refine wpList_plain hgd fun K hK => ?_
 obtain ⟨A', c', w', hrun, hO, hg⟩ := run_app_e w o.type base A n c xs hown ok C m d ys hr hnil hlen hbase; unfold Oper.wp; simp [execOp, ho, resolve, invoke, builtin, hs, hx, hrun, Result.andThen]; exact hK _ _ (h A' c' w' hO hg)
theorem step_app_e (w : World) {ops : Array Oper} {o : Oper} {a : Act} {K : Act → World → Prop} {Q : Exit → Act → World → Prop} {E : Prop} (hgd : o.guard = none) (s x : Operand)
  (ho : o.op = .call { callee := .builtin .append, args := #[s, x], argTypes := #[48, 48] })
  (base : Nat) (A : Option Addr) (n c : Nat) (xs : List Int) (hs : a.eval s = .slice A n c) (hown : EOwn w base A n c xs)
  (ok : Nat → Prop) (C : Option Addr) (m d : Nat) (ys : List Int) (hx : a.eval x = .slice C m d) (hr : Ers w ok C m ys) (hnil : C = none → m = 0 ∧ d = 0) (N : Nat) (hN : n + m = N) (hlen : n + m ≤ 4000000) (hbase : base ≤ w.heap.size)
  (h : ∀ A' c' w', EOwn w' base A' N c' (xs ++ ys) → w.grownBy w' (Value.slice A n c).ownBlock → K (a.put o.dst (.slice A' N c')) w') :
  if Region.wanted o (yielded ops a.tmps) = true then Oper.wp Tryz.prog o a w K Q else E := by
 subst hN; have hw : Region.wanted o (yielded ops a.tmps) = true := by simp [Region.wanted, hgd]
 rw [if_pos hw]; obtain ⟨A', c', w', hrun, hO, hg⟩ := run_app_e w o.type base A n c xs hown ok C m d ys hr hnil hlen hbase; unfold Oper.wp execOp; simp only [ho, resolve, invoke, builtin, Sem.run_bind, Sem.run_pure, Result.andThen_ok, List.map_toArray, List.map_cons, List.map_nil, hs, hx, hrun]; exact h A' c' w' hO hg
theorem EOwn.fits {w : World} {base n c : Nat} {A : Option Addr} {xs : List Int} (h : EOwn w base A n c xs) : n ≤ c ∧ (A = none → n = 0 ∧ c = 0) := by
 rcases h.2 with ⟨e, hn⟩ | ⟨g, cap, cur, e, _, _, hnc, _⟩
 ·injection e with e1 e2 e3; exact ⟨by omega, fun _ => ⟨hn, e3⟩⟩
 ·injection e with e1 e2 e3; subst e3; exact ⟨hnc, fun h0 => by rw [e1] at h0; cases h0⟩
theorem ers_one {w : World} {b : Nat} {x : Int} (hx : Bx w b 42 #[.int .i64 x]) : Ers w (· = b) (some ⟨b, 0, none⟩) 1 [x] := by
 refine ⟨rfl, fun _ => ⟨_, rfl, rfl, fun j y hy => ?_⟩⟩
 match j, hy with
 | 0, hy => simp at hy; subst hy; rw [Addr.add_lit]; exact hx.c 0
def WhIs (h : Hi) (vs : List Ve) (l : List Cm) (ks : List Int) : Prop := ks.length = l.length ∧ ∀ (i : Nat) (c : Cm) (k : Int), l[i]? = some c → ks[i]? = some k → ∃ v, CvIs h vs c v k
theorem WhIs.one {h : Hi} {vs : List Ve} {l : List Cm} {ks js : List Int} (H : WhIs h vs l ks) (K : WhIs h vs l js) : ks = js := by
 apply List.ext_getElem?; intro i; by_cases hi : i < l.length
 ·obtain ⟨c, hc⟩ : ∃ c, l[i]? = some c := ⟨_, List.getElem?_eq_getElem hi⟩; obtain ⟨k, hk⟩ : ∃ k, ks[i]? = some k := ⟨_, List.getElem?_eq_getElem (by have := H.1; omega)⟩; obtain ⟨j, hj⟩ : ∃ j, js[i]? = some j := ⟨_, List.getElem?_eq_getElem (by have := K.1; omega)⟩; obtain ⟨v, hv⟩ := H.2 i c k hc hk; obtain ⟨u, hu⟩ := K.2 i c j hc hj; rw [hk, hj, (hv.one hu).2]
 ·rw [List.getElem?_eq_none (by have := H.1; omega), List.getElem?_eq_none (by have := K.1; omega)]
structure Arg (w : World) (h : Hr) (T : Option Addr) (nt : Nat) (vs : List Trf.Rw) : Prop where
 m : HM w (· < w.heap.size) h
 s : HS h
 hm : h.m ≤ 100
 hn : h.n ≤ 1000 ∧ ∀ r ∈ h.rs, r.n ≤ 1000
 v : Trf.Vers w T nt vs
 hv : nt ≤ 1000
theorem Arg.below {w w' : World} {h : Hr} {T : Option Addr} {nt : Nat} {vs : List Trf.Rw} (H : Arg w h T nt vs) (hb : Below w.heap.size w w') : Arg w' h T nt vs := ⟨H.m.below hb, H.s, H.hm, H.hn, H.v.below hb, H.hv⟩
def CvTo (w : World) (h : Hi) (vs : List Ve) (c : Cm) (e : Ending) (w' : World) : Prop := ∃ v k, e = .returned (.tuple #[cg v, .int .i64 k]) ∧ CvIs h vs c v k ∧ Below w.heap.size w w'
def WhTo (w : World) (h : Hi) (vs : List Ve) (l : List Cm) (e : Ending) (w' : World) : Prop := ∃ A n c ks, e = .returned (.slice A n c) ∧ n ≤ c ∧ Ers w' (· < w'.heap.size) A n ks ∧ WhIs h vs l ks ∧ Below w.heap.size w w'
def RiC : Prop := ∀ (c : Cm) (w : World), Calls Tryz.prog 10 #[mg c] w (Yes w (rcm c))
def CvC : Prop := ∀ (h : Hr) (T : Option Addr) (nt ct : Nat) (vs : List Trf.Rw) (c : Cm) (w : World), Arg w h T nt vs → Calls Tryz.prog 13 #[hg h, Trf.tg T nt ct, mg c] w (CvTo w h.v (vs.map Trf.Rw.v) c)
def WhC : Prop := ∀ (h : Hr) (T : Option Addr) (nt ct : Nat) (vs : List Trf.Rw) (A : Option Addr) (n c : Nat) (l : List Cm) (w : World), Arg w h T nt vs → Cls w (· < w.heap.size) A n l → n ≤ c → n ≤ 20 → Calls Tryz.prog 16 #[hg h, Trf.tg T nt ct, .slice A n c] w (WhTo w h.v (vs.map Trf.Rw.v) l)
structure Asks : Prop where
 ri : RiC
 cv : CvC
 wh : WhC
end Ntc
end Go.Proofs.YtplenoaajokpjaaGreat

namespace Go.Proofs.YtplenoaajokpjaaGreat
open Go.RowKit Ba Cv Sp Te Ag Tf Sl Tm Slc
namespace Ntc
set_option linter.unusedVariables false
theorem within_ (n a b : Int) (w : World) : Calls Tryz.prog 22 #[.int .i64 n, .int .i64 a, .int .i64 b] w (Yes w (decide (a ≤ n ∧ n ≤ b))) := by
 by_cases h1 : a ≤ n
 ·have t1 : decide (a ≤ n) = true := decide_eq_true h1; obtain ⟨q, hq⟩ : ∃ q, decide (n ≤ b) = q := ⟨_, rfl⟩; have HV := Lib.hid (show decide (a ≤ n ∧ n ≤ b) = q by rw [← hq]; simp [h1]); rw [HV.out]; clear h1; go_enter Tryz.func22, Tryz.ntmps22; go_wp2; go_ret; exact ⟨rfl, Below.refl _ _⟩
 ·have t1 : decide (a ≤ n) = false := decide_eq_false h1; have HV := Lib.hid (show decide (a ≤ n ∧ n ≤ b) = false from decide_eq_false fun h => h1 h.1); rw [HV.out]; clear h1; go_enter Tryz.func22, Tryz.ntmps22; go_wp2; go_ret; exact ⟨rfl, Below.refl _ _⟩
set_option maxRecDepth 100000 in
set_option maxHeartbeats 4000000 in
theorem right_ (c : Cm) (w : World) : Calls Tryz.prog 10 #[mg c] w (Yes w (rcm c)) := by
 obtain ⟨q0, hq0⟩ : ∃ q, decide ((1 : Int) ≤ c.id ∧ c.id ≤ 1000000000) = q := ⟨_, rfl⟩; have C0 := fun w => Lib.hid (show Calls Tryz.prog 22 #[.int .i64 c.id, .int .i64 1, .int .i64 1000000000] w (Yes w q0) from hq0 ▸ within_ c.id 1 1000000000 w)
 obtain ⟨q1, hq1⟩ : ∃ q, decide ((1 : Int) ≤ c.po ∧ c.po ≤ 1000000000) = q := ⟨_, rfl⟩; have C1 := fun w => Lib.hid (show Calls Tryz.prog 22 #[.int .i64 c.po, .int .i64 1, .int .i64 1000000000] w (Yes w q1) from hq1 ▸ within_ c.po 1 1000000000 w)
 obtain ⟨q2, hq2⟩ : ∃ q, decide ((0 : Int) ≤ c.ev ∧ c.ev ≤ 1000000000) = q := ⟨_, rfl⟩; have C2 := fun w => Lib.hid (show Calls Tryz.prog 22 #[.int .i64 c.ev, .int .i64 0, .int .i64 1000000000] w (Yes w q2) from hq2 ▸ within_ c.ev 0 1000000000 w)
 obtain ⟨q3, hq3⟩ : ∃ q, decide ((0 : Int) ≤ c.pe ∧ c.pe ≤ 7) = q := ⟨_, rfl⟩; have C3 := fun w => Lib.hid (show Calls Tryz.prog 22 #[.int .i64 c.pe, .int .i64 0, .int .i64 7] w (Yes w q3) from hq3 ▸ within_ c.pe 0 7 w)
 obtain ⟨q4, hq4⟩ : ∃ q, decide ((1 : Int) ≤ c.lo ∧ c.lo ≤ 292194) = q := ⟨_, rfl⟩; have C4 := fun w => Lib.hid (show Calls Tryz.prog 22 #[.int .i64 c.lo, .int .i64 1, .int .i64 292194] w (Yes w q4) from hq4 ▸ within_ c.lo 1 292194 w)
 obtain ⟨q5, hq5⟩ : ∃ q, decide ((1 : Int) ≤ c.bk ∧ c.bk ≤ 292194) = q := ⟨_, rfl⟩; have C5 := fun w => Lib.hid (show Calls Tryz.prog 22 #[.int .i64 c.bk, .int .i64 1, .int .i64 292194] w (Yes w q5) from hq5 ▸ within_ c.bk 1 292194 w)
 have HRC := Lib.hid (show rcm c = (q0 && (q1 && (q2 && (q3 && (q4 && q5))))) by
  rw [← hq0, ← hq1, ← hq2, ← hq3, ← hq4, ← hq5]; simp only [rcm, Bool.decide_and])
 obtain ⟨W, hW⟩ : ∃ W, w.alloc (.cells (mc c) 23) = W := ⟨_, rfl⟩; have HX0 := Lib.hid (show Bx W w.heap.size 23 (mc c) from hW ▸ Bx.new w _ _); have HB0 := Lib.hid (show Below w.heap.size w W from hW ▸ alloc_ _ _); have HW := Lib.hid hW; clear hW hq0 hq1 hq2 hq3 hq4 hq5; go_enter Tryz.func10, Tryz.ntmps10
 go_upto_region 1 with fail
 rw [HW.out]; clear HW; have x0 := HX0.out.c 0; have x1 := HX0.out.c 1; have x2 := HX0.out.c 2; have x3 := HX0.out.c 3; have x4 := HX0.out.c 4; have x5 := HX0.out.c 5; simp at x0 x1 x2 x3 x4 x5
 go_wp2_with fail
 refine (C0 _).out.mono ?_; rintro e w1 ⟨rfl, hb⟩; have HB1 := Lib.hid (HB0.out.trans (hb.mono HB0.out.size)); have HX1 := Lib.hid (HX0.out.keep hb); clear hb HB0 HX0 C0 x0 x1 x2 x3 x4 x5; cases q0
 ·go_wp2; go_ret; exact ⟨by rw [HRC.out]; rfl, HB1.out⟩
 have x0 := HX1.out.c 0; have x1 := HX1.out.c 1; have x2 := HX1.out.c 2; have x3 := HX1.out.c 3; have x4 := HX1.out.c 4; have x5 := HX1.out.c 5; simp at x0 x1 x2 x3 x4 x5
 go_wp2_with fail
 refine (C1 _).out.mono ?_; rintro e w2 ⟨rfl, hb⟩; have HB2 := Lib.hid (HB1.out.trans (hb.mono HB1.out.size)); have HX2 := Lib.hid (HX1.out.keep hb); clear hb HB1 HX1 C1 x0 x1 x2 x3 x4 x5; cases q1
 ·go_wp2; go_ret; exact ⟨by rw [HRC.out]; rfl, HB2.out⟩
 have x0 := HX2.out.c 0; have x1 := HX2.out.c 1; have x2 := HX2.out.c 2; have x3 := HX2.out.c 3; have x4 := HX2.out.c 4; have x5 := HX2.out.c 5; simp at x0 x1 x2 x3 x4 x5
 go_wp2_with fail
 refine (C2 _).out.mono ?_; rintro e w3 ⟨rfl, hb⟩; have HB3 := Lib.hid (HB2.out.trans (hb.mono HB2.out.size)); have HX3 := Lib.hid (HX2.out.keep hb); clear hb HB2 HX2 C2 x0 x1 x2 x3 x4 x5; cases q2
 ·go_wp2; go_ret; exact ⟨by rw [HRC.out]; rfl, HB3.out⟩
 have x0 := HX3.out.c 0; have x1 := HX3.out.c 1; have x2 := HX3.out.c 2; have x3 := HX3.out.c 3; have x4 := HX3.out.c 4; have x5 := HX3.out.c 5; simp at x0 x1 x2 x3 x4 x5
 go_wp2_with fail
 refine (C3 _).out.mono ?_; rintro e w4 ⟨rfl, hb⟩; have HB4 := Lib.hid (HB3.out.trans (hb.mono HB3.out.size)); have HX4 := Lib.hid (HX3.out.keep hb); clear hb HB3 HX3 C3 x0 x1 x2 x3 x4 x5; cases q3
 ·go_wp2; go_ret; exact ⟨by rw [HRC.out]; rfl, HB4.out⟩
 have x0 := HX4.out.c 0; have x1 := HX4.out.c 1; have x2 := HX4.out.c 2; have x3 := HX4.out.c 3; have x4 := HX4.out.c 4; have x5 := HX4.out.c 5; simp at x0 x1 x2 x3 x4 x5
 go_wp2_with fail
 refine (C4 _).out.mono ?_; rintro e w5 ⟨rfl, hb⟩; have HB5 := Lib.hid (HB4.out.trans (hb.mono HB4.out.size)); have HX5 := Lib.hid (HX4.out.keep hb); clear hb HB4 HX4 C4 x0 x1 x2 x3 x4 x5; cases q4
 ·go_wp2; go_ret; exact ⟨by rw [HRC.out]; rfl, HB5.out⟩
 have x0 := HX5.out.c 0; have x1 := HX5.out.c 1; have x2 := HX5.out.c 2; have x3 := HX5.out.c 3; have x4 := HX5.out.c 4; have x5 := HX5.out.c 5; simp at x0 x1 x2 x3 x4 x5
 go_wp2_with fail
 refine (C5 _).out.mono ?_; rintro e w6 ⟨rfl, hb⟩; have HB6 := Lib.hid (HB5.out.trans (hb.mono HB5.out.size)); have HX6 := Lib.hid (HX5.out.keep hb); clear hb HB5 HX5 C5 x0 x1 x2 x3 x4 x5; cases q5
 ·go_wp2; go_ret; exact ⟨by rw [HRC.out]; rfl, HB6.out⟩
 go_wp2; go_ret; exact ⟨by rw [HRC.out]; rfl, HB6.out⟩
theorem riC : RiC := right_
abbrev er (k : Int) : Value := .iface 42 (.int .i64 k)
abbrev pnc (k : Int) : Ending := .panicked [{ v := er k, recovered := false }]
theorem need_yes (k : Int) (w : World) : Calls Tryz.prog 37 #[.bool true, .int .i64 k] w fun e w' => e = .returned (.tuple #[]) ∧ w = w' := by
 go_enter Tryz.func37, Tryz.ntmps37; go_wp2
 go_end0
 exact ⟨rfl, rfl⟩
theorem need_no (k : Int) (w : World) : Calls Tryz.prog 37 #[.bool false, .int .i64 k] w fun e w' => e = pnc k ∧ w = w' := by
 go_enter Tryz.func37, Tryz.ntmps37; go_wp2; exact ⟨rfl, rfl, rfl⟩
theorem assert_er (k : Int) (w : World) : (Instr.typeAssert (er k) 20 42 true).run Tryz.prog w = .ok (.tuple #[.int .i64 k, .bool true]) w := by
 have h := run_underlying (w := w) Tryz.underlying42; simp [Instr.typeAssert, h]
theorem caught_nil (w : World) : Calls Tryz.prog 25 #[.nilIface] w fun e w' => e = .returned (.int .i64 0) ∧ w = w' := by
 go_enter Tryz.func25, Tryz.ntmps25; go_wp2; go_ret; exact ⟨rfl, rfl⟩
theorem caught_er (k : Int) (w : World) : Calls Tryz.prog 25 #[er k] w fun e w' => e = .returned (.int .i64 k) ∧ w = w' := by
 have ha := fun w => assert_er k w
 go_enter Tryz.func25, Tryz.ntmps25; go_wp2; go_ret; exact ⟨rfl, rfl⟩
section
variable (p : Addr) (x k : Int) (older : List PanicEntry) (w : World)
set_option maxHeartbeats 4000000 in
theorem idle_ (hc : w.cell? p = some (.int .i64 x)) (hz : w.frozen? p = false) : CallsD Tryz.prog 24 #[.pointer (some p)] .returning w fun e u' w' => e = .returned (.tuple #[]) ∧ u' = .returning ∧ w' = w.setCell p (.int .i64 0) := by
 refine callsD_of_wpS Tryz.func24 rfl fun c₀ cs hu => ?_
 apply wpS_region; have CC := fun w => Lib.hid (caught_nil w)
 simp [wpOpsS, go_sem, recoverD, hu, Tryz.ntmps24, Exit.thenS]; refine (CC w).out.mono ?_; rintro e w2 ⟨rfl, rfl⟩; cases c₀
 simp_all [go_sem, hc, hz, Oper.upon, bodyPostS, results, Tryz.results24]
set_option maxHeartbeats 4000000 in
theorem catch_ (hc : w.cell? p = some (.int .i64 x)) (hz : w.frozen? p = false) : CallsD Tryz.prog 24 #[.pointer (some p)] (.panicking ({ v := er k, recovered := false } :: older)) w fun e u' w' => e = .returned (.tuple #[]) ∧ u' = .panicking ({ v := er k, recovered := true } :: older) ∧ w' = w.setCell p (.int .i64 k) := by
 refine callsD_of_wpS Tryz.func24 rfl fun c₀ cs hu => ?_
 apply wpS_region; have CC := fun w => Lib.hid (caught_er k w)
 simp [wpOpsS, go_sem, recoverD, hu, Tryz.ntmps24, Exit.thenS]; refine (CC w).out.mono ?_; rintro e w2 ⟨rfl, rfl⟩; cases c₀
 simp_all [go_sem, hc, hz, Oper.upon, bodyPostS, results, Tryz.results24]
end
end Ntc
end Go.Proofs.YtplenoaajokpjaaGreat
