/-
  Covers and Right of package terms, with their closures. Conditions: the row of covers reads as a list.
-/
import Derived.Test.YtcnlllamldlnmaaFns
import Derived.Test.YtcnlllamldlnmaaMet
namespace Go.Proofs.Ytcnlllamldlnmaa
open Go.RowKit Ba Cv Sp Te
namespace Tm
set_option linter.unusedVariables false

set_option maxHeartbeats 1000000 in
theorem need_few (p : Nat) (A : Option Addr) (n c : Nat) (W : World) (h : Bx W p 24 #[.slice A n c]) :
    Calls Try.prog 59 #[.pointer (some ⟨p, 0, none⟩)] W (Yes W (wi (n : Int) 1 8)) := by
  have C := fun w => Lib.hid (mwithin (n : Int) 1 8 w)
  have c0 := h.c 0
  simp at c0
  clear h
  go_enter Try.func59, Try.ntmps59
  go_wp2_with fail
  refine (C _).out.mono ?_
  rintro e w1 ⟨rfl, rfl⟩
  go_wp2
  go_ret
  exact ⟨rfl, Below.refl _ _⟩
set_option maxHeartbeats 1000000 in
theorem need_each (p : Nat) (A : Option Addr) (n c : Nat) (cs : List Co) (W : World) (h : Bx W p 24 #[.slice A n c]) (hS : Cvs W (· < W.heap.size) A n cs) (hm : n ≤ maxLen) :
    Calls Try.prog 61 #[.pointer (some ⟨p, 0, none⟩)] W (Yes W (cs.all ok)) := by
  have C := Lib.hid (each A n c cs W hS hm)
  have c0 := h.c 0
  simp at c0
  clear h hS hm
  go_enter Try.func61, Try.ntmps61
  go_wp2_with fail
  refine C.out.mono ?_
  rintro e w1 ⟨rfl, hb⟩
  have HB := Lib.hid hb
  clear hb
  go_wp2
  go_ret
  exact ⟨rfl, HB.out⟩
set_option maxHeartbeats 1000000 in
theorem need_rise (p : Nat) (A : Option Addr) (n c : Nat) (cs : List Co) (W : World) (h : Bx W p 24 #[.slice A n c]) (hS : Cvs W (· < W.heap.size) A n cs) (hm : n ≤ maxLen) :
    Calls Try.prog 64 #[.pointer (some ⟨p, 0, none⟩)] W (Yes W (up cs)) := by
  have C := Lib.hid (rises A n c cs W hS hm)
  have c0 := h.c 0
  simp at c0
  clear h hS hm
  go_enter Try.func64, Try.ntmps64
  go_wp2_with fail
  refine C.out.mono ?_
  rintro e w1 ⟨rfl, hb⟩
  have HB := Lib.hid hb
  clear hb
  go_wp2
  go_ret
  exact ⟨rfl, HB.out⟩

/-- The box, and the row of closures behind it. -/
abbrev clo (p f : Nat) : Value := .func (.func f) #[] #[.pointer (some ⟨p, 0, none⟩)]
theorem row_cells {w W : World} {t : TypeId} {xs : Array Value} {ys : Array Value} {p : Nat} {fs : List Nat} {s : TypeId} (hp : p = w.heap.size) (hW : (w.alloc (.cells xs s)).alloc (.cells ys t) = W) (hy : ys.toList = fs.map (clo p)) :
    Below w.heap.size w W ∧ Bx W p s xs ∧ p + 1 < W.heap.size ∧ ∀ (i f : Nat), fs[i]? = some f → W.cell? ((⟨p + 1, 0, none⟩ : Addr).add i) = some (clo p f) := by
  subst hW hp
  refine ⟨(alloc_ _ _).alloc (by simp) _, (Bx.new _ _ _).alloc _, by simp, fun i f hi => ?_⟩
  have h := Bx.new (w.alloc (.cells xs s)) t ys
  rw [World.size_alloc] at h
  have e : (⟨w.heap.size + 1, 0, none⟩ : Addr).add i = ⟨w.heap.size + 1, i, none⟩ := by
    unfold Addr.add
    by_cases h0 : i = 0 <;> simp [h0]
  rw [e, h.c i]
  have : ys.toList[i]? = some (clo w.heap.size f) := by rw [hy, List.getElem?_map, hi]; rfl
  simpa using this

set_option maxRecDepth 100000 in
set_option maxHeartbeats 2000000 in
theorem covers_ (A : Option Addr) (n c : Nat) (cs : List Co) (w : World) (hS : Cvs w (· < w.heap.size) A n cs) (hm : n ≤ maxLen) :
    Calls Try.prog 47 #[.slice A n c] w (Yes w (cvr cs)) := by
  have hmf : ∀ (fn : Fn) (first cap : Array Value) (w : World), (Instr.makeFunc fn first cap).run Try.prog w = .ok (.func fn first cap) w := fun _ _ _ _ => rfl
  obtain ⟨W, hW⟩ : ∃ W, ((w.alloc (.cells #[.slice A n c] 24)).alloc (.cells #[clo w.heap.size 59, clo w.heap.size 61, clo w.heap.size 64] 35)) = W := ⟨_, rfl⟩
  obtain ⟨p, hp⟩ : ∃ p, p = w.heap.size := ⟨_, rfl⟩
  obtain ⟨hb, hx, hlt, hc⟩ := row_cells (fs := [59, 61, 64]) hp hW (by rw [hp]; rfl)
  have hn := hS.1
  have M := Lib.hid (met_ ⟨p + 1, 0, none⟩ 3 p [59, 61, 64] [wi (n : Int) 1 8, cs.all ok, up cs] W rfl rfl (by omega) hlt hc
    (fun i f hi => by
      match i, hi with
      | 0, hi => injection hi with hi; subst hi; exact enters Try.func59 (by kernel_rfl) (by kernel_rfl)
      | 1, hi => injection hi with hi; subst hi; exact enters Try.func61 (by kernel_rfl) (by kernel_rfl)
      | 2, hi => injection hi with hi; subst hi; exact enters Try.func64 (by kernel_rfl) (by kernel_rfl))
    (fun i f b W' hi hbi hW' => by
      have hx' := hx.keep hW'
      have hS' := hS.below (hb.trans (hW'.mono hb.size))
      match i, hi, hbi with
      | 0, hi, hbi => injection hi with hi; injection hbi with hbi; subst hi hbi; exact need_few p A n c W' hx'
      | 1, hi, hbi => injection hi with hi; injection hbi with hbi; subst hi hbi; exact need_each p A n c cs W' hx' hS' hm
      | 2, hi, hbi => injection hi with hi; injection hbi with hbi; subst hi hbi; exact need_rise p A n c cs W' hx' hS' hm))
  have e : [wi (n : Int) 1 8, cs.all ok, up cs].all id = cvr cs := by unfold cvr; rw [hn]; simp
  rw [e, hp] at M
  generalize cvr cs = R at M ⊢
  have HB := Lib.hid hb
  have HW := Lib.hid hW
  clear hb hx hlt hc hS hm e hW hp
  go_enter Try.func47, Try.ntmps47
  go_wp2_with fail
  rw [HW.out]
  refine M.out.mono ?_
  rintro e w1 ⟨rfl, hb1⟩
  have HB1 := Lib.hid (HB.out.trans (hb1.mono HB.out.size))
  clear hb1 HB M HW
  go_wp2
  go_ret
  exact ⟨rfl, HB1.out⟩

set_option maxHeartbeats 1000000 in
theorem need_span (p : Nat) (s : Sp) (r : Ri) (A : Option Addr) (n c : Nat) (W : World) (h : Bx W p 30 (tc s r A n c)) :
    Calls Try.prog 66 #[.pointer (some ⟨p, 0, none⟩)] W (Yes W (rt s)) := by
  have C := fun w => Lib.hid (span_right s w)
  have c0 := h.c 0
  have c1 := h.c 1
  simp at c0 c1
  clear h
  go_enter Try.func66, Try.ntmps66
  go_wp2_with fail
  refine (C _).out.mono ?_
  rintro e w1 ⟨rfl, hb⟩
  have HB := Lib.hid hb
  clear hb
  go_wp2
  go_ret
  exact ⟨rfl, HB.out⟩
set_option maxHeartbeats 1000000 in
theorem need_days (p : Nat) (s : Sp) (r : Ri) (A : Option Addr) (n c : Nat) (W : World) (h : Bx W p 30 (tc s r A n c)) :
    Calls Try.prog 68 #[.pointer (some ⟨p, 0, none⟩)] W (Yes W (wi (mn s) 1 1100)) := by
  have C := fun w => Lib.hid (span_many s w)
  have D := fun w => Lib.hid (mwithin (mn s) 1 1100 w)
  generalize mn s = m at C D ⊢
  have c0 := h.c 0
  have c1 := h.c 1
  simp at c0 c1
  clear h
  go_enter Try.func68, Try.ntmps68
  go_wp2_with fail
  refine (C _).out.mono ?_
  rintro e w1 ⟨rfl, hb⟩
  have HB := Lib.hid hb
  clear hb
  go_wp2_with fail
  refine (D _).out.mono ?_
  rintro e w2 ⟨rfl, rfl⟩
  go_wp2
  go_ret
  exact ⟨rfl, HB.out⟩
set_option maxHeartbeats 1000000 in
theorem need_risk (p : Nat) (s : Sp) (r : Ri) (A : Option Addr) (n c : Nat) (W : World) (h : Bx W p 30 (tc s r A n c)) :
    Calls Try.prog 70 #[.pointer (some ⟨p, 0, none⟩)] W (Yes W (rk r.k r.v r.a r.z)) := by
  have C := fun w => Lib.hid (risk_right r.k r.v r.a r.z w)
  have c2 := h.c 2
  have c3 := h.c 3
  have c4 := h.c 4
  have c5 := h.c 5
  simp at c2 c3 c4 c5
  clear h
  go_enter Try.func70, Try.ntmps70
  go_wp2_with fail
  refine (C _).out.mono ?_
  rintro e w1 ⟨rfl, hb⟩
  have HB := Lib.hid hb
  clear hb
  go_wp2
  go_ret
  exact ⟨rfl, HB.out⟩
set_option maxHeartbeats 1000000 in
theorem need_covers (p : Nat) (s : Sp) (r : Ri) (A : Option Addr) (n c : Nat) (cs : List Co) (W : World) (h : Bx W p 30 (tc s r A n c)) (hS : Cvs W (· < W.heap.size) A n cs) (hm : n ≤ maxLen) :
    Calls Try.prog 71 #[.pointer (some ⟨p, 0, none⟩)] W (Yes W (cvr cs)) := by
  have C := Lib.hid (covers_ A n c cs W hS hm)
  have c6 := h.c 6
  simp at c6
  clear h hS hm
  go_enter Try.func71, Try.ntmps71
  go_wp2_with fail
  refine C.out.mono ?_
  rintro e w1 ⟨rfl, hb⟩
  have HB := Lib.hid hb
  clear hb
  go_wp2
  go_ret
  exact ⟨rfl, HB.out⟩

set_option maxRecDepth 100000 in
set_option maxHeartbeats 2000000 in
theorem right_ (s : Sp) (r : Ri) (A : Option Addr) (n c : Nat) (cs : List Co) (w : World) (hS : Cvs w (· < w.heap.size) A n cs) (hm : n ≤ maxLen) :
    Calls Try.prog 49 #[tg s r A n c] w (Yes w (te s r cs)) := by
  have hmf : ∀ (fn : Fn) (first cap : Array Value) (w : World), (Instr.makeFunc fn first cap).run Try.prog w = .ok (.func fn first cap) w := fun _ _ _ _ => rfl
  obtain ⟨W, hW⟩ : ∃ W, ((w.alloc (.cells (tc s r A n c) 30)).alloc (.cells #[clo w.heap.size 66, clo w.heap.size 68, clo w.heap.size 70, clo w.heap.size 71] 35)) = W := ⟨_, rfl⟩
  obtain ⟨p, hp⟩ : ∃ p, p = w.heap.size := ⟨_, rfl⟩
  obtain ⟨hb, hx, hlt, hc⟩ := row_cells (fs := [66, 68, 70, 71]) hp hW (by rw [hp]; rfl)
  have M := Lib.hid (met_ ⟨p + 1, 0, none⟩ 4 p [66, 68, 70, 71] [rt s, wi (mn s) 1 1100, rk r.k r.v r.a r.z, cvr cs] W rfl rfl (by omega) hlt hc
    (fun i f hi => by
      match i, hi with
      | 0, hi => injection hi with hi; subst hi; exact enters Try.func66 (by kernel_rfl) (by kernel_rfl)
      | 1, hi => injection hi with hi; subst hi; exact enters Try.func68 (by kernel_rfl) (by kernel_rfl)
      | 2, hi => injection hi with hi; subst hi; exact enters Try.func70 (by kernel_rfl) (by kernel_rfl)
      | 3, hi => injection hi with hi; subst hi; exact enters Try.func71 (by kernel_rfl) (by kernel_rfl))
    (fun i f b W' hi hbi hW' => by
      have hx' := hx.keep hW'
      have hS' := hS.below (hb.trans (hW'.mono hb.size))
      match i, hi, hbi with
      | 0, hi, hbi => injection hi with hi; injection hbi with hbi; subst hi hbi; exact need_span p s r A n c W' hx'
      | 1, hi, hbi => injection hi with hi; injection hbi with hbi; subst hi hbi; exact need_days p s r A n c W' hx'
      | 2, hi, hbi => injection hi with hi; injection hbi with hbi; subst hi hbi; exact need_risk p s r A n c W' hx'
      | 3, hi, hbi => injection hi with hi; injection hbi with hbi; subst hi hbi; exact need_covers p s r A n c cs W' hx' hS' hm))
  have e : [rt s, wi (mn s) 1 1100, rk r.k r.v r.a r.z, cvr cs].all id = te s r cs := by unfold te; simp
  rw [e, hp] at M
  generalize te s r cs = R at M ⊢
  have HB := Lib.hid hb
  have HW := Lib.hid hW
  clear hb hx hlt hc hS hm e hW hp
  go_enter Try.func49, Try.ntmps49
  go_wp2_with fail
  rw [HW.out]
  refine M.out.mono ?_
  rintro e w1 ⟨rfl, hb1⟩
  have HB1 := Lib.hid (HB.out.trans (hb1.mono HB.out.size))
  clear hb1 HB M HW
  go_wp2
  go_ret
  exact ⟨rfl, HB1.out⟩

end Tm
end Go.Proofs.Ytcnlllamldlnmaa
