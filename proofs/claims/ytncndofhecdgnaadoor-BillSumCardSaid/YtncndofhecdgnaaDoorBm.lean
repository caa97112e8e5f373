/-
  The program's Pay and Open. Conditions: the bills read as a list.
-/
import Derived.Test.YtncndofhecdgnaaDoorBq
import Derived.Test.YtncndofhecdgnaaDoorBp
import Derived.Lib.MinMax
namespace Go.Proofs.YtncndofhecdgnaaDoor
open Go.RowKit
namespace Bil
set_option linter.unusedVariables false

def CloTo (w : World) (n : Nat) (l : List Bi) (e : Ending) (w' : World) : Prop := ∃ A c, e = .returned (.slice A n c) ∧ Own w' w.heap.size A n c l ∧ Below w.heap.size w w'
set_option maxHeartbeats 1000000 in
theorem clone_ (A : Option Addr) (n c : Nat) (l : List Bi) (w : World) (hS : Raws w (· < w.heap.size) A n l) (hn : n ≤ 1000) : Calls Tryd.prog 33 #[.slice A n c] w (CloTo w n l) := by
  have q : ∀ (w : World) (a : Option Addr) (n c n' c' : Nat), (binOp .eql 25 (.slice a n c) (.slice none n' c')).run Tryd.prog w = .ok (.bool a.isNone) w := fun w a n c n' c' => Lib.run_eql_slice_nil w _ _ a n c n' c' Tryd.underlying25
  cases A with
  | none =>
    obtain rfl : n = 0 := by
      rcases Nat.eq_zero_or_pos n with h | h
      · exact h
      · obtain ⟨ad, e, _⟩ := hS.2 h; cases e
    have hx : l = [] := List.eq_nil_of_length_eq_zero hS.1
    subst hx
    clear hS
    go_enter Tryd.func33, Tryd.ntmps33
    go_wp2
    go_ret
    exact ⟨none, 0, rfl, Own.nil, Below.refl _ _⟩
  | some ad =>
    have HS := Lib.hid hS
    clear hS
    go_enter Tryd.func33, Tryd.ntmps33
    go_wp2_with (at_builtin; refine wpList_app _ rfl (.tmp 5) (.tmp 6) rfl w.heap.size (some ⟨w.heap.size, 0, none⟩) 0 0 [] rfl (Own.made w) (· < w.heap.size) (some ad) n c l rfl (HS.out.keep (fun p hp => (alloc_ w _).cell hp) fun b h => h) (fun e => by cases e) n (Nat.zero_add n) (by omega) (by simp) ?_; intro A2 c2 w2 hO2 hg2; have HO2 := Lib.hid hO2; have HG2 := Lib.hid hg2; clear hO2 hg2)
    go_ret
    exact ⟨A2, c2, rfl, HO2.out, ((Below.refl _ _).alloc (Nat.le_refl _) _).grown HG2.out (by simp) (fun j hj => by simp [Value.ownBlock] at hj; omega)⟩
theorem own_cases {w : World} {base n c : Nat} {A : Option Addr} {l : List Bi} (h : Own w base A n c l) : (n = 0 ∧ l = []) ∨ ∃ g, A = some ⟨g, 0, none⟩ ∧ base ≤ g ∧ n ≤ c ∧ Blk w g 0 l := by
  have hb := h
  rcases h.2 with ⟨e, hn⟩ | ⟨g, cap, cur, e, h1, _, h3, _⟩
  · exact .inl ⟨hn, List.eq_nil_of_length_eq_zero (by have := hb.len; omega)⟩
  · injection e with e1 e2 e3
    subst e1
    subst e3
    exact .inr ⟨g, rfl, h1, h3, hb.blk⟩
theorem Own.cap {w : World} {base n c : Nat} {A : Option Addr} {l : List Bi} (h : Own w base A n c l) : n ≤ c := by
  rcases own_cases h with ⟨e, _⟩ | ⟨g, _, _, e, _⟩
  · omega
  · exact e

/-- Paid up to the k-th. -/
def pz (l : List Bi) (a : Int) (k : Nat) : List Bi := (py (l.take k) a).1 ++ l.drop k
theorem pz_len (l : List Bi) (a : Int) (k : Nat) : (pz l a k).length = l.length := by
  unfold pz; rw [List.length_append, py_len, List.length_take, List.length_drop]; omega
theorem pz_get {l : List Bi} {a : Int} {k : Nat} {b : Bi} (h : l[k]? = some b) : (pz l a k)[k]? = some b := by
  have hk := (List.getElem?_eq_some_iff.1 h).1
  have hl : (py (l.take k) a).1.length = k := by rw [py_len, List.length_take]; omega
  unfold pz
  rw [List.getElem?_append_right (by omega), hl, Nat.sub_self, List.getElem?_drop, Nat.add_zero, h]
theorem pz_next {l : List Bi} {a : Int} {k : Nat} {b : Bi} (h : l[k]? = some b) : (pz l a k).set k ⟨b.d, b.a, b.p + pn b (py (l.take k) a).2⟩ = pz l a (k + 1) := by
  have hk := (List.getElem?_eq_some_iff.1 h).1
  have hl : (py (l.take k) a).1.length = k := by rw [py_len, List.length_take]; omega
  unfold pz
  rw [List.set_append_right _ _ (by omega), hl, Nat.sub_self, drop_get h, List.set_cons_zero, take_more h, py_append]
  show _ = ((py (l.take k) a).1 ++ [(⟨b.d, b.a, b.p + pn b (py (l.take k) a).2⟩ : Bi)]) ++ l.drop (k + 1)
  rw [List.append_assoc]; rfl
theorem pz_zero (l : List Bi) (a : Int) : pz l a 0 = l := rfl
theorem pz_all {l : List Bi} {a : Int} {k : Nat} (h : l.length ≤ k) : pz l a k = (py l a).1 := by
  unfold pz; rw [List.take_of_length_le h, List.drop_of_length_le h, List.append_nil]
/-- A row of the call's own that is written into. -/
structure Wr (w V : World) (g : Nat) (L : List Bi) : Prop where
  b : Blk V g 0 L
  lo : w.heap.size ≤ g
  be : Below w.heap.size w V
theorem Wr.drew {w V : World} {g : Nat} {L : List Bi} (h : Wr w V g L) : Wr w V.drew g L := ⟨h.b.keep (Nat.le_refl _) rfl, h.lo, h.be.trans ⟨rfl, rfl, rfl, Nat.le_refl _, fun _ _ => rfl⟩⟩
theorem Wr.drewN {w V : World} {g : Nat} {L : List Bi} (h : Wr w V g L) (nd : Nat) : Wr w (V.drewN nd) g L := ⟨h.b.keep (Nat.le_refl _) rfl, h.lo, h.be.trans ⟨rfl, rfl, rfl, Nat.le_refl _, fun _ _ => rfl⟩⟩
theorem Wr.good {w V : World} {g n c : Nat} {L : List Bi} (h : Wr w V g L) (hn : L.length = n) (hc : n ≤ c) : Gc w L (.slice (some ⟨g, 0, none⟩) n c) V :=
  ⟨_, c, by rw [hn], by rw [hn]; exact hc, h.b.raws.keep (fun _ _ => rfl) fun b hb => by rw [hb]; exact h.b.lt, h.be⟩
set_option maxRecDepth 100000 in
set_option maxHeartbeats 4000000 in
theorem pay_ (A : Option Addr) (n c : Nat) (l : List Bi) (a : Int) (w : World) (hS : Raws w (· < w.heap.size) A n l) (hn : n ≤ 1000) (ha : In a) : Calls Tryd.prog 15 #[.slice A n c, .int .i64 a] w (PaTc w l a) := by
  have HS := Lib.hid hS
  have HL := Lib.hid hS.1
  have HA := Lib.hid ha
  have C := Lib.hid (clone_ A n c l w hS hn)
  clear hS ha
  go_enter Tryd.func15, Tryd.ntmps15
  go_wp2_with fail
  refine C.out.mono ?_
  rintro e w1 ⟨A1, c1, rfl, hO, hb⟩
  have H1 := Lib.hid hb
  have HO := Lib.hid hO
  clear C hb hO
  by_cases h0 : a < 0
  · have HV := Lib.hid (show pay l a = (l, a) by unfold pay; rw [if_neg (by omega)])
    have t1 : decide (a < 0) = true := decide_eq_true h0
    have HF := Lib.hid (show PaTc w l a (.returned (.tuple #[.slice A1 n c1, .int .i64 a])) w1 by
      refine ⟨.slice A1 n c1, by rw [HV.out], A1, c1, ?_⟩
      rw [HV.out]
      exact ⟨by rw [HL.out], by rw [HL.out]; exact HO.out.cap, by rw [HL.out]; exact HO.out.raws.keep (fun _ _ => rfl) fun _ h => h.2, H1.out⟩)
    clear h0
    go_wp2
    go_ret2
    exact HF.out
  have t1 : decide (a < 0) = false := decide_eq_false h0
  have C := Lib.hid (right_ A n c l w1 (HS.out.below H1.out) hn)
  obtain ⟨R, hR⟩ : ∃ R, rt l = R := ⟨_, rfl⟩
  have HR := Lib.hid hR
  rw [hR] at C
  have H0 := Lib.hid h0
  clear hR h0
  go_wp2_with fail
  refine C.out.mono ?_
  rintro e w2 ⟨rfl, hb⟩
  have H2 := Lib.hid (H1.out.trans (hb.mono H1.out.size))
  have HO2 := Lib.hid (HO.out.below (hb.mono (Nat.le_refl _)))
  clear C hb HO H1
  cases R
  · have HV := Lib.hid (show pay l a = (l, a) by unfold pay; rw [if_neg (by rw [HR.out]; simp)])
    have HF := Lib.hid (show PaTc w l a (.returned (.tuple #[.slice A1 n c1, .int .i64 a])) w2 by
      refine ⟨.slice A1 n c1, by rw [HV.out], A1, c1, ?_⟩
      rw [HV.out]
      exact ⟨by rw [HL.out], by rw [HL.out]; exact HO2.out.cap, by rw [HL.out]; exact HO2.out.raws.keep (fun _ _ => rfl) fun _ h => h.2, H2.out⟩)
    go_wp2
    go_ret2
    exact HF.out
  have hr := rt_iff.1 HR.out
  have hp := rg_pb hr.2
  have HV := Lib.hid (show pay l a = py l a by unfold pay; rw [if_pos ⟨HR.out, by have := H0.out; omega⟩])
  have HP := Lib.hid hp
  have HSM := Lib.hid (rg_sum (by omega) hr.2)
  clear hr hp
  go_wp2
  go_loopw [1, 22] (fun va vi w' => ∃ (k : Nat) (V : World), k ≤ n ∧ va = .int .i64 (py (l.take k) a).2 ∧ vi = .int .i64 (k : Int) ∧ V = w' ∧ Hid (Below w.heap.size w V) ∧ Hid (∀ g, A1 = some ⟨g, 0, none⟩ → Wr w V g (pz l a k))) (fun _ vi _ => n - (intOf vi).toNat)
  case atStart =>
    refine ⟨0, w2, Nat.zero_le _, rfl, rfl, rfl, H2, Lib.hid (fun g e => ?_)⟩
    have h := HO2.out
    subst e
    exact ⟨h.blk, (h.lt g rfl).1, H2.out⟩
  case round =>
    obtain ⟨k, V, hk, rfl, rfl, rfl, HB, HW⟩ := hrel
    by_cases hlt : k < n
    · obtain ⟨g, rfl, _⟩ : ∃ g, A1 = some ⟨g, 0, none⟩ ∧ True := by
        rcases own_cases HO2.out with h | ⟨g, e, _⟩
        · omega
        · exact ⟨g, e, trivial⟩
      have HW := Lib.hid (HW.out g rfl)
      have hlt2 : (k : Int) < (n : Int) := by omega
      obtain ⟨b, hx⟩ : ∃ b, l[k]? = some b := ⟨_, List.getElem?_eq_getElem (by have := HL.out; omega)⟩
      have HX := Lib.hid hx
      have hg := pz_get (a := a) hx
      have h0 := HP.out b (List.mem_of_getElem? hx)
      have hba : b.a ≤ 4000000000000000000 := by
        have h1 := HSM.out
        have h2 : am l = am (l.take k) + am (l.drop k) := by rw [← am_append, List.take_append_drop]
        have h3 := am_nonneg (pb_take HP.out k)
        rw [drop_get hx, am_cons] at h2
        have h4 := am_nonneg (l := l.drop (k + 1)) fun b hb => HP.out b (List.mem_of_mem_drop hb)
        omega
      obtain ⟨av, hav⟩ : ∃ av, (py (l.take k) a).2 = av := ⟨_, rfl⟩
      have hA0 : 0 ≤ av := by rw [← hav]; exact (py_pb (pb_take HP.out k) (by have := H0.out; omega)).2
      have hA1 : av ≤ 9223372036854775807 := by
        have h1 := py_le (pb_take HP.out k) (a := a) (by have := H0.out; omega)
        have h5 : a ≤ 9223372036854775807 := HA.out.2
        omega
      have HAV := Lib.hid hav
      rw [hav]
      obtain ⟨q, hq⟩ : ∃ q, pn b av = q := ⟨_, rfl⟩
      have hqb := pn_bd h0.2 hA0
      rw [hq] at hqb
      have HQ := Lib.hid hq
      have HM := Lib.hid (show min (b.a - b.p) av = q from hq)
      obtain ⟨u, hu⟩ : ∃ u, b.a - b.p = u := ⟨_, rfl⟩
      obtain ⟨p2, hp2⟩ : ∃ p2, b.p + q = p2 := ⟨_, rfl⟩
      obtain ⟨av2, hav2⟩ : ∃ x, av - q = x := ⟨_, rfl⟩
      have hM : min av u = q := by rw [← HM.out, hu]; omega
      have ca := HW.out.b.a hg
      have cp := HW.out.b.p hg
      rw [Nat.zero_add] at ca cp
      have HR2 := Lib.hid (show (py (l.take (k + 1)) a).2 = av2 by rw [py_more HX.out, HAV.out, HQ.out]; exact hav2)
      have e1 : wrap64 (b.a - b.p) = u := by rw [← hu]; exact IntWalk.wrap64_in _ ⟨by omega, by omega⟩
      have e1b : IntKind.i64.wrap (b.a - b.p) = u := (IntWalk.i64_left _).trans e1
      have e2 : wrap64 (b.p + q) = p2 := by rw [← hp2]; exact IntWalk.wrap64_in _ ⟨by omega, by omega⟩
      have e3 : wrap64 (av - q) = av2 := by rw [← hav2]; exact IntWalk.wrap64_in _ ⟨by omega, by omega⟩
      have HG := Lib.hid hg
      have HP2 := Lib.hid hp2
      have E2 := Lib.hid e2
      have E3 := Lib.hid e3
      have HMI := Lib.hid hM
      clear hx hg h0 hba hav hA0 hA1 hq hqb hu hp2 hav2 e2 e3 hM
      go_wp2
      go_quiet (fail)
      rw [HMI.out]
      obtain ⟨V2, hV2⟩ : ∃ V2, V.drewN nq = V2 := ⟨_, rfl⟩
      have HW1 := Lib.hid (show Wr w V2 g (pz l a k) by rw [← hV2]; exact HW.out.drewN nq)
      rw [hV2]
      clear hV2 ca cp HW HB
      have cp := HW1.out.b.p HG.out
      have cf := HW1.out.b.f (k * 3 + 2)
      rw [Nat.zero_add] at cp
      have HW2 := Lib.hid (show Wr w (V2.setCell ⟨g, k * 3 + 2, none⟩ (.int .i64 p2)) g (pz l a (k + 1)) from ⟨by
        have h := HW1.out.b.putP HG.out p2
        rw [← HP2.out, ← HQ.out, ← HAV.out, pz_next HX.out, Nat.zero_add] at h
        rw [← HP2.out, ← HQ.out, ← HAV.out]
        exact h, HW1.out.lo, HW1.out.be.setCell (p := ⟨g, k * 3 + 2, none⟩) HW1.out.lo _⟩)
      obtain ⟨V3, hV3⟩ : ∃ V3, V2.setCell ⟨g, k * 3 + 2, none⟩ (.int .i64 p2) = V3 := ⟨_, rfl⟩
      have HV3 := Lib.hid hV3
      rw [hV3] at HW2
      have e2 := E2.out
      have e3 := E3.out
      clear hV3
      go_wp2
      go_roundw
      case rel => exact ⟨k + 1, _, by omega, by rw [HR2.out, E3.out], by go_num, rfl, by rw [HV3.out]; exact Lib.hid HW2.out.be, by rw [HV3.out]; exact Lib.hid (fun g' e => by injection e with e; injection e with e; subst e; exact HW2.out)⟩
      case measure => simp [intOf]; omega
    · obtain rfl : k = n := by omega
      have HE := Lib.hid (show l.take k = l from List.take_of_length_le (by have := HL.out; omega))
      have HF := Lib.hid (show PaTc w l a (.returned (.tuple #[.slice A1 k c1, .int .i64 (py (l.take k) a).2])) V by
        refine ⟨.slice A1 k c1, by rw [HV.out, HE.out], ?_⟩
        rw [HV.out]
        rcases own_cases HO2.out with ⟨h0, hl⟩ | ⟨g, e, _⟩
        · subst hl
          exact ⟨A1, c1, by rw [h0]; rfl, Nat.zero_le _, Raws.nil, HB.out⟩
        · have hw := HW.out g e
          rw [pz_all (by have := HL.out; omega)] at hw
          rw [e]
          exact hw.good (by rw [py_len]; exact HL.out) HO2.out.cap)
      go_wp2
      go_ret2
      exact HF.out

end Bil
end Go.Proofs.YtncndofhecdgnaaDoor
