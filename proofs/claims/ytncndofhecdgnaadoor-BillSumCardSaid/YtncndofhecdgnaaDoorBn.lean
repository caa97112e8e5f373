/-
  The program's Open and Turned. Conditions: the bills read as a list.
-/
import Derived.Test.YtncndofhecdgnaaDoorBm
namespace Go.Proofs.YtncndofhecdgnaaDoor
open Go.RowKit
namespace Bil
set_option linter.unusedVariables false

theorem raws_take {w : World} {ok : Nat → Prop} {A : Option Addr} {n k : Nat} {l : List Bi} (h : Raws w ok A n l) (hk : k ≤ n) : Raws w ok A k (l.take k) :=
  ⟨by rw [List.length_take, h.1]; omega, fun h0 => by
    obtain ⟨ad, e, hb, hc⟩ := h.2 (by omega)
    refine ⟨ad, e, hb, fun j b hj => hc j b ?_⟩
    rw [List.getElem?_take] at hj
    split at hj
    · exact hj
    · exact absurd hj (by simp)⟩
theorem pb_drop {l : List Bi} (h : Pb l) (k : Nat) : Pb (l.drop k) := fun b hb => h b (List.mem_of_mem_drop hb)
theorem am_parts (l : List Bi) (k : Nat) : am l = am (l.take k) + am (l.drop k) := by rw [← am_append, List.take_append_drop]
theorem db_lt {y : Int} {l : List Bi} : ∀ {i : Nat} {b : Bi}, i < db y l → l[i]? = some b → b.d ≤ y := by
  induction l with
  | nil => intro i b _ h; simp at h
  | cons x t ih =>
    intro i b hi h
    unfold db at hi
    split at hi
    · omega
    · cases i with
      | zero => simp at h; subst h; omega
      | succ i => simp only [List.getElem?_cons_succ] at h; exact ih (by omega) h
theorem dy_ge {l : List Bi} : ∀ {q : Int}, dy q l = true → ∀ b ∈ l, q ≤ b.d := by
  induction l with
  | nil => intro q _ b hb; cases hb
  | cons x t ih =>
    intro q h b hb
    have h := dy_cons.1 h
    rcases List.mem_cons.1 hb with rfl | hb
    · exact h.1.2.2
    · have := ih h.2 b hb; omega
theorem db_ge {y : Int} {l : List Bi} : ∀ {q : Int} {i : Nat} {b : Bi}, dy q l = true → db y l ≤ i → l[i]? = some b → y < b.d := by
  induction l with
  | nil => intro q i b _ _ h; simp at h
  | cons x t ih =>
    intro q i b hd hi h
    have hd := dy_cons.1 hd
    unfold db at hi
    split at hi
    · cases i with
      | zero => simp at h; subst h; assumption
      | succ i =>
        simp only [List.getElem?_cons_succ] at h
        have := dy_ge hd.2 b (List.mem_of_getElem? h)
        omega
    · cases i with
      | zero => omega
      | succ i => simp only [List.getElem?_cons_succ] at h; exact ih hd.2 (by omega) h
theorem all_later {y : Int} {m : List Bi} (h : ∀ b ∈ m, y < b.d) : lc y m = m.length ∧ ea y m = 0 ∧ lp y m = pd m ∧ op y m = 0 := by
  induction m with
  | nil => exact ⟨rfl, rfl, rfl, rfl⟩
  | cons b t ih =>
    have h0 := h b List.mem_cons_self
    obtain ⟨i1, i2, i3, i4⟩ := ih fun c hc => h c (List.mem_cons_of_mem _ hc)
    rw [lc_cons, ea_cons, lp_cons, op_cons, if_neg (by omega), if_neg (by omega), if_neg (by omega), if_neg (by omega), i1, i2, i3, i4, List.length_cons, pd_cons]
    exact ⟨by omega, rfl, rfl, rfl⟩
theorem all_due {y : Int} {m : List Bi} (h : ∀ b ∈ m, b.d ≤ y) : lc y m = 0 ∧ ea y m = am m ∧ lp y m = 0 ∧ op y m = am m - pd m := by
  induction m with
  | nil => exact ⟨rfl, rfl, rfl, rfl⟩
  | cons b t ih =>
    have h0 := h b List.mem_cons_self
    obtain ⟨i1, i2, i3, i4⟩ := ih fun c hc => h c (List.mem_cons_of_mem _ hc)
    rw [lc_cons, ea_cons, lp_cons, op_cons, if_pos h0, if_pos h0, if_pos h0, if_pos h0, i1, i2, i3, i4, am_cons, pd_cons]
    exact ⟨rfl, rfl, rfl, by omega⟩
theorem db_take {y : Int} {l : List Bi} : ∀ b ∈ l.take (db y l), b.d ≤ y := fun b hb => by
  obtain ⟨j, hj, e⟩ := List.getElem_of_mem hb
  rw [List.length_take] at hj
  exact db_lt (l := l) (i := j) (by omega) (by rw [← e, List.getElem_take, List.getElem?_eq_getElem])
theorem db_drop {y q : Int} {l : List Bi} (hd : dy q l = true) {k : Nat} (hk : db y l ≤ k) : ∀ b ∈ l.drop k, y < b.d := fun b hb => by
  obtain ⟨j, hj, e⟩ := List.getElem_of_mem hb
  rw [List.length_drop] at hj
  exact db_ge hd (i := k + j) (by omega) (by rw [← e, List.getElem_drop, List.getElem?_eq_getElem])
/-- What the days tell, by their place. -/
theorem db_parts {y q : Int} {l : List Bi} (hd : dy q l = true) : lc y l = l.length - db y l ∧ ea y l = am (l.take (db y l)) ∧ lp y l = pd (l.drop (db y l)) ∧ op y l = am (l.take (db y l)) - pd (l.take (db y l)) := by
  have h1 := all_due (db_take (y := y) (l := l))
  have h2 := all_later (db_drop (y := y) hd (Nat.le_refl (db y l)))
  have e := List.take_append_drop (db y l) l
  obtain ⟨k, hk⟩ : ∃ k, db y l = k := ⟨_, rfl⟩
  rw [hk] at h1 h2 e ⊢
  have a1 := lc_append y (l.take k) (l.drop k)
  have a2 := ea_append y (l.take k) (l.drop k)
  have a3 := lp_append y (l.take k) (l.drop k)
  have a4 := op_append y (l.take k) (l.drop k)
  rw [e] at a1 a2 a3 a4
  rw [h1.1, h2.1, List.length_drop] at a1
  rw [h1.2.1, h2.2.1] at a2
  rw [h1.2.2.1, h2.2.2.1] at a3
  rw [h1.2.2.2, h2.2.2.2] at a4
  exact ⟨by omega, by omega, by omega, by omega⟩
/-- The later ones, j of them, laid at what is paid. -/
def lw (k j : Nat) (L : List Bi) : List Bi := L.mapIdx fun i b => if k ≤ i ∧ i < k + j then ⟨b.d, b.p, b.p⟩ else b
theorem lw_len (k j : Nat) (L : List Bi) : (lw k j L).length = L.length := by simp [lw]
theorem lw_get {k j i : Nat} {L : List Bi} {b : Bi} (h : L[i]? = some b) : (lw k j L)[i]? = some (if k ≤ i ∧ i < k + j then ⟨b.d, b.p, b.p⟩ else b) := by
  unfold lw; rw [List.getElem?_mapIdx, h]; rfl
theorem lw_zero (k : Nat) (L : List Bi) : lw k 0 L = L := by
  apply List.ext_getElem?
  intro i
  cases h : L[i]? with
  | none => rw [List.getElem?_eq_none_iff] at h ⊢; rw [lw_len]; exact h
  | some b => rw [lw_get h, if_neg (by omega)]
theorem lw_next {k j : Nat} {L : List Bi} {b : Bi} (h : L[k + j]? = some b) : (lw k j L).set (k + j) ⟨b.d, b.p, b.p⟩ = lw k (j + 1) L := by
  apply List.ext_getElem?
  intro i
  cases hi : L[i]? with
  | none =>
    rw [List.getElem?_eq_none_iff] at hi
    rw [List.getElem?_eq_none (by rw [List.length_set, lw_len]; exact hi), List.getElem?_eq_none (by rw [lw_len]; exact hi)]
  | some c =>
    rw [lw_get hi]
    by_cases e : i = k + j
    · subst e
      rw [h] at hi
      injection hi with hi
      subst hi
      rw [List.getElem?_set, if_pos rfl, if_pos (by rw [lw_len]; exact (List.getElem?_eq_some_iff.1 h).1), if_pos (by omega)]
    · rw [List.getElem?_set_ne (fun h => e h.symm), lw_get hi]
      by_cases e2 : k ≤ i ∧ i < k + j
      · rw [if_pos e2, if_pos (by omega)]
      · rw [if_neg e2, if_neg (by omega)]
theorem dy_take {l : List Bi} : ∀ {q : Int} {i : Nat}, dy q l = true → dy q (l.take i) = true := by
  induction l with
  | nil => intro q i _; simp [dy]
  | cons c t ih =>
    intro q i hd
    have hd := dy_cons.1 hd
    cases i with
    | zero => rfl
    | succ i => exact dy_cons.2 ⟨hd.1, ih hd.2⟩
theorem db_take_eq {y : Int} {l : List Bi} : ∀ {i : Nat}, db y l ≤ i → db y (l.take i) = db y l := by
  induction l with
  | nil => intro i _; simp
  | cons c t ih =>
    intro i e
    cases i with
    | zero => show 0 = db y (c :: t); omega
    | succ i =>
      rw [List.take_succ_cons]
      unfold db at e ⊢
      split
      · rfl
      · rename_i h
        rw [if_neg h] at e
        rw [ih (by omega)]
/-- Laid at what is paid, and raised: that is what Turned tells. -/
theorem tn_rz {y q x : Int} {l : List Bi} (hd : dy q l = true) : rz x ((l.length - db y l : Nat) : Int) (db y l) (l.length - db y l) (lw (db y l) (l.length - db y l) l) = tn y x ((l.length - db y l : Nat) : Int) 0 l := by
  apply List.ext_getElem?
  intro i
  have hk := db_len y l
  cases hi : l[i]? with
  | none =>
    rw [List.getElem?_eq_none_iff] at hi
    rw [List.getElem?_eq_none (by rw [rz_len, lw_len]; exact hi), List.getElem?_eq_none (by rw [tn_len]; exact hi)]
  | some b =>
    have hil := (List.getElem?_eq_some_iff.1 hi).1
    rw [rz_get (lw_get hi), tn_get hi]
    by_cases e : db y l ≤ i
    · have h1 := db_ge (y := y) hd e hi
      have h2 : lc y (l.take i) = i - db y l := by
        have ht := dy_take (i := i) hd
        have hdb := db_take_eq e
        have h3 := (db_parts (y := y) ht).1
        rw [h3, hdb, List.length_take]
        omega
      rw [if_pos ⟨e, by omega⟩, if_pos ⟨e, by omega⟩, if_neg (by omega), h2, Nat.zero_add]
    · have h1 := db_lt (y := y) (i := i) (by omega) hi
      rw [if_neg (by omega), if_neg (by omega), if_pos h1]
set_option maxRecDepth 100000 in
set_option maxHeartbeats 4000000 in
theorem open_ (A : Option Addr) (n c : Nat) (l : List Bi) (y : Int) (w : World) (hS : Raws w (· < w.heap.size) A n l) (hn : n ≤ 1000) (hcap : n ≤ c) : Calls Tryd.prog 19 #[.slice A n c, .int .i64 y] w fun e w' => e = .returned (.int .i64 (opn l y)) ∧ Below w.heap.size w w' := by
  have HS := Lib.hid hS
  have HL := Lib.hid hS.1
  have C := Lib.hid (right_ A n c l w hS hn)
  obtain ⟨R, hR⟩ : ∃ R, rt l = R := ⟨_, rfl⟩
  have HR := Lib.hid hR
  rw [hR] at C
  clear hS hR
  go_enter Tryd.func19, Tryd.ntmps19
  go_wp2_with fail
  refine C.out.mono ?_
  rintro e w1 ⟨rfl, hb1⟩
  have H1 := Lib.hid hb1
  clear C hb1
  cases R
  · have HV := Lib.hid (show opn l y = 0 by unfold opn; rw [HR.out]; rfl)
    go_wp2
    go_ret
    exact ⟨by rw [HV.out]; rfl, H1.out⟩
  have hr := rt_iff.1 HR.out
  have hp := rg_pb hr.2
  have ha := rg_sum (by omega) hr.2
  have hd := db_parts (y := y) (rg_dy hr.2)
  have hk := db_len y l
  have C := Lib.hid (dueBy_ A n c l y w1 (HS.out.below H1.out) hn)
  obtain ⟨k, hdk⟩ : ∃ k, db y l = k := ⟨_, rfl⟩
  rw [hdk] at C hd hk
  have HV := Lib.hid (show opn l y = am (l.take k) - pd (l.take k) by unfold opn; rw [if_pos HR.out]; exact hd.2.2.2)
  have hkn : k ≤ n := by have := HL.out; omega
  have b1 := am_nonneg (pb_take hp k)
  have b2 := pd_le (pb_take hp k)
  have b3 := am_parts l k
  have b4 := am_nonneg (pb_drop hp k)
  have HPT := Lib.hid (show Pb (l.take k) ∧ am (l.take k) ≤ 4000000000000000000 from ⟨pb_take hp k, by omega⟩)
  have hkc : k ≤ c := by omega
  have HK := Lib.hid hkn
  obtain ⟨x, hx⟩ : ∃ x, am (l.take k) = x := ⟨_, rfl⟩
  obtain ⟨z, hz⟩ : ∃ z, pd (l.take k) = z := ⟨_, rfl⟩
  have HXZ := Lib.hid (And.intro hx hz)
  rw [hx, hz] at HV
  have EW := Lib.hid (show wrap64 (x - z) = x - z from IntWalk.wrap64_in _ ⟨by omega, by omega⟩)
  have k1 : (0 : Int) ≤ (k : Int) := by omega
  have k2 : (k : Int) ≤ (c : Int) := by omega
  have k3 : (k : Int) ≤ (n : Int) := by omega
  clear hr hp ha hd hk hdk b1 b2 b3 b4 hx hz hcap
  go_wp2_with fail
  refine C.out.mono ?_
  rintro e w2 ⟨rfl, hb2⟩
  have H2 := Lib.hid (H1.out.trans (hb2.mono H1.out.size))
  have C := Lib.hid (sums_ A k c (l.take k) w2 (raws_take (HS.out.below H2.out) HK.out) (by have := HK.out; omega) HPT.out.1 HPT.out.2)
  rw [HXZ.out.1, HXZ.out.2] at C
  clear hb2
  go_wp2_with fail
  refine C.out.mono ?_
  rintro e w3 ⟨rfl, hb3⟩
  have H3 := Lib.hid (H2.out.trans (hb3.mono H2.out.size))
  clear hb3 C
  go_wp2
  go_ret
  exact ⟨by rw [HV.out]; show Ending.returned (.int .i64 (wrap64 (x - z))) = _; rw [EW.out], H3.out⟩

end Bil
end Go.Proofs.YtncndofhecdgnaaDoor
