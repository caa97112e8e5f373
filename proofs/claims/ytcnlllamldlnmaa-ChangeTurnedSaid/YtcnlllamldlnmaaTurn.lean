/-
  Two changes turned round: their order by days. Conditions: those of each theorem. No model.
-/
import Derived.Test.YtcnlllamldlnmaaLaws
namespace Go.Proofs.Ytcnlllamldlnmaa
open Go.RowKit Ba Cv Sp Te Ag
namespace Tm
set_option linter.unusedVariables false

/-- Two that follow one another, turned round. -/
def sw {α : Type} (l : List α) (k : Nat) (a b : α) : List α := (l.set k b).set (k + 1) a
def tn (k x : Nat) : Nat := if x = k then k + 1 else if x = k + 1 then k else x
def ti (k : Nat) (x : Int) : Int := if x = k then (k : Int) + 1 else if x = (k : Int) + 1 then k else x
section
variable {α : Type} {l : List α} {k : Nat} {a b : α}
theorem sw_len : (sw l k a b).length = l.length := by simp [sw]
theorem sw_map {β : Type} (f : α → β) : (sw l k a b).map f = sw (l.map f) k (f a) (f b) := by simp [sw, List.map_set]
theorem sw_get (h : k + 1 < l.length) (ha : l[k]? = some a) (hb : l[k + 1]? = some b) (x : Nat) : (sw l k a b)[tn k x]? = l[x]? := by
  unfold sw tn
  by_cases h1 : x = k
  · subst h1
    rw [if_pos rfl, List.getElem?_set_self (by simpa using h), ha]
  · rw [if_neg h1]
    by_cases h2 : x = k + 1
    · subst h2
      rw [if_pos rfl, List.getElem?_set_ne (by omega), List.getElem?_set_self (by omega), hb]
    · rw [if_neg h2, List.getElem?_set_ne (by omega), List.getElem?_set_ne (by omega)]
end
theorem ti_nat {k : Nat} {x : Int} (hx : 0 ≤ x) : (ti k x).toNat = tn k x.toNat := by
  unfold ti tn
  repeat' split
  all_goals omega
theorem ti_in {k m : Nat} {x : Int} (hk : k + 1 < m) (hx : 0 ≤ x ∧ x < m) : 0 ≤ ti k x ∧ ti k x < m := by
  unfold ti
  by_cases h1 : x = k
  · rw [if_pos h1]; omega
  · rw [if_neg h1]
    by_cases h2 : x = (k : Int) + 1
    · rw [if_pos h2]; omega
    · rw [if_neg h2]; omega
theorem ti_two {k : Nat} (x : Int) : ti k (ti k x) = x := by
  unfold ti
  by_cases h1 : x = k
  · rw [if_pos h1, if_neg (by omega), if_pos rfl]; omega
  · by_cases h2 : x = (k : Int) + 1
    · rw [if_neg h1, if_pos h2, if_pos rfl]; omega
    · rw [if_neg h1, if_neg h2, if_neg h1, if_neg h2]
theorem ti_inj {k : Nat} {x y : Int} (h : ti k x = ti k y) : x = y := by rw [← ti_two (k := k) x, h, ti_two]
theorem plc_nodup (n : Nat) : (plc n).Nodup := (plc_rise n).imp fun h => by omega
theorem ti_perm {k m : Nat} (hk : k + 1 < m) : List.Perm ((plc m).map (ti k)) (plc m) := by
  refine (List.perm_ext_iff_of_nodup ?_ (plc_nodup m)).2 fun x => ?_
  · exact List.pairwise_map.2 ((plc_nodup m).imp fun h e => h (ti_inj e))
  · rw [List.mem_map, plc_mem]
    constructor
    · rintro ⟨y, hy, rfl⟩; exact ti_in hk (plc_mem.1 hy)
    · intro hx; exact ⟨ti k x, plc_mem.2 (ti_in hk hx), ti_two x⟩
theorem key_turn {hs : List Ch} {k : Nat} {a b : Ch} (h : k + 1 < hs.length) (ha : hs[k]? = some a) (hb : hs[k + 1]? = some b) {x : Int} (hx : 0 ≤ x) : key (sw hs k a b) (ti k x) = key hs x := by
  unfold key
  rw [ti_nat hx, sw_get h ha hb]
/-- The order of what is turned round: the same changes, told by their new places. -/
theorem ord_turn {hs : List Ch} {k : Nat} {a b : Ch} {o : List Int} (h : k + 1 < hs.length) (ha : hs[k]? = some a) (hb : hs[k + 1]? = some b) (hne : a.dy ≠ b.dy) (ho : Ag.Ord hs o) : Ag.Ord (sw hs k a b) (o.map (ti k)) := by
  have ka : key hs (k : Int) = a.dy := by unfold key; rw [Int.toNat_natCast, ha]
  have kb : key hs ((k : Int) + 1) = b.dy := by unfold key; rw [show ((k : Int) + 1).toNat = k + 1 by omega, hb]
  unfold Ag.Ord
  rw [sw_len]
  refine ⟨(ho.1.map (ti k)).trans (ti_perm h), ?_⟩
  refine List.pairwise_map.2 (List.Pairwise.imp_of_mem (fun {x y} hx hy hl => ?_) ho.2)
  have x0 := (plc_mem.1 (ho.mem hx)).1
  have y0 := (plc_mem.1 (ho.mem hy)).1
  unfold St.lt at hl ⊢
  rw [key_turn h ha hb x0, key_turn h ha hb y0]
  rcases hl with hl | ⟨he, hl⟩
  · exact .inl hl
  · refine .inr ⟨he, ?_⟩
    have hn : ¬ (x = (k : Int) ∧ y = (k : Int) + 1) := by
      rintro ⟨rfl, rfl⟩
      rw [ka, kb] at he
      exact hne he
    unfold ti
    split <;> split <;> (try split) <;> omega
theorem turn_is {hs : List Ch} {k : Nat} {a b : Ch} {o p : List Int} (h : k + 1 < hs.length) (ha : hs[k]? = some a) (hb : hs[k + 1]? = some b) (hne : a.dy ≠ b.dy) (ho : Ag.Ord hs o) (hp : Ag.Ord (sw hs k a b) p) : p = o.map (ti k) :=
  St.Good.one hp (ord_turn h ha hb hne ho)

end Tm
end Go.Proofs.Ytcnlllamldlnmaa
