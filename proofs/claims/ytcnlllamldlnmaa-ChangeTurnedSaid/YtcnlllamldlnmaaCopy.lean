/-
  slices.Clone of covers and of changes; a change of a row gets other covers. Conditions: the rows read as lists, and are short.
-/
import Derived.Test.YtcnlllamldlnmaaRight
namespace Go.Proofs.Ytcnlllamldlnmaa
open Go.RowKit Ba Cv Sp Te Ag
namespace Tm
set_option linter.unusedVariables false

/-- A copy in memory of the call's own. -/
def CopiesC (w : World) (m : Nat) (xs : List Co) (e : Ending) (w' : World) : Prop := ∃ A c, e = .returned (.slice A m c) ∧ COwn w' w.heap.size A m c xs ∧ Below w.heap.size w w'
set_option maxHeartbeats 1000000 in
theorem clone_covers (L : Option Addr) (m c : Nat) (xs : List Co) (ok : Nat → Prop) (w : World) (hS : Cvs w ok L m xs) (hok : ∀ b, ok b → b < w.heap.size) (hn : m ≤ 3000) :
    Calls Try.prog 38 #[.slice L m c] w (CopiesC w m xs) := by
  cases L with
  | none =>
    obtain rfl : m = 0 := hS.noroom
    have hx : xs = [] := List.eq_nil_of_length_eq_zero hS.1
    subst hx
    clear hS
    have q : ∀ (w : World) (a : Option Addr) (n c n' c' : Nat), (binOp .eql 24 (.slice a n c) (.slice none n' c')).run Try.prog w = .ok (.bool a.isNone) w := fun w a n c n' c' => Lib.run_eql_slice_nil w _ _ a n c n' c' Try.underlying24
    go_enter Try.func38, Try.ntmps38
    go_wp2
    go_ret
    exact ⟨none, 0, rfl, COwn.nil, Below.refl _ _⟩
  | some ad =>
    have HS := Lib.hid hS
    have HK := Lib.hid hok
    clear hS hok
    have q : ∀ (w : World) (a : Option Addr) (n c n' c' : Nat), (binOp .eql 24 (.slice a n c) (.slice none n' c')).run Try.prog w = .ok (.bool a.isNone) w := fun w a n c n' c' => Lib.run_eql_slice_nil w _ _ a n c n' c' Try.underlying24
    go_enter Try.func38, Try.ntmps38
    go_wp2_with (at_builtin; refine wpList_app_c _ rfl (.tmp 5) (.tmp 6) rfl w.heap.size (some ⟨w.heap.size, 0, none⟩) 0 0 [] rfl (COwn.made w) ok (some ad) m c xs rfl (HS.out.keep (ok' := ok) (fun p hp => (alloc_ w _).cell (HK.out _ hp)) fun _ h => h) (fun e => by cases e) m (Nat.zero_add m) (by omega) (by simp) ?_; intro A2 c2 w2 hO2 hg2; have HO2 := Lib.hid hO2; have HG2 := Lib.hid hg2; clear hO2 hg2)
    go_wp2
    go_ret
    refine ⟨A2, c2, rfl, by have := HO2.out; rwa [List.nil_append] at this, ((Below.refl _ _).alloc (Nat.le_refl _) _).grown HG2.out (by simp) (fun j hj => ?_)⟩
    simp [Value.ownBlock] at hj; omega

/-- A copy in memory of the call's own. -/
def CopiesR (w : World) (m : Nat) (xs : List Rw) (e : Ending) (w' : World) : Prop := ∃ A c, e = .returned (.slice A m c) ∧ Own w' w.heap.size A m c xs ∧ Below w.heap.size w w'
set_option maxHeartbeats 1000000 in
theorem clone_changes (L : Option Addr) (m c : Nat) (xs : List Rw) (ok : Nat → Prop) (w : World) (hS : Raws w ok L m xs) (hok : ∀ b, ok b → b < w.heap.size) (hn : m ≤ 3000) :
    Calls Try.prog 52 #[.slice L m c] w (CopiesR w m xs) := by
  cases L with
  | none =>
    obtain rfl : m = 0 := hS.noroom
    have hx : xs = [] := List.eq_nil_of_length_eq_zero hS.1
    subst hx
    clear hS
    have q : ∀ (w : World) (a : Option Addr) (n c n' c' : Nat), (binOp .eql 31 (.slice a n c) (.slice none n' c')).run Try.prog w = .ok (.bool a.isNone) w := fun w a n c n' c' => Lib.run_eql_slice_nil w _ _ a n c n' c' Try.underlying31
    go_enter Try.func52, Try.ntmps52
    go_wp2
    go_ret
    exact ⟨none, 0, rfl, Own.nil, Below.refl _ _⟩
  | some ad =>
    have HS := Lib.hid hS
    have HK := Lib.hid hok
    clear hS hok
    have q : ∀ (w : World) (a : Option Addr) (n c n' c' : Nat), (binOp .eql 31 (.slice a n c) (.slice none n' c')).run Try.prog w = .ok (.bool a.isNone) w := fun w a n c n' c' => Lib.run_eql_slice_nil w _ _ a n c n' c' Try.underlying31
    go_enter Try.func52, Try.ntmps52
    go_wp2_with (at_builtin; refine wpList_app _ rfl (.tmp 5) (.tmp 6) rfl w.heap.size (some ⟨w.heap.size, 0, none⟩) 0 0 [] rfl (Own.made w) ok (some ad) m c xs rfl (HS.out.keep (ok' := ok) (fun p hp => (alloc_ w _).cell (HK.out _ hp)) fun _ h => h) (fun e => by cases e) m (Nat.zero_add m) (by omega) (by simp) ?_; intro A2 c2 w2 hO2 hg2; have HO2 := Lib.hid hO2; have HG2 := Lib.hid hg2; clear hO2 hg2)
    go_wp2
    go_ret
    refine ⟨A2, c2, rfl, by have := HO2.out; rwa [List.nil_append] at this, ((Below.refl _ _).alloc (Nat.le_refl _) _).grown HG2.out (by simp) (fun j hj => ?_)⟩
    simp [Value.ownBlock] at hj; omega

theorem Own.fits {w : World} {base n c : Nat} {A : Option Addr} {xs : List Rw} (h : Own w base A n c xs) : n ≤ c ∧ (A = none → n = 0 ∧ c = 0) := by
  rcases h.2 with ⟨e, hn⟩ | ⟨g, cap, cur, e, _, _, hnc, _⟩
  · injection e with e1 e2 e3; exact ⟨by omega, fun _ => ⟨hn, e3⟩⟩
  · injection e with e1 e2 e3; subst e3; exact ⟨hnc, fun h0 => by rw [e1] at h0; cases h0⟩
theorem Own.low {w : World} {base base' n c : Nat} {A : Option Addr} {xs : List Rw} (h : Own w base A n c xs) (hb : base' ≤ base) : Own w base' A n c xs := by
  refine ⟨h.1, ?_⟩
  rcases h.2 with h | ⟨g, cap, cur, e, hb2, r⟩
  · exact .inl h
  · exact .inr ⟨g, cap, cur, e, Nat.le_trans hb hb2, r⟩
theorem Own.form {w : World} {base n c : Nat} {A : Option Addr} {xs : List Rw} (h : Own w base A n c xs) (hn : 0 < n) : ∃ g, A = some ⟨g, 0, none⟩ ∧ base ≤ g ∧ g < w.heap.size := by
  rcases h.2 with ⟨e, h0⟩ | ⟨g, cap, cur, e, hb, hh, _⟩
  · omega
  · injection e with e1 e2 e3
    refine ⟨g, e1, hb, ?_⟩
    rcases Nat.lt_or_ge g w.heap.size with hlt | hge
    · exact hlt
    · rw [Array.getElem?_eq_none hge] at hh; cases hh
theorem cel_set (A : Option Addr) (c : Nat) : ∀ (rs : List Rw) (i : Nat) (r : Rw), rs[i]? = some r → cel (rs.set i ⟨r.v, A, r.n, c⟩) = (cel rs).set (i * 9 + 7) (.slice A r.n c)
  | [], i, r, h => by simp at h
  | y :: ys, 0, r, h => by
    simp at h
    subst h
    rw [List.set_cons_zero, show ∀ z : Rw, z :: ys = [z] ++ ys from fun _ => rfl, cel_append, cel_one, show y :: ys = [y] ++ ys from rfl, cel_append, cel_one]
    rw [List.set_append_left _ _ (by show 0 * 9 + 7 < 9; omega)]
    rfl
  | y :: ys, i + 1, r, h => by
    simp at h
    rw [List.set_cons_succ, show ∀ (z : Rw) (zs : List Rw), z :: zs = [z] ++ zs from fun _ _ => rfl, cel_append, cel_one, show y :: ys = [y] ++ ys from rfl, cel_append, cel_one, cel_set A c ys i r h]
    rw [List.set_append_right _ _ (by show 9 ≤ (i + 1) * 9 + 7; omega)]
    congr 2
    show i * 9 + 7 = (i + 1) * 9 + 7 - 9
    omega
/-- One change of a row of the call's own gets other covers. -/
theorem Own.put {w : World} {base n c g i : Nat} {rs : List Rw} {r : Rw} (h : Own w base (some ⟨g, 0, none⟩) n c rs) (hr : rs[i]? = some r) (A : Option Addr) (k : Nat) : Own (w.setCell ⟨g, i * 9 + 7, none⟩ (.slice A r.n k)) base (some ⟨g, 0, none⟩) n c (rs.set i ⟨r.v, A, r.n, k⟩) := by
  refine ⟨by have := h.1; rw [cel_length] at this ⊢; rw [List.length_set]; exact this, ?_⟩
  rcases h.2 with ⟨e, _⟩ | ⟨g', cap, cur, e, hb, hh, hnc, hm, hs, ht⟩
  · cases e
  · injection e with e1 e2 e3
    injection e1 with e1
    injection e1 with e1
    subst e1 e3
    refine .inr ⟨g, c, cur.setIfInBounds (i * 9 + 7) (.slice A r.n k), rfl, hb, heap_setCell_same w g _ _ _ _ hh, hnc, hm, by simpa using hs, ?_⟩
    rw [Array.toList_setIfInBounds, List.take_set, ht, cel_set A k rs i r hr]

end Tm
end Go.Proofs.Ytcnlllamldlnmaa
