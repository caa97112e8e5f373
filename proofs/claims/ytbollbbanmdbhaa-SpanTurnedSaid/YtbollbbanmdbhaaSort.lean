/-
  A copy of a row; a row sorted by the first days. Conditions: those of each theorem.
-/
import Derived.Test.YtbollbbanmdbhaaApp
import Derived.Test.YtbollbbanmdbhaaLaid
import Derived.Shelf.SlSortCmp.NoneTotal
import Derived.Lib.SliceRun
namespace Go.Proofs.Ytbollbbanmdbhaa
open Go.RowKit Sp
namespace Spn
set_option linter.unusedVariables false

/-- What a call gives that copies a row. -/
def Copies (w : World) (n : Nat) (xs : List Sp) (e : Ending) (w' : World) : Prop := ∃ A c, e = .returned (.slice A n c) ∧ Own w' w.heap.size A n c xs ∧ Below w.heap.size w w'

set_option maxHeartbeats 1000000 in
theorem clone (A : Option Addr) (n c : Nat) (xs : List Sp) (w : World) (hS : Spans w w.heap.size A n xs) (hnil : A = none → n = 0 ∧ c = 0) (hn : n ≤ 1000000) :
    Calls Try.prog 31 #[.slice A n c] w (Copies w n xs) := by
  cases A with
  | none =>
    obtain ⟨rfl, rfl⟩ := hnil rfl
    have hx : xs = [] := List.eq_nil_of_length_eq_zero hS.1
    subst hx
    clear hS hnil
    have q : ∀ (w : World) (a : Option Addr) (n c n' c' : Nat), (binOp .eql 30 (.slice a n c) (.slice none n' c')).run Try.prog w = .ok (.bool a.isNone) w := fun w a n c n' c' => Lib.run_eql_slice_nil w _ _ a n c n' c' Try.underlying30
    go_enter Try.func31, Try.ntmps31
    go_wp2
    go_ret
    exact ⟨none, 0, rfl, Own.nil, Below.refl _ _⟩
  | some ad =>
    have HS := Lib.hid hS
    clear hS hnil
    have q : ∀ (w : World) (a : Option Addr) (n c n' c' : Nat), (binOp .eql 30 (.slice a n c) (.slice none n' c')).run Try.prog w = .ok (.bool a.isNone) w := fun w a n c n' c' => Lib.run_eql_slice_nil w _ _ a n c n' c' Try.underlying30
    go_enter Try.func31, Try.ntmps31
    go_wp2_with (at_builtin; refine wpList_app _ rfl (.tmp 5) (.tmp 6) rfl w.heap.size (some ⟨w.heap.size, 0, none⟩) 0 0 [] rfl (World.ownsRow_made w #[] 0 (Nat.le_refl _) (Nat.zero_le _) (by simp)) w.heap.size (some ad) n c xs rfl (HS.out.below ((Below.refl _ _).alloc (Nat.le_refl _) _) (Nat.le_refl _)) (fun h => by cases h) (by omega) (by simp) ?_; intro A2 c2 w2 hO2 hg2; have HO2 := Lib.hid hO2; have HG2 := Lib.hid hg2; clear hO2 hg2)
    go_ret
    refine ⟨A2, c2, rfl, by have := HO2.out; rwa [Nat.zero_add, List.nil_append] at this, ((Below.refl _ _).alloc (Nat.le_refl _) _).grown HG2.out (by simp) (fun j hj => ?_)⟩
    simp [Value.ownBlock] at hj; omega

set_option maxHeartbeats 1000000 in
theorem isNaN (x : Int) (w : World) : Calls Try.prog 41 #[.int .i64 x] w fun e w' => e = .returned (.bool false) ∧ w = w' := by
  go_enter Try.func41, Try.ntmps41
  go_wp2
  go_ret
  exact ⟨rfl, rfl⟩

def cf (x y : Sp) : Int := if x.1 < y.1 then -1 else if y.1 < x.1 then 1 else 0

set_option maxHeartbeats 1000000 in
theorem compare (x y : Int) (w : World) : Calls Try.prog 34 #[.int .i64 x, .int .i64 y] w fun e w' => e = .returned (.int .i64 (cf (x, 0) (y, 0))) ∧ w = w' := by
  have C := fun a w => Lib.hid (isNaN a w)
  by_cases h1 : x < y
  · have e : cf (x, 0) (y, 0) = -1 := by simp [cf, h1]
    have t1 : decide (x < y) = true := by simpa using h1
    rw [e]
    clear e h1
    go_enter Try.func34, Try.ntmps34
    go_wp2_with (go_at_call 41; refine (C _ _).out.mono ?_; rintro e w' ⟨rfl, rfl⟩)
    go_ret
    exact ⟨rfl, rfl⟩
  · have t1 : decide (x < y) = false := by simpa using h1
    by_cases h2 : y < x
    · have e : cf (x, 0) (y, 0) = 1 := by simp [cf, h1, h2]
      have t2 : decide (y < x) = true := by simpa using h2
      rw [e]
      clear e h1 h2
      go_enter Try.func34, Try.ntmps34
      go_wp2_with (go_at_call 41; refine (C _ _).out.mono ?_; rintro e w' ⟨rfl, rfl⟩)
      go_ret
      exact ⟨rfl, rfl⟩
    · have e : cf (x, 0) (y, 0) = 0 := by simp [cf, h1, h2]
      have t2 : decide (y < x) = false := by simpa using h2
      rw [e]
      clear e h1 h2
      go_enter Try.func34, Try.ntmps34
      go_wp2_with (go_at_call 41; refine (C _ _).out.mono ?_; rintro e w' ⟨rfl, rfl⟩)
      go_ret
      exact ⟨rfl, rfl⟩

def en (x : Sp) : List Value := [.int .i64 x.1, .int .i64 x.2]

set_option maxHeartbeats 1000000 in
theorem closure (x y : Sp) (W : World) : Calls Try.prog 33 #[.agg #[.int .i64 x.1, .int .i64 x.2], .agg #[.int .i64 y.1, .int .i64 y.2]] W fun e w' => e = .returned (.int .i64 (cf x y)) ∧ ∃ q os', w' = Go.Sort.grow (W.drewN q) os' := by
  have C := fun w => Lib.hid (compare x.1 y.1 w)
  have ec : cf (x.1, 0) (y.1, 0) = cf x y := rfl
  rw [ec] at C
  generalize cf x y = r at C ⊢
  go_enter Try.func33, Try.ntmps33
  go_wp2_with (go_at_call 34; refine (C _).out.mono ?_; rintro e w' ⟨rfl, rfl⟩)
  go_ret
  exact ⟨rfl, 0, _, by rw [Go.Sort.alloc_eq_grow, Go.Sort.alloc_eq_grow, Go.Sort.grow_grow]; rfl⟩

theorem lt_cf (x y : Sp) : ltOf cf x y = decide (x.1 < y.1) := by
  unfold ltOf cf
  by_cases h1 : x.1 < y.1
  · simp [h1]
  · by_cases h2 : y.1 < x.1 <;> simp [h1, h2]

theorem swo : Go.Sort.SWO (ltOf cf) where
  irrefl x := by rw [lt_cf]; simp
  trans x y z h1 h2 := by rw [lt_cf] at *; simp at *; omega
  ntrans x y z h1 h2 := by rw [lt_cf] at *; simp at *; omega

/-- A row of the call's own as the sort asks it. -/
theorem Own.holds {w : World} {base n c : Nat} {A : Option Addr} {xs : List Sp} (h : Own w base A n c xs) (hn : 0 < n) : ∃ g, A = some ⟨g, 0, none⟩ ∧ base ≤ g ∧ g < w.heap.size ∧ Go.Sort.HoldsK en 2 w g 0 xs.toArray := by
  have hS := h.spans.1
  have hl := h.len
  rcases h.2 with ⟨e, h0⟩ | ⟨g, cap, cur, e, hb, hh, hnc, hm, hs, ht⟩
  · omega
  · injection e with e1 e2 e3
    subst e1
    have hlt : g < w.heap.size := by
      rcases Nat.lt_or_ge g w.heap.size with hlt | hge
      · exact hlt
      · rw [Array.getElem?_eq_none hge] at hh; cases hh
    refine ⟨g, rfl, hb, hlt, ?_⟩
    intro j hj
    rw [Go.Sort.size_flatK] at hj
    have hj' : j < xs.length * 2 := by simpa using hj
    have hm : j / 2 < xs.length := by omega
    refine ⟨?_, by simp [World.frozen?, hh]⟩
    rw [Go.Sort.get_flatK _ _ _ _ hj, Nat.zero_add]
    have hx : xs[j / 2]? = some xs[j / 2] := List.getElem?_eq_getElem hm
    have hx' : xs.toArray[j / 2]! = xs[j / 2] := by rw [getElem!_pos _ _ (by simpa using hm)]; simp
    obtain ⟨c0, c1⟩ := cel_get hx
    have hc := World.ownsRow.cells (g := g) h rfl
    have ea : ∀ i, (⟨g, 0, none⟩ : Addr).add i = ⟨g, i, none⟩ := fun i => by unfold Addr.add; split <;> simp_all
    rw [hx']
    rcases (by omega : j % 2 = 0 ∨ j % 2 = 1) with h2 | h2
    · have hj2 : j = j / 2 * 2 := by omega
      have := hc _ _ c0
      rw [ea, ← hj2] at this
      rw [this, h2]; rfl
    · have hj2 : j = j / 2 * 2 + 1 := by omega
      have := hc _ _ c1
      rw [ea, ← hj2] at this
      rw [this, h2]; rfl

theorem holds_spans {w : World} {g : Nat} {d : Array Sp} (h : Go.Sort.HoldsK en 2 w g 0 d) (hg : g < w.heap.size) : Spans w w.heap.size (some ⟨g, 0, none⟩) d.size d.toList := by
  refine ⟨by simp, fun _ => ⟨_, rfl, hg, fun j x hx => ?_⟩⟩
  obtain ⟨hl, e⟩ := List.getElem?_eq_some_iff.1 hx
  have hj : j < d.size := by simpa using hl
  have hd : d[j]! = x := by rw [getElem!_pos d j hj]; simpa using e
  have ea : ∀ i, (⟨g, 0, none⟩ : Addr).add i = ⟨g, i, none⟩ := fun i => by unfold Addr.add; split <;> simp_all
  have c0 := (h.cell hj (c := 0) (by omega)).1
  have c1 := (h.cell hj (c := 1) (by omega)).1
  rw [hd] at c0 c1
  rw [ea, ea]
  simp only [Nat.zero_add, Nat.add_zero] at c0 c1
  exact ⟨c0, c1⟩

theorem sorted_below {w : World} {base g n : Nat} {d : Array Sp} {os : Array Obj} (hb : base ≤ g) (hB : base ≤ w.heap.size) : Below base w (sortWorldK en 2 w g 0 n d os) := by
  refine ⟨rfl, rfl, rfl, size_sortWorldK_c en 2 w g 0 n d os, fun i hi => ?_⟩
  unfold sortWorldK Go.Sort.grow Go.Sort.putRowK Go.Sort.putRow Go.Sort.mapBlock Go.Sort.ahead
  simp only
  rw [Array.getElem?_append_left (by simp; omega), Array.getElem?_modify, if_neg (by omega)]

/-- What the sort leaves: the same spans, by their first days. -/
structure Sorts (xs ys : List Sp) : Prop where
  perm : ys.Perm xs
  rise : ys.Pairwise fun x y => x.1 ≤ y.1

theorem sorts_of {d d' : Array Sp} (hp : Go.Sort.PermIn 0 d.size d d') (hs : Go.Sort.SortedIn (ltOf cf) 0 d.size d') : Sorts d.toList d'.toList := by
  obtain ⟨h1, _, h3⟩ := hp
  rw [show d'.extract 0 d.size = d' by rw [← h1]; simp, show d.extract 0 d.size = d by simp] at h3
  refine ⟨h3, List.pairwise_iff_getElem.2 fun i j hi hj hij => ?_⟩
  have hj' : j < d'.size := by simpa using hj
  have hh := hs i j (Nat.zero_le _) hij (by omega)
  rw [lt_cf, decide_eq_false_iff_not, getElem!_pos d' j hj', getElem!_pos d' i (by omega)] at hh
  simp only [Array.getElem_toList]
  omega

def SortsTo (base : Nat) (w : World) (A : Option Addr) (n : Nat) (xs : List Sp) (e : Ending) (w' : World) : Prop := e = .returned (.tuple #[]) ∧ ∃ ys, Sorts xs ys ∧ Spans w' w'.heap.size A n ys ∧ Below base w w'

theorem sortSpans (base : Nat) (A : Option Addr) (n c : Nat) (xs : List Sp) (w : World) (hO : Own w base A n c xs) (hb : base ≤ w.heap.size) (hn : n ≤ 1000000) :
    Calls Try.prog 32 #[.slice A n c, .func (.func 33) #[] #[]] w (SortsTo base w A n xs) := by
  have hl := hO.len
  rcases Nat.eq_zero_or_pos n with h0 | h0
  · subst h0
    have hx : xs = [] := List.eq_nil_of_length_eq_zero hl
    subst hx
    refine (AnyF.slices_SortFunc_none Laid.sort A c (.func (.func 33) #[] #[]) w).mono ?_
    rintro e w' ⟨rfl, rfl⟩
    exact ⟨rfl, [], ⟨List.Perm.refl _, List.Pairwise.nil⟩, Spans.nil, Below.refl _ _⟩
  · obtain ⟨g, rfl, hbg, hg, hH⟩ := hO.holds h0
    have eg : ∀ args w, (callFunc 33 args).run Try.prog w = .ok (.enter 33 args) w := enters_of Try.func33 (by kernel_rfl) rfl
    have hc : CmpLays Try.prog 33 #[] en 2 cf g 0 xs.toArray.size w := fun _ _ _ _ x y => closure x y _
    have hh := AnyQ.slices_SortFunc Laid.sort 2 Try.isAgg23 Try.sizeOf23 en (fun _ => rfl) (fun x v hv => by simp [en] at hv; rcases hv with rfl | rfl <;> rfl) cf swo 33 #[] g 0 c xs.toArray w eg hc hH hg (by simp; omega)
    have e1 : xs.toArray.size = n := by simpa using hl
    rw [e1] at hh
    refine Calls.mono (P := Try.prog) hh ?_
    rintro e w' ⟨rfl, d', m, os, hp, hs, rfl⟩
    have hsz : d'.size = n := by have := hp.1; omega
    have hS := sorts_of (d := xs.toArray) (by rw [e1]; exact hp) (by rw [e1]; exact hs)
    refine ⟨rfl, d'.toList, by simpa using hS, ?_, sorted_below hbg hb⟩
    have hH' := holdsK_sortWorldK_c en 2 w g 0 xs.toArray d' m os hH hg (by omega)
    have := holds_spans hH' (Nat.lt_of_lt_of_le hg (size_sortWorldK_c en 2 w g 0 m d' os))
    rwa [hsz] at this

end Spn
end Go.Proofs.Ytbollbbanmdbhaa
