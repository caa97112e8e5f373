/-
  The parts SSort, SJoin of this proof. Conditions: those of each theorem.
-/
import Derived.Test.YtbjnjeidgdmdiaaGreatMSo
import Derived.Test.YtbjnjeidgdmdiaaGreatKLaidS
import Derived.Shelf.SlSortCmp.NoneTotal
import Derived.Lib.SliceRun
import Derived.RangeFuncNested
import Derived.RangeFuncCalls
import Derived.OrdersIn
import Derived.OwnWalkIn
import Derived.Deep.Quiet
import Derived.StillTail
import Derived.StillTailTactics
namespace Go.Proofs.YtbjnjeidgdmdiaaGreat
open Go.RowKit Sp
namespace Spn
set_option linter.unusedVariables false
def Copies (w : World) (n : Nat) (xs : List Sp) (e : Ending) (w' : World) : Prop := ∃ A c, e = .returned (.slice A n c) ∧ Own w' w.heap.size A n c xs ∧ Below w.heap.size w w'
set_option maxHeartbeats 1000000 in
theorem isNaN (x : Int) (w : World) : Calls Tryz.prog 77 #[.int .i64 x] w fun e w' => e = .returned (.bool false) ∧ w = w' := by
 go_enter Tryz.func77, Tryz.ntmps77; go_wp2; go_ret; exact ⟨rfl, rfl⟩
def cf (x y : Sp) : Int := if x.1 < y.1 then -1 else if y.1 < x.1 then 1 else 0
set_option maxHeartbeats 1000000 in
theorem compare (x y : Int) (w : World) : Calls Tryz.prog 48 #[.int .i64 x, .int .i64 y] w fun e w' => e = .returned (.int .i64 (cf (x, 0) (y, 0))) ∧ w = w' := by
 have C := fun a w => Lib.hid (isNaN a w)
 by_cases h1 : x < y
 ·have e : cf (x, 0) (y, 0) = -1 := by simp [cf, h1]
  have t1 : decide (x < y) = true := by simpa using h1
  rw [e]; clear e h1; go_enter Tryz.func48, Tryz.ntmps48
  go_wp2_with (go_at_call 77; refine (C _ _).out.mono ?_; rintro e w' ⟨rfl, rfl⟩)
  go_ret; exact ⟨rfl, rfl⟩
 ·have t1 : decide (x < y) = false := by simpa using h1
  by_cases h2 : y < x
  ·have e : cf (x, 0) (y, 0) = 1 := by simp [cf, h1, h2]
   have t2 : decide (y < x) = true := by simpa using h2
   rw [e]; clear e h1 h2; go_enter Tryz.func48, Tryz.ntmps48
   go_wp2_with (go_at_call 77; refine (C _ _).out.mono ?_; rintro e w' ⟨rfl, rfl⟩)
   go_ret; exact ⟨rfl, rfl⟩
  ·have e : cf (x, 0) (y, 0) = 0 := by simp [cf, h1, h2]
   have t2 : decide (y < x) = false := by simpa using h2
   rw [e]; clear e h1 h2; go_enter Tryz.func48, Tryz.ntmps48
   go_wp2_with (go_at_call 77; refine (C _ _).out.mono ?_; rintro e w' ⟨rfl, rfl⟩)
   go_ret; exact ⟨rfl, rfl⟩
def en (x : Sp) : List Value := [.int .i64 x.1, .int .i64 x.2]
set_option maxHeartbeats 1000000 in
theorem closure (x y : Sp) (W : World) : Calls Tryz.prog 47 #[.agg #[.int .i64 x.1, .int .i64 x.2], .agg #[.int .i64 y.1, .int .i64 y.2]] W fun e w' => e = .returned (.int .i64 (cf x y)) ∧ ∃ q os', w' = Go.Sort.grow (W.drewN q) os' := by
 have C := fun w => Lib.hid (compare x.1 y.1 w)
 have ec : cf (x.1, 0) (y.1, 0) = cf x y := rfl; rw [ec] at C; generalize cf x y = r at C ⊢; go_enter Tryz.func47, Tryz.ntmps47
 go_wp2_with (go_at_call 48; refine (C _).out.mono ?_; rintro e w' ⟨rfl, rfl⟩)
 go_ret; exact ⟨rfl, 0, _, by rw [Go.Sort.alloc_eq_grow, Go.Sort.alloc_eq_grow, Go.Sort.grow_grow]; rfl⟩
theorem lt_cf (x y : Sp) : ltOf cf x y = decide (x.1 < y.1) := by
 unfold ltOf cf; by_cases h1 : x.1 < y.1
 ·simp [h1]
 ·by_cases h2 : y.1 < x.1 <;> simp [h1, h2]
theorem swo : Go.Sort.SWO (ltOf cf) where
 irrefl x := by rw [lt_cf]; simp
 trans x y z h1 h2 := by rw [lt_cf] at *; simp at *; omega
 ntrans x y z h1 h2 := by rw [lt_cf] at *; simp at *; omega
theorem Own.holds {w : World} {base n c : Nat} {A : Option Addr} {xs : List Sp} (h : Own w base A n c xs) (hn : 0 < n) : ∃ g, A = some ⟨g, 0, none⟩ ∧ base ≤ g ∧ g < w.heap.size ∧ Go.Sort.HoldsK en 2 w g 0 xs.toArray := by
 have hS := h.spans.1; have hl := h.len; rcases h.2 with ⟨e, h0⟩ | ⟨g, cap, cur, e, hb, hh, hnc, hm, hs, ht⟩
 ·omega
 ·injection e with e1 e2 e3
  subst e1
  have hlt : g < w.heap.size := by
   rcases Nat.lt_or_ge g w.heap.size with hlt | hge
   ·exact hlt
   ·rw [Array.getElem?_eq_none hge] at hh; cases hh
  refine ⟨g, rfl, hb, hlt, ?_⟩; intro j hj; rw [Go.Sort.size_flatK] at hj; have hj' : j < xs.length * 2 := by simpa using hj
  have hm : j / 2 < xs.length := by omega
  refine ⟨?_, by simp [World.frozen?, hh]⟩; rw [Go.Sort.get_flatK _ _ _ _ hj, Nat.zero_add]; have hx : xs[j / 2]? = some xs[j / 2] := List.getElem?_eq_getElem hm; have hx' : xs.toArray[j / 2]! = xs[j / 2] := by rw [getElem!_pos _ _ (by simpa using hm)]; simp
  obtain ⟨c0, c1⟩ := cel_get hx; have hc := World.ownsRow.cells (g := g) h rfl; have ea : ∀ i, (⟨g, 0, none⟩ : Addr).add i = ⟨g, i, none⟩ := fun i => by unfold Addr.add; split <;> simp_all
  rw [hx']; rcases (by omega : j % 2 = 0 ∨ j % 2 = 1) with h2 | h2
  ·have hj2 : j = j / 2 * 2 := by omega
   have := hc _ _ c0; rw [ea, ← hj2] at this; rw [this, h2]; rfl
  ·have hj2 : j = j / 2 * 2 + 1 := by omega
   have := hc _ _ c1; rw [ea, ← hj2] at this; rw [this, h2]; rfl
theorem holds_spans {w : World} {g : Nat} {d : Array Sp} (h : Go.Sort.HoldsK en 2 w g 0 d) (hg : g < w.heap.size) : Spans w w.heap.size (some ⟨g, 0, none⟩) d.size d.toList := by
 refine ⟨by simp, fun _ => ⟨_, rfl, hg, fun j x hx => ?_⟩⟩; obtain ⟨hl, e⟩ := List.getElem?_eq_some_iff.1 hx; have hj : j < d.size := by simpa using hl
 have hd : d[j]! = x := by rw [getElem!_pos d j hj]; simpa using e
 have ea : ∀ i, (⟨g, 0, none⟩ : Addr).add i = ⟨g, i, none⟩ := fun i => by unfold Addr.add; split <;> simp_all
 have c0 := (h.cell hj (c := 0) (by omega)).1; have c1 := (h.cell hj (c := 1) (by omega)).1; rw [hd] at c0 c1; rw [ea, ea]; simp only [Nat.zero_add, Nat.add_zero] at c0 c1; exact ⟨c0, c1⟩
theorem sorted_below {w : World} {base g n : Nat} {d : Array Sp} {os : Array Obj} (hb : base ≤ g) (hB : base ≤ w.heap.size) : Below base w (sortWorldK en 2 w g 0 n d os) := by
 refine ⟨rfl, rfl, rfl, size_sortWorldK_c en 2 w g 0 n d os, fun i hi => ?_⟩; unfold sortWorldK Go.Sort.grow Go.Sort.putRowK Go.Sort.putRow Go.Sort.mapBlock Go.Sort.ahead; simp only; rw [Array.getElem?_append_left (by simp; omega), Array.getElem?_modify, if_neg (by omega)]
structure Sorts (xs ys : List Sp) : Prop where
 perm : ys.Perm xs
 rise : ys.Pairwise fun x y => x.1 ≤ y.1
theorem sorts_of {d d' : Array Sp} (hp : Go.Sort.PermIn 0 d.size d d') (hs : Go.Sort.SortedIn (ltOf cf) 0 d.size d') : Sorts d.toList d'.toList := by
 obtain ⟨h1, _, h3⟩ := hp; rw [show d'.extract 0 d.size = d' by rw [← h1]; simp, show d.extract 0 d.size = d by simp] at h3; refine ⟨h3, List.pairwise_iff_getElem.2 fun i j hi hj hij => ?_⟩; have hj' : j < d'.size := by simpa using hj
 have hh := hs i j (Nat.zero_le _) hij (by omega); rw [lt_cf, decide_eq_false_iff_not, getElem!_pos d' j hj', getElem!_pos d' i (by omega)] at hh; simp only [Array.getElem_toList]; omega
def SortsTo (base : Nat) (w : World) (A : Option Addr) (n : Nat) (xs : List Sp) (e : Ending) (w' : World) : Prop := e = .returned (.tuple #[]) ∧ ∃ ys, Sorts xs ys ∧ Spans w' w'.heap.size A n ys ∧ Below base w w'
theorem sortSpans (base : Nat) (A : Option Addr) (n c : Nat) (xs : List Sp) (w : World) (hO : Own w base A n c xs) (hb : base ≤ w.heap.size) (hn : n ≤ 1000000) :
  Calls Tryz.prog 46 #[.slice A n c, .func (.func 47) #[] #[]] w (SortsTo base w A n xs) := by
 have hl := hO.len; rcases Nat.eq_zero_or_pos n with h0 | h0
 ·subst h0; have hx : xs = [] := List.eq_nil_of_length_eq_zero hl; subst hx; refine (AnyF.slices_SortFunc_none Laid.sort A c (.func (.func 47) #[] #[]) w).mono ?_; rintro e w' ⟨rfl, rfl⟩; exact ⟨rfl, [], ⟨List.Perm.refl _, List.Pairwise.nil⟩, Spans.nil, Below.refl _ _⟩
 ·obtain ⟨g, rfl, hbg, hg, hH⟩ := hO.holds h0; have eg : ∀ args w, (callFunc 47 args).run Tryz.prog w = .ok (.enter 47 args) w := enters_of Tryz.func47 (by kernel_rfl) rfl; have hc : CmpLays Tryz.prog 47 #[] en 2 cf g 0 xs.toArray.size w := fun _ _ _ _ x y => closure x y _
  have hh := AnyQ.slices_SortFunc Laid.sort 2 Tryz.isAgg23 Tryz.sizeOf23 en (fun _ => rfl) (fun x v hv => by simp [en] at hv; rcases hv with rfl | rfl <;> rfl) cf swo 47 #[] g 0 c xs.toArray w eg hc hH hg (by simp; omega); have e1 : xs.toArray.size = n := by simpa using hl
  rw [e1] at hh; refine Calls.mono (P := Tryz.prog) hh ?_; rintro e w' ⟨rfl, d', m, os, hp, hs, rfl⟩; have hsz : d'.size = n := by have := hp.1; omega
  have hS := sorts_of (d := xs.toArray) (by rw [e1]; exact hp) (by rw [e1]; exact hs); refine ⟨rfl, d'.toList, by simpa using hS, ?_, sorted_below hbg hb⟩; have hH' := holdsK_sortWorldK_c en 2 w g 0 xs.toArray d' m os hH hg (by omega); have := holds_spans hH' (Nat.lt_of_lt_of_le hg (size_sortWorldK_c en 2 w g 0 m d' os)); rwa [hsz] at this
end Spn
end Go.Proofs.YtbjnjeidgdmdiaaGreat

namespace Go.Proofs.YtbjnjeidgdmdiaaGreat.Sp
set_option linter.unusedVariables false

/-- One more span, behind those that are joined. -/
def js (acc : List Sp) (s : Sp) : List Sp :=
  match acc.getLast? with
  | none => [s]
  | some l => if s.1 ≤ l.2 then acc.dropLast ++ [(l.1, max l.2 s.2)] else acc ++ [s]
theorem js_nil (s : Sp) : js [] s = [s] := rfl
theorem js_join {a : List Sp} {p q : Int} {s : Sp} (h : s.1 ≤ q) : js (a ++ [(p, q)]) s = a ++ [(p, max q s.2)] := by
  unfold js; simp [h]
theorem js_more {a : List Sp} {p q : Int} {s : Sp} (h : ¬ s.1 ≤ q) : js (a ++ [(p, q)]) s = a ++ [(p, q)] ++ [s] := by
  unfold js; simp [h]
theorem snoc_of {a : List Sp} (h : a ≠ []) : ∃ b p q, a = b ++ [(p, q)] := ⟨a.dropLast, (a.getLast h).1, (a.getLast h).2, (List.dropLast_concat_getLast h).symm⟩
theorem js_len (a : List Sp) (s : Sp) : (js a s).length ≤ a.length + 1 := by
  by_cases h : a = []
  · subst h; simp [js_nil]
  · obtain ⟨b, p, q, rfl⟩ := snoc_of h
    by_cases hh : s.1 ≤ q
    · rw [js_join hh]; simp
    · rw [js_more hh]; simp
def jf (xs : List Sp) : List Sp := xs.foldl js []
theorem jf_snoc (xs : List Sp) (s : Sp) : jf (xs ++ [s]) = js (jf xs) s := by simp [jf]
theorem fold_len (xs acc : List Sp) : (xs.foldl js acc).length ≤ acc.length + xs.length := by
  induction xs generalizing acc with
  | nil => simp
  | cons x xs ih =>
    have h1 := ih (js acc x)
    have h2 := js_len acc x
    simp only [List.foldl_cons, List.length_cons]; omega
theorem jf_len (xs : List Sp) : (jf xs).length ≤ xs.length := by have := fold_len xs []; simpa [jf] using this

/-- What holds of those that are joined so far. -/
structure Runs (ys acc : List Sp) : Prop where
  join : Joined ys acc
  first : ∀ z ∈ acc, ∃ y ∈ ys, y.1 = z.1

theorem runs_step {ys acc : List Sp} {s : Sp} (h : Runs ys acc) (hs : has s = true) (hr : ∀ y ∈ ys, y.1 ≤ s.1) : Runs (ys ++ [s]) (js acc s) := by
  have hs' := (has_iff s).1 hs
  by_cases h0 : acc = []
  · subst h0
    rw [js_nil]
    refine ⟨⟨⟨hs, by simp, trivial⟩, fun d => ?_⟩, ?_⟩
    · rw [hit_append, ← h.join.same d]
      simp [hit_nil]
    · intro z hz; simp at hz; subst hz; exact ⟨z, by simp, rfl⟩
  · obtain ⟨b, p, q, rfl⟩ := snoc_of h0
    have ha := Apart.append.1 h.join.apart
    have hpq := (has_iff (p, q)).1 ha.2.1.1
    simp only at hpq
    have hp : p ≤ s.1 := by
      obtain ⟨y, hy, e⟩ := h.first (p, q) (by simp)
      have := hr y hy
      simp only at e; omega
    by_cases hh : s.1 ≤ q
    · rw [js_join hh]
      refine ⟨⟨Apart.append.2 ⟨ha.1, ⟨(has_iff _).2 (by simp only; omega), by simp, trivial⟩, fun x hx y hy => ?_⟩, fun d => ?_⟩, ?_⟩
      · simp at hy; subst hy; exact ha.2.2 x hx (p, q) (by simp)
      · rw [hit_append ys, ← h.join.same d, hit_append, hit_append, or_assoc]
        refine or_congr Iff.rfl ?_
        rw [hit_cons, hit_cons, hit_cons]
        have e1 := inn_iff (p, max q s.2) d
        have e2 := inn_iff (p, q) d
        have e3 := inn_iff s d
        simp only at e1 e2
        rw [e1, e2, e3]
        constructor
        · rintro (hx | hx)
          · by_cases hd : d < q
            · exact .inl (.inl (by omega))
            · exact .inr (.inl (by omega))
          · exact absurd hx (hit_nil d)
        · rintro ((hx | hx) | (hx | hx))
          · exact .inl (by omega)
          · exact absurd hx (hit_nil d)
          · exact .inl (by omega)
          · exact absurd hx (hit_nil d)
      · intro z hz
        rcases List.mem_append.1 hz with hz | hz
        · obtain ⟨y, hy, e⟩ := h.first z (by simp [hz])
          exact ⟨y, by simp [hy], e⟩
        · simp at hz; subst hz
          obtain ⟨y, hy, e⟩ := h.first (p, q) (by simp)
          exact ⟨y, by simp [hy], e⟩
    · rw [js_more hh]
      refine ⟨⟨Apart.append.2 ⟨h.join.apart, ⟨hs, by simp, trivial⟩, fun x hx y hy => ?_⟩, fun d => ?_⟩, ?_⟩
      · simp at hy; subst hy
        rcases List.mem_append.1 hx with hx | hx
        · have := ha.2.2 x hx (p, q) (by simp)
          simp only at this; omega
        · simp at hx; subst hx; simp only; omega
      · rw [hit_append, hit_append ys, h.join.same d]
      · intro z hz
        rcases List.mem_append.1 hz with hz | hz
        · obtain ⟨y, hy, e⟩ := h.first z hz
          exact ⟨y, by simp [hy], e⟩
        · simp at hz; subst hz; exact ⟨z, by simp, rfl⟩

theorem runs_all (zs : List Sp) : ∀ {ys acc : List Sp}, Runs ys acc → (∀ z ∈ zs, has z = true) → (ys ++ zs).Pairwise (fun x y => x.1 ≤ y.1) → Runs (ys ++ zs) (zs.foldl js acc) := by
  induction zs with
  | nil => intro ys acc h _ _; simpa using h
  | cons z zs ih =>
    intro ys acc h hh hp
    have e : ys ++ z :: zs = (ys ++ [z]) ++ zs := by simp
    rw [e] at hp ⊢
    refine ih (runs_step h (hh z (by simp)) fun y hy => ?_) (fun u hu => hh u (by simp [hu])) hp
    have := (List.pairwise_append.1 (List.pairwise_append.1 hp).1).2.2 y hy z (by simp)
    exact this

theorem jf_joined {ys : List Sp} (hp : ys.Pairwise fun x y => x.1 ≤ y.1) : Joined ys (jf (kp ys)) := by
  have h0 : Runs [] [] := ⟨⟨trivial, fun d => Iff.rfl⟩, fun z hz => by cases hz⟩
  have := runs_all (kp ys) h0 (fun z hz => (List.mem_filter.1 hz).2) (by rw [List.nil_append]; exact hp.sublist List.filter_sublist)
  have hj := this.join
  simp only [List.nil_append] at hj
  exact ⟨hj.apart, fun d => (hj.same d).trans (hit_kp ys d)⟩

theorem hit_perm {xs ys : List Sp} (h : ys.Perm xs) (d : Int) : hit ys d ↔ hit xs d := by
  unfold hit
  constructor
  · rintro ⟨x, hx, hi⟩; exact ⟨x, h.mem_iff.1 hx, hi⟩
  · rintro ⟨x, hx, hi⟩; exact ⟨x, h.mem_iff.2 hx, hi⟩

end Go.Proofs.YtbjnjeidgdmdiaaGreat.Sp

namespace Go.Proofs.YtbjnjeidgdmdiaaGreat
open Go.RowKit
namespace Round
set_option linter.unusedVariables false

variable {P : Program} {l n : Nat}

theorem rows_in {row : String} {args : Array Value} {w : World} {R : Value → World → Prop} (h : Rows P row args w R) : RowsIn (Fence.wide.inRound l) n P row args w R := by
  intro c cs _
  obtain ⟨v, w', r, s⟩ := h c cs
  exact ⟨v, w', r, stepsIn_wide.2 s⟩

theorem upon_in {o : Oper} {a : Act} {K K' : Act → World → Prop} {Q : Exit → Act → World → Prop} {r : Result Next} (hK : ∀ a w, K a w → K' a w) (h : o.upon P a K Q r) : o.uponIn (Fence.wide.inRound l) n P a K' Q r := by
  cases r with
  | ok x w' =>
    cases x with
    | value v => exact hK _ _ h
    | skip => exact hK _ _ h
    | «defer» d => exact hK _ _ h
    | enter f args =>
      refine ⟨(fun hd => by cases hd), CallsIn.inRound l (callsIn_wide.2 ?_)⟩
      refine Calls.mono (P := P) h ?_
      intro e w'' he
      cases e with
      | returned v => exact hK _ _ he
      | panicked ch => exact he
      | outgrown => exact he
    | row row args =>
      refine ⟨(fun hd => by cases hd), RowsIn.mono (rows_in h) ?_⟩
      intro v w'' hv
      exact hK _ _ hv
    | round l f tmps assign body => exact h.elim
    | _ => exact h.elim
  | halt x w' =>
    cases x with
    | panic v => exact h
    | _ => exact h.elim

/-- The operation defers nothing. -/
def calm (o : Oper) : Bool := match o.op with
  | .defer _ => false
  | _ => true
theorem calm_ne {o : Oper} (h : calm o = true) : ∀ c, o.op ≠ .defer c := by
  intro c e
  unfold calm at h
  rw [e] at h
  cases h

theorem op_in {ops : Array Oper} {Q : Exit → Act → World → Prop} {i : Nat} {K K' : Act → World → Prop} {a : Act} {w : World} (hc : ops.all calm = true) (hQ : ¬ LetsOut Q) (hK : ∀ a w, K a w → K' a w) (h : wpOp P ops Q i K a w) :
    wpOpIn (Fence.wide.inRound l) n P ops Q i K' a w := by
  unfold wpOp at h
  unfold wpOpIn
  split
  · rename_i ho; simp only [ho] at h; exact hK _ _ h
  · rename_i o ho
    simp only [ho] at h
    have hm : calm o = true := by
      obtain ⟨hl, e⟩ := Array.getElem?_eq_some_iff.1 ho
      have := Array.all_eq_true.1 hc i hl
      rwa [e] at this
    split
    · rename_i hw
      simp only [hw, if_true] at h
      rcases h with h | h
      · unfold Oper.wpIn
        refine ⟨fun f _ => trivial, ?_⟩
        rw [Oper.semAt_plain (Fence.wide.inRound l) a.eval o (calm_ne hm)]
        exact upon_in hK h
      · exact absurd h.2 hQ
    · rename_i hw
      simp only [hw] at h
      exact ⟨fun f _ => trivial, hK _ _ h⟩

theorem any_in {md : Region.Mode} {ops : Array Oper} {Q : Exit → Act → World → Prop} (hc : ops.all calm = true) (hQ : ¬ LetsOut Q) : ∀ (fuel : Nat) (listed : Array Bool) (a : Act) (w : World), wpAny P md ops Q fuel listed a w →
    wpAnyIn (Fence.wide.inRound l) n P md ops Q fuel listed a w
  | 0, _, _, _, h => h
  | fuel + 1, _, _, _, h => ⟨h.1, fun i hi => op_in hc hQ (fun a' w' hh => any_in hc hQ fuel _ a' w' hh) (h.2 i hi)⟩

/-- All but draws stays as it was. -/
theorem quiet {id : Nat} {Q : Exit → Act → World → Prop} {a : Act} {w : World} {os : List Oper} (hQ : ¬ LetsOut Q) (hc : os.toArray.all calm = true) (hm : P.follows .mixedOrders = true) (hB : Region.lexB .any os.toArray = true)
    (h : wpQuiet P os.toArray (fun w' => ∃ n, w' = w.drewN n) (fun a' => ∀ w', (∃ n, w' = w.drewN n) → Q .normal a' w') os a) : (Code.region id os.toArray true).wpIn (Fence.wide.inRound l) n P Q a w := by
  refine wpIn_region_any hm (any_in hc hQ _ _ _ _ ?_)
  simp only [Region.lexB, Bool.and_eq_true] at hB
  refine wpAny_of_quiet (C := fun w' => ∃ n, w' = w.drewN n) (Q := fun a' => ∀ w', (∃ n, w' = w.drewN n) → Q .normal a' w') (fun _ w' hw' h => h w' hw') _ _ _ _ ⟨1, rfl⟩ ?_
  have := wpAnyQ_lex (C := fun w' => ∃ n, w' = w.drewN n) (md := .any) hB.1 os.toArray.toList 0 (Array.replicate os.toArray.size false) a (by simp) (by simpa using hB.2) (by simpa using h)
  simpa using this

/-- Reads first, then operations in one forced order. -/
theorem tail {id : Nat} {Q : Exit → Act → World → Prop} {a : Act} {w : World} {os : List Oper} (k : Nat) (hQ : ¬ LetsOut Q) (hcm : os.toArray.all calm = true) (hm : P.follows .mixedOrders = true) (hB : Region.lexTailB .any os.toArray k = true)
    (h : wpStill P os.toArray { w with drawn := w.drawn + 1 } (fun a' => wpList P os.toArray Q (os.drop k) a' { w with drawn := w.drawn + 1 }) (os.take k) a) : (Code.region id os.toArray true).wpIn (Fence.wide.inRound l) n P Q a w := by
  refine wpIn_region_any hm (any_in hcm hQ _ _ _ _ ?_)
  simp only [Region.lexTailB, Bool.and_eq_true, decide_eq_true_eq] at hB
  obtain ⟨⟨⟨⟨hsel, hk⟩, hs⟩, hc⟩, hlex⟩ := hB
  have htl : (os.take k).length = k := by simp at hk; simp; omega
  have hdl : (os.drop k).length = os.toArray.size - k := by simp
  have H := wpAnyL_lex (P := P) (md := .any) (g := os.toArray.size - k) hsel hs hc hk (os.take k) 0 (Array.replicate os.toArray.size false) a
    (fun j hj => by have hj' : j < k := by omega
                    simp [hj']) (by simpa using htl)
    ⟨by simp, fun j oj _ hl => (by rw [getD_replicate_false] at hl; cases hl), fun t _ ht => getD_in (by simpa using ht) (getD_replicate_false _ _)⟩ (by rw [htl]; exact hlex) h
  have := wpAny_of_head (Q' := Q) (g := os.toArray.size - k) (fun listed a' hL => by
    have hh := wpAny_of_seq (md := .any) (Q' := Q) (os.drop k) k listed a' { w with drawn := w.drawn + 1 } (fun j => by simp [List.getElem?_drop]) (by rw [hdl]; exact hL.1) hL.2
    rwa [hdl] at hh) _ _ _ H
  rwa [htl, show k + (os.toArray.size - k) = os.toArray.size by omega] at this

end Round
end Go.Proofs.YtbjnjeidgdmdiaaGreat

namespace Go.Proofs.YtbjnjeidgdmdiaaGreat
open Go.RowKit Go.Shelf Sp
namespace Spn
set_option linter.unusedVariables false

attribute [local go_sem] Oper.semAt_some

/-- What Join gives: a row that is what these spans are joined to. -/
def Joins (w : World) (xs : List Sp) (e : Ending) (w' : World) : Prop := ∃ zs, Joined xs zs ∧ zs.length ≤ xs.length ∧ ∃ A k c, e = .returned (.slice A k c) ∧ Spans w' w'.heap.size A k zs ∧ (k ≤ c ∧ (A = none → k = 0 ∧ c = 0)) ∧ Below w.heap.size w w'

theorem own_nil0 {w : World} {base n c : Nat} {A : Option Addr} {xs : List Sp} (h : Own w base A n c xs) : A = none → n = 0 ∧ c = 0 := by
  intro e
  subst e
  rcases h.2 with ⟨e, hn⟩ | ⟨g, cap, cur, e, _⟩
  · injection e with _ e2 e3
    exact ⟨e2, e3⟩
  · cases e

/-- The last span's second number turned. -/
theorem row_turn {w : World} {base g n c : Nat} {a : List Sp} {p q : Int} (z : Int) (h : w.ownsRow base 23 2 (.slice (some ⟨g, 0, none⟩) n c) n (cel (a ++ [(p, q)]))) :
    (w.setCell ⟨g, a.length * 2 + 1, none⟩ (.int .i64 z)).ownsRow base 23 2 (.slice (some ⟨g, 0, none⟩) n c) n (cel (a ++ [(p, z)])) := by
  have := (World.ownsRow.stored h (a.length * 2 + 1) (.int .i64 z)).1
  rw [cel_append, cel_one] at this ⊢
  rw [List.set_append_right _ _ (by rw [cel_length]; omega)] at this
  rw [cel_length, show a.length * 2 + 1 - a.length * 2 = 1 by omega] at this
  simpa using this

theorem last_cells {w : World} {base n c : Nat} {A : Option Addr} {a : List Sp} {p q : Int} (h : Own w base A n c (a ++ [(p, q)])) :
    ∃ g, A = some ⟨g, 0, none⟩ ∧ base ≤ g ∧ w.cell? ⟨g, a.length * 2, none⟩ = some (.int .i64 p) ∧ w.cell? ⟨g, a.length * 2 + 1, none⟩ = some (.int .i64 q) ∧ w.frozen? ⟨g, a.length * 2 + 1, none⟩ = false := by
  have hl := h.len
  simp at hl
  rcases h.2 with ⟨e, h0⟩ | ⟨g, cap, cur, e, hb, hh, hnc, hm, hs, ht⟩
  · omega
  · injection e with e1 e2 e3
    subst e1
    have ea : ∀ i, (⟨g, 0, none⟩ : Addr).add i = ⟨g, i, none⟩ := fun i => by unfold Addr.add; split <;> simp_all
    have hx : (a ++ [(p, q)])[a.length]? = some (p, q) := by simp
    obtain ⟨c0, c1⟩ := cel_get hx
    have hc := World.ownsRow.cells (g := g) h rfl
    refine ⟨g, rfl, hb, ?_, ?_, by simp [World.frozen?, hh]⟩
    · rw [← ea]; exact hc _ _ c0
    · rw [← ea]; exact hc _ _ c1

theorem keeps_drewN (W : World) (n : Nat) : KeepsOthers W (W.drewN n) := ⟨(KeepsOthers.refl W).1, (KeepsOthers.refl W).2⟩
theorem boxed_far {W : World} {B g : Nat} {t : TypeId} {v : Value} (h : Boxed W B t v) {o : Nat} (hne : B ≠ g) (u : Value) : Boxed (W.setCell ⟨g, o, none⟩ u) B t v := (Below.heap_setCell W ⟨g, o, none⟩ u B hne).trans h

end Spn
end Go.Proofs.YtbjnjeidgdmdiaaGreat

namespace Go.Proofs.YtbjnjeidgdmdiaaGreat
open Go.RowKit Go.Shelf Sp
namespace Spn
set_option linter.unusedVariables false

set_option maxHeartbeats 1000000 in
theorem cloneA (A : Option Addr) (n c : Nat) (xs : List Sp) (w : World) (hS : Spans w w.heap.size A n xs) (hn : n ≤ 1000000) :
    Calls Tryz.prog 45 #[.slice A n c] w (Copies w n xs) := by
  cases A with
  | none =>
    obtain rfl : n = 0 := by
      rcases Nat.eq_zero_or_pos n with h | h
      · exact h
      · obtain ⟨_, e, _⟩ := hS.2 h; cases e
    have hx : xs = [] := List.eq_nil_of_length_eq_zero hS.1
    subst hx
    clear hS
    have q : ∀ (w : World) (a : Option Addr) (n c n' c' : Nat), (binOp .eql 44 (.slice a n c) (.slice none n' c')).run Tryz.prog w = .ok (.bool a.isNone) w := fun w a n c n' c' => Lib.run_eql_slice_nil w _ _ a n c n' c' Tryz.underlying44
    go_enter Tryz.func45, Tryz.ntmps45
    go_wp2
    go_ret
    exact ⟨none, 0, rfl, Own.nil, Below.refl _ _⟩
  | some ad =>
    have HS := Lib.hid hS
    clear hS
    have q : ∀ (w : World) (a : Option Addr) (n c n' c' : Nat), (binOp .eql 44 (.slice a n c) (.slice none n' c')).run Tryz.prog w = .ok (.bool a.isNone) w := fun w a n c n' c' => Lib.run_eql_slice_nil w _ _ a n c n' c' Tryz.underlying44
    go_enter Tryz.func45, Tryz.ntmps45
    go_wp2_with (at_builtin; refine wpList_app _ rfl (.tmp 5) (.tmp 6) rfl w.heap.size (some ⟨w.heap.size, 0, none⟩) 0 0 [] rfl (World.ownsRow_made w #[] 0 (Nat.le_refl _) (Nat.zero_le _) (by simp)) w.heap.size (some ad) n c xs rfl (HS.out.below ((Below.refl _ _).alloc (Nat.le_refl _) _) (Nat.le_refl _)) (fun h => by cases h) (by omega) (by simp) ?_; intro A2 c2 w2 hO2 hg2; have HO2 := Lib.hid hO2; have HG2 := Lib.hid hg2; clear hO2 hg2)
    go_ret
    refine ⟨A2, c2, rfl, by have := HO2.out; rwa [Nat.zero_add, List.nil_append] at this, ((Below.refl _ _).alloc (Nat.le_refl _) _).grown HG2.out (by simp) (fun j hj => ?_)⟩
    simp [Value.ownBlock] at hj; omega

attribute [local go_sem] Oper.semAt_some

set_option maxRecDepth 100000 in
set_option maxHeartbeats 2000000 in
theorem joinA (A : Option Addr) (n c : Nat) (xs : List Sp) (w : World) (hS : Spans w w.heap.size A n xs) (hn : n ≤ 1000000) :
    Calls Tryz.prog 23 #[.slice A n c] w (Joins w xs) := by
  obtain ⟨i0, hi, hz0, hz1, hz2⟩ := info_parts info_span
  have hmx : Tryz.prog.follows .mixedOrders = true := by kernel_rfl
  have C := Lib.hid (callsIn_wide (n := 9) |>.2 (cloneA A n c xs w hS hn))
  clear hS
  refine callsIn_wide (n := 10) |>.1 ?_
  refine callsIn_of_wp_marks Tryz.func23 rfl trivial ?_ rfl
  simp only [Tryz.ntmps23, List.size_toArray, List.length_cons, List.length_nil, Nat.reduceAdd, Nat.reduceSub, Array.replicate_succ, Array.replicate_zero, List.push_toArray, List.append_toArray, List.nil_append, List.cons_append]
  gi_wp2_with fail
  refine ⟨trivial, C.out.mono ?_⟩
  rintro e w1 ⟨A1, c1, rfl, hO1, hb1⟩
  have HO1 := Lib.hid hO1
  have HB1 := Lib.hid hb1
  clear hO1 hb1 C
  gi_wp2_with fail
  refine ⟨trivial, (callsIn_wide.2 (sortSpans w.heap.size A1 n c1 xs w1 HO1.out HB1.out.size hn)).mono ?_⟩
  rintro e w2 ⟨rfl, ys, hsort, hS2, hb2⟩
  have HS2 := Lib.hid hS2
  have HB2 := Lib.hid (HB1.out.trans hb2)
  have HSo := Lib.hid hsort
  clear hS2 hb2 hsort HO1 HB1
  gi_wp2_with fail
  refine ⟨trivial, (callsIn_wide.2 (withDays A1 n c1 _)).mono ?_⟩
  rintro e w' ⟨rfl, rfl⟩
  have bO := Boxed.new w2 44 (.slice none 0 0)
  have bN := Boxed.new (w2.alloc (.cells #[.slice none 0 0] 44)) 44 (.slice A1 n c1)
  rw [World.size_alloc] at bN
  have hB0 : Below w2.heap.size w2 ((w2.alloc (.cells #[.slice none 0 0] 44)).alloc (.cells #[.slice A1 n c1] 44)) := ((Below.refl _ w2).alloc (Nat.le_refl _) _).alloc (by simp) _
  have hyl : ys.length = n := HS2.out.1
  have hkl : (kp ys).length ≤ 1000000 := Nat.le_trans (List.length_filter_le _ _) (by rw [hyl]; exact hn)
  gi_wp2
  refine wpIn_rangeFunc_ownH rfl (by decide) (gf := 78) (lb := #[.pointer (some ⟨w2.heap.size + 1, 0, none⟩)]) rfl trivial (enters_of Tryz.func78 (by kernel_rfl) rfl)
    (days_stops (w2.heap.size + 1) w2.heap.size n c1 A1 ys (by omega) _ (by simp) (by simp; omega) bN.cell (HS2.out.below hB0 (Nat.le_refl _))) belowK_t (belowK_b (by simp; omega)) (Below.refl _ _) (fun _ => rfl)
    (fun pre W => (∃ v, Boxed W w2.heap.size 44 v ∧ W.ownsRow w2.heap.size 23 2 v (jf pre).length (cel (jf pre)) ∧ True) ∧ Below w2.heap.size w2 W)
    (fun _ _ _ => False)
    (OwnFrom.and (Own.from (holdsRow_own w2.heap.size w2.heap.size 44 23 2 (fun pre : List Sp => (jf pre).length) (fun pre => cel (jf pre)) (fun _ _ => True)) _) (ownFrom_below (Nat.le_refl _) (by simp; omega)))
    (fun _ _ _ _ _ hs _ _ => hs)
    ⟨⟨_, bO.alloc _, World.ownsRow_nil _ _ _ _, trivial⟩, hB0⟩
    (fun x a' W => ∃ b, w2.heap.size < b ∧ Bx W b x.1 x.2 ∧ a' = { tmps := #[.slice A n c, undef, .slice none 0 0, .slice A1 n c1, .pointer (some ⟨w2.heap.size, 0, none⟩), .pointer (some ⟨b, 0, none⟩), undef, .slice A n c, .slice A1 n c1, .slice A1 n c1, .tuple #[], .slice A1 n c1, .func (.func 78) #[] #[.pointer (some ⟨w2.heap.size + 1, 0, none⟩)], ag x, undef, undef, undef, undef, undef, undef, undef, undef, undef, undef, undef, undef, undef, undef, undef, undef, undef, undef, undef, undef, undef, undef, undef, undef, undef, undef, undef, undef, undef, undef, undef, undef], defers := [] })
    (fun x a' _ X Y row hs hg hr => by obtain ⟨b, h0, h1, h2⟩ := hs; exact ⟨b, h0, bx_kept h1 hg (fun r e => (hr r e).2), h2⟩)
    ?assign ?body ?done ?stop
  case assign =>
    rintro l pre x W K ⟨⟨v, hv, hrow, _⟩, hB⟩ hK
    gi_wp2
    exact hK _ _ ((KeepsOthers.alloc _ _).from _) ((Below.refl _ W).alloc hB.size _) ⟨⟨v, hv.alloc _, hrow.alloc _, trivial⟩, hB.alloc hB.size _⟩ ⟨W.heap.size, hv.lt, Bx.new W _ _, rfl⟩
  case body =>
    rintro l pre x a' W hl ⟨r, hr⟩ ⟨⟨v, hv, hrow, _⟩, hB⟩ ⟨b, hbl, X, rfl⟩ hlt
    obtain ⟨A', c', rfl, hO⟩ := own_of_row hrow
    have x0 := X.c0
    have x1 := X.c1
    have hjl : (jf pre).length ≤ 1000000 := by have := jf_len pre; omega
    by_cases h0 : jf pre = []
    · rw [h0] at hv hrow hO
      simp only [List.length_nil] at hv hrow hO
      have hc := hv.cell
      gi_wp2
      refine Round.quiet (by rintro ⟨_, _, hh⟩; exact hh) (by kernel_rfl) hmx (by kernel_rfl) ?_
      repeat (any_goals (first | go_big_quiet_step (fail) | quiet_step (fail)))
      refine wpQuiet_nil ?_
      intro _ hw'
      obtain ⟨nq, hw''⟩ := hw'
      subst hw''
      obtain ⟨W', hW'⟩ : ∃ W', W.drewN nq = W' := ⟨_, rfl⟩
      have hv' : Boxed W' w2.heap.size 44 (.slice A' 0 c') := by rw [← hW']; exact hv
      have hrow' : W'.ownsRow w2.heap.size 23 2 (.slice A' 0 c') 0 (cel []) := by rw [← hW']; exact hrow
      have hB' : Below w2.heap.size w2 W' := by rw [← hW']; exact ⟨hB.os, hB.tape, hB.output, hB.size, hB.block⟩
      have hBW : Below w2.heap.size W W' := by rw [← hW']; exact ⟨rfl, rfl, rfl, Nat.le_refl _, fun _ _ => rfl⟩
      have hKW : KeepsOthers W W' := by rw [← hW']; exact keeps_drewN W nq
      have X' : Bx W' b x.1 x.2 := by rw [← hW']; exact X
      rw [hW']
      have hc' := hv'.cell
      have x0' := X'.c0
      have x1' := X'.c1
      clear hc x0 x1 hW'
      gi_wp2_with (gi_at_builtin; refine wpListIn_append_own _ rfl _ _ 44 rfl w2.heap.size 23 i0 (.agg #[.int .i64 0, .int .i64 0]) 2 16 Tryz.underlying44 hi hz0 hz1 hz2 rfl (by decide) _ _ _ rfl (hrow'.alloc _) ⟨W'.heap.size, 0, none⟩ 1 1 [.int .i64 x.1, .int .i64 x.2] rfl rfl (new_cells _ _ _) (by simp [Value.oneCell']) (by unfold maxLen; omega) (by omega) (by have := hB'.size; simp; omega) ?_; intro v' w3 hown' hgrow _; obtain ⟨g', cap', rfl⟩ := ownsRow_succ hown'; obtain ⟨hv1, hv2, hr2, hk2, hb2⟩ := hv'.appended (by decide) hrow' hB'.size (Nat.le_refl _) hown' hgrow; have hc1 := hv1.cell; have hf1 := hv1.frozen)
      exact ⟨(hKW.trans hk2).from _, hBW.trans hb2, ⟨_, hv2, by rw [jf_snoc, h0, js_nil]; simpa [cel] using hr2, trivial⟩, hB'.trans hb2⟩
    · obtain ⟨a, p, q, ea⟩ := snoc_of h0
      rw [ea] at hv hrow hO hjl
      obtain ⟨m, hm⟩ : ∃ m, a.length = m := ⟨_, rfl⟩
      simp only [List.length_append, List.length_cons, List.length_nil, Nat.zero_add] at hv hrow hO hjl
      rw [hm] at hv hrow hO hjl
      obtain ⟨g, rfl, hbg, c0, c1, f1⟩ := last_cells hO
      rw [hm] at c0 c1 f1
      have hc := hv.cell
      have HM := Lib.hid hm
      have HE := Lib.hid ea
      clear hm ea h0
      have hlt' : (m : Int) < (m : Int) + 1 := by omega
      by_cases hx : x.1 ≤ q
      · have tx : decide (x.1 ≤ q) = true := by simpa using hx
        have HX := Lib.hid hx
        clear hx
        gi_wp2
        refine Round.quiet (by rintro ⟨_, _, hh⟩; exact hh) (by kernel_rfl) hmx (by kernel_rfl) ?_
        repeat (any_goals (first | go_big_quiet_step (fail) | quiet_step (fail)))
        refine wpQuiet_nil ?_
        intro _ hw'
        obtain ⟨nq, hw''⟩ := hw'
        subst hw''
        gi_wp2
        refine Round.tail 10 (by rintro ⟨_, _, hh⟩; exact hh) (by kernel_rfl) hmx (by kernel_rfl) ?_
        simp only [List.take_succ_cons, List.take_zero, List.drop_succ_cons, List.drop_zero]
        change wpStill _ _ (W.drewN nq).drew (fun a' => wpList _ _ _ _ a' (W.drewN nq).drew) _ _
        obtain ⟨W', hW'⟩ : ∃ W', (W.drewN nq).drew = W' := ⟨_, rfl⟩
        have hv' : Boxed W' w2.heap.size 44 (.slice (some ⟨g, 0, none⟩) (m + 1) c') := by rw [← hW']; exact hv
        have hrow' : W'.ownsRow w2.heap.size 23 2 (.slice (some ⟨g, 0, none⟩) (m + 1) c') (m + 1) (cel (a ++ [(p, q)])) := by rw [← hW']; exact hrow
        have hB' : Below w2.heap.size w2 W' := by rw [← hW']; exact ⟨hB.os, hB.tape, hB.output, hB.size, hB.block⟩
        have hBW : Below w2.heap.size W W' := by rw [← hW']; exact ⟨rfl, rfl, rfl, Nat.le_refl _, fun _ _ => rfl⟩
        have hKW : KeepsOthers W W' := by rw [← hW']; exact (keeps_drewN W nq).trans (KeepsOthers.drew _)
        have X' : Bx W' b x.1 x.2 := by rw [← hW']; exact X
        have c1' : W'.cell? ⟨g, m * 2 + 1, none⟩ = some (.int .i64 q) := by rw [← hW']; exact c1
        have f1' : W'.frozen? ⟨g, m * 2 + 1, none⟩ = false := by rw [← hW']; exact f1
        have hne : w2.heap.size ≠ g := fun e => hv'.not_row (by decide) hrow' (by rw [e]; rfl)
        simp only [hW']
        have hc' := hv'.cell
        have x0' := X'.c0
        have x1' := X'.c1
        clear hc x0 x1 hW' c0 c1 f1
        repeat still_step
        refine wpStill_nil ?_
        go_wp2
        have ht := row_turn (max q x.2) hrow'
        rw [HM.out] at ht
        have hb2 : Below w2.heap.size W' (W'.setCell ⟨g, m * 2 + 1, none⟩ (.int .i64 (max q x.2))) := (Below.refl _ _).setCell (p := ⟨g, m * 2 + 1, none⟩) hbg _
        refine ⟨(hKW.trans (KeepsOthers.setCell _ _ _)).from _, hBW.trans hb2, ⟨_, boxed_far hv' hne _, ?_, trivial⟩, hB'.trans hb2⟩
        rw [jf_snoc, HE.out, js_join HX.out, List.length_append, HM.out]
        exact ht
      · have tx : decide (x.1 ≤ q) = false := by simpa using hx
        have HX := Lib.hid hx
        clear hx
        gi_wp2
        refine Round.quiet (by rintro ⟨_, _, hh⟩; exact hh) (by kernel_rfl) hmx (by kernel_rfl) ?_
        repeat (any_goals (first | go_big_quiet_step (fail) | quiet_step (fail)))
        refine wpQuiet_nil ?_
        intro _ hw'
        obtain ⟨nq, hw''⟩ := hw'
        subst hw''
        obtain ⟨W', hW'⟩ : ∃ W', W.drewN nq = W' := ⟨_, rfl⟩
        have hv' : Boxed W' w2.heap.size 44 (.slice (some ⟨g, 0, none⟩) (m + 1) c') := by rw [← hW']; exact hv
        have hrow' : W'.ownsRow w2.heap.size 23 2 (.slice (some ⟨g, 0, none⟩) (m + 1) c') (m + 1) (cel (a ++ [(p, q)])) := by rw [← hW']; exact hrow
        have hB' : Below w2.heap.size w2 W' := by rw [← hW']; exact ⟨hB.os, hB.tape, hB.output, hB.size, hB.block⟩
        have hBW : Below w2.heap.size W W' := by rw [← hW']; exact ⟨rfl, rfl, rfl, Nat.le_refl _, fun _ _ => rfl⟩
        have hKW : KeepsOthers W W' := by rw [← hW']; exact keeps_drewN W nq
        have X' : Bx W' b x.1 x.2 := by rw [← hW']; exact X
        rw [hW']
        have hc' := hv'.cell
        have x0' := X'.c0
        have x1' := X'.c1
        clear hc x0 x1 hW'
        clear c0 c1 f1
        gi_wp2_with (gi_at_builtin; refine wpListIn_append_own _ rfl _ _ 44 rfl w2.heap.size 23 i0 (.agg #[.int .i64 0, .int .i64 0]) 2 16 Tryz.underlying44 hi hz0 hz1 hz2 rfl (by decide) _ _ _ rfl (hrow'.alloc _) ⟨W'.heap.size, 0, none⟩ 1 1 [.int .i64 x.1, .int .i64 x.2] rfl rfl (new_cells _ _ _) (by simp [Value.oneCell']) (by unfold maxLen; omega) (by omega) (by have := hB'.size; simp; omega) ?_; intro v' w3 hown' hgrow _; obtain ⟨g', cap', rfl⟩ := ownsRow_succ hown'; obtain ⟨hv1, hv2, hr2, hk2, hb2⟩ := hv'.appended (by decide) hrow' hB'.size (Nat.le_refl _) hown' hgrow; have hc1 := hv1.cell; have hf1 := hv1.frozen)
        refine ⟨(hKW.trans hk2).from _, hBW.trans hb2, ⟨_, hv2, ?_, trivial⟩, hB'.trans hb2⟩
        rw [jf_snoc, HE.out, js_more (by have := HX.out; omega), cel_append, cel_one, List.length_append, List.length_append, HM.out]
        exact hr2
  case done =>
    rintro D zs W hD rfl ⟨⟨v, hv, hrow, _⟩, hB⟩ hK
    have hc := hv.cell
    gi_wp2
    refine ⟨by simp, .inl ⟨_, _, rfl, run_takeDeferred hK, ?_⟩⟩
    have hrow2 := ownsRow_putObj hrow (Obj.deferred none) hK rfl
    obtain ⟨A', c', rfl, hO⟩ := own_of_row hrow2
    have hj := jf_joined HSo.out.rise
    have hjl : (jf (kp ys)).length ≤ xs.length := by
      have h1 := jf_len (kp ys)
      have h2 : (kp ys).length ≤ ys.length := List.length_filter_le _ _
      have h3 := HSo.out.perm.length_eq
      omega
    exact ⟨_, results_tmp rfl _ _ _, jf (kp ys), ⟨hj.apart, fun d => (hj.same d).trans (hit_perm HSo.out.perm d)⟩, hjl, A', _, c', rfl, hO.spans.1, ⟨hO.spans.2, own_nil0 hO⟩, HB2.out.trans ((hB.trans (belowK_b (w := w2) (Nat.le_refl _) W D _ _ (by simp at hD; omega) hK rfl rfl)).mono HB2.out.size)⟩
  case stop =>
    rintro D c pre W _ _ h _
    exact h.elim

end Spn
end Go.Proofs.YtbjnjeidgdmdiaaGreat
