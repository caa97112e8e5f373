/-
  Parts of package span. Conditions: the days read as a list of at most 100 ints.
-/
import Derived.Test.YtplenoaajokpjaaGreatMSo
import Derived.Test.YtplenoaajokpjaaGreatMMath
import Derived.Test.YtplenoaajokpjaaGreatKLaid
import Derived.Lib.SliceRun
import Derived.Shelf.SortM.Plain
import Derived.Shelf.SortM.SortNone
namespace Go.Proofs.YtplenoaajokpjaaGreat
open Go.RowKit Sp
namespace Spn
set_option linter.unusedVariables false
def Ints (w : World) (B : Nat) (A : Option Addr) (n : Nat) (xs : List Int) : Prop :=
 xs.length = n ∧ (0 < n → ∃ ad : Addr, A = some ad ∧ ad.block < B ∧ ∀ (j : Nat) (x : Int), xs[j]? = some x → w.cell? (ad.add j) = some (.int .i64 x))
section
variable {w w' : World} {B n : Nat} {A : Option Addr} {xs : List Int}
theorem Ints.nil {A : Option Addr} : Ints w B A 0 [] := ⟨rfl, fun h => absurd h (by omega)⟩
theorem Ints.get {k : Nat} (h : Ints w B A n xs) (hk : k < n) : ∃ (ad : Addr) (x : Int), A = some ad ∧ ad.block < B ∧ xs[k]? = some x ∧ w.cell? (ad.add k) = some (.int .i64 x) := by
 obtain ⟨ad, e, hb, hc⟩ := h.2 (by omega); have hl : k < xs.length := by have := h.1; omega
 exact ⟨ad, xs[k], e, hb, List.getElem?_eq_getElem hl, hc k _ (List.getElem?_eq_getElem hl)⟩
theorem Ints.keep (h : Ints w B A n xs) (hk : ∀ p : Addr, p.block < B → w'.cell? p = w.cell? p) : Ints w' B A n xs :=
 ⟨h.1, fun hn => by
  obtain ⟨ad, e, hb, hc⟩ := h.2 hn; exact ⟨ad, e, hb, fun j x hx => (hk _ (by rw [add_block]; exact hb)).trans (hc j x hx)⟩⟩
theorem Ints.below {C : Nat} (h : Ints w B A n xs) (hb : Below C w w') (hC : B ≤ C) : Ints w' B A n xs := h.keep fun _ hp => hb.cell (Nat.lt_of_lt_of_le hp hC)
theorem Ints.wide {C : Nat} (h : Ints w B A n xs) (hC : B ≤ C) : Ints w C A n xs :=
 ⟨h.1, fun hn => by
  obtain ⟨ad, e, hb, hc⟩ := h.2 hn; exact ⟨ad, e, Nat.lt_of_lt_of_le hb hC, hc⟩⟩
end
def OwnI (w : World) (base : Nat) (A : Option Addr) (n c : Nat) (xs : List Int) : Prop := w.ownsRow base 3 1 (.slice A n c) n (xs.map (Value.int .i64))
section
variable {w w' : World} {base n c : Nat} {A : Option Addr} {xs : List Int}
theorem OwnI.nil : OwnI w base none 0 0 [] := World.ownsRow_nil w base _ 1
theorem OwnI.len (h : OwnI w base A n c xs) : xs.length = n := by have := h.1; simpa using this
theorem OwnI.ints (h : OwnI w base A n c xs) : Ints w w.heap.size A n xs ∧ n ≤ c := by
 rcases h.2 with ⟨e, hn⟩ | ⟨g, cap, cur, e, hb, hh, hnc, hm, hs, ht⟩
 ·injection e with e1 e2 e3
  subst hn; have hl := h.len; exact ⟨⟨hl, fun h => absurd h (by omega)⟩, by omega⟩
 ·injection e with e1 e2 e3
  subst e1 e3; refine ⟨⟨h.len, fun _ => ⟨_, rfl, ?_, fun j x hx => ?_⟩⟩, hnc⟩
  ·rcases Nat.lt_or_ge g w.heap.size with hlt | hge
   ·exact hlt
   ·rw [Array.getElem?_eq_none hge] at hh; cases hh
  ·exact World.ownsRow.cells (g := g) h rfl j _ (by simp [hx])
theorem OwnI.holds (h : OwnI w base A n c xs) (hn : 0 < n) : ∃ g, A = some ⟨g, 0, none⟩ ∧ base ≤ g ∧ g < w.heap.size ∧ Go.Sort.Holds (Value.int .i64) w g 0 xs.toArray := by
 rcases h.2 with ⟨e, h0⟩ | ⟨g, cap, cur, e, hb, hh, hnc, hm, hs, ht⟩
 ·omega
 ·injection e with e1 e2 e3
  subst e1
  have hlt : g < w.heap.size := by
   rcases Nat.lt_or_ge g w.heap.size with hlt | hge
   ·exact hlt
   ·rw [Array.getElem?_eq_none hge] at hh; cases hh
  refine ⟨g, rfl, hb, hlt, fun j hj => ⟨?_, by simp [World.frozen?, hh]⟩⟩; have hj' : j < xs.length := by simpa using hj
  have ea : ∀ i, (⟨g, 0, none⟩ : Addr).add i = ⟨g, i, none⟩ := fun i => by unfold Addr.add; split <;> simp_all
  have hc := World.ownsRow.cells (g := g) h rfl j (.int .i64 xs[j]) (by simp [hj']); rw [ea] at hc; have hx' : xs.toArray[j]! = xs[j] := by rw [getElem!_pos xs.toArray j hj]; simp
  rw [Nat.zero_add, hc, hx']
end
theorem info_int : (Tryz.prog.info? 3).map (fun i => (i.zero, i.size, i.bytes)) = some (some (.int .i64 0), 1, 8) := by kernel_rfl
theorem wpList_appI (w : World) {ops : Array Oper} {rest : List Oper} {o : Oper} {a : Act} {Q : Exit → Act → World → Prop} (hgd : o.guard = none) (s x : Operand)
  (ho : o.op = .call { callee := .builtin .append, args := #[s, x], argTypes := #[68, 68] })
  (base : Nat) (A : Option Addr) (n c : Nat) (xs : List Int) (hs : a.eval s = .slice A n c) (hown : OwnI w base A n c xs)
  (B : Nat) (C : Option Addr) (m d : Nat) (ys : List Int) (hx : a.eval x = .slice C m d) (hr : Ints w B C m ys) (hnil : C = none → m = 0 ∧ d = 0) (hlen : n + m ≤ 4000000) (hbase : base ≤ w.heap.size)
  (h : ∀ A' c' w', OwnI w' base A' (n + m) c' (xs ++ ys) → w.grownBy w' (Value.slice A n c).ownBlock → wpList Tryz.prog ops Q rest (a.put o.dst (.slice A' (n + m) c')) w') :
  wpList Tryz.prog ops Q (o :: rest) a w := by
 obtain ⟨i, hi, hz, h1, h2⟩ := info_parts info_int; cases C with
 | none =>
  obtain ⟨rfl, rfl⟩ := hnil rfl; have hy : ys = [] := List.eq_nil_of_length_eq_zero hr.1; subst hy; refine wpList_append_own_none hgd s x _ ho base 3 i 1 Tryz.underlying68 hi (.slice A n c) n _ hs hown hx ?_; have hh := h A c w (by simpa [OwnI] using hown) (World.grownBy.refl w _); simpa using hh
 | some ad =>
  refine wpList_append_own w hgd s x _ ho base 3 i _ 1 8 Tryz.underlying68 hi hz h1 h2 rfl (by omega) (.slice A n c) n _ hs hown ad m d (ys.map (Value.int .i64)) hx (by simpa using hr.1) ?_ ?_ (by unfold maxLen; omega) (by omega) hbase ?_
  ·intro j u hu; rw [List.getElem?_map] at hu; cases hy : ys[j]? with
   | none => rw [hy] at hu; cases hu
   | some y =>
    rw [hy] at hu; simp at hu; subst hu
    have hm : 0 < m := by
     have := (List.getElem?_eq_some_iff.1 hy).1; have := hr.1; omega
    obtain ⟨ad', e, _, hc⟩ := hr.2 hm; obtain rfl := Option.some.inj e; exact hc j y hy
  ·intro u hu; obtain ⟨y, _, rfl⟩ := List.mem_map.1 hu; rfl
  ·intro v' w' hown' hg _
   have hform : ∃ A' c', v' = .slice A' (n + m) c' := by
    rcases hown'.2 with ⟨rfl, hn⟩ | ⟨g, cap, cur, rfl, _⟩
    ·exact ⟨none, 0, by rw [hn]⟩
    ·exact ⟨_, _, rfl⟩
   obtain ⟨A', c', rfl⟩ := hform; exact h A' c' w' (by simpa [OwnI] using hown') hg
def CopiesI (w : World) (n : Nat) (xs : List Int) (e : Ending) (w' : World) : Prop := ∃ A c, e = .returned (.slice A n c) ∧ OwnI w' w.heap.size A n c xs ∧ Below w.heap.size w w'
set_option maxHeartbeats 1000000 in
theorem cloneI (A : Option Addr) (n c : Nat) (xs : List Int) (w : World) (hS : Ints w w.heap.size A n xs) (hnil : A = none → n = 0 ∧ c = 0) (hn : n ≤ 1000000) :
  Calls Tryz.prog 89 #[.slice A n c] w (CopiesI w n xs) := by
 cases A with
 | none =>
  obtain ⟨rfl, rfl⟩ := hnil rfl; have hx : xs = [] := List.eq_nil_of_length_eq_zero hS.1; subst hx; clear hS hnil; have q : ∀ (w : World) (a : Option Addr) (n c n' c' : Nat), (binOp .eql 68 (.slice a n c) (.slice none n' c')).run Tryz.prog w = .ok (.bool a.isNone) w := fun w a n c n' c' => Lib.run_eql_slice_nil w _ _ a n c n' c' Tryz.underlying68
  go_enter Tryz.func89, Tryz.ntmps89; go_wp2; go_ret; exact ⟨none, 0, rfl, OwnI.nil, Below.refl _ _⟩
 | some ad =>
  have HS := Lib.hid hS; clear hS hnil; have q : ∀ (w : World) (a : Option Addr) (n c n' c' : Nat), (binOp .eql 68 (.slice a n c) (.slice none n' c')).run Tryz.prog w = .ok (.bool a.isNone) w := fun w a n c n' c' => Lib.run_eql_slice_nil w _ _ a n c n' c' Tryz.underlying68
  go_enter Tryz.func89, Tryz.ntmps89
  go_wp2_with (at_builtin; refine wpList_appI _ rfl (.tmp 5) (.tmp 6) rfl w.heap.size (some ⟨w.heap.size, 0, none⟩) 0 0 [] rfl (World.ownsRow_made w #[] 0 (Nat.le_refl _) (Nat.zero_le _) (by simp)) w.heap.size (some ad) n c xs rfl (HS.out.below ((Below.refl _ _).alloc (Nat.le_refl _) _) (Nat.le_refl _)) (fun h => by cases h) (by omega) (by simp) ?_; intro A2 c2 w2 hO2 hg2; have HO2 := Lib.hid hO2; have HG2 := Lib.hid hg2; clear hO2 hg2)
  go_ret; refine ⟨A2, c2, rfl, by have := HO2.out; rwa [Nat.zero_add, List.nil_append] at this, ((Below.refl _ _).alloc (Nat.le_refl _) _).grown HG2.out (by simp) (fun j hj => ?_)⟩; simp [Value.ownBlock] at hj; omega
structure SortsI (xs ys : List Int) : Prop where
 perm : ys.Perm xs
 rise : ys.Pairwise (· ≤ ·)
def SortsToI (base : Nat) (w : World) (A : Option Addr) (n : Nat) (xs : List Int) (e : Ending) (w' : World) : Prop := e = .returned (.tuple #[]) ∧ ∃ ys, SortsI xs ys ∧ Ints w' w'.heap.size A n ys ∧ Below base w w'
theorem sorts_ints (xs : List Int) : SortsI xs (xs.mergeSort fun x y => decide (x ≤ y)) := by
 refine ⟨List.mergeSort_perm _ _, ?_⟩; have := List.pairwise_mergeSort (le := fun x y : Int => decide (x ≤ y)) (fun a b c h1 h2 => by simp at *; omega) (fun a b => by simp; omega) xs; exact this.imp (by simp)
theorem sortedI_below {w : World} {base g n : Nat} {d : Array Int} {os : Array Obj} (hb : base ≤ g) (hB : base ≤ w.heap.size) : Below base w (Go.Sort.grow (Go.Sort.putRow (Value.int .i64) (Go.Sort.ahead w n) g 0 d) os) := by
 refine ⟨rfl, rfl, rfl, ?_, fun i hi => ?_⟩
 ·rw [Go.Sort.size_grow, Go.Sort.size_putRow]; exact Nat.le_add_right _ _
 ·unfold Go.Sort.grow Go.Sort.putRow Go.Sort.mapBlock Go.Sort.ahead; simp only; rw [Array.getElem?_append_left (by simp; omega), Array.getElem?_modify, if_neg (by omega)]
theorem holds_ints {w : World} {g : Nat} {d : Array Int} (h : Go.Sort.Holds (Value.int .i64) w g 0 d) (hg : g < w.heap.size) : Ints w w.heap.size (some ⟨g, 0, none⟩) d.size d.toList := by
 refine ⟨by simp, fun _ => ⟨_, rfl, hg, fun j x hx => ?_⟩⟩; obtain ⟨hl, e⟩ := List.getElem?_eq_some_iff.1 hx; have hj : j < d.size := by simpa using hl
 have hd : d[j]! = x := by rw [getElem!_pos d j hj]; simpa using e
 have ea : ∀ i, (⟨g, 0, none⟩ : Addr).add i = ⟨g, i, none⟩ := fun i => by unfold Addr.add; split <;> simp_all
 have c0 := (h j hj).1; rw [hd, Nat.zero_add] at c0; rw [ea]; exact c0
theorem sortInts (base : Nat) (A : Option Addr) (n c : Nat) (xs : List Int) (w : World) (hO : OwnI w base A n c xs) (hb : base ≤ w.heap.size) (hn : n ≤ 1000000) :
  Calls Tryz.prog 95 #[.slice A n c] w (SortsToI base w A n xs) := by
 have hl := hO.len; rcases Nat.eq_zero_or_pos n with h0 | h0
 ·subst h0; have hx : xs = [] := List.eq_nil_of_length_eq_zero hl; subst hx; refine (AnyM.slices_Sort_int_none Laid.ints A c w).mono ?_; rintro e w' ⟨rfl, rfl⟩; exact ⟨rfl, [], ⟨List.Perm.refl _, List.Pairwise.nil⟩, Ints.nil, Below.refl _ _⟩
 ·obtain ⟨g, rfl, hbg, hg, hH⟩ := hO.holds h0; have hh := AnyM.slices_Sort_int Laid.ints g 0 c xs w hH hg (by omega); rw [hl] at hh; refine Calls.mono (P := Tryz.prog) hh ?_; rintro e w' ⟨rfl, m, os, rfl⟩; have hS := sorts_ints xs; have hsz : (xs.mergeSort fun x y => decide (x ≤ y)).length = n := by rw [hS.perm.length_eq]; exact hl
  refine ⟨rfl, _, hS, ?_, sortedI_below hbg hb⟩; have hlt : g < (Go.Sort.putRow (Value.int .i64) (Go.Sort.ahead w m) g 0 (xs.mergeSort fun x y => decide (x ≤ y)).toArray).heap.size := by rw [Go.Sort.size_putRow]; exact hg
  have hH' := Go.Sort.holds_grow (Value.int .i64) _ os g 0 _ hlt (Go.Sort.holds_putRow (Value.int .i64) (Go.Sort.ahead w m) g 0 xs.toArray (xs.mergeSort fun x y => decide (x ≤ y)).toArray hH (by simp)); have := holds_ints hH' (by rw [Go.Sort.size_grow]; omega); simpa [hsz] using this
end Spn
end Go.Proofs.YtplenoaajokpjaaGreat
namespace Go.Proofs.YtplenoaajokpjaaGreat
open Go.RowKit Sp
namespace Spn
set_option linter.unusedVariables false
def PartsTo (w : World) (s : Sp) (ds : List Int) (e : Ending) (w' : World) : Prop := ∃ zs, Parted s ds zs ∧ Gives w zs e w'
structure PI (w2 w' : World) (A : Option Addr) (n c : Nat) (st : List Sp × Int) (f : Int) : Prop where
 own : Own w' w2.heap.size A n c st.1
 hf : f = st.2
 below : Below w2.heap.size w2 w'
theorem takeI_more {xs : List Int} {k : Nat} {x : Int} (h : xs[k]? = some x) : xs.take (k + 1) = xs.take k ++ [x] := by
 obtain ⟨hl, e⟩ := List.getElem?_eq_some_iff.1 h; rw [List.take_succ_eq_append_getElem hl, e]
theorem ps_yes {s : Sp} {st : List Sp × Int} {d : Int} (h : inn s d = true) : ps s st d = (st.1 ++ [(st.2, d)], d) := by rw [ps, if_pos h]
theorem ps_not {s : Sp} {st : List Sp × Int} {d : Int} (h : inn s d = false) : ps s st d = st := by rw [ps, if_neg (by simp [h])]
set_option maxRecDepth 100000 in
set_option maxHeartbeats 2000000 in
theorem parts (s : Sp) (A : Option Addr) (n c : Nat) (xs : List Int) (w : World) (hS : Ints w w.heap.size A n xs) (hnil : A = none → n = 0 ∧ c = 0) (hn : n ≤ 100) :
  Calls Tryz.prog 69 #[ag s, .slice A n c] w (PartsTo w s xs) := by
 obtain ⟨a1, a2⟩ := s; have C := fun d w => Lib.hid (inn_ (a1, a2) d w)
 have D := Lib.hid (cloneI A n c xs (w.alloc (.cells #[.int .i64 a1, .int .i64 a2] 27)) ((hS.below ((Below.refl _ _).alloc (Nat.le_refl _) _) (Nat.le_refl _)).wide (by simp)) hnil (by omega)); clear hS hnil; go_enter Tryz.func69, Tryz.ntmps69
 go_wp2_with fail
 refine D.out.mono ?_; rintro e w1 ⟨A1, c1, rfl, hO1, hb1⟩; obtain ⟨X1, hB1⟩ := bx1 hb1; have HO1 := Lib.hid hO1; have HX1 := Lib.hid X1; have HB1 := Lib.hid hB1; have hbs : (w.alloc (.cells #[.int .i64 a1, .int .i64 a2] 27)).heap.size ≤ w1.heap.size := hb1.size; clear hO1 X1 hB1 hb1 D
 go_wp2_with fail
 refine (sortInts _ A1 n c1 xs w1 HO1.out hbs (by omega)).mono ?_; rintro e w2 ⟨rfl, ys, hsort, hS2, hb2⟩; have HS2 := Lib.hid hS2; have HSo := Lib.hid hsort; have HX2 := Lib.hid (HX1.out.below hb2 (by simp)); have HB2 := Lib.hid (HB1.out.trans (hb2.mono (by simp))); clear hS2 hsort hb2 HX1 HB1 HO1 hbs; have x0 := HX2.out.c0; have x1 := HX2.out.c1; have xl := HX2.out.lt; have hyl : ys.length = n := HS2.out.1; have HY := Lib.hid hyl; clear hyl; go_wp2
 go_loopw [6, 7, 18] (fun sp sf i w' => ∃ (k : Nat) (A2 : Option Addr) (n2 c2 : Nat) (f : Int), k ≤ n ∧ n2 ≤ k ∧ sp = .slice A2 n2 c2 ∧ sf = .int .i64 f ∧ i = .int .i64 (k : Int) ∧ Hid (PI w2 w' A2 n2 c2 (pf (a1, a2) (ys.take k)) f)) (fun _ _ i _ => n - (intOf i).toNat)
 case atStart => exact ⟨0, none, 0, 0, a1, Nat.zero_le _, Nat.zero_le _, rfl, rfl, rfl, Lib.hid ⟨Own.nil, rfl, Below.refl _ _⟩⟩
 case round =>
  obtain ⟨k, A2, n2, c2, f, hk, hn2, rfl, rfl, rfl, HR⟩ := hrel; clear x0 x1; have XR := HX2.out.below HR.out.below xl; have x0 := XR.c0; have x1 := XR.c1; have xlr := XR.lt; have HXR := Lib.hid XR; clear XR; by_cases hlt : k < n
  ·obtain ⟨ad, d, rfl, hb, hx, hc⟩ := (HS2.out.below HR.out.below (Nat.le_refl _)).get hlt; have HTK := Lib.hid (takeI_more hx); clear hx; cases hi : inn (a1, a2) d
   ·have Cd := fun w => C d w
    rw [hi] at Cd; have HI := Lib.hid hi; clear hi C
    go_wp2_with fail
    refine (Cd _).out.mono ?_; rintro e w3 ⟨rfl, hb3⟩; have HB3 := Lib.hid hb3; clear hb3 Cd; go_wp2; go_roundw
    case rel => exact ⟨k + 1, _, _, _, f, by omega, by omega, rfl, rfl, by go_num, Lib.hid (by rw [HTK.out, pf_snoc, ps_not HI.out]; exact ⟨HR.out.own.below HB3.out, HR.out.hf, HR.out.below.trans (HB3.out.mono HR.out.below.size)⟩)⟩
    case measure => simp [intOf]; omega
   ·have Cd := fun w => C d w
    rw [hi] at Cd; have HI := Lib.hid hi; clear hi C
    go_wp2_with fail
    refine (Cd _).out.mono ?_; rintro e w3 ⟨rfl, hb3⟩; have HB3 := Lib.hid hb3; have HO3 := Lib.hid (HR.out.own.below hb3); have HW3 := Lib.hid (HR.out.below.trans (hb3.mono HR.out.below.size)); clear hb3 Cd
    go_wp2_with (at_builtin; refine wpList_app _ rfl (.tmp 25) (.tmp 29) rfl w2.heap.size A2 n2 c2 (pf (a1, a2) (ys.take k)).1 rfl (HO3.out.alloc _) (w3.heap.size + 1) (some ⟨w3.heap.size, 0, none⟩) 1 1 [(f, d)] rfl (by have := spans_new1 w3 f d; rwa [World.size_alloc] at this) (fun h => by cases h) (by omega) (by have := HW3.out.size; simp; omega) ?_; intro A4 c4 w4 hO4 hg4; have HO4 := Lib.hid hO4; have HG4 := Lib.hid hg4; clear hO4 hg4)
    go_roundw
    case rel => exact ⟨k + 1, _, _, _, d, by omega, by omega, rfl, rfl, by go_num, Lib.hid (by rw [HTK.out, pf_snoc, ps_yes HI.out, ← HR.out.hf]; exact ⟨HO4.out, rfl, (HW3.out.alloc HW3.out.size _).grown HG4.out (by have := HW3.out.size; simp; omega) (fun j hj => (HO3.out.lt j hj).1)⟩)⟩
    case measure => simp [intOf]; omega
  ·obtain rfl : n = k := by omega
   have he : ys.take n = ys := List.take_of_length_le (by rw [HY.out]; exact Nat.le_refl _); rw [he] at HR; have HPF := Lib.hid (pf_parted (s := (a1, a2)) HSo.out.rise (fun d => HSo.out.perm.mem_iff)); obtain ⟨st, hst⟩ : ∃ st, pf (a1, a2) ys = st := ⟨_, rfl⟩; rw [hst] at HR HPF; have hf := HR.out.hf; rw [← hf] at HPF; clear he hst hf
   go_wp2_with (first
    | (at_builtin; refine wpList_app _ rfl (.tmp 33) (.tmp 38) rfl w2.heap.size A2 n2 c2 st.1 rfl (HR.out.own.alloc _) (wr.heap.size + 1) (some ⟨wr.heap.size, 0, none⟩) 1 1 [(f, a2)] rfl (by have := spans_new1 wr f a2; rwa [World.size_alloc] at this) (fun h => by cases h) (by omega) (by have := HR.out.below.size; simp; omega) ?_; intro A4 c4 w4 hO4 hg4; have HO4 := Lib.hid hO4; have HG4 := Lib.hid hg4; clear hO4 hg4)
    | fail)
   have HW4 := Lib.hid ((HR.out.below.alloc HR.out.below.size (.cells #[.int .i64 f, .int .i64 a2] 27)).grown HG4.out (by have := HR.out.below.size; simp; omega) (fun j hj => (HR.out.own.lt j hj).1)); refine (keep A4 (n2 + 1) c4 (st.1 ++ [(f, a2)]) w4 HO4.out.spans.1 (by omega)).mono ?_; rintro e w5 ⟨A5, k5, c5, rfl, hS5, hc5, hb5, hl5⟩; have HL5 := Lib.hid (show ∀ ad : Addr, A5 = some ad → w.heap.size ≤ ad.block from fun ad e => Nat.le_trans (Nat.le_trans HB2.out.size HW4.out.size) (hl5 ad e)); clear hl5; have HS5 := Lib.hid hS5; have HB5 := Lib.hid (HW4.out.trans (hb5.mono HW4.out.size)); clear hS5 hb5; go_wp2; go_ret; exact ⟨_, HPF.out, A5, k5, c5, rfl, HS5.out, hc5, HB2.out.trans (HB5.out.mono HB2.out.size), HL5.out⟩
end Spn
end Go.Proofs.YtplenoaajokpjaaGreat
