/-
  The parts Places, Order of this proof. Conditions: those of each theorem.
-/
import Derived.Test.YtplenoaajokpjaaGreatMRi
import Derived.Test.YtplenoaajokpjaaGreatKStable
import Derived.Test.YtplenoaajokpjaaGreatMCh
namespace Go.Proofs.YtplenoaajokpjaaGreat
open Go.RowKit Ba Cv Sp Te Ag
namespace Tm
set_option linter.unusedVariables false
structure HX (w W : World) (h : Hr) : Prop where
 b : Below w.heap.size w W
 x : Bx W w.heap.size 35 (hc h)
theorem HX.next {w W W' : World} {h : Hr} (H : HX w W h) (hb : Below W.heap.size W W') : HX w W' h := ⟨H.b.trans (hb.mono H.b.size), H.x.keep hb⟩
theorem HX.start (w : World) (h : Hr) : HX w (w.alloc (.cells (hc h) 35)) h := ⟨alloc_ _ _, Bx.new _ _ _⟩
structure HC (w W : World) (h : Hr) (r : Rw) : Prop where
 h : HX w W h
 y : Bx W (w.heap.size + 1) 52 (vc r)
theorem HC.next {w W W' : World} {h : Hr} {r : Rw} (H : HC w W h r) (hb : Below W.heap.size W W') : HC w W' h r := ⟨H.h.next hb, H.y.keep hb⟩
theorem HC.start (w : World) (h : Hr) (r : Rw) : HC w ((w.alloc (.cells (hc h) 35)).alloc (.cells (vc r) 52)) h r := by
 refine ⟨(HX.start w h).next (alloc_ _ _), ?_⟩; have := Bx.new (w.alloc (.cells (hc h) 35)) 52 (vc r); rw [World.size_alloc] at this; exact this
theorem map_get {rs : List Rw} {k : Nat} {r : Rw} (h : rs[k]? = some r) : (rs.map Rw.v)[k]? = some r.v := by rw [List.getElem?_map, h]; rfl
theorem last_zero {b : Int} {hs : List Ch} (h : hs.length = 0) : last b hs = b := by rw [List.eq_nil_of_length_eq_zero h]; rfl
end Tm
end Go.Proofs.YtplenoaajokpjaaGreat
namespace Go.Proofs.YtplenoaajokpjaaGreat
open Go.RowKit Ba Cv Sp Te Ag
namespace Tm
set_option linter.unusedVariables false
theorem info_int : (Tryz.prog.info? 3).map (fun i => (i.zero, i.size, i.bytes)) = some (some (.int .i64 0), 1, 8) := by kernel_rfl
def Ins (w : World) (ok : Nat → Prop) (L : Option Addr) (m : Nat) (xs : List Int) : Prop :=
 xs.length = m ∧ (0 < m → ∃ ad : Addr, L = some ad ∧ ok ad.block ∧ ∀ (j : Nat) (x : Int), xs[j]? = some x → w.cell? (ad.add j) = some (.int .i64 x))
section
variable {w w' : World} {ok ok' : Nat → Prop} {m : Nat} {L : Option Addr} {xs : List Int}
theorem Ins.nil {L : Option Addr} : Ins w ok L 0 [] := ⟨rfl, fun h => absurd h (by omega)⟩
theorem Ins.get {k : Nat} (h : Ins w ok L m xs) (hk : k < m) : ∃ (ad : Addr) (x : Int), L = some ad ∧ ok ad.block ∧ xs[k]? = some x ∧ w.cell? (ad.add k) = some (.int .i64 x) := by
 obtain ⟨ad, e, hb, hc⟩ := h.2 (by omega); have hl : k < xs.length := by have := h.1; omega
 exact ⟨ad, xs[k], e, hb, List.getElem?_eq_getElem hl, hc k _ (List.getElem?_eq_getElem hl)⟩
theorem Ins.keep (h : Ins w ok L m xs) (hk : ∀ p : Addr, ok p.block → w'.cell? p = w.cell? p) (hw : ∀ b, ok b → ok' b) : Ins w' ok' L m xs :=
 ⟨h.1, fun hn => by
  obtain ⟨ad, e, hb, hc⟩ := h.2 hn; exact ⟨ad, e, hw _ hb, fun j x hx => (hk _ (by rw [add_block]; exact hb)).trans (hc j x hx)⟩⟩
theorem Ins.below (h : Ins w (· < w.heap.size) L m xs) (hb : Below w.heap.size w w') : Ins w' (· < w'.heap.size) L m xs := h.keep (fun _ hp => hb.cell hp) fun b h => Nat.lt_of_lt_of_le h hb.size
theorem Ins.noroom (h : Ins w ok none m xs) : m = 0 := by
 rcases Nat.eq_zero_or_pos m with h0 | h0
 ·exact h0
 ·obtain ⟨ad, e, _⟩ := h.2 h0; cases e
theorem Ins.cells {ad : Addr} (h : Ins w ok (some ad) m xs) (j : Nat) (u : Value) (hu : (xs.map (Value.int .i64))[j]? = some u) : w.cell? (ad.add j) = some u := by
 rw [List.getElem?_map] at hu; cases e : xs[j]? with
 | none => rw [e] at hu; cases hu
 | some x =>
  rw [e] at hu; obtain ⟨ad', e', _, hc⟩ := h.2 (by have := h.1; have := (List.getElem?_eq_some_iff.1 e).1; omega); injection e' with e'
  subst e'; rw [hc j x e]; exact hu
end
def celi (xs : List Int) : List Value := xs.map (Value.int .i64)
theorem celi_length (xs : List Int) : (celi xs).length = xs.length * 1 := by simp [celi]
theorem celi_append (xs ys : List Int) : celi (xs ++ ys) = celi xs ++ celi ys := List.map_append
theorem celi_cell (xs : List Int) : ∀ u ∈ celi xs, u.oneCell' = true := by
 intro u hu; obtain ⟨x, _, rfl⟩ := List.mem_map.1 hu; rfl
theorem i_own_ {w : World} {base n : Nat} {v : Value} {xs : List Int} (h : w.ownsRow base 3 1 v n (celi xs)) : ∃ A c, v = .slice A n c ∧ Ins w (fun b => base ≤ b ∧ b < w.heap.size) A n xs := by
 have hl : xs.length = n := by have := h.1; rw [celi_length] at this; omega
 rcases h.2 with ⟨rfl, hn⟩ | ⟨g, cap, cur, rfl, hb, hh, hnc, hm, hs, ht⟩
 ·subst hn; exact ⟨_, _, rfl, hl, fun h => absurd h (by omega)⟩
 ·refine ⟨_, _, rfl, hl, fun _ => ⟨_, rfl, ⟨hb, ?_⟩, fun j x hx => ?_⟩⟩
  ·rcases Nat.lt_or_ge g w.heap.size with hlt | hge
   ·exact hlt
   ·rw [Array.getElem?_eq_none hge] at hh; cases hh
  ·exact World.ownsRow.cells (g := g) h rfl j _ (by unfold celi; rw [List.getElem?_map, hx]; rfl)
def IOwn (w : World) (base : Nat) (A : Option Addr) (n c : Nat) (xs : List Int) : Prop := w.ownsRow base 3 1 (.slice A n c) n (celi xs)
section
variable {w w' : World} {base n c : Nat} {A : Option Addr} {xs : List Int}
theorem IOwn.nil : IOwn w base none 0 0 [] := World.ownsRow_nil w base _ 1
theorem IOwn.len (h : IOwn w base A n c xs) : xs.length = n := by have := h.1; rw [celi_length] at this; omega
theorem IOwn.lt (h : IOwn w base A n c xs) : ∀ k, (Value.slice A n c).ownBlock = some k → base ≤ k ∧ k < w.heap.size := World.ownsRow.lt h
theorem IOwn.below (h : IOwn w base A n c xs) (hb : Below w.heap.size w w') : IOwn w' base A n c xs := by
 refine World.ownsRow.kept h (grown_of_below hb) ?_; cases A with
 | none => exact .inl rfl
 | some a => exact .inr (by simp [Value.ownBlock])
theorem IOwn.row (h : IOwn w base A n c xs) : Ins w (fun b => base ≤ b ∧ b < w.heap.size) A n xs := by
 obtain ⟨A', c', e, hl⟩ := i_own_ h; injection e with e1 e2 e3
 subst e1; exact hl
theorem IOwn.drew (h : IOwn w base A n c xs) : IOwn w.drew base A n c xs := h
theorem IOwn.made (w : World) : IOwn (w.alloc (.cells #[] 3)) w.heap.size (some ⟨w.heap.size, 0, none⟩) 0 0 [] := World.ownsRow_made w #[] 0 (Nat.le_refl _) (Nat.zero_le _) (by simp)
end
theorem own_of_row_i {w : World} {base k : Nat} {v : Value} {xs : List Int} (h : w.ownsRow base 3 1 v k (celi xs)) : ∃ A c, v = .slice A k c ∧ IOwn w base A k c xs := by
 rcases h.2 with ⟨rfl, hn⟩ | ⟨g, cap, cur, rfl, hr⟩
 ·subst hn; exact ⟨_, _, rfl, h⟩
 ·exact ⟨_, _, rfl, h⟩
theorem run_app_i (w : World) (ty : TypeId) (base : Nat) (A : Option Addr) (n c : Nat) (xs : List Int) (hown : IOwn w base A n c xs)
  (ok : Nat → Prop) (C : Option Addr) (m d : Nat) (ys : List Int) (hr : Ins w ok C m ys) (hnil : C = none → m = 0 ∧ d = 0) (hlen : n + m ≤ 4000000) (hbase : base ≤ w.heap.size) :
  ∃ A' c' w', (Builtin.append_ #[68, 68] ty #[.slice A n c, .slice C m d]).run Tryz.prog w = .ok (.slice A' (n + m) c') w' ∧ IOwn w' base A' (n + m) c' (xs ++ ys) ∧ w.grownBy w' (Value.slice A n c).ownBlock := by
 obtain ⟨i, hi, hz, h1, h2⟩ := info_parts info_int; cases C with
 | none =>
  obtain ⟨rfl, rfl⟩ := hnil rfl; have hy : ys = [] := List.eq_nil_of_length_eq_zero hr.1; subst hy; exact ⟨A, c, w, run_append_owned_none (P := Tryz.prog) (w := w) base _ ty 3 i 1 Tryz.underlying68 hi _ n _ hown, by rw [List.append_nil]; exact hown, World.grownBy.refl w _⟩
 | some ad =>
  obtain ⟨v', w', hrun, hO, hg, _⟩ := run_append_own (P := Tryz.prog) w base 68 ty 3 i _ 1 8 Tryz.underlying68 hi hz h1 h2 rfl (by omega) (.slice A n c) n _ hown ad m d (celi ys) (by rw [celi_length, hr.1]) ((fun j u hu => Ins.cells hr j u (by unfold celi at hu; exact hu))) (celi_cell ys) (by unfold maxLen; omega) (by omega) hbase; rw [← celi_append] at hO; obtain ⟨A', c', rfl, hO'⟩ := own_of_row_i hO; exact ⟨A', c', w', hrun, hO', hg⟩
theorem wpList_app_i (w : World) {ops : Array Oper} {rest : List Oper} {o : Oper} {a : Act} {Q : Exit → Act → World → Prop} (hgd : o.guard = none) (s x : Operand)
  (ho : o.op = .call { callee := .builtin .append, args := #[s, x], argTypes := #[68, 68] })
  (base : Nat) (A : Option Addr) (n c : Nat) (xs : List Int) (hs : a.eval s = .slice A n c) (hown : IOwn w base A n c xs)
  (ok : Nat → Prop) (C : Option Addr) (m d : Nat) (ys : List Int) (hx : a.eval x = .slice C m d) (hr : Ins w ok C m ys) (hnil : C = none → m = 0 ∧ d = 0) (N : Nat) (hN : n + m = N) (hlen : n + m ≤ 4000000) (hbase : base ≤ w.heap.size)
  (h : ∀ A' c' w', IOwn w' base A' N c' (xs ++ ys) → w.grownBy w' (Value.slice A n c).ownBlock → wpList Tryz.prog ops Q rest (a.put o.dst (.slice A' N c')) w') :
  wpList Tryz.prog ops Q (o :: rest) a w := by
 subst hN; refine wpList_plain hgd fun K hK => ?_
 obtain ⟨A', c', w', hrun, hO, hg⟩ := run_app_i w o.type base A n c xs hown ok C m d ys hr hnil hlen hbase; unfold Oper.wp; simp [execOp, ho, resolve, invoke, builtin, hs, hx, hrun, Result.andThen]; exact hK _ _ (h A' c' w' hO hg)
theorem step_app_i (w : World) {ops : Array Oper} {o : Oper} {a : Act} {K : Act → World → Prop} {Q : Exit → Act → World → Prop} {E : Prop} (hgd : o.guard = none) (s x : Operand)
  (ho : o.op = .call { callee := .builtin .append, args := #[s, x], argTypes := #[68, 68] })
  (base : Nat) (A : Option Addr) (n c : Nat) (xs : List Int) (hs : a.eval s = .slice A n c) (hown : IOwn w base A n c xs)
  (ok : Nat → Prop) (C : Option Addr) (m d : Nat) (ys : List Int) (hx : a.eval x = .slice C m d) (hr : Ins w ok C m ys) (hnil : C = none → m = 0 ∧ d = 0) (N : Nat) (hN : n + m = N) (hlen : n + m ≤ 4000000) (hbase : base ≤ w.heap.size)
  (h : ∀ A' c' w', IOwn w' base A' N c' (xs ++ ys) → w.grownBy w' (Value.slice A n c).ownBlock → K (a.put o.dst (.slice A' N c')) w') :
  if Region.wanted o (yielded ops a.tmps) = true then Oper.wp Tryz.prog o a w K Q else E := by
 subst hN; have hw : Region.wanted o (yielded ops a.tmps) = true := by simp [Region.wanted, hgd]
 rw [if_pos hw]; obtain ⟨A', c', w', hrun, hO, hg⟩ := run_app_i w o.type base A n c xs hown ok C m d ys hr hnil hlen hbase; unfold Oper.wp execOp; simp only [ho, resolve, invoke, builtin, Sem.run_bind, Sem.run_pure, Result.andThen_ok, List.map_toArray, List.map_cons, List.map_nil, hs, hx, hrun]; exact h A' c' w' hO hg
theorem IOwn.form {w : World} {base n c : Nat} {A : Option Addr} {xs : List Int} (h : IOwn w base A n c xs) (hn : 0 < n) : ∃ g, A = some ⟨g, 0, none⟩ ∧ base ≤ g ∧ g < w.heap.size := by
 rcases h.2 with ⟨e, h0⟩ | ⟨g, cap, cur, e, hb, hh, _⟩
 ·omega
 ·injection e with e1 e2 e3
  refine ⟨g, e1, hb, ?_⟩; rcases Nat.lt_or_ge g w.heap.size with hlt | hge
  ·exact hlt
  ·rw [Array.getElem?_eq_none hge] at hh; cases hh
theorem IOwn.frozen {w : World} {base n c g : Nat} {xs : List Int} (h : IOwn w base (some ⟨g, 0, none⟩) n c xs) (o : Nat) : w.frozen? ⟨g, o, none⟩ = false := by
 rcases h.2 with ⟨e, _⟩ | ⟨g', cap, cur, e, _, hh, _⟩
 ·cases e
 ·injection e with e; injection e with e; injection e with e
  subst e; simp [World.frozen?, hh]
theorem IOwn.fits {w : World} {base n c : Nat} {A : Option Addr} {xs : List Int} (h : IOwn w base A n c xs) : n ≤ c ∧ (A = none → n = 0 ∧ c = 0) := by
 rcases h.2 with ⟨e, hn⟩ | ⟨g, cap, cur, e, _, _, hnc, _⟩
 ·injection e with e1 e2 e3; exact ⟨by omega, fun _ => ⟨hn, e3⟩⟩
 ·injection e with e1 e2 e3; subst e3; exact ⟨hnc, fun h0 => by rw [e1] at h0; cases h0⟩
theorem ins_one {w : World} {b : Nat} {x : Int} (hx : Bx w b 3 #[.int .i64 x]) : Ins w (· = b) (some ⟨b, 0, none⟩) 1 [x] := by
 refine ⟨rfl, fun _ => ⟨_, rfl, rfl, fun j y hy => ?_⟩⟩
 match j, hy with
 | 0, hy => simp at hy; subst hy; rw [Addr.add_lit]; exact hx.c 0
theorem IOwn.one (w : World) (x : Int) : IOwn (w.alloc (.cells #[.int .i64 x] 3)) w.heap.size (some ⟨w.heap.size, 0, none⟩) 1 1 [x] :=
 ⟨rfl, .inr ⟨w.heap.size, 1, _, rfl, Nat.le_refl _, heap_alloc_new w _, Nat.le_refl _, by unfold maxLen; omega, rfl, rfl⟩⟩
theorem IOwn.low {w : World} {base base' n c : Nat} {A : Option Addr} {xs : List Int} (h : IOwn w base A n c xs) (hb : base' ≤ base) : IOwn w base' A n c xs := by
 refine ⟨h.1, ?_⟩; rcases h.2 with h | ⟨g, cap, cur, e, hb2, r⟩
 ·exact .inl h
 ·exact .inr ⟨g, cap, cur, e, Nat.le_trans hb hb2, r⟩
theorem IOwn.grown {w w1 w2 : World} {lo n c : Nat} {A : Option Addr} {xs : List Int} (h : IOwn w1 lo A n c xs) (hb : Below lo w w1) (hB : lo ≤ w1.heap.size) (hg : w1.grownBy w2 (Value.slice A n c).ownBlock) : Below lo w w2 :=
 hb.grown hg hB fun j hj => (h.lt j hj).1
end Tm
end Go.Proofs.YtplenoaajokpjaaGreat

namespace Go.Proofs.YtplenoaajokpjaaGreat
open Go.RowKit Ba Cv Sp Te Ag
namespace Tm
set_option linter.unusedVariables false
theorem isNaN (x : Int) (w : World) : Calls Tryz.prog 120 #[.int .i64 x] w fun e w' => e = .returned (.bool false) ∧ w = w' := by
 go_enter Tryz.func120, Tryz.ntmps120; go_wp2; go_ret; exact ⟨rfl, rfl⟩
set_option maxHeartbeats 1000000 in
theorem compare (x y : Int) (w : World) : Calls Tryz.prog 94 #[.int .i64 x, .int .i64 y] w fun e w' => e = .returned (.int .i64 (St.cf x y)) ∧ w = w' := by
 have C := fun a w => Lib.hid (isNaN a w)
 by_cases h1 : x < y
 ·have e : St.cf x y = -1 := by simp [St.cf, h1]
  have t1 : decide (x < y) = true := by simpa using h1
  rw [e]; clear e h1; go_enter Tryz.func94, Tryz.ntmps94
  go_wp2_with (go_at_call 120; refine (C _ _).out.mono ?_; rintro e w' ⟨rfl, rfl⟩)
  go_ret; exact ⟨rfl, rfl⟩
 ·have t1 : decide (x < y) = false := by simpa using h1
  by_cases h2 : y < x
  ·have e : St.cf x y = 1 := by simp [St.cf, h1, h2]
   have t2 : decide (y < x) = true := by simpa using h2
   rw [e]; clear e h1 h2; go_enter Tryz.func94, Tryz.ntmps94
   go_wp2_with (go_at_call 120; refine (C _ _).out.mono ?_; rintro e w' ⟨rfl, rfl⟩)
   go_ret; exact ⟨rfl, rfl⟩
  ·have e : St.cf x y = 0 := by simp [St.cf, h1, h2]
   have t2 : decide (y < x) = false := by simpa using h2
   rw [e]; clear e h1 h2; go_enter Tryz.func94, Tryz.ntmps94
   go_wp2_with (go_at_call 120; refine (C _ _).out.mono ?_; rintro e w' ⟨rfl, rfl⟩)
   go_ret; exact ⟨rfl, rfl⟩
theorem key_at {h : Hr} {k : Nat} {r : Rw} (hv : h.v.hs[k]? = some r.v) {x : Int} (hx : x.toNat = k) : key h.v.hs x = r.v.dy := by
 unfold key; rw [hx, hv]
set_option maxRecDepth 100000 in
set_option maxHeartbeats 2000000 in
theorem closure (h : Hr) (p : Nat) (x y : Int) (W : World) (M : HM W (· < W.heap.size) h) (hp : Bx W p 35 (hc h)) (hm : h.m ≤ 3000) (hx : 0 ≤ x ∧ x < h.m) (hy : 0 ≤ y ∧ y < h.m) :
  Calls Tryz.prog 93 #[.int .i64 x, .int .i64 y, .pointer (some ⟨p, 0, none⟩)] W fun e w' => e = .returned (.int .i64 (St.cf (key h.v.hs x) (key h.v.hs y))) ∧ Below W.heap.size W w' := by
 obtain ⟨k1, e1⟩ : ∃ k1, x.toNat = k1 := ⟨_, rfl⟩; obtain ⟨k2, e2⟩ : ∃ k2, y.toNat = k2 := ⟨_, rfl⟩; obtain ⟨ad, r1, hB, hb, _, n1, _, v1⟩ := M.get (k := k1) (by omega); obtain ⟨ad', r2, hB', _, _, n2, _, v2⟩ := M.get (k := k2) (by omega); rw [hB] at hB'; injection hB' with hB'
 subst hB'; rw [key_at v1 e1, key_at v2 e2]; have CC := fun w => Lib.hid (compare r1.v.dy r2.v.dy w)
 have c9 : ∀ q : Ext W, q.W.cell? ⟨p, 9, none⟩ = some (.slice (some ad) h.m h.d) := fun q => by have := hp.ext q 9; rw [this]; simp [hB]
 have d1 : ∀ q : Ext W, q.W.cell? ⟨(ad.add (k1 * 9)).block, (ad.add (k1 * 9)).off + 1, none⟩ = some (.int .i64 r1.v.dy) := fun q => (n1.keep fun a ha => q.b.cell (by rw [ha, add_block]; exact hb)).c1
 have d2 : ∀ q : Ext W, q.W.cell? ⟨(ad.add (k2 * 9)).block, (ad.add (k2 * 9)).off + 1, none⟩ = some (.int .i64 r2.v.dy) := fun q => (n2.keep fun a ha => q.b.cell (by rw [ha, add_block]; exact hb)).c1
 have x1 := hx.1; have x2 := hx.2; have x3 : IntKind.i64.wrap x = x := (IntWalk.i64_left _).trans (IntWalk.wrap64_in _ ⟨by omega, by omega⟩); have y1 := hy.1; have y2 := hy.2; have y3 : IntKind.i64.wrap y = y := (IntWalk.i64_left _).trans (IntWalk.wrap64_in _ ⟨by omega, by omega⟩); have CE : ∀ q : Ext W, Hid (Calls Tryz.prog 94 #[.int .i64 r1.v.dy, .int .i64 r2.v.dy] q.W fun e w' => e = .returned (.int .i64 (St.cf r1.v.dy r2.v.dy)) ∧ Below q.W.heap.size q.W w') := fun q => Lib.hid ((CC q.W).out.mono fun e w' ⟨he, hw⟩ => ⟨he, hw ▸ Below.refl _ _⟩)
 generalize St.cf r1.v.dy r2.v.dy = cv at CE ⊢; clear M hp hB hb n1 n2 v1 v2 hx hy CC hm; have ne : Nonempty (Ext W) := ⟨⟨W, Below.refl _ _⟩⟩; go_enter Tryz.func93, Tryz.ntmps93
 go_wp2_with fail
 refine quietE (by kernel_rfl) (by kernel_rfl) ?_
 repeat (first | go_big_quiet_skip | quiet_step (first
  | (go_at_call 94; with_reducible exact ext_of (CE _).out)
  | fail))
 refine wpQuiet_nil ?_; rintro _ ⟨q, rfl⟩; have HB := Lib.hid q.b; generalize q.W = W1 at HB ⊢; clear ne c9 d1 d2 CE; go_wp2; go_ret; exact ⟨rfl, HB.out⟩
set_option maxHeartbeats 1000000 in
theorem insertion_nil (V : Value) (w : World) : Calls Tryz.prog 132 #[.slice none 0 0, .int .i64 0, .int .i64 0, V] w fun e w' => e = .returned (.tuple #[]) ∧ w = w' := by
 go_enter Tryz.func132, Tryz.ntmps132; go_wp2
 go_loopw [8] (fun vi w' => vi = .int .i64 1 ∧ w = w') (fun _ _ => 0)
 case atStart => exact ⟨rfl, rfl⟩
 case round =>
  obtain ⟨rfl, rfl⟩ := hrel; go_wp2
  go_end0
  exact ⟨rfl, rfl⟩
set_option maxHeartbeats 1000000 in
theorem stable_nil (V : Value) (w : World) : Calls Tryz.prog 119 #[.slice none 0 0, .int .i64 0, V] w fun e w' => e = .returned (.tuple #[]) ∧ w = w' := by
 have C := fun w => Lib.hid (insertion_nil V w)
 go_enter Tryz.func119, Tryz.ntmps119; go_wp2
 go_loopw [7, 8] (fun va vb w' => va = .int .i64 0 ∧ vb = .int .i64 20 ∧ w = w') (fun _ _ _ => 0)
 case atStart => exact ⟨rfl, rfl, rfl⟩
 case round =>
  obtain ⟨rfl, rfl, rfl⟩ := hrel
  go_wp2_with fail
  refine (C _).out.mono ?_; rintro e w1 ⟨rfl, rfl⟩; go_wp2
  go_loopw [6] (fun vs w' => vs = .int .i64 20 ∧ w = w') (fun _ _ => 0)
  case atStart => exact ⟨rfl, rfl⟩
  case round =>
   obtain ⟨rfl, rfl⟩ := hrel; go_wp2
   go_end0
   exact ⟨rfl, rfl⟩
set_option maxHeartbeats 1000000 in
theorem sort_nil (V : Value) (w : World) : Calls Tryz.prog 92 #[.slice none 0 0, V] w fun e w' => e = .returned (.tuple #[]) ∧ w = w' := by
 have C := fun w => Lib.hid (stable_nil V w)
 go_enter Tryz.func92, Tryz.ntmps92
 go_wp2_with fail
 refine (C _).out.mono ?_; rintro e w1 ⟨rfl, rfl⟩; go_wp2
 go_end0
 exact ⟨rfl, rfl⟩
def OrdTo (w : World) (hs : List Ch) (m : Nat) (e : Ending) (w' : World) : Prop := ∃ A c o, e = .returned (.slice A m c) ∧ Ins w' (fun b => w.heap.size ≤ b ∧ b < w'.heap.size) A m o ∧ Ag.Ord hs o ∧ Below w.heap.size w w' ∧ m ≤ c
theorem At.of {w : World} {base n c g : Nat} {xs : List Int} (h : IOwn w base (some ⟨g, 0, none⟩) n c xs) (hg : g < w.heap.size) : At w ⟨g, 0, none⟩ xs w := by
 refine ⟨World.grownBy.refl w _, fun j x hx => ?_, fun j hj => ?_, hg⟩
 ·obtain ⟨ad, e, _, hc⟩ := h.row.2 (by have := h.len; have := (List.getElem?_eq_some_iff.1 hx).1; omega); injection e with e
  subst e; exact hc j x hx
 ·rw [Addr.add_lit]; exact h.frozen _
structure OS (w W : World) (h : Hr) (k : Nat) (A : Option Addr) (c : Nat) : Prop where
 x : HX w W h
 o : IOwn W (w.heap.size + 1) A k c (plc k)
 z : k = 0 → A = none ∧ c = 0
theorem HM.apart {w W : World} {h : Hr} {g : Nat} (M : HM w (· < w.heap.size) h) (hg : w.heap.size ≤ g) (hk : ∀ b, b < w.heap.size → W.heap[b]? = w.heap[b]?) (hs : w.heap.size ≤ W.heap.size) : HM W (· < W.heap.size) h :=
 M.keep (fun p hp => World.cell?_of_block (hk p.block hp)) fun b hb => by omega
set_option maxRecDepth 100000 in
set_option maxHeartbeats 4000000 in
theorem order_ (h : Hr) (w : World) (M : HM w (· < w.heap.size) h) (hm : h.m ≤ 2001) : Calls Tryz.prog 68 #[hg h] w (OrdTo w h.v.hs h.m) := by
 have H0 := Lib.hid (show OS w (w.alloc (.cells (hc h) 35)) h 0 none 0 from ⟨HX.start w h, IOwn.nil, fun _ => ⟨rfl, rfl⟩⟩); have HM0 := Lib.hid M; have HLE := Lib.hid M.len; clear M; go_enter Tryz.func68, Tryz.ntmps68; go_wp2
 go_loopw [3, 8] (fun vs vi w' => ∃ (k : Nat) (A : Option Addr) (c : Nat) (W : World), k ≤ h.m ∧ vs = .slice A k c ∧ vi = .int .i64 (k : Int) ∧ W = w' ∧ Hid (OS w W h k A c)) (fun _ vi _ => h.m - (intOf vi).toNat)
 case atStart => exact ⟨0, none, 0, _, Nat.zero_le _, rfl, rfl, rfl, H0⟩
 case round =>
  clear H0; obtain ⟨k, A, c, W, hk, rfl, rfl, rfl, H⟩ := hrel; by_cases hlt : k < h.m
  ·have hlt2 : (k : Int) < (h.m : Int) := by omega
   have HLT := Lib.hid hlt; have hsz := H.out.x.x.lt; clear hlt
   go_wp2_with (at_builtin; refine wpList_app_i _ rfl _ _ rfl (w.heap.size + 1) A k c (plc k) rfl (H.out.o.below (alloc_ _ _)) (· = W.heap.size) (some ⟨W.heap.size, 0, none⟩) 1 1 [(k : Int)] rfl (ins_one (Bx.new W 3 #[.int .i64 (k : Int)])) (fun e => by cases e) (k + 1) rfl (by omega) (by simp; omega) ?_; intro A4 c4 w4 hO4 hg4; have HO4 := Lib.hid hO4; have HG4 := Lib.hid hg4; clear hO4 hg4)
   have HN := Lib.hid (show OS w w4 h (k + 1) A4 c4 from by
    have ha := H.out.x.next (alloc_ W (.cells #[.int .i64 (k : Int)] 3)); have hlo : ∀ g, (Value.slice A k c).ownBlock = some g → w.heap.size + 1 ≤ g := fun g hg => (H.out.o.lt g hg).1
    have hg := HG4.out; have hsa : (W.alloc (.cells #[.int .i64 (k : Int)] 3)).heap.size = W.heap.size + 1 := World.size_alloc _ _; refine ⟨⟨(ha.b).grown hg ha.b.size fun j hj => by have := hlo j hj; omega, ?_⟩, by rw [plc_next]; exact HO4.out, fun e => by omega⟩; exact (hg.block w.heap.size (by omega) fun e => by have := hlo _ e.symm; omega).trans ha.x)
   clear HO4 HG4 H; go_roundw
   case rel => exact ⟨k + 1, A4, c4, w4, by have := HLT.out; omega, rfl, by go_num, rfl, HN⟩
   case measure => have := HLT.out; simp [intOf]; omega
  ·obtain rfl : k = h.m := by omega
   have t1 : decide (((h.m : Nat) : Int) < (h.m : Int)) = false := by simp
   have hmf : ∀ (fn : Fn) (first cap : Array Value) (w : World), (Instr.makeFunc fn first cap).run Tryz.prog w = .ok (.func fn first cap) w := fun _ _ _ _ => rfl
   by_cases h0 : h.m = 0
   ·obtain ⟨rfl, rfl⟩ := H.out.z h0; have C := Lib.hid (show Calls Tryz.prog 92 #[.slice none h.m 0, .func (.func 93) #[] #[.pointer (some ⟨w.heap.size, 0, none⟩)]] W (fun e w' => e = .returned (.tuple #[]) ∧ W = w') by rw [h0]; exact sort_nil _ W); have HR := Lib.hid (show OrdTo w h.v.hs h.m (.returned (.slice none h.m 0)) W from ⟨none, 0, [], rfl, by rw [h0]; exact Ins.nil, by unfold Ag.Ord; rw [HLE.out, h0]; exact St.Good.nil, H.out.x.b, Nat.le_of_eq h0⟩); clear h0 H hlt
    go_wp2_with fail
    refine C.out.mono ?_; rintro e w1 ⟨rfl, rfl⟩; go_wp2; go_ret; exact HR.out
   ·obtain ⟨g, rfl, hg1, hg2⟩ := H.out.o.form (by omega)
    have CL : Clo W ⟨g, 0, none⟩ (key h.v.hs) (fun x => 0 ≤ x ∧ x < h.m) (.pointer (some ⟨w.heap.size, 0, none⟩)) := by
     intro W' x y hg hx hy; have hsz := H.out.x.b.size; have hgs := hg.size; have hlx := H.out.x.x.lt; refine closure h w.heap.size x y W' (HM0.out.apart (g := g) (by omega) (fun b hb => ?_) (by omega)) ?_ (by omega) hx hy
     ·exact (hg.block b (by omega) fun e => by injection e with e; simp only at e; omega).trans (H.out.x.b.block b hb)
     ·exact (hg.block w.heap.size (by omega) fun e => by injection e with e; simp only at e; omega).trans H.out.x.x
    have C := Lib.hid (sortStable W ⟨g, 0, none⟩ h.m c (key h.v.hs) _ (.pointer (some ⟨w.heap.size, 0, none⟩)) (plc h.m) W (At.of H.out.o hg2) (plc_len _) (by omega) (plc_rise _) (fun x hx => plc_mem.1 hx) CL); have HF := Lib.hid (H.out.o.fits.1); have HG := Lib.hid (And.intro hg1 (And.intro hg2 H.out.x.b)); clear CL hg1 hg2 H hlt h0
    go_wp2_with fail
    refine C.out.mono ?_; rintro e w1 ⟨rfl, S, hS, hA⟩; have HA := Lib.hid hA; have HSg := Lib.hid hS; clear hS hA C; go_wp2; go_ret; have hl : S.length = h.m := by rw [HSg.out.len, plc_len]
    refine ⟨some ⟨g, 0, none⟩, c, S, rfl, ⟨hl, fun _ => ⟨_, rfl, ⟨by have := HG.out.1; show w.heap.size ≤ g; omega, Nat.lt_of_lt_of_le HG.out.2.1 HA.out.g.size⟩, HA.out.c⟩⟩, by unfold Ag.Ord; rw [HLE.out]; exact HSg.out, ?_, HF.out⟩; exact (HG.out.2.2).grown HA.out.g HG.out.2.2.size fun j hj => by injection hj with hj; simp only at hj; have := HG.out.1; omega
end Tm
end Go.Proofs.YtplenoaajokpjaaGreat
