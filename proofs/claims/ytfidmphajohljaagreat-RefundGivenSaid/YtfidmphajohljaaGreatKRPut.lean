/-
  The document's last and Put. Conditions: the history and the change read as meant, lists are short.
-/
import Derived.Test.YtfidmphajohljaaGreatHq
import Derived.Test.YtfidmphajohljaaGreatKChP
import Derived.Test.YtfidmphajohljaaGreatMRb
set_option maxRecDepth 100000
set_option maxHeartbeats 8000000
set_option linter.unusedVariables false
namespace Go.Proofs.YtfidmphajohljaaGreat
open Go.RowKit Ba Cv Sp Te Ag
namespace Tm
structure Re0 (w : World) (v : Hi) (w' : World) (h : Hr) : Prop where
 v : h.v = v
 m : HM w' (· < w'.heap.size) h
 s : HS h
 b : Below w.heap.size w w'
def Give0 (w : World) (v : Hi) (code : Int) (e : Ending) (w' : World) : Prop := ∃ h, e = .returned (.tuple #[hg h, .int .i64 code]) ∧ Re0 w v w' h
theorem Res.re0 {w w' : World} {v : Hi} {h : Hr} (H : Res w v w' h) : Re0 w v w' h := ⟨H.v, H.m.keep (fun _ _ => rfl) fun b hb => hb.2, H.s, H.b⟩
theorem rlast_ (h : Hr) (w : World) (M : HM w (· < w.heap.size) h) (hm : h.m ≤ 3000) : Calls Tryz.prog 66 #[hg h] w fun e w' => e = .returned (.int .i64 (last h.bk h.v.hs)) ∧ Below w.heap.size w w' := by
 have hl := M.len; by_cases h0 : h.m = 0
 ·rw [last_zero (by omega)]; have t1 : decide (0 < (h.m : Int)) = false := decide_eq_false (by omega); have t1n : decide (0 < h.m) = false := decide_eq_false (by omega); have t2 : ((h.m : Int) == 0) = true := by rw [beq_iff_eq]; omega
  clear hl M hm h0; go_enter Tryz.func66, Tryz.ntmps66; go_wp2; go_ret; exact ⟨rfl, alloc_ _ _⟩
 ·obtain ⟨k, hk⟩ : ∃ k, h.m = k + 1 := ⟨h.m - 1, by omega⟩; obtain ⟨ad, r, hB, hb, hr, hn, _, hv⟩ := M.get (k := k) (by omega); rw [last_get hv (by omega)]; have hn' := hn.keep (w' := w.alloc (.cells (hc h) 31)) fun p hp => (alloc_ w (.cells (hc h) 31)).cell (by rw [hp, add_block]; exact hb)
  have c0 := hn'.c0; have e1 : (h.m : Int) - 1 = (k : Int) := by omega
  have t1 : decide (0 < (h.m : Int)) = true := decide_eq_true (by omega); have t1n : decide (0 < h.m) = true := decide_eq_true (by omega); have t2 : ((h.m : Int) == 0) = false := by rw [beq_eq_false_iff_ne]; omega
  have b1 : (k : Int) < (h.m : Int) := by omega
  have hk3 : k ≤ 3000 := by omega
  have hlb : ad.block < w.heap.size + 1 := by omega
  clear hl hk hr hn hn' hv h0 M; go_enter Tryz.func66, Tryz.ntmps66; go_wp2; go_ret; exact ⟨rfl, alloc_ _ _⟩
theorem run_app_at (w : World) (ty : TypeId) (base : Nat) (A : Option Addr) (n c : Nat) (xs : List Rw) (hown : Own w base A n c xs)
  (ok : Nat → Prop) (C : Option Addr) (m d : Nat) (ys : List Rw) (hr : Raws w ok C m ys) (hnil : C = none → m = 0 ∧ d = 0) (hlen : n + m ≤ 4000000) (hbase : base ≤ w.heap.size) :
  ∃ A' c' w', (Builtin.append_ #[29, 29] ty #[.slice A n c, .slice C m d]).run Tryz.prog w = .ok (.slice A' (n + m) c') w' ∧ Own w' base A' (n + m) c' (xs ++ ys) ∧ w.grownBy w' (Value.slice A n c).ownBlock ∧ ((Value.slice A' (n + m) c').ownBlock = (Value.slice A n c).ownBlock ∨ (Value.slice A' (n + m) c').ownBlock = some w.heap.size) := by
 obtain ⟨i, hi, hz, h1, h2⟩ := info_parts info_change; cases C with
 | none =>
  obtain ⟨rfl, rfl⟩ := hnil rfl; have hy : ys = [] := List.eq_nil_of_length_eq_zero hr.1; subst hy; exact ⟨A, c, w, run_append_owned_none (P := Tryz.prog) (w := w) base _ ty 41 i 9 Tryz.underlying29 hi _ n _ hown, by rw [List.append_nil]; exact hown, World.grownBy.refl w _, .inl rfl⟩
 | some ad =>
  obtain ⟨v', w', hrun, hO, hg, _, hat⟩ := run_append_own_at (P := Tryz.prog) w base 29 ty 41 i _ 9 88 Tryz.underlying29 hi hz h1 h2 rfl (by omega) (.slice A n c) n _ hown ad m d (cel ys) (by rw [cel_length, hr.1]) (Raws.cells hr) (cel_cell ys) (by unfold maxLen; omega) (by omega) hbase; rw [← cel_append] at hO; obtain ⟨A', c', rfl, hO'⟩ := own_of_row hO; exact ⟨A', c', w', hrun, hO', hg, hat⟩
theorem step_app_at (w : World) {ops : Array Oper} {o : Oper} {a : Act} {K : Act → World → Prop} {Q : Exit → Act → World → Prop} {E : Prop} (hgd : o.guard = none) (s x : Operand)
  (ho : o.op = .call { callee := .builtin .append, args := #[s, x], argTypes := #[29, 29] })
  (base : Nat) (A : Option Addr) (n c : Nat) (xs : List Rw) (hs : a.eval s = .slice A n c) (hown : Own w base A n c xs)
  (ok : Nat → Prop) (C : Option Addr) (m d : Nat) (ys : List Rw) (hx : a.eval x = .slice C m d) (hr : Raws w ok C m ys) (hnil : C = none → m = 0 ∧ d = 0) (N : Nat) (hN : n + m = N) (hlen : n + m ≤ 4000000) (hbase : base ≤ w.heap.size)
  (h : ∀ A' c' w', Own w' base A' N c' (xs ++ ys) → w.grownBy w' (Value.slice A n c).ownBlock → ((Value.slice A' N c').ownBlock = (Value.slice A n c).ownBlock ∨ (Value.slice A' N c').ownBlock = some w.heap.size) → K (a.put o.dst (.slice A' N c')) w') :
  if Region.wanted o (yielded ops a.tmps) = true then Oper.wp Tryz.prog o a w K Q else E := by
 subst hN; have hw : Region.wanted o (yielded ops a.tmps) = true := by simp [Region.wanted, hgd]
 rw [if_pos hw]; obtain ⟨A', c', w', hrun, hO, hg, hat⟩ := run_app_at w o.type base A n c xs hown ok C m d ys hr hnil hlen hbase; unfold Oper.wp execOp; simp only [ho, resolve, invoke, builtin, Sem.run_bind, Sem.run_pure, Result.andThen_ok, List.map_toArray, List.map_cons, List.map_nil, hs, hx, hrun]; exact h A' c' w' hO hg hat
structure RU (w W : World) (h : Hr) (q : Nat) (r : Rw) (L : Nat → Bool) (w' : World) (v32 v33 v34 v35 v36 v37 v38 v39 : Value) (e f : Nat) (A : Option Addr) (c1 : Nat) (A2 : Option Addr) (c2 : Nat) : Prop where
 b : L 8 = false → Below W.heap.size W w'
 f0 : L 0 = true → v32 = .slice (some ⟨e, 0, none⟩) 0 0
 l0 : L 0 = true → e < w'.heap.size
 o0 : L 0 = true → L 3 = false → Own w' W.heap.size (some ⟨e, 0, none⟩) 0 0 []
 f1 : L 1 = true → v33 = .pointer (some ⟨w.heap.size, 9, none⟩)
 f2 : L 2 = true → v34 = .slice h.B h.m h.d
 f3 : L 3 = true → v35 = .slice A h.m c1
 o3 : L 3 = true → L 6 = false → Own w' W.heap.size A h.m c1 h.rs
 f4 : L 4 = true → v36 = vg r
 f5 : L 5 = true → v37 = .slice (some ⟨f, 0, none⟩) 1 1
 x5 : L 5 = true → L 6 = false → Bx w' f 41 (vc r)
 n05 : L 0 = true → L 5 = true → e ≠ f
 n35 : L 3 = true → L 5 = true → L 6 = false → (Value.slice A h.m c1).ownBlock ≠ some f
 f6 : L 6 = true → v38 = .slice A2 (h.m + 1) c2
 o6 : L 6 = true → L 8 = false → Own w' W.heap.size A2 (h.m + 1) c2 (h.rs ++ [r])
 f7 : L 7 = true → v39 = .pointer (some ⟨q, 9, none⟩)
 s : L 8 = true → ∃ w3, Below W.heap.size W w3 ∧ Own w3 W.heap.size A2 (h.m + 1) c2 (h.rs ++ [r]) ∧ w' = w3.setCell ⟨q, 9, none⟩ (.slice A2 (h.m + 1) c2)
 d8 : L 8 = true → L 6 = true
 d6 : L 6 = true → L 3 = true ∧ L 5 = true
 d3 : L 3 = true → L 0 = true ∧ L 2 = true
 d5 : L 5 = true → L 4 = true
section
variable {w W w' w2 : World} {h : Hr} {q e f c1 c2 : Nat} {r : Rw} {L : Nat → Bool} {v32 v33 v34 v35 v36 v37 v38 v39 : Value} {A A2 : Option Addr}
theorem not_of {a b : Bool} (h : a = true → b = true) (hb : b = false) : a = false := by
 cases a
 ·rfl
 ·rw [h rfl] at hb; cases hb
theorem RU.no6 (H : RU w W h q r L w' v32 v33 v34 v35 v36 v37 v38 v39 e f A c1 A2 c2) (h6 : L 6 = false) : L 8 = false := not_of H.d8 h6
theorem RU.no3 (H : RU w W h q r L w' v32 v33 v34 v35 v36 v37 v38 v39 e f A c1 A2 c2) (h3 : L 3 = false) : L 6 = false ∧ L 8 = false := have k := not_of (fun l => (H.d6 l).1) h3; ⟨k, H.no6 k⟩
theorem RU.no5 (H : RU w W h q r L w' v32 v33 v34 v35 v36 v37 v38 v39 e f A c1 A2 c2) (h5 : L 5 = false) : L 6 = false ∧ L 8 = false := have k := not_of (fun l => (H.d6 l).2) h5; ⟨k, H.no6 k⟩
theorem RU.no0 (H : RU w W h q r L w' v32 v33 v34 v35 v36 v37 v38 v39 e f A c1 A2 c2) (h0 : L 0 = false) : L 3 = false ∧ L 6 = false ∧ L 8 = false := have k := not_of (fun l => (H.d3 l).1) h0; ⟨k, H.no3 k⟩
theorem RU.no2 (H : RU w W h q r L w' v32 v33 v34 v35 v36 v37 v38 v39 e f A c1 A2 c2) (h0 : L 2 = false) : L 3 = false ∧ L 6 = false ∧ L 8 = false := have k := not_of (fun l => (H.d3 l).2) h0; ⟨k, H.no3 k⟩
theorem RU.no4 (H : RU w W h q r L w' v32 v33 v34 v35 v36 v37 v38 v39 e f A c1 A2 c2) (h0 : L 4 = false) : L 5 = false ∧ L 6 = false ∧ L 8 = false := have k := not_of H.d5 h0; ⟨k, H.no5 k⟩
theorem RU.up (H : RU w W h q r L w' v32 v33 v34 v35 v36 v37 v38 v39 e f A c1 A2 c2) (h8 : L 8 = false) (hb : Below w'.heap.size w' w2) : RU w W h q r L w2 v32 v33 v34 v35 v36 v37 v38 v39 e f A c1 A2 c2 :=
 ⟨fun l => (H.b l).trans (hb.mono (H.b l).size), H.f0, fun l => Nat.lt_of_lt_of_le (H.l0 l) hb.size, fun l l3 => (H.o0 l l3).below hb, H.f1, H.f2, H.f3, fun l l6 => (H.o3 l l6).below hb, H.f4, H.f5, fun l l6 => (H.x5 l l6).keep hb, H.n05, H.n35, H.f6, fun l l8 => (H.o6 l l8).below hb, H.f7, (fun l => by rw [h8] at l; cases l), H.d8, H.d6, H.d3, H.d5⟩
theorem RU.s1 (H : RU w W h q r L w' v32 v33 v34 v35 v36 v37 v38 v39 e f A c1 A2 c2) : RU w W h q r (fun j => j == 1 || L j) w' v32 (.pointer (some ⟨w.heap.size, 9, none⟩)) v34 v35 v36 v37 v38 v39 e f A c1 A2 c2 := ⟨H.b, H.f0, H.l0, H.o0, fun _ => rfl, H.f2, H.f3, H.o3, H.f4, H.f5, H.x5, H.n05, H.n35, H.f6, H.o6, H.f7, H.s, H.d8, H.d6, H.d3, H.d5⟩
theorem RU.s2 (H : RU w W h q r L w' v32 v33 v34 v35 v36 v37 v38 v39 e f A c1 A2 c2) : RU w W h q r (fun j => j == 2 || L j) w' v32 v33 (.slice h.B h.m h.d) v35 v36 v37 v38 v39 e f A c1 A2 c2 := ⟨H.b, H.f0, H.l0, H.o0, H.f1, fun _ => rfl, H.f3, H.o3, H.f4, H.f5, H.x5, H.n05, H.n35, H.f6, H.o6, H.f7, H.s, H.d8, H.d6, fun l => ⟨(H.d3 l).1, rfl⟩, H.d5⟩
theorem RU.s4 (H : RU w W h q r L w' v32 v33 v34 v35 v36 v37 v38 v39 e f A c1 A2 c2) : RU w W h q r (fun j => j == 4 || L j) w' v32 v33 v34 v35 (vg r) v37 v38 v39 e f A c1 A2 c2 := ⟨H.b, H.f0, H.l0, H.o0, H.f1, H.f2, H.f3, H.o3, fun _ => rfl, H.f5, H.x5, H.n05, H.n35, H.f6, H.o6, H.f7, H.s, H.d8, H.d6, H.d3, fun _ => rfl⟩
theorem RU.s7 (H : RU w W h q r L w' v32 v33 v34 v35 v36 v37 v38 v39 e f A c1 A2 c2) : RU w W h q r (fun j => j == 7 || L j) w' v32 v33 v34 v35 v36 v37 v38 (.pointer (some ⟨q, 9, none⟩)) e f A c1 A2 c2 := ⟨H.b, H.f0, H.l0, H.o0, H.f1, H.f2, H.f3, H.o3, H.f4, H.f5, H.x5, H.n05, H.n35, H.f6, H.o6, fun _ => rfl, H.s, H.d8, H.d6, H.d3, H.d5⟩
theorem RU.s0 (H : RU w W h q r L w' v32 v33 v34 v35 v36 v37 v38 v39 e f A c1 A2 c2) (h0 : L 0 = false) : RU w W h q r (fun j => j == 0 || L j) (w'.alloc (.cells #[] 41)) (.slice (some ⟨w'.heap.size, 0, none⟩) 0 0) v33 v34 v35 v36 v37 v38 v39 w'.heap.size f A c1 A2 c2 := by
 obtain ⟨h3, h6, h8⟩ := H.no0 h0; have hb := H.b h8; have x5 := fun l => (H.x5 l h6).lt
 have H := H.up h8 (alloc_ w' (.cells #[] 41)); exact ⟨H.b, fun _ => rfl, fun _ => by simp, fun _ _ => (Own.made w').low hb.size, H.f1, H.f2, H.f3, H.o3, H.f4, H.f5, H.x5, fun _ l e => by have := x5 l; omega, H.n35, H.f6, H.o6, H.f7, H.s, H.d8, H.d6, fun l => ⟨rfl, (H.d3 l).2⟩, H.d5⟩
theorem RU.s5 (H : RU w W h q r L w' v32 v33 v34 v35 v36 v37 v38 v39 e f A c1 A2 c2) (h5 : L 5 = false) (h4 : L 4 = true) : RU w W h q r (fun j => j == 5 || L j) (w'.alloc (.cells (vc r) 41)) v32 v33 v34 v35 v36 (.slice (some ⟨w'.heap.size, 0, none⟩) 1 1) v38 v39 e w'.heap.size A c1 A2 c2 := by
 obtain ⟨h6, h8⟩ := H.no5 h5; have l0 := H.l0; have o3 := H.o3; have H := H.up h8 (alloc_ w' (.cells (vc r) 41)); exact ⟨H.b, H.f0, H.l0, H.o0, H.f1, H.f2, H.f3, H.o3, H.f4, fun _ => rfl, fun _ _ => Bx.new _ _ _, fun l _ e => by have := l0 l; omega, fun l _ _ e => by have := (o3 l h6).lt _ e; omega, H.f6, H.o6, H.f7, H.s, H.d8, fun l => ⟨(H.d6 l).1, rfl⟩, H.d3, fun _ => h4⟩
theorem below_row {base : Nat} {row : Option Nat} (hb : Below base W w') (hB : base ≤ w'.heap.size) (hg : w'.grownBy w2 row) (hrow : ∀ k, row = some k → base ≤ k) : Below base W w2 := hb.grown hg hB hrow
theorem RU.s3 (H : RU w W h q r L w' v32 v33 v34 v35 v36 v37 v38 v39 e f A c1 A2 c2) (h3 : L 3 = false) (h0 : L 0 = true) (h2 : L 2 = true) {A3 : Option Addr} {c3 : Nat} (hO : Own w2 W.heap.size A3 h.m c3 h.rs) (hg : w'.grownBy w2 (some e)) (hat : (Value.slice A3 h.m c3).ownBlock = some e ∨ (Value.slice A3 h.m c3).ownBlock = some w'.heap.size) : RU w W h q r (fun j => j == 3 || L j) w2 v32 v33 v34 (.slice A3 h.m c3) v36 v37 v38 v39 e f A3 c3 A2 c2 := by
 obtain ⟨h6, h8⟩ := H.no3 h3; have hb := H.b h8; have he := ((H.o0 h0 h3).lt e rfl).1; have hx5 : ∀ l : L 5 = true, Bx w2 f 41 (vc r) := fun l => (hg.block f (H.x5 l h6).lt (fun e' => by injection e' with e'; exact H.n05 h0 l e'.symm)).trans (H.x5 l h6)
 have n35 : ∀ l : L 5 = true, (Value.slice A3 h.m c3).ownBlock ≠ some f := fun l e' => by
  rcases hat with k | k
  ·rw [k] at e'; injection e' with e'; exact H.n05 h0 l e'
  ·rw [k] at e'; injection e' with e'; have := (H.x5 l h6).lt; omega
 exact ⟨fun _ => below_row hb hb.size hg (fun k hk => by injection hk with hk; omega), H.f0, fun l => Nat.lt_of_lt_of_le (H.l0 l) hg.size, (fun _ l => by cases l), H.f1, H.f2, fun _ => rfl, fun _ _ => hO, H.f4, H.f5, fun l _ => hx5 l, H.n05, fun _ l _ => n35 l, H.f6, (fun l _ => by have l' : L 6 = true := l; rw [h6] at l'; cases l'), H.f7, (fun l => by have l' : L 8 = true := l; rw [h8] at l'; cases l'), H.d8, fun l => ⟨rfl, (H.d6 l).2⟩, fun _ => ⟨h0, h2⟩, H.d5⟩
theorem RU.s6 (H : RU w W h q r L w' v32 v33 v34 v35 v36 v37 v38 v39 e f A c1 A2 c2) (h6 : L 6 = false) (h3 : L 3 = true) (h5 : L 5 = true) {A4 : Option Addr} {c4 : Nat} (hO : Own w2 W.heap.size A4 (h.m + 1) c4 (h.rs ++ [r])) (hg : w'.grownBy w2 (Value.slice A h.m c1).ownBlock) : RU w W h q r (fun j => j == 6 || L j) w2 v32 v33 v34 v35 v36 v37 (.slice A4 (h.m + 1) c4) v39 e f A c1 A4 c4 := by
 have h8 := H.no6 h6; have hb := H.b h8; exact ⟨fun _ => below_row hb hb.size hg (fun k hk => ((H.o3 h3 h6).lt k hk).1), H.f0, fun l => Nat.lt_of_lt_of_le (H.l0 l) hg.size, (fun _ l => by have l' : L 3 = false := l; rw [h3] at l'; cases l'), H.f1, H.f2, H.f3, (fun _ l => by cases l), H.f4, H.f5, (fun _ l => by cases l), H.n05, (fun _ _ l => by cases l), fun _ => rfl, fun _ _ => hO, H.f7, (fun l => by have l' : L 8 = true := l; rw [h8] at l'; cases l'), fun _ => rfl, fun _ => ⟨h3, h5⟩, H.d3, H.d5⟩
theorem RU.s8 (H : RU w W h q r L w' v32 v33 v34 v35 v36 v37 v38 v39 e f A c1 A2 c2) (h8 : L 8 = false) (h6 : L 6 = true) : RU w W h q r (fun j => j == 8 || L j) (w'.setCell ⟨q, 9, none⟩ (.slice A2 (h.m + 1) c2)) v32 v33 v34 v35 v36 v37 v38 v39 e f A c1 A2 c2 := by
 obtain ⟨h3, h5⟩ := H.d6 h6; exact ⟨(fun l => by cases l), H.f0, fun l => by have := H.l0 l; simpa using this, (fun _ l => by have l' : L 3 = false := l; rw [h3] at l'; cases l'), H.f1, H.f2, H.f3, (fun _ l => by have l' : L 6 = false := l; rw [h6] at l'; cases l'), H.f4, H.f5, (fun _ l => by have l' : L 6 = false := l; rw [h6] at l'; cases l'), H.n05, H.n35, H.f6, (fun _ l => by cases l), H.f7, fun _ => ⟨w', H.b h8, H.o6 h6 h8, rfl⟩, fun _ => h6, H.d6, H.d3, H.d5⟩
end
theorem rput_ (h : Hr) (r : Rw) (w : World) (M : HM w (· < w.heap.size) h) (S : HS h) (hS : Cvs w (· < w.heap.size) r.A r.n r.v.cs) (hn : r.n ≤ 3000) : Calls Tryz.prog 35 #[hg h, vg r] w (Give0 w (phi h.v r.v) (code h.s h.bk h.v.hs r.v)) := by
 obtain ⟨W, hW⟩ : ∃ W, ((w.alloc (.cells (hc h) 31)).alloc (.cells (vc r) 41)).alloc (.cells zhc 31) = W := ⟨_, rfl⟩; have H0 := qh (show P3 w W h r by rw [← hW]; exact P3.start w h r); have HW := qh hW; clear hW; obtain ⟨cd, hcd⟩ : ∃ cd, code h.s h.bk h.v.hs r.v = cd := ⟨_, rfl⟩; have hphi : phi h.v r.v = if cd = 0 then ⟨h.v.id, h.v.bk, h.v.s, h.v.r, h.v.cs, h.v.hs ++ [r.v]⟩ else zhi := by rw [← hcd]; rfl
 obtain ⟨ph, hph⟩ : ∃ ph, phi h.v r.v = ph := ⟨_, rfl⟩; rw [hph] at hphi ⊢; rw [hcd]; have HPH := qh hphi; have HCD := qh hcd; have HLL := qh M.len; have HM0 := qh M; have HSS := qh S; have HCC := qh (And.intro hS hn); have C1 := qh (rright11 r W (hS.below H0.out.b) (by unfold maxLen; omega)); have C2 := fun w => qh (rspan_in h.s r.v.dy w)
 have HC3 := qh (fun (W' : World) (hb : Below w.heap.size w W') => qh (rlast_ h W' (M.below hb) (by have := S.m; omega))); clear hcd M hS hn S hphi hph; have hx := H0.out.x; have hy := H0.out.y; obtain ⟨x0, x1, x2, x3, x4, x5, x6, x7, x8, x9⟩ := qc10 hx; obtain ⟨y0, y1, y2, y3, y4, y5, y6, y7, y8⟩ := qc9 hy; have hlx := hx.lt; have hly := hy.lt; clear hx hy; cases hq : rch r.v
 ·have HQ := qh (show cd = 1 by rw [← HCD.out]; exact code_arg (by rw [hq]; rfl)); rw [hq] at C1; clear hq HC3; go_enter Tryz.func35, Tryz.ntmps35
  go_wp2_with fail
  rw [HW.out]; refine C1.out.mono ?_; rintro e w1 ⟨rfl, hb1⟩; have H3 := qh (H0.out.next hb1); clear hb1 x0 x1 x2 x3 x4 x5 x6 x7 x8 x9 y0 y1 y2 y3 y4 y5 y6 y7 y8 H0; have hz := H3.out.z; obtain ⟨z0, z1, z2, z3, z4, z5, z6, z7, z8, z9⟩ := qc10 hz; have fz0 := hz.f 0; have fz1 := hz.f 1; have fz2 := hz.f 2; have fz3 := hz.f 3; have fz4 := hz.f 4; have fz5 := hz.f 5; have fz6 := hz.f 6; have fz7 := hz.f 7; have fz8 := hz.f 8; have fz9 := hz.f 9; have hlz := hz.lt; clear hz; go_wp2; change bodyPost _ _ _ _ _ (puth (w.heap.size + 2) zhr w1); have hq := (show Bx w1 (w.heap.size + 2) 31 (hc zhr) from H3.out.z).puth zhr; clear z0 z1 z2 z3 z4 z5 z6 z7 z8 z9 fz0 fz1 fz2 fz3 fz4 fz5 fz6 fz7 fz8 fz9 hlz; obtain ⟨z0, z1, z2, z3, z4, z5, z6, z7, z8, z9⟩ := qc10 hq; rw [HPH.out, HQ.out, if_neg (by decide)]; exact bodyPost_ret (v := .tuple #[hg zhr, .int .i64 1]) (by simp [results, Tryz.results35, go_sem, z0, z1, z2, z3, z4, z5, z6, z7, z8, z9]) rfl ⟨zhr, rfl, (Res.zero H3.out.b (by omega) _).re0⟩
 rw [hq] at C1; cases hi : inn h.s r.v.dy
 ·have HQ := qh (show cd = 1 by rw [← HCD.out]; exact code_arg (by rw [hi]; simp)); rw [hi] at C2; clear hq HC3 hi; go_enter Tryz.func35, Tryz.ntmps35
  go_wp2_with fail
  rw [HW.out]; refine C1.out.mono ?_; rintro e w1 ⟨rfl, hb1⟩; have H1 := qh (H0.out.next hb1); have hx := H1.out.x; have hy := H1.out.y; have u2 := hx.c 2; have u3 := hx.c 3; simp at u2 u3; have v1 := hy.c 1; simp at v1; clear hb1 hx hy x0 x1 x2 x3 x4 x5 x6 x7 x8 x9 y0 y1 y2 y3 y4 y5 y6 y7 y8 H0
  go_wp2_with fail
  refine (C2 _).out.mono ?_; rintro e w2 ⟨rfl, hb2⟩; have H3 := qh (H1.out.next hb2); clear hb2 u2 u3 v1; have hz := H3.out.z; obtain ⟨z0, z1, z2, z3, z4, z5, z6, z7, z8, z9⟩ := qc10 hz; have fz0 := hz.f 0; have fz1 := hz.f 1; have fz2 := hz.f 2; have fz3 := hz.f 3; have fz4 := hz.f 4; have fz5 := hz.f 5; have fz6 := hz.f 6; have fz7 := hz.f 7; have fz8 := hz.f 8; have fz9 := hz.f 9; have hlz := hz.lt; clear hz; go_wp2; change bodyPost _ _ _ _ _ (puth (w.heap.size + 2) zhr w2); have hq := (show Bx w2 (w.heap.size + 2) 31 (hc zhr) from H3.out.z).puth zhr; clear z0 z1 z2 z3 z4 z5 z6 z7 z8 z9 fz0 fz1 fz2 fz3 fz4 fz5 fz6 fz7 fz8 fz9 hlz; obtain ⟨z0, z1, z2, z3, z4, z5, z6, z7, z8, z9⟩ := qc10 hq; rw [HPH.out, HQ.out, if_neg (by decide)]; exact bodyPost_ret (v := .tuple #[hg zhr, .int .i64 1]) (by simp [results, Tryz.results35, go_sem, z0, z1, z2, z3, z4, z5, z6, z7, z8, z9]) rfl ⟨zhr, rfl, (Res.zero H3.out.b (by omega) _).re0⟩
 rw [hi] at C2; have HG := qh (show (rch r.v && inn h.s r.v.dy) = true by rw [hq, hi]; rfl); obtain ⟨lb, hlb⟩ : ∃ lb, last h.bk h.v.hs = lb := ⟨_, rfl⟩; rw [hlb] at HC3; have HLB := qh hlb; clear hq hi hlb; by_cases h1 : r.v.bk < lb
 ·have t1 : decide (r.v.bk < lb) = true := decide_eq_true h1; have HQ := qh (show cd = 4 by rw [← HCD.out]; exact code_order HG.out (by rw [HLB.out]; exact h1)); clear h1; go_enter Tryz.func35, Tryz.ntmps35
  go_wp2_with fail
  rw [HW.out]; refine C1.out.mono ?_; rintro e w1 ⟨rfl, hb1⟩; have H1 := qh (H0.out.next hb1); have hx := H1.out.x; have hy := H1.out.y; have u2 := hx.c 2; have u3 := hx.c 3; simp at u2 u3; have v1 := hy.c 1; simp at v1; clear hb1 hx hy x0 x1 x2 x3 x4 x5 x6 x7 x8 x9 y0 y1 y2 y3 y4 y5 y6 y7 y8 H0
  go_wp2_with fail
  refine (C2 _).out.mono ?_; rintro e w2 ⟨rfl, hb2⟩; have H2 := qh (H1.out.next hb2); clear hb2 u2 u3 v1 H1
  go_wp2_with fail
  have x0 : ∀ p : Ext w2, p.W.cell? ⟨w.heap.size, 0, none⟩ = some (.int .i64 h.id) := fun p => H2.out.x.ext p 0
  have x1 : ∀ p : Ext w2, p.W.cell? ⟨w.heap.size, 1, none⟩ = some (.int .i64 h.bk) := fun p => H2.out.x.ext p 1
  have x2 : ∀ p : Ext w2, p.W.cell? ⟨w.heap.size, 2, none⟩ = some (.int .i64 h.s.1) := fun p => H2.out.x.ext p 2
  have x3 : ∀ p : Ext w2, p.W.cell? ⟨w.heap.size, 3, none⟩ = some (.int .i64 h.s.2) := fun p => H2.out.x.ext p 3
  have x4 : ∀ p : Ext w2, p.W.cell? ⟨w.heap.size, 4, none⟩ = some (.int .i64 h.r.k) := fun p => H2.out.x.ext p 4
  have x5 : ∀ p : Ext w2, p.W.cell? ⟨w.heap.size, 5, none⟩ = some (.int .i64 h.r.v) := fun p => H2.out.x.ext p 5
  have x6 : ∀ p : Ext w2, p.W.cell? ⟨w.heap.size, 6, none⟩ = some (.int .i64 h.r.a) := fun p => H2.out.x.ext p 6
  have x7 : ∀ p : Ext w2, p.W.cell? ⟨w.heap.size, 7, none⟩ = some (.int .i64 h.r.z) := fun p => H2.out.x.ext p 7
  have x8 : ∀ p : Ext w2, p.W.cell? ⟨w.heap.size, 8, none⟩ = some (.slice h.A h.n h.c) := fun p => H2.out.x.ext p 8
  have x9 : ∀ p : Ext w2, p.W.cell? ⟨w.heap.size, 9, none⟩ = some (.slice h.B h.m h.d) := fun p => H2.out.x.ext p 9
  have y0 : ∀ p : Ext w2, p.W.cell? ⟨w.heap.size + 1, 0, none⟩ = some (.int .i64 r.v.bk) := fun p => H2.out.y.ext p 0
  have CLx := fun (p : Ext w2) => HC3.out p.W (H2.out.b.trans (p.b.mono H2.out.b.size))
  have ne : Nonempty (Ext w2) := ⟨⟨w2, Below.refl _ _⟩⟩; refine quietE (by kernel_rfl) (by kernel_rfl) ?_
  repeat (first | go_big_quiet_skip | quiet_step (first
   | (go_at_call 66; with_reducible exact ext_of (CLx _).out)
   | fail))
  refine wpQuiet_nil ?_; rintro _ ⟨p, rfl⟩; have H3 := qh (H2.out.next p.b); generalize p.W = w3 at H3 ⊢; clear CLx ne x0 x1 x2 x3 x4 x5 x6 x7 x8 x9 y0 H2
  try rw [t1]
  have hz := H3.out.z; obtain ⟨z0, z1, z2, z3, z4, z5, z6, z7, z8, z9⟩ := qc10 hz; have fz0 := hz.f 0; have fz1 := hz.f 1; have fz2 := hz.f 2; have fz3 := hz.f 3; have fz4 := hz.f 4; have fz5 := hz.f 5; have fz6 := hz.f 6; have fz7 := hz.f 7; have fz8 := hz.f 8; have fz9 := hz.f 9; have hlz := hz.lt; clear hz; go_wp2; change bodyPost _ _ _ _ _ (puth (w.heap.size + 2) zhr w3); have hq := (show Bx w3 (w.heap.size + 2) 31 (hc zhr) from H3.out.z).puth zhr; clear z0 z1 z2 z3 z4 z5 z6 z7 z8 z9 fz0 fz1 fz2 fz3 fz4 fz5 fz6 fz7 fz8 fz9 hlz; obtain ⟨z0, z1, z2, z3, z4, z5, z6, z7, z8, z9⟩ := qc10 hq; rw [HPH.out, HQ.out, if_neg (by decide)]; exact bodyPost_ret (v := .tuple #[hg zhr, .int .i64 4]) (by simp [results, Tryz.results35, go_sem, z0, z1, z2, z3, z4, z5, z6, z7, z8, z9]) rfl ⟨zhr, rfl, (Res.zero H3.out.b (by omega) _).re0⟩
 have t1 : decide (r.v.bk < lb) = false := decide_eq_false h1; by_cases h2 : 2000 ≤ h.m
 ·have t2 : decide (2000 ≤ (h.m : Int)) = true := decide_eq_true (by omega); have t2n : decide (2000 ≤ h.m) = true := decide_eq_true h2; have HQ := qh (show cd = 2 by rw [← HCD.out]; exact code_bound HG.out (by rw [HLB.out]; exact h1) (by rw [HLL.out]; exact h2)); clear h1 h2; go_enter Tryz.func35, Tryz.ntmps35
  go_wp2_with fail
  rw [HW.out]; refine C1.out.mono ?_; rintro e w1 ⟨rfl, hb1⟩; have H1 := qh (H0.out.next hb1); have hx := H1.out.x; have hy := H1.out.y; have u2 := hx.c 2; have u3 := hx.c 3; simp at u2 u3; have v1 := hy.c 1; simp at v1; clear hb1 hx hy x0 x1 x2 x3 x4 x5 x6 x7 x8 x9 y0 y1 y2 y3 y4 y5 y6 y7 y8 H0
  go_wp2_with fail
  refine (C2 _).out.mono ?_; rintro e w2 ⟨rfl, hb2⟩; have H2 := qh (H1.out.next hb2); clear hb2 u2 u3 v1 H1
  go_wp2_with fail
  have x0 : ∀ p : Ext w2, p.W.cell? ⟨w.heap.size, 0, none⟩ = some (.int .i64 h.id) := fun p => H2.out.x.ext p 0
  have x1 : ∀ p : Ext w2, p.W.cell? ⟨w.heap.size, 1, none⟩ = some (.int .i64 h.bk) := fun p => H2.out.x.ext p 1
  have x2 : ∀ p : Ext w2, p.W.cell? ⟨w.heap.size, 2, none⟩ = some (.int .i64 h.s.1) := fun p => H2.out.x.ext p 2
  have x3 : ∀ p : Ext w2, p.W.cell? ⟨w.heap.size, 3, none⟩ = some (.int .i64 h.s.2) := fun p => H2.out.x.ext p 3
  have x4 : ∀ p : Ext w2, p.W.cell? ⟨w.heap.size, 4, none⟩ = some (.int .i64 h.r.k) := fun p => H2.out.x.ext p 4
  have x5 : ∀ p : Ext w2, p.W.cell? ⟨w.heap.size, 5, none⟩ = some (.int .i64 h.r.v) := fun p => H2.out.x.ext p 5
  have x6 : ∀ p : Ext w2, p.W.cell? ⟨w.heap.size, 6, none⟩ = some (.int .i64 h.r.a) := fun p => H2.out.x.ext p 6
  have x7 : ∀ p : Ext w2, p.W.cell? ⟨w.heap.size, 7, none⟩ = some (.int .i64 h.r.z) := fun p => H2.out.x.ext p 7
  have x8 : ∀ p : Ext w2, p.W.cell? ⟨w.heap.size, 8, none⟩ = some (.slice h.A h.n h.c) := fun p => H2.out.x.ext p 8
  have x9 : ∀ p : Ext w2, p.W.cell? ⟨w.heap.size, 9, none⟩ = some (.slice h.B h.m h.d) := fun p => H2.out.x.ext p 9
  have y0 : ∀ p : Ext w2, p.W.cell? ⟨w.heap.size + 1, 0, none⟩ = some (.int .i64 r.v.bk) := fun p => H2.out.y.ext p 0
  have CLx := fun (p : Ext w2) => HC3.out p.W (H2.out.b.trans (p.b.mono H2.out.b.size))
  have ne : Nonempty (Ext w2) := ⟨⟨w2, Below.refl _ _⟩⟩; refine quietE (by kernel_rfl) (by kernel_rfl) ?_
  repeat (first | go_big_quiet_skip | quiet_step (first
   | (go_at_call 66; with_reducible exact ext_of (CLx _).out)
   | fail))
  refine wpQuiet_nil ?_; rintro _ ⟨p, rfl⟩; have H3 := qh (H2.out.next p.b); generalize p.W = w3 at H3 ⊢; clear CLx ne x0 x1 x2 x3 x4 x5 x6 x7 x8 x9 y0 H2
  try rw [t1]
  have x9 := H3.out.x.c 9; have hlx3 := H3.out.x.lt; simp at x9; have hz := H3.out.z; obtain ⟨z0, z1, z2, z3, z4, z5, z6, z7, z8, z9⟩ := qc10 hz; have fz0 := hz.f 0; have fz1 := hz.f 1; have fz2 := hz.f 2; have fz3 := hz.f 3; have fz4 := hz.f 4; have fz5 := hz.f 5; have fz6 := hz.f 6; have fz7 := hz.f 7; have fz8 := hz.f 8; have fz9 := hz.f 9; have hlz := hz.lt; clear hz; go_wp2; change bodyPost _ _ _ _ _ (puth (w.heap.size + 2) zhr w3); have hq := (show Bx w3 (w.heap.size + 2) 31 (hc zhr) from H3.out.z).puth zhr; clear z0 z1 z2 z3 z4 z5 z6 z7 z8 z9 fz0 fz1 fz2 fz3 fz4 fz5 fz6 fz7 fz8 fz9 hlz; obtain ⟨z0, z1, z2, z3, z4, z5, z6, z7, z8, z9⟩ := qc10 hq; rw [HPH.out, HQ.out, if_neg (by decide)]; exact bodyPost_ret (v := .tuple #[hg zhr, .int .i64 2]) (by simp [results, Tryz.results35, go_sem, z0, z1, z2, z3, z4, z5, z6, z7, z8, z9]) rfl ⟨zhr, rfl, (Res.zero H3.out.b (by omega) _).re0⟩
 ·have t2 : decide (2000 ≤ (h.m : Int)) = false := decide_eq_false (by omega); have t2n : decide (2000 ≤ h.m) = false := decide_eq_false h2; have HQ := qh (show cd = 0 by rw [← HCD.out]; exact code_ok HG.out (by rw [HLB.out]; exact h1) (by rw [HLL.out]; exact h2)); have HLM := qh (show h.m < 2000 by omega); clear h1 h2; go_enter Tryz.func35, Tryz.ntmps35
  go_wp2_with fail
  rw [HW.out]; refine C1.out.mono ?_; rintro e w1 ⟨rfl, hb1⟩; have H1 := qh (H0.out.next hb1); have hx := H1.out.x; have hy := H1.out.y; have u2 := hx.c 2; have u3 := hx.c 3; simp at u2 u3; have v1 := hy.c 1; simp at v1; clear hb1 hx hy x0 x1 x2 x3 x4 x5 x6 x7 x8 x9 y0 y1 y2 y3 y4 y5 y6 y7 y8 H0
  go_wp2_with fail
  refine (C2 _).out.mono ?_; rintro e w2 ⟨rfl, hb2⟩; have H2 := qh (H1.out.next hb2); clear hb2 u2 u3 v1 H1
  go_wp2_with fail
  have x0 : ∀ p : Ext w2, p.W.cell? ⟨w.heap.size, 0, none⟩ = some (.int .i64 h.id) := fun p => H2.out.x.ext p 0
  have x1 : ∀ p : Ext w2, p.W.cell? ⟨w.heap.size, 1, none⟩ = some (.int .i64 h.bk) := fun p => H2.out.x.ext p 1
  have x2 : ∀ p : Ext w2, p.W.cell? ⟨w.heap.size, 2, none⟩ = some (.int .i64 h.s.1) := fun p => H2.out.x.ext p 2
  have x3 : ∀ p : Ext w2, p.W.cell? ⟨w.heap.size, 3, none⟩ = some (.int .i64 h.s.2) := fun p => H2.out.x.ext p 3
  have x4 : ∀ p : Ext w2, p.W.cell? ⟨w.heap.size, 4, none⟩ = some (.int .i64 h.r.k) := fun p => H2.out.x.ext p 4
  have x5 : ∀ p : Ext w2, p.W.cell? ⟨w.heap.size, 5, none⟩ = some (.int .i64 h.r.v) := fun p => H2.out.x.ext p 5
  have x6 : ∀ p : Ext w2, p.W.cell? ⟨w.heap.size, 6, none⟩ = some (.int .i64 h.r.a) := fun p => H2.out.x.ext p 6
  have x7 : ∀ p : Ext w2, p.W.cell? ⟨w.heap.size, 7, none⟩ = some (.int .i64 h.r.z) := fun p => H2.out.x.ext p 7
  have x8 : ∀ p : Ext w2, p.W.cell? ⟨w.heap.size, 8, none⟩ = some (.slice h.A h.n h.c) := fun p => H2.out.x.ext p 8
  have x9 : ∀ p : Ext w2, p.W.cell? ⟨w.heap.size, 9, none⟩ = some (.slice h.B h.m h.d) := fun p => H2.out.x.ext p 9
  have y0 : ∀ p : Ext w2, p.W.cell? ⟨w.heap.size + 1, 0, none⟩ = some (.int .i64 r.v.bk) := fun p => H2.out.y.ext p 0
  have CLx := fun (p : Ext w2) => HC3.out p.W (H2.out.b.trans (p.b.mono H2.out.b.size))
  have ne : Nonempty (Ext w2) := ⟨⟨w2, Below.refl _ _⟩⟩; refine quietE (by kernel_rfl) (by kernel_rfl) ?_
  repeat (first | go_big_quiet_skip | quiet_step (first
   | (go_at_call 66; with_reducible exact ext_of (CLx _).out)
   | fail))
  refine wpQuiet_nil ?_; rintro _ ⟨p, rfl⟩; have H3 := qh (H2.out.next p.b); generalize p.W = w3 at H3 ⊢; clear CLx ne x0 x1 x2 x3 x4 x5 x6 x7 x8 x9 y0 H2
  try rw [t1]
  have x9 := H3.out.x.c 9; have hlx3 := H3.out.x.lt; simp at x9; have hx := H3.out.x; obtain ⟨x0, x1, x2, x3, x4, x5, x6, x7, x8, x9⟩ := qc10 hx; clear hx
  go_upto_region 8 with (fail)
  obtain ⟨W4, hW4⟩ : ∃ W4, w3.alloc (.cells (hc h) 31) = W4 := ⟨_, rfl⟩; have HP4 := qh (show P3 w W4 h r from hW4 ▸ H3.out.next (alloc_ _ _)); have HQ4 := qh (show Bx W4 w3.heap.size 31 (hc h) from hW4 ▸ Bx.new _ _ _); rw [hW4]; have HL4 := qh (show w.heap.size + 3 ≤ w3.heap.size from H3.out.lt); have HS4 := qh (show W4.heap.size = w3.heap.size + 1 from hW4 ▸ World.size_alloc _ _); clear hW4 H3 x0 x1 x2 x3 x4 x5 x6 x7 x8 x9 hlx3
  go_cut [32] (fun _ wx => ∃ (Wz : World) (A2 : Option Addr) (c2 : Nat), Wz = wx ∧ Hid (∃ w5, Below W4.heap.size W4 w5 ∧ Own w5 W4.heap.size A2 (h.m + 1) c2 (h.rs ++ [r]) ∧ Wz = w5.setCell ⟨w3.heap.size, 9, none⟩ (.slice A2 (h.m + 1) c2)))
  case first =>
   refine wp_region_steps (fun L_ a_ w_ => ∃ (v32 v33 v34 v35 v36 v37 v38 v39 : Value) (e f : Nat) (A : Option Addr) (c1 : Nat) (A2 : Option Addr) (c2 : Nat), a_ = { tmps := #[hg h, vg r, .pointer (some ⟨w.heap.size, 0, none⟩), .pointer (some ⟨w.heap.size + 1, 0, none⟩), .pointer (some ⟨w.heap.size + 1 + 1, 0, none⟩), .int .i64 0, .pointer (some ⟨w3.heap.size, 0, none⟩), vg r, .bool true, .bool false, .bool false, .pointer (some ⟨w.heap.size, 2, none⟩), .pointer (some ⟨w.heap.size, 2, none⟩), sg h.s, .pointer (some ⟨w.heap.size + 1, 1, none⟩), .int .i64 r.v.dy, .bool true, .bool false, .bool false, undef, .pointer (some ⟨w.heap.size + 1, 0, none⟩), .int .i64 r.v.bk, hg h, .int .i64 lb, .bool false, undef, .pointer (some ⟨w.heap.size, 9, none⟩), .slice h.B h.m h.d, .int .i64 (h.m : Int), .bool false, undef, hg h, v32, v33, v34, v35, v36, v37, v38, v39, undef], defers := [] } ∧ Hid (RU w W4 h w3.heap.size r L_ w_ v32 v33 v34 v35 v36 v37 v38 v39 e f A c1 A2 c2)) (by kernel_rfl) (by kernel_rfl) ?_ (AllSteps.cons ?_ (AllSteps.cons ?_ (AllSteps.cons ?_ (AllSteps.cons ?_ (AllSteps.cons ?_ (AllSteps.cons ?_ (AllSteps.cons ?_ (AllSteps.cons ?_ (AllSteps.cons ?_ AllSteps.nil))))))))) ?_
   ·exact ⟨_, _, _, _, _, _, _, _, 0, 0, none, 0, none, 0, rfl, qh ⟨fun _ => ⟨rfl, rfl, rfl, Nat.le_refl _, fun _ _ => rfl⟩, (fun h => by cases h), (fun h => by cases h), (fun h => by cases h), (fun h => by cases h), (fun h => by cases h), (fun h => by cases h), (fun h => by cases h), (fun h => by cases h), (fun h => by cases h), (fun h => by cases h), (fun h => by cases h), (fun h => by cases h), (fun h => by cases h), (fun h => by cases h), (fun h => by cases h), (fun h => by cases h), (fun h => by cases h), (fun h => by cases h), (fun h => by cases h), (fun h => by cases h)⟩⟩
   ·rintro L_ a_ w_ hL hd ⟨v32, v33, v34, v35, v36, v37, v38, v39, e, f, A, c1, A2, c2, rfl, HR⟩ K hK; clear hd; go_simp; exact hK.out _ _ ⟨_, _, _, _, _, _, _, _, _, f, A, c1, A2, c2, rfl, qh (HR.out.s0 hL)⟩
   ·rintro L_ a_ w_ hL hd ⟨v32, v33, v34, v35, v36, v37, v38, v39, e, f, A, c1, A2, c2, rfl, HR⟩ K hK; clear hd; go_simp; exact hK.out _ _ ⟨_, _, _, _, _, _, _, _, e, f, A, c1, A2, c2, rfl, qh (HR.out.s1)⟩
   ·rintro L_ a_ w_ hL hd ⟨v32, v33, v34, v35, v36, v37, v38, v39, e, f, A, c1, A2, c2, rfl, HR⟩ K hK; have e1 := HR.out.f1 (hd ⟨1, .data⟩ (by simp) rfl); subst e1; have HB3 := HR.out.b (HR.out.no2 hL).2.2; have c9 := (HP4.out.next HB3).x.c 9; simp at c9; clear hd HB3; go_simp; exact hK.out _ _ ⟨_, _, _, _, _, _, _, _, e, f, A, c1, A2, c2, rfl, qh (HR.out.s2)⟩
   ·rintro L_ a_ w_ hL hd ⟨v32, v33, v34, v35, v36, v37, v38, v39, e, f, A, c1, A2, c2, rfl, HR⟩ K hK; have q0 : L_ 0 = true := (hd ⟨0, .data⟩ (by simp) rfl); have q2 : L_ 2 = true := (hd ⟨2, .data⟩ (by simp) rfl); have e0 := HR.out.f0 q0; subst e0; have e2 := HR.out.f2 q2; subst e2; have HB3 := HR.out.b (HR.out.no3 hL).2; clear hd; refine step_app_at w_ rfl (.tmp 32) (.tmp 34) rfl W4.heap.size (some ⟨e, 0, none⟩) 0 0 [] rfl (HR.out.o0 q0 hL) _ h.B h.m h.d h.rs rfl ((HM0.out.below (HP4.out.next HB3).b).r) HSS.out.z h.m (Nat.zero_add _) (by have := HSS.out.m; omega) HB3.size ?_; intro A5 c5 w5 hO5 hg5 hat5; rw [List.nil_append] at hO5; have HR2 := qh (HR.out.s3 hL q0 q2 hO5 hg5 hat5); clear HB3 hO5 hg5 hat5; exact hK.out _ _ ⟨_, _, _, _, _, _, _, _, e, f, A5, c5, A2, c2, rfl, qh (HR2.out)⟩
   ·rintro L_ a_ w_ hL hd ⟨v32, v33, v34, v35, v36, v37, v38, v39, e, f, A, c1, A2, c2, rfl, HR⟩ K hK; have HB3 := HR.out.b (HR.out.no4 hL).2.2; have hy4 := (HP4.out.next HB3).y; obtain ⟨y0, y1, y2, y3, y4, y5, y6, y7, y8⟩ := qc9 hy4; clear hd HB3 hy4; go_simp; exact hK.out _ _ ⟨_, _, _, _, _, _, _, _, e, f, A, c1, A2, c2, rfl, qh (HR.out.s4)⟩
   ·rintro L_ a_ w_ hL hd ⟨v32, v33, v34, v35, v36, v37, v38, v39, e, f, A, c1, A2, c2, rfl, HR⟩ K hK; have q4 : L_ 4 = true := (hd ⟨4, .data⟩ (by simp) rfl); have e4 := HR.out.f4 q4; subst e4; clear hd; go_simp; exact hK.out _ _ ⟨_, _, _, _, _, _, _, _, e, _, A, c1, A2, c2, rfl, qh (HR.out.s5 hL q4)⟩
   ·rintro L_ a_ w_ hL hd ⟨v32, v33, v34, v35, v36, v37, v38, v39, e, f, A, c1, A2, c2, rfl, HR⟩ K hK; have q3 : L_ 3 = true := (hd ⟨3, .data⟩ (by simp) rfl); have q5 : L_ 5 = true := (hd ⟨5, .data⟩ (by simp) rfl); have e3 := HR.out.f3 q3; subst e3; have e5 := HR.out.f5 q5; subst e5; have HB3 := HR.out.b (HR.out.no6 hL); clear hd; refine step_app_at w_ rfl (.tmp 35) (.tmp 37) rfl W4.heap.size A h.m c1 h.rs rfl (HR.out.o3 q3 hL) _ (some ⟨f, 0, none⟩) 1 1 [r] rfl (raws_one (HR.out.x5 q5 hL)) (fun e => by cases e) (h.m + 1) rfl (by have := HSS.out.m; omega) HB3.size ?_; intro A5 c5 w5 hO5 hg5 _; have HR2 := qh (HR.out.s6 hL q3 q5 hO5 hg5); clear HB3 hO5 hg5; exact hK.out _ _ ⟨_, _, _, _, _, _, _, _, e, f, A, c1, A5, c5, rfl, qh (HR2.out)⟩
   ·rintro L_ a_ w_ hL hd ⟨v32, v33, v34, v35, v36, v37, v38, v39, e, f, A, c1, A2, c2, rfl, HR⟩ K hK; clear hd; go_simp; exact hK.out _ _ ⟨_, _, _, _, _, _, _, _, e, f, A, c1, A2, c2, rfl, qh (HR.out.s7)⟩
   ·rintro L_ a_ w_ hL hd ⟨v32, v33, v34, v35, v36, v37, v38, v39, e, f, A, c1, A2, c2, rfl, HR⟩ K hK; have q6 : L_ 6 = true := (hd ⟨6, .data⟩ (by simp) rfl); have e6 := HR.out.f6 q6; subst e6; have e7 := HR.out.f7 (hd ⟨7, .data⟩ (by simp) rfl); subst e7; have h8 : L_ 8 = false := hL; have HB3 := HR.out.b h8; have c9 := (HQ4.out.keep HB3).c 9; have f9 := (HQ4.out.keep HB3).f 9; simp at c9; clear hd HB3; go_simp; exact hK.out _ _ ⟨_, _, _, _, _, _, _, _, e, f, A, c1, A2, c2, rfl, qh (HR.out.s8 h8 q6)⟩
   ·rintro L_ a_ w_ hall ⟨v32, v33, v34, v35, v36, v37, v38, v39, e, f, A, c1, A2, c2, rfl, HR⟩; have HT := qh (HR.out.s (hall 8 (by simp))); clear hall; dsimp only [Exit.then]; go_step; go_meet; exact ⟨_, A2, c2, rfl, HT⟩
  case rest =>
   obtain ⟨Wz, A2, c2, rfl, HT⟩ := hcut
   have HX9 := qh (show Bx Wz w3.heap.size 31 (hc (h.more A2 (h.m + 1) c2 (h.rs ++ [r]))) from by
    obtain ⟨w5, hb5, hO5, e5⟩ := HT.out; rw [e5]; exact (HQ4.out.keep hb5).set 9 _)
   have HZ9 := qh (show Below w.heap.size w Wz ∧ Bx Wz (w.heap.size + 2) 31 zhc ∧ Raws Wz (fun b => W4.heap.size ≤ b ∧ b < Wz.heap.size) A2 (h.m + 1) (h.rs ++ [r]) from by
    obtain ⟨w5, hb5, hO5, e5⟩ := HT.out; have hl := HL4.out; have hs := HS4.out; rw [e5]; have hp := HP4.out.next hb5; exact ⟨hp.b.setCell (p := ⟨w3.heap.size, 9, none⟩) (by show w.heap.size ≤ w3.heap.size; omega) _, hp.z.far (by show w.heap.size + 2 ≠ w3.heap.size; omega) _, hO5.raws.keep (fun q hq => World.cell?_setCell_other _ _ _ _ fun e => by rw [← e] at hq; simp only at hq; omega) fun b hb => ⟨hb.1, by simpa using hb.2⟩⟩)
   have HFT := qh (show (h.m + 1 ≤ c2 ∧ (A2 = none → h.m + 1 = 0 ∧ c2 = 0)) from by
    obtain ⟨w5, hb5, hO5, e5⟩ := HT.out; exact hO5.fits)
   clear HT HP4 HQ4; have hx := HX9.out; have hz := HZ9.out.2.1; obtain ⟨x0, x1, x2, x3, x4, x5, x6, x7, x8, x9⟩ := qc10 hx; obtain ⟨z0, z1, z2, z3, z4, z5, z6, z7, z8, z9⟩ := qc10 hz; have fz0 := hz.f 0; have fz1 := hz.f 1; have fz2 := hz.f 2; have fz3 := hz.f 3; have fz4 := hz.f 4; have fz5 := hz.f 5; have fz6 := hz.f 6; have fz7 := hz.f 7; have fz8 := hz.f 8; have fz9 := hz.f 9; have hlx := hx.lt; have hlz := hz.lt; clear hx hz; go_wp2; obtain ⟨k7, hk7⟩ : ∃ k7, h.more A2 (h.m + 1) c2 (h.rs ++ [r]) = k7 := ⟨_, rfl⟩; change bodyPost _ _ _ _ _ (puth (w.heap.size + 2) (h.more A2 (h.m + 1) c2 (h.rs ++ [r])) Wz); rw [hk7]; have hq := (show Bx Wz (w.heap.size + 2) 31 (hc zhr) from HZ9.out.2.1).puth k7; clear z0 z1 z2 z3 z4 z5 z6 z7 z8 z9 fz0 fz1 fz2 fz3 fz4 fz5 fz6 fz7 fz8 fz9 hlx hlz; obtain ⟨z0, z1, z2, z3, z4, z5, z6, z7, z8, z9⟩ := qc10 hq; have e7 : hg (h.more A2 (h.m + 1) c2 (h.rs ++ [r])) = hg k7 := by rw [hk7]
   have hsz : (puth (w.heap.size + 2) k7 Wz).heap.size = Wz.heap.size := sets_size _ 0 Wz; have hbf : Below w.heap.size w (puth (w.heap.size + 2) k7 Wz) := sets_below _ (by omega) 0 Wz HZ9.out.1; rw [HPH.out, HQ.out, if_pos rfl]; refine bodyPost_ret (v := .tuple #[hg k7, .int .i64 0]) (by simp [results, Tryz.results35, go_sem, z0, z1, z2, z3, z4, z5, z6, z7, z8, z9]) rfl ⟨k7, rfl, ?_, ?_, ?_, hbf⟩
   ·rw [← hk7]; simp [Hr.v, Hr.more]
   ·rw [← hk7]; rw [hk7]; refine ⟨?_, ?_, fun x hx => ?_⟩
    ·rw [← hk7]; exact HM0.out.t.below (by rw [hk7]; exact hbf)
    ·rw [← hk7]
     exact HZ9.out.2.2.keep (fun q hq => by
      have hl := HL4.out; have hs := HS4.out; exact sets_other _ (by omega) 0 Wz) fun b hb => by rw [hk7, hsz]; exact hb.2
    ·rw [← hk7] at hx; rcases List.mem_append.1 hx with hx | hx
     ·exact (HM0.out.k x hx).below hbf
     ·simp at hx; subst hx; exact HCC.out.1.below hbf
   ·rw [← hk7]; refine ⟨HSS.out.n, by show h.m + 1 ≤ 2000; have := HLM.out; omega, fun x hx => ?_, HFT.out.2, HFT.out.1⟩; rcases List.mem_append.1 hx with hx | hx
    ·exact HSS.out.k x hx
    ·simp at hx; subst hx; exact HCC.out.2
end Tm
end Go.Proofs.YtfidmphajohljaaGreat
