/-
  The parts AcA, AcB, AcT of this proof. Conditions: those of each theorem.
-/
import Derived.Test.YtfidmphajohljaaGreatHq
import Derived.Test.YtfidmphajohljaaGreatMZa
import Derived.Test.YtfidmphajohljaaGreatMTm
import Derived.Test.YtfidmphajohljaaGreatKNu
import Derived.Defers
import Derived.Recover
import Derived.Laws.Pointers
import Derived.Test.YtfidmphajohljaaGreatMZc
set_option maxHeartbeats 4000000
set_option maxRecDepth 100000
set_option linter.unusedVariables false
namespace Go.Proofs.YtfidmphajohljaaGreat
open Go.RowKit Ba Cv Sp Te Ag Sl Tm
namespace Acr
abbrev er (k : Int) : Value := .iface 37 (.int .i64 k)
abbrev pnc (k : Int) : Ending := .panicked [{ v := er k, recovered := false }]
theorem need_yes (k : Int) (w : World) : Calls Tryz.prog 43 #[.bool true, .int .i64 k] w fun e w' => e = .returned (.tuple #[]) ∧ w = w' := by
 go_enter Tryz.func43, Tryz.ntmps43; go_wp2
 go_end0
 exact ⟨rfl, rfl⟩
theorem need_no (k : Int) (w : World) : Calls Tryz.prog 43 #[.bool false, .int .i64 k] w fun e w' => e = pnc k ∧ w = w' := by
 go_enter Tryz.func43, Tryz.ntmps43; go_wp2; exact ⟨rfl, rfl, rfl⟩
def fll (s : Sp) : Bool := decide (1 ≤ s.1 ∧ s.1 < s.2 ∧ s.2 ≤ 292195)
theorem full_ (x : Sp) (w : World) : Calls Tryz.prog 78 #[sg x] w fun e w' => e = .returned (.bool (fll x)) ∧ Below w.heap.size w w' := by
 have C := fun w => qh (span_right x w)
 have D := fun w => qh (span_many x w)
 obtain ⟨a, b⟩ := x; cases hr : rt (a, b)
 ·have hf : fll (a, b) = false := by
   have := (rt_not (a, b)).1 hr; exact decide_eq_false (by simp only at this ⊢; omega)
  rw [hf]; rw [hr] at C; clear hf hr D; go_enter Tryz.func78, Tryz.ntmps78
  go_wp2_with fail
  refine (C _).out.mono ?_; rintro e w1 ⟨rfl, hb⟩; have HB := qh hb; clear hb C; go_wp2; go_ret; exact ⟨rfl, ((Below.refl _ _).alloc (Nat.le_refl _) _).trans (HB.out.mono (by simp))⟩
 ·have hs := (rt_iff (a, b)).1 hr; have hm : mn (a, b) = b - a := by rw [mn, if_pos hr]
  have hf : fll (a, b) = decide (0 < b - a) := by
   unfold fll; rw [decide_eq_decide]; simp only at hs ⊢; omega
  rw [hf]; rw [hr] at C; rw [hm] at D; obtain ⟨h1, h2, h3⟩ := hs; simp only at h1 h2 h3; obtain ⟨z, hz⟩ : ∃ z, b - a = z := ⟨_, rfl⟩; rw [hz] at D ⊢; clear hf hm hr hz; go_enter Tryz.func78, Tryz.ntmps78
  go_wp2_with fail
  refine (C _).out.mono ?_; rintro e w1 ⟨rfl, hb⟩; obtain ⟨hc, hf⟩ := bcell hb; have HB := qh hb; clear hb C
  go_wp2_with fail
  refine (D _).out.mono ?_; rintro e w2 ⟨rfl, hb⟩; have HB2 := qh (HB.out.trans (hb.mono HB.out.size)); clear hb D hc hf HB; go_wp2; go_ret; exact ⟨rfl, ((Below.refl _ _).alloc (Nat.le_refl _) _).trans (HB2.out.mono (by simp))⟩
theorem assert_er (k : Int) (w : World) : (Instr.typeAssert (er k) 20 37 true).run Tryz.prog w = .ok (.tuple #[.int .i64 k, .bool true]) w := by
 have h := run_underlying (w := w) Tryz.underlying37; simp [Instr.typeAssert, h]
section
variable (p : Addr) (x k : Int) (older : List PanicEntry) (w : World)
theorem idleI : CallsD Tryz.prog 77 #[.pointer (some p)] .returning w fun e u' w' => e = .returned (.tuple #[]) ∧ u' = .returning ∧ w' = w := by
 refine callsD_of_wpS Tryz.func77 rfl fun c₀ cs hu => ?_
 apply wpS_seq; apply wpS_region; simp [wpOpsS, go_sem, recoverD, hu, Tryz.ntmps77, Exit.thenS]; refine wpS_of_wp ?_; go_wp2; cases c₀
 simp_all [bodyPostS, results, Tryz.results77]
theorem catchI (hc : w.cell? p = some (.int .i64 x)) (hz : w.frozen? p = false) : CallsD Tryz.prog 77 #[.pointer (some p)] (.panicking ({ v := er k, recovered := false } :: older)) w fun e u' w' => e = .returned (.tuple #[]) ∧ u' = .panicking ({ v := er k, recovered := true } :: older) ∧ w' = w.setCell p (.int .i64 k) := by
 refine callsD_of_wpS Tryz.func77 rfl fun c₀ cs hu => ?_
 apply wpS_seq; apply wpS_region; simp [wpOpsS, go_sem, recoverD, hu, Tryz.ntmps77, Exit.thenS]; have ha := fun w => assert_er k w
 refine wpS_of_wp ?_; clear hu; go_wp2
 simp_all [bodyPostS, results, Tryz.results77]
end
section
variable (p : Addr) (x k : Int) (older : List PanicEntry) (w : World)
end
def Bo (w : World) (b : Nat) (t : TypeId) (x : Value) : Prop := w.heap[b]? = some (.cells #[x] t (0, 0))
section
variable {w : World} {b : Nat} {t : TypeId} {x : Value} {w1 : World} {B : Nat}
theorem Bo.c (h : Bo w b t x) : w.cell? ⟨b, 0, none⟩ = some x := by rw [cell_of_row w b 0 _ _ _ h]; rfl
theorem Bo.f (h : Bo w b t x) : w.frozen? ⟨b, 0, none⟩ = false := by unfold Bo at h; simp [World.frozen?, h]
theorem Bo.below (h : Bo w b t x) (hb : Below B w w1) (hB : b < B) : Bo w1 b t x := (hb.block b hB).trans h
end
theorem Bo.new (w : World) (t : TypeId) (x : Value) : Bo (w.alloc (.cells #[x] t)) w.heap.size t x := heap_alloc_new w _
section
variable (k : FuncId) (cap : Array Value) (v c : Int) (w : World)
theorem answer_yes (hen : ∀ args w, (callFunc k args).run Tryz.prog w = .ok (.enter k args) w)
  (HC : Calls Tryz.prog k cap (w.alloc (.cells #[.int .i64 0] 37)) fun e w' => e = .returned (.int .i64 v) ∧ Below (w.heap.size + 1) (w.alloc (.cells #[.int .i64 0] 37)) w') :
  Calls Tryz.prog 40 #[.func (.func k) #[] cap] w fun e w' => e = .returned (.tuple #[.int .i64 v, .int .i64 0]) ∧ Below w.heap.size w w' := by
 have hmf : ∀ (fn : Fn) (first cap : Array Value) (w : World), (Instr.makeFunc fn first cap).run Tryz.prog w = .ok (.func fn first cap) w := fun _ _ _ _ => rfl
 have H0 := qh (Bo.new w 37 (.int .i64 0)); have B0 := qh (alloc_ w (.cells #[.int .i64 0] 37)); have HC := qh HC
 go_enter_defers Tryz.func40, Tryz.ntmps40
 go_wp2_with fail
 refine HC.out.mono ?_; rintro e w1 ⟨rfl, hb⟩; have H1 := H0.out.below hb (Nat.lt_succ_self _); have c1 := H1.c; have f1 := H1.f; have HB := qh (B0.out.trans (hb.mono (Nat.le_succ _))); clear hb; go_wp2; refine leaves_cons (f := 77) (args := #[.pointer (some ⟨w.heap.size, 0, none⟩)]) (by simp) (by simp [go_sem]) ?_; refine (idleI ⟨w.heap.size, 0, none⟩ _).mono ?_; rintro e u' w2 ⟨rfl, rfl, rfl⟩; simp [Leaves, settle, results, Tryz.results40, go_sem, c1]; exact HB.out.setCell (by simp) _
theorem answer_no (hen : ∀ args w, (callFunc k args).run Tryz.prog w = .ok (.enter k args) w)
  (HC : Calls Tryz.prog k cap (w.alloc (.cells #[.int .i64 0] 37)) fun e w' => e = pnc c ∧ Below (w.heap.size + 1) (w.alloc (.cells #[.int .i64 0] 37)) w') :
  Calls Tryz.prog 40 #[.func (.func k) #[] cap] w fun e w' => e = .returned (.tuple #[.int .i64 0, .int .i64 c]) ∧ Below w.heap.size w w' := by
 have hmf : ∀ (fn : Fn) (first cap : Array Value) (w : World), (Instr.makeFunc fn first cap).run Tryz.prog w = .ok (.func fn first cap) w := fun _ _ _ _ => rfl
 have H0 := qh (Bo.new w 37 (.int .i64 0)); have B0 := qh (alloc_ w (.cells #[.int .i64 0] 37)); have HC := qh HC
 go_enter_defers Tryz.func40, Tryz.ntmps40
 go_wp2_with fail
 refine HC.out.mono ?_; rintro e w1 ⟨rfl, hb⟩; have H1 := H0.out.below hb (Nat.lt_succ_self _); have c1 := H1.c; have f1 := H1.f; have HB := qh (B0.out.trans (hb.mono (Nat.le_succ _))); clear hb; go_wp2; refine leaves_cons (f := 77) (args := #[.pointer (some ⟨w.heap.size, 0, none⟩)]) (by simp) (by simp [go_sem]) ?_; refine (catchI ⟨w.heap.size, 0, none⟩ 0 c _ _ c1 f1).mono ?_; rintro e u' w2 ⟨rfl, rfl, rfl⟩; simp [Leaves, settle, results, Tryz.results40, go_sem, c1]; exact HB.out.setCell (by simp) _
end
section
variable (k : FuncId) (cap : Array Value) (c : Int) (w : World)
end
end Acr
end Go.Proofs.YtfidmphajohljaaGreat
namespace Go.Proofs.YtfidmphajohljaaGreat
open Go.RowKit Stm
namespace Stp
theorem lst_get {ps : List Pr} {held : Int} {m : Nat} (h : ps.length = m + 1) : (ps.map (·.2))[m]? = some (lst held ps) := by
  induction ps generalizing held m with
  | nil => simp at h
  | cons x r ih =>
    cases r with
    | nil => simp at h; subst h; rfl
    | cons y r =>
      cases m with
      | zero => simp at h
      | succ m =>
        rw [List.map_cons, List.getElem?_cons_succ]
        exact ih (held := x.2) (by simpa using h)
/-- Boxes that hold no ints stay. -/
def Kp (w w' : World) : Prop := ∀ (b : Nat) (cs : Array Value) (t : TypeId), t ≠ 3 → w.heap[b]? = some (.cells cs t (0, 0)) → w'.heap[b]? = some (.cells cs t (0, 0))
theorem Kp.of {w w' : World} (h : Below w.heap.size w w') : Kp w w' := fun b cs t _ hb => (h.block b (Array.getElem?_eq_some_iff.1 hb).1).trans hb
theorem Kp.trans {a b c : World} (h : Kp a b) (k : Kp b c) : Kp a c := fun i cs t ht hi => k i cs t ht (h i cs t ht hi)
/-- What turn gives, over an earlier world. -/
def TurnTo (w : World) (base : Nat) (ps : List Pr) (e : Ending) (w' : World) : Prop := ∃ A c V d, e = .returned (sg A ps.length c V ps.length d) ∧ OwnS w' base A ps.length c V ps.length d (ps.map (·.1)) (ps.map (·.2)) ∧ Below base w w' ∧ Kp w w'
abbrev tuW (w : World) (A : Option Addr) (n c : Nat) (V : Option Addr) (d : Nat) : World := (w.alloc (.cells #[.slice A n c, .slice V n d] 77)).alloc (.cells #[.slice none 0 0, .slice none 0 0] 77)
/-- What lies while turn appends. -/
structure TQ (w : World) (base : Nat) (A0 : Option Addr) (n0 c0 : Nat) (V0 : Option Addr) (d0 : Nat) (W : World) (A : Option Addr) (n c : Nat) (V : Option Addr) (m d : Nat) (xs vs : List Int) : Prop where
  own : OwnS W base A n c V m d xs vs
  x : Bx W w.heap.size 77 (.slice A0 n0 c0) (.slice V0 n0 d0)
  y : Bx W (w.heap.size + 1) 77 (.slice none 0 0) (.slice none 0 0)
  b : Below base w W
  lo : base ≤ w.heap.size
  k : Kp w W
section
variable {w W W2 : World} {base n0 c0 d0 n c m d : Nat} {A0 V0 A V : Option Addr} {xs vs : List Int}
theorem TQ.size (h : TQ w base A0 n0 c0 V0 d0 W A n c V m d xs vs) : base ≤ W.heap.size := Nat.le_trans h.lo h.b.size
theorem TQ.new (h : OwnS w base A n c V m d xs vs) (hb : base ≤ w.heap.size) : TQ w base A0 n0 c0 V0 d0 (tuW w A0 n0 c0 V0 d0) A n c V m d xs vs := by
  refine ⟨(h.alloc _).alloc _, (Bx.new w _ _ _).alloc _, ?_, ((Below.refl _ w).alloc hb _).alloc (by simp; omega) _, hb, Kp.of (((Below.refl _ w).alloc (Nat.le_refl _) _).alloc (by simp) _)⟩
  have := Bx.new (w.alloc (.cells #[.slice A0 n0 c0, .slice V0 n0 d0] 77)) 77 (.slice none 0 0) (.slice none 0 0)
  rwa [World.size_alloc] at this
theorem TQ.next (h : TQ w base A0 n0 c0 V0 d0 W A n c V m d xs vs) (hb : Below W.heap.size W W2) : TQ w base A0 n0 c0 V0 d0 W2 A n c V m d xs vs :=
  ⟨h.own.below hb, h.x.keep hb, h.y.keep hb, h.b.trans (hb.mono h.size), h.lo, h.k.trans (Kp.of hb)⟩
theorem TQ.appA (h : TQ w base A0 n0 c0 V0 d0 W A n c V m d xs vs) {A' : Option Addr} {n' c' : Nat} {zs : List Int} (hO : OwnI W2 base A' n' c' zs) (hg : W.grownBy W2 (Value.slice A n c).ownBlock) (hw : Wh W (.slice A n c) (.slice A' n' c')) : TQ w base A0 n0 c0 V0 d0 W2 A' n' c' V m d zs vs :=
  ⟨h.own.appA hO hg hw, cells_grown h.own.a h.x (by decide) hg, cells_grown h.own.a h.y (by decide) hg, h.b.trans (below_app h.own.a hg (Nat.le_refl _) h.size), h.lo, h.k.trans fun _ _ _ ht hb => cells_grown h.own.a hb ht hg⟩
theorem TQ.appV (h : TQ w base A0 n0 c0 V0 d0 W A n c V m d xs vs) {V' : Option Addr} {m' d' : Nat} {zs : List Int} (hO : OwnI W2 base V' m' d' zs) (hg : W.grownBy W2 (Value.slice V m d).ownBlock) (hw : Wh W (.slice V m d) (.slice V' m' d')) : TQ w base A0 n0 c0 V0 d0 W2 A n c V' m' d' xs zs :=
  ⟨h.own.appV hO hg hw, cells_grown h.own.v h.x (by decide) hg, cells_grown h.own.v h.y (by decide) hg, h.b.trans (below_app h.own.v hg (Nat.le_refl _) h.size), h.lo, h.k.trans fun _ _ _ ht hb => cells_grown h.own.v hb ht hg⟩
theorem TQ.cells (h : TQ w base A0 n0 c0 V0 d0 W A n c V m d xs vs) : W.cell? ⟨w.heap.size, 0, none⟩ = some (.slice A0 n0 c0) ∧ W.cell? ⟨w.heap.size, 1, none⟩ = some (.slice V0 n0 d0) := ⟨h.x.c0, h.x.c1⟩
end
theorem ints_keep {W W2 : World} {A : Option Addr} {n c g : Nat} {ys : List Int} (hg : W.grownBy W2 (Value.slice A n c).ownBlock) (hi : Ints W (g + 1) (some ⟨g, 0, none⟩) 1 ys) (hne : ∀ k, (Value.slice A n c).ownBlock = some k → k < g) (hl : g < W.heap.size) : Ints W2 (g + 1) (some ⟨g, 0, none⟩) 1 ys :=
  hi.blk (hg.block g hl (fun e => by have := hne g e.symm; omega))
theorem below_a1 (W : World) (o : Obj) : Below W.heap.size W (W.alloc o).drew := ⟨rfl, rfl, rfl, by simp [World.drew], fun k hk => Below.heap_alloc W o k hk⟩
theorem below_a2 (W : World) (o p : Obj) : Below W.heap.size W ((W.alloc o).alloc p).drew := ⟨rfl, rfl, rfl, by simp [World.drew]; omega, fun k hk => (Below.heap_alloc (W.alloc o) p k (by simp; omega)).trans (Below.heap_alloc W o k hk)⟩
theorem ints_d1 (W : World) (x : Int) : Ints (W.alloc (.cells #[.int .i64 x] 3)).drew (W.heap.size + 1) (some ⟨W.heap.size, 0, none⟩) 1 [x] := ints_new1 W x
theorem ints_d2 (W : World) (x : Int) (o : Obj) : Ints ((W.alloc (.cells #[.int .i64 x] 3)).alloc o).drew (W.heap.size + 1) (some ⟨W.heap.size, 0, none⟩) 1 [x] :=
  (ints_new1 W x).blk (Below.heap_alloc (W.alloc (.cells #[.int .i64 x] 3)) o _ (by simp))
theorem ints_d3 (W : World) (x : Int) (o : Obj) : Ints ((W.alloc o).alloc (.cells #[.int .i64 x] 3)).drew (W.heap.size + 1 + 1) (some ⟨W.heap.size + 1, 0, none⟩) 1 [x] := by
  have := ints_new1' (W.alloc o) x (W.heap.size + 1) (by simp)
  exact this
theorem TQ.done {w W : World} {base n0 c0 d0 n c d : Nat} {A0 V0 A V : Option Addr} {ps : List Pr} (h : TQ w base A0 n0 c0 V0 d0 W A n c V n d (ps.map (·.1)) (ps.map (·.2))) (x y : Value) : TurnTo w base ps (.returned (sg A n c V n d)) ((W.setCell ⟨w.heap.size + 1, 0, none⟩ x).setCell ⟨w.heap.size + 1, 1, none⟩ y) := by
  have hl : ps.length = n := by have := h.own.a.len; simpa using this
  subst hl
  have O1 := h.own.far (p := ⟨w.heap.size + 1, 0, none⟩) (h.own.a.not_box h.y (by decide)) (h.own.v.not_box h.y (by decide)) x
  have y1 := h.y.set0 x
  have O2 := O1.far (p := ⟨w.heap.size + 1, 1, none⟩) (O1.a.not_box y1 (by decide)) (O1.v.not_box y1 (by decide)) y
  have hlo := h.lo
  refine ⟨A, c, V, d, rfl, O2, (h.b.setCell (by simp; omega) _).setCell (by simp; omega) _, fun b cs t ht hb => ?_⟩
  have hl := (Array.getElem?_eq_some_iff.1 hb).1
  exact (Below.heap_setCell _ _ _ _ (by simp; omega)).trans ((Below.heap_setCell _ _ _ _ (by simp; omega)).trans (h.k b cs t ht hb))
theorem turn_same (w : World) (base : Nat) (A : Option Addr) (n c : Nat) (V : Option Addr) (d : Nat) (ps : List Pr) (day v : Int) (hO : OwnS w base A n c V n d (ps.map (·.1)) (ps.map (·.2))) (hb : base ≤ w.heap.size) (hn : n ≤ 10000) (h : v = lst 0 ps ∨ 292194 < day) :
    Calls Tryz.prog 79 #[sg A n c V n d, .int .i64 day, .int .i64 v] w (TurnTo w base ps) := by
  have hlen : ps.length = n := by have := hO.a.len; simpa using this
  have HQ := qh (TQ.new (A0 := A) (n0 := n) (c0 := c) (V0 := V) (d0 := d) hO hb)
  have HN := qh hn
  have t1 : ∀ g, lst 0 ps = g → (v == g || decide (292194 < day)) = true := fun g e => by rw [Bool.or_eq_true, decide_eq_true_iff, beq_iff_eq, ← e]; exact h
  clear hb hO hn h
  obtain ⟨W, hW⟩ : ∃ W, tuW w A n c V d = W := ⟨_, rfl⟩
  have HW := qh (show (w.alloc (Obj.cells #[Value.slice A n c, Value.slice V n d] 77)).alloc (Obj.cells #[Value.slice none 0 0, Value.slice none 0 0] 77) = W from hW)
  rw [hW] at HQ
  clear hW
  have x0 := HQ.out.x.c0
  have x1 := HQ.out.x.c1
  have y0 := HQ.out.y.c0
  have y1 := HQ.out.y.c1
  have y2 := HQ.out.y.f 0
  have y3 := HQ.out.y.f 1
  obtain ⟨p, hp⟩ : ∃ p, decide (292194 < day) = p := ⟨_, rfl⟩
  rw [hp] at t1
  cases n with
  | zero =>
    have e0 : ps = [] := List.eq_nil_of_length_eq_zero hlen
    have t1 := t1 0 (by rw [e0]; rfl)
    clear e0 hlen
    obtain ⟨q, hq⟩ : ∃ q, (v == 0) = q := ⟨_, rfl⟩
    rw [hq] at t1
    go_enter Tryz.func79, Tryz.ntmps79
    go_upto_region 1 with fail
    rw [HW.out]
    cases q <;> cases p <;> first | (exact absurd t1 (by decide)) | skip
    all_goals
      clear t1
      go_wp2
      have Z := (HQ.out.y.set0 (.slice A 0 c)).set1 (.slice V 0 d)
      exact bodyPost_ret (v := sg A 0 c V 0 d) (by simp [results, Tryz.results79, go_sem, Z.c0, Z.c1]) rfl (TQ.done HQ.out _ _)
  | succ m =>
    obtain ⟨ad, x, rfl, _, hx, hc⟩ := HQ.out.own.v.ints.1.get (Nat.lt_succ_self m)
    rw [lst_get (held := 0) hlen] at hx
    injection hx with hx
    have t1 := t1 x hx
    have em : ((m + 1 : Nat) : Int) - 1 = (m : Int) := by omega
    have ew : wrap64 (m : Int) = (m : Int) := IntWalk.wrap64_in _ (by have := HN.out; omega)
    clear hx hlen
    obtain ⟨q, hq⟩ : ∃ q, (v == x) = q := ⟨_, rfl⟩
    rw [hq] at t1
    go_enter Tryz.func79, Tryz.ntmps79
    go_upto_region 1 with fail
    rw [HW.out]
    cases q <;> cases p <;> first | (exact absurd t1 (by decide)) | skip
    all_goals
      clear t1
      go_wp2
      have Z := (HQ.out.y.set0 (.slice A (m + 1) c)).set1 (.slice (some ad) (m + 1) d)
      exact bodyPost_ret (v := sg A (m + 1) c (some ad) (m + 1) d) (by simp [results, Tryz.results79, go_sem, Z.c0, Z.c1]) rfl (TQ.done HQ.out _ _)
theorem turn_more (w : World) (base : Nat) (A : Option Addr) (n c : Nat) (V : Option Addr) (d : Nat) (ps : List Pr) (day v : Int) (hO : OwnS w base A n c V n d (ps.map (·.1)) (ps.map (·.2))) (hb : base ≤ w.heap.size) (hn : n ≤ 10000) (h : v ≠ lst 0 ps) (hd : day ≤ 292194) :
    Calls Tryz.prog 79 #[sg A n c V n d, .int .i64 day, .int .i64 v] w (TurnTo w base (ps ++ [(day, v)])) := by
  have hlen : ps.length = n := by have := hO.a.len; simpa using this
  have HQ := qh (TQ.new (A0 := A) (n0 := n) (c0 := c) (V0 := V) (d0 := d) hO hb)
  have t2 : decide (292194 < day) = false := decide_eq_false (by omega)
  have HN := qh hn
  have HI := qh hO.v.ints.1
  have HLN := qh hlen
  have t1 : ∀ g, lst 0 ps = g → (v == g) = false := fun g e => beq_eq_false_iff_ne.2 (fun h2 => h (h2.trans e.symm))
  clear hb hO hn hd h
  obtain ⟨W, hW⟩ : ∃ W, tuW w A n c V d = W := ⟨_, rfl⟩
  have HW := qh (show (w.alloc (Obj.cells #[Value.slice A n c, Value.slice V n d] 77)).alloc (Obj.cells #[Value.slice none 0 0, Value.slice none 0 0] 77) = W from hW)
  rw [hW] at HQ
  clear hW
  have HD1 := fun o => HQ.out.next (below_a1 W o)
  have HD2 := fun o p => HQ.out.next (below_a2 W o p)
  have ne0 : w.heap.size ≠ w.heap.size + 1 := by omega
  have x0 := HQ.out.x.c0
  have x1 := HQ.out.x.c1
  cases n with
  | zero =>
    have e0 : ps = [] := List.eq_nil_of_length_eq_zero hlen
    have t1 := t1 0 (by rw [e0]; rfl)
    clear e0 hlen
    go_enter Tryz.func79, Tryz.ntmps79
    go_upto_region 7 with fail
    rw [HW.out]
    go_region_held3 (fun w' => w'.cell? ⟨w.heap.size, 0, none⟩ = some (.slice A 0 c) ∧ w'.cell? ⟨w.heap.size, 1, none⟩ = some (.slice V 0 d))
      (first | exact ⟨x0, x1⟩ | exact (HD1 _).cells | exact (HD2 _ _).cells | exact HQ4.out.cells | exact (HQ4.out.next (Tm.alloc_ _ _)).cells | exact HQ9.out.cells | exact ⟨cst HQ9.out.cells.1 ne0 ne0, cst HQ9.out.cells.2 ne0 ne0⟩ | fail)
      (first
        | (refine step_appW _ (by rfl) (.tmp 29) (.tmp 31) (by rfl) base A 0 c _ (by rfl) (by first | exact (HD1 _).own.a | exact (HD2 _ _).own.a) _ _ 1 1 [day] (by rfl) (by first | exact ints_d1 _ _ | exact ints_d2 _ _ _ | exact ints_d3 _ _ _) (by omega) (by have := HN.out; omega) (by first | exact (HD1 _).size | exact (HD2 _ _).size) ?_
           intro A4 c4 W4 hO4 hg4 hw4
           have HQ4 := qh (TQ.appA (by first | exact HD1 _ | exact HD2 _ _) hO4 hg4 hw4)
           first
             | (have HV4 := qh (ints_keep hg4 (ints_d3 W v _) (fun k e => Nat.lt_succ_of_lt (HQ.out.own.a.lt k e).2) (by simp [World.drew])))
             | (have HV4 := qh (ints_keep hg4 (ints_d2 W v _) (fun k e => (HQ.out.own.a.lt k e).2) (by simp [World.drew]; omega)))
             | skip
           clear hO4 hg4 hw4)
        | (refine step_appW _ (by rfl) (.tmp 34) (.tmp 36) (by rfl) base V 0 d _ (by rfl) (by first | exact HQ4.out.own.v | exact (HQ4.out.next (Tm.alloc_ _ _)).own.v) _ _ 1 1 [v] (by rfl) (by first | exact HV4.out | exact ints_new1 _ _) (by omega) (by have := HN.out; omega) (by first | exact HQ4.out.size | exact (HQ4.out.next (Tm.alloc_ _ _)).size) ?_
           intro V9 d9 W9 hO9 hg9 hw9
           have HQ9 := qh (TQ.appV (by first | exact HQ4.out | exact HQ4.out.next (Tm.alloc_ _ _)) hO9 hg9 hw9)
           have y9 := HQ9.out.y.c0
           have z9 := HQ9.out.y.c1
           have y9f := HQ9.out.y.f 0
           have z9f := HQ9.out.y.f 1
           clear hO9 hg9 hw9)
        | fail)
    all_goals
      go_wp2
      have Z := (HQ9.out.y.set0 (.slice A4 (0 + 1) c4)).set1 (.slice V9 (0 + 1) d9)
      exact bodyPost_ret (v := sg A4 (0 + 1) c4 V9 (0 + 1) d9) (by simp [results, Tryz.results79, go_sem, Z.c0, Z.c1]) rfl (TQ.done (ps := ps ++ [(day, v)]) (by simpa using HQ9.out) _ _)
  | succ m =>
    obtain ⟨ad, x, rfl, _, hx, hc⟩ := HQ.out.own.v.ints.1.get (Nat.lt_succ_self m)
    rw [lst_get (held := 0) hlen] at hx
    injection hx with hx
    have t1 := t1 x hx
    have em : ((m + 1 : Nat) : Int) - 1 = (m : Int) := by omega
    have ew : wrap64 (m : Int) = (m : Int) := IntWalk.wrap64_in _ (by have := HN.out; omega)
    clear hx hlen
    go_enter Tryz.func79, Tryz.ntmps79
    go_upto_region 1 with fail
    rw [HW.out]
    go_upto_region 7 with fail
    go_region_held3 (fun w' => w'.cell? ⟨w.heap.size, 0, none⟩ = some (.slice A (m + 1) c) ∧ w'.cell? ⟨w.heap.size, 1, none⟩ = some (.slice (some ad) (m + 1) d))
      (first | exact ⟨x0, x1⟩ | exact (HD1 _).cells | exact (HD2 _ _).cells | exact HQ4.out.cells | exact (HQ4.out.next (Tm.alloc_ _ _)).cells | exact HQ9.out.cells | exact ⟨cst HQ9.out.cells.1 ne0 ne0, cst HQ9.out.cells.2 ne0 ne0⟩ | fail)
      (first
        | (refine step_appW _ (by rfl) (.tmp 29) (.tmp 31) (by rfl) base A (m + 1) c _ (by rfl) (by first | exact (HD1 _).own.a | exact (HD2 _ _).own.a) _ _ 1 1 [day] (by rfl) (by first | exact ints_d1 _ _ | exact ints_d2 _ _ _ | exact ints_d3 _ _ _) (by omega) (by have := HN.out; omega) (by first | exact (HD1 _).size | exact (HD2 _ _).size) ?_
           intro A4 c4 W4 hO4 hg4 hw4
           have HQ4 := qh (TQ.appA (by first | exact HD1 _ | exact HD2 _ _) hO4 hg4 hw4)
           first
             | (have HV4 := qh (ints_keep hg4 (ints_d3 W v _) (fun k e => Nat.lt_succ_of_lt (HQ.out.own.a.lt k e).2) (by simp [World.drew])))
             | (have HV4 := qh (ints_keep hg4 (ints_d2 W v _) (fun k e => (HQ.out.own.a.lt k e).2) (by simp [World.drew]; omega)))
             | skip
           clear hO4 hg4 hw4)
        | (refine step_appW _ (by rfl) (.tmp 34) (.tmp 36) (by rfl) base (some ad) (m + 1) d _ (by rfl) (by first | exact HQ4.out.own.v | exact (HQ4.out.next (Tm.alloc_ _ _)).own.v) _ _ 1 1 [v] (by rfl) (by first | exact HV4.out | exact ints_new1 _ _) (by omega) (by have := HN.out; omega) (by first | exact HQ4.out.size | exact (HQ4.out.next (Tm.alloc_ _ _)).size) ?_
           intro V9 d9 W9 hO9 hg9 hw9
           have HQ9 := qh (TQ.appV (by first | exact HQ4.out | exact HQ4.out.next (Tm.alloc_ _ _)) hO9 hg9 hw9)
           have y9 := HQ9.out.y.c0
           have z9 := HQ9.out.y.c1
           have y9f := HQ9.out.y.f 0
           have z9f := HQ9.out.y.f 1
           clear hO9 hg9 hw9)
        | fail)
    all_goals
      go_wp2
      have Z := (HQ9.out.y.set0 (.slice A4 (m + 1 + 1) c4)).set1 (.slice V9 (m + 1 + 1) d9)
      exact bodyPost_ret (v := sg A4 (m + 1 + 1) c4 V9 (m + 1 + 1) d9) (by simp [results, Tryz.results79, go_sem, Z.c0, Z.c1]) rfl (TQ.done (ps := ps ++ [(day, v)]) (by simpa using HQ9.out) _ _)
theorem turn_ (w : World) (base : Nat) (A : Option Addr) (n c : Nat) (V : Option Addr) (d : Nat) (ps : List Pr) (day v : Int) (hO : OwnS w base A n c V n d (ps.map (·.1)) (ps.map (·.2))) (hb : base ≤ w.heap.size) (hn : n ≤ 10000) :
    Calls Tryz.prog 79 #[sg A n c V n d, .int .i64 day, .int .i64 v] w (TurnTo w base (Acr.trn ps day v)) := by
  by_cases h : v = lst 0 ps ∨ 292194 < day
  · rw [show Acr.trn ps day v = ps from if_pos h]
    exact turn_same w base A n c V d ps day v hO hb hn h
  · rw [show Acr.trn ps day v = ps ++ [(day, v)] from if_neg h]
    exact turn_more w base A n c V d ps day v hO hb hn (fun e => h (.inl e)) (by omega)
end Stp
end Go.Proofs.YtfidmphajohljaaGreat
