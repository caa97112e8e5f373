/-
  The statement TermsTells holds: for every input the call returns true, and each argument reads afterwards as it read before. Conditions: none beside those that the row itself bears.
-/
import Derived.Test.YtaadhageloiiaaaGiven
import Derived.Test.YtaadhageloiiaaaRCov
namespace Go.Proofs.Ytaadhageloiiaaa.termsTells
open Go.ChangeShapes Go.WideShapes Go.ChangeAt Go.RowKit Ba Cv Sp Te Tm
set_option linter.unusedVariables false

/-- The terms' box. -/
structure TB (w W : World) (s : Sp) (r : Ri) (A : Option Addr) (n c : Nat) : Prop where
  b : Below w.heap.size w W
  x : Bx W w.heap.size 28 (tc s r A n c)
section
variable {w W W' : World} {s : Sp} {r : Ri} {A : Option Addr} {n c : Nat}
theorem TB.next (h : TB w W s r A n c) (hb : Below W.heap.size W W') : TB w W' s r A n c := ⟨h.b.trans (hb.mono h.b.size), h.x.keep hb⟩
theorem TB.start (w : World) (s : Sp) (r : Ri) (A : Option Addr) (n c : Nat) : TB w (w.alloc (.cells (tc s r A n c) 28)) s r A n c := ⟨alloc_ _ _, Bx.new _ _ _⟩
end
set_option maxRecDepth 100000 in
set_option maxHeartbeats 4000000 in
theorem way_no (w : World) (s : Sp) (r : Ri) (A : Option Addr) (n c : Nat) (ls : List Co) (g : GivenC w A n c ls) (B : Option Addr) (m d : Nat) (ks : List Co) (gk : GivenC w B m d ks) (p : Int) (h : 50 < n ∨ 50 < m) : Calls Try.prog 3 #[tg s r A n c, .slice B m d, .int .i64 p] w (Yes w true) := by
  have h' := Lib.hid h
  clear h
  obtain ⟨W, hW⟩ : ∃ W, w.alloc (.cells (tc s r A n c) 28) = W := ⟨_, rfl⟩
  have H0 := Lib.hid (show TB w W s r A n c by rw [← hW]; exact TB.start w s r A n c)
  have HW := Lib.hid hW
  clear hW
  go_enter Try.func3, Try.ntmps3
  go_wp2_with fail
  rw [HW.out]
  clear HW
  refine (awake_ _).mono ?_
  rintro e w1 ⟨rfl, hb1⟩
  have H1 := Lib.hid (H0.out.next hb1)
  clear hb1 H0
  have x0 := H1.out.x.c 0
  have x1 := H1.out.x.c 1
  have x2 := H1.out.x.c 2
  have x3 := H1.out.x.c 3
  have x4 := H1.out.x.c 4
  have x5 := H1.out.x.c 5
  have x6 := H1.out.x.c 6
  simp at x0 x1 x2 x3 x4 x5 x6
  by_cases h1 : 50 < n
  · have t1 : decide (50 < n) = true := decide_eq_true h1
    have t1' : decide (50 < (n : Int)) = true := decide_eq_true (by omega)
    go_wp2
    go_ret
    exact ⟨rfl, H1.out.b⟩
  · have h2 : 50 < m := by have := h'.out; omega
    have t1 : decide (50 < n) = false := decide_eq_false h1
    have t1' : decide (50 < (n : Int)) = false := decide_eq_false (by omega)
    have t2 : decide (50 < m) = true := decide_eq_true h2
    have t2' : decide (50 < (m : Int)) = true := decide_eq_true (by omega)
    go_wp2
    go_ret
    exact ⟨rfl, H1.out.b⟩

set_option maxRecDepth 100000 in
set_option maxHeartbeats 4000000 in
theorem way_yes (w : World) (s : Sp) (r : Ri) (A : Option Addr) (n c : Nat) (ls : List Co) (g : GivenC w A n c ls) (B : Option Addr) (m d : Nat) (ks : List Co) (gk : GivenC w B m d ks) (p : Int) (h1 : ¬ 50 < n) (h2 : ¬ 50 < m) : Calls Try.prog 3 #[tg s r A n c, .slice B m d, .int .i64 p] w (Yes w true) := by
  have t1 : decide (50 < n) = false := decide_eq_false h1
  have t1' : decide (50 < (n : Int)) = false := decide_eq_false (by omega)
  have t2 : decide (50 < m) = false := decide_eq_false h2
  have t2' : decide (50 < (m : Int)) = false := decide_eq_false (by omega)
  have CF : ∀ W : World, Below w.heap.size w W → Hid (Calls Try.prog 9 #[.slice B m d, .int .i64 p] W (Tm.Found W (fnd p ks))) := fun W h => Lib.hid (find_ B m d ks p W (gk.r.below h) gk.m)
  have CRF : ∀ W : World, Below w.heap.size w W → Hid (Calls Try.prog 10 #[.slice B m d, .int .i64 p] W (Tm.Found W (fnd p ks))) := fun W h => Lib.hid (rfind_ B m d ks p W (gk.r.below h) gk.m)
  have CC : ∀ W : World, Below w.heap.size w W → Hid (Calls Try.prog 11 #[.slice B m d] W (Yes W (cvr ks))) := fun W h => Lib.hid (covers_ B m d ks W (gk.r.below h) gk.m)
  have CRC : ∀ W : World, Below w.heap.size w W → Hid (Calls Try.prog 12 #[.slice B m d] W (Yes W (cvr ks))) := fun W h => Lib.hid (rcovers_ B m d ks W (gk.r.below h) gk.m)
  have CR : ∀ W : World, Below w.heap.size w W → Hid (Calls Try.prog 13 #[tg s r A n c] W (Yes W (te s r ls))) := fun W h => Lib.hid (right_ s r A n c ls W (g.r.below h) g.m)
  have CRR : ∀ W : World, Below w.heap.size w W → Hid (Calls Try.prog 14 #[tg s r A n c] W (Yes W (te s r ls))) := fun W h => Lib.hid (rright_ s r A n c ls W (g.r.below h) g.m)
  generalize fnd p ks = o at CF CRF
  obtain ⟨co, hco⟩ : ∃ co, o.getD zco = co := ⟨_, rfl⟩
  obtain ⟨ob, hob⟩ : ∃ ob, o.isSome = ob := ⟨_, rfl⟩
  unfold Tm.Found at CF CRF
  rw [hco, hob] at CF CRF
  generalize cvr ks = q at CC CRC
  generalize te s r ls = z at CR CRR
  clear hco hob g gk
  obtain ⟨W, hW⟩ : ∃ W, w.alloc (.cells (tc s r A n c) 28) = W := ⟨_, rfl⟩
  have H0 := Lib.hid (show TB w W s r A n c by rw [← hW]; exact TB.start w s r A n c)
  have HW := Lib.hid hW
  clear hW
  go_enter Try.func3, Try.ntmps3
  go_wp2_with fail
  rw [HW.out]
  clear HW
  refine (awake_ _).mono ?_
  rintro e w1 ⟨rfl, hb1⟩
  have H1 := Lib.hid (H0.out.next hb1)
  clear hb1 H0
  have x0 := H1.out.x.c 0
  have x1 := H1.out.x.c 1
  have x2 := H1.out.x.c 2
  have x3 := H1.out.x.c 3
  have x4 := H1.out.x.c 4
  have x5 := H1.out.x.c 5
  have x6 := H1.out.x.c 6
  simp at x0 x1 x2 x3 x4 x5 x6
  go_wp2_with fail
  refine ((CF _ H1.out.b).out).mono ?_
  rintro e w2 ⟨rfl, hb2⟩
  have H2 := Lib.hid (H1.out.next hb2)
  clear hb2 H1 x0 x1 x2 x3 x4 x5 x6
  have H2' := Lib.hid (H2.out.next (alloc_ w2 (.cells (cc co) 31)))
  have B2 := Lib.hid (Bx.new w2 31 (cc co))
  go_wp2_with fail
  refine (CRF _ H2'.out.b).out.mono ?_
  rintro e w3 ⟨rfl, hb3⟩
  have H3 := Lib.hid (H2'.out.next hb3)
  have B3 := Lib.hid (B2.out.keep hb3)
  clear hb3 H2' H2 B2 CF CRF
  have H4 := Lib.hid (H3.out.next (alloc_ w3 (.cells (cc co) 31)))
  have B4 := Lib.hid (B3.out.alloc (.cells (cc co) 31))
  have B5 := Lib.hid (show Bx (w3.alloc (.cells (cc co) 31)) w3.heap.size 31 (cc co) from Bx.new _ _ _)
  obtain ⟨w4, hw4⟩ : ∃ w4, w3.alloc (.cells (cc co) 31) = w4 := ⟨_, rfl⟩
  rw [hw4] at H4 B4 B5
  have HW4 := Lib.hid hw4
  clear hw4 H3 B3
  have x0 : ∀ p : Ext w4, p.W.cell? ⟨w.heap.size, 0, none⟩ = some (.int .i64 s.1) := fun p => H4.out.x.ext p 0
  have x1 : ∀ p : Ext w4, p.W.cell? ⟨w.heap.size, 1, none⟩ = some (.int .i64 s.2) := fun p => H4.out.x.ext p 1
  have x2 : ∀ p : Ext w4, p.W.cell? ⟨w.heap.size, 2, none⟩ = some (.int .i64 r.k) := fun p => H4.out.x.ext p 2
  have x3 : ∀ p : Ext w4, p.W.cell? ⟨w.heap.size, 3, none⟩ = some (.int .i64 r.v) := fun p => H4.out.x.ext p 3
  have x4 : ∀ p : Ext w4, p.W.cell? ⟨w.heap.size, 4, none⟩ = some (.int .i64 r.a) := fun p => H4.out.x.ext p 4
  have x5 : ∀ p : Ext w4, p.W.cell? ⟨w.heap.size, 5, none⟩ = some (.int .i64 r.z) := fun p => H4.out.x.ext p 5
  have x6 : ∀ p : Ext w4, p.W.cell? ⟨w.heap.size, 6, none⟩ = some (.slice A n c) := fun p => H4.out.x.ext p 6
  have y0 : ∀ p : Ext w4, p.W.cell? ⟨w2.heap.size, 0, none⟩ = some (.int .i64 co.p) := fun p => B4.out.ext p 0
  have y1 : ∀ p : Ext w4, p.W.cell? ⟨w2.heap.size, 1, none⟩ = some (.int .i64 co.l) := fun p => B4.out.ext p 1
  have y2 : ∀ p : Ext w4, p.W.cell? ⟨w2.heap.size, 2, none⟩ = some (.int .i64 co.g) := fun p => B4.out.ext p 2
  have y3 : ∀ p : Ext w4, p.W.cell? ⟨w2.heap.size, 3, none⟩ = some (.int .i64 co.d) := fun p => B4.out.ext p 3
  have y4 : ∀ p : Ext w4, p.W.cell? ⟨w2.heap.size, 4, none⟩ = some (.int .i64 co.s) := fun p => B4.out.ext p 4
  have z0 : ∀ p : Ext w4, p.W.cell? ⟨w3.heap.size, 0, none⟩ = some (.int .i64 co.p) := fun p => B5.out.ext p 0
  have z1 : ∀ p : Ext w4, p.W.cell? ⟨w3.heap.size, 1, none⟩ = some (.int .i64 co.l) := fun p => B5.out.ext p 1
  have z2 : ∀ p : Ext w4, p.W.cell? ⟨w3.heap.size, 2, none⟩ = some (.int .i64 co.g) := fun p => B5.out.ext p 2
  have z3 : ∀ p : Ext w4, p.W.cell? ⟨w3.heap.size, 3, none⟩ = some (.int .i64 co.d) := fun p => B5.out.ext p 3
  have z4 : ∀ p : Ext w4, p.W.cell? ⟨w3.heap.size, 4, none⟩ = some (.int .i64 co.s) := fun p => B5.out.ext p 4
  have C1 := fun (p : Ext w4) => CC p.W (H4.out.b.trans (p.b.mono H4.out.b.size))
  have C2 := fun (p : Ext w4) => CRC p.W (H4.out.b.trans (p.b.mono H4.out.b.size))
  have C3 := fun (p : Ext w4) => CR p.W (H4.out.b.trans (p.b.mono H4.out.b.size))
  have C4 := fun (p : Ext w4) => CRR p.W (H4.out.b.trans (p.b.mono H4.out.b.size))
  clear CC CRC CR CRR
  go_wp2_with fail
  rw [HW4.out]
  clear HW4
  have ne : Nonempty (Ext w4) := ⟨⟨w4, Below.refl _ _⟩⟩
  refine quietE (by kernel_rfl) (by kernel_rfl) ?_
  repeat (first | go_big_quiet_skip | quiet_step (first
    | (go_at_call 11; with_reducible exact ext_of (C1 _).out)
    | (go_at_call 12; with_reducible exact ext_of (C2 _).out)
    | (go_at_call 13; with_reducible exact ext_of (C3 _).out)
    | (go_at_call 14; with_reducible exact ext_of (C4 _).out)
    | fail))
  refine wpQuiet_nil ?_
  rintro _ ⟨p, rfl⟩
  have H5 := Lib.hid (H4.out.next p.b)
  generalize p.W = w5 at H5 ⊢
  clear C1 C2 C3 C4 ne H4 B4 B5 x0 x1 x2 x3 x4 x5 x6 y0 y1 y2 y3 y4 z0 z1 z2 z3 z4
  go_wp2
  go_ret
  exact ⟨rfl, H5.out.b⟩
theorem walk {w : World} (s : Sp) (r : Ri) (A : Option Addr) (n c : Nat) (ls : List Co) (g : GivenC w A n c ls) (B : Option Addr) (m d : Nat) (ks : List Co) (gk : GivenC w B m d ks) (p : Int) (_ : -9223372036854775808 ≤ p ∧ p ≤ 9223372036854775807) : Calls Try.prog 3 #[tg s r A n c, .slice B m d, .int .i64 p] w (Yes w true) := by
  by_cases h1 : 50 < n
  · exact way_no w s r A n c ls g B m d ks gk p (.inl h1)
  by_cases h2 : 50 < m
  · exact way_no w s r A n c ls g B m d ks gk p (.inr h2)
  exact way_yes w s r A n c ls g B m d ks gk p h1 h2

set_option maxRecDepth 100000 in
theorem lifted (os : Os) (started : os.Started) (H : Type) (enc : TypeId × Value → H) :
    ReturnsInHanded {} Try.checked os 3 .any (Rows.termsTellsSpec.pre6 enc Try.prog Try.f3 Rows.termsTellsRow.domain false) (Rows.termsTellsSpec.post enc Try.prog Try.f3 false true false false) := by
  refine returnsInHanded_of_change (C := Try.checked) Tm.own started (by kernel_rfl) Try.func3
    (ChangeSpec.witness6 (enc := enc) (C := Try.checked) false ⟨#[], #[.agg #[.int .i64 0, .int .i64 0, .int .i64 0, .int .i64 0, .int .i64 0, .int .i64 0, .slice none 0 0], .slice none 0 0, .int .i64 0], []⟩ 8 (by kernel_rfl) (by kernel_rfl) (by kernel_rfl) (by kernel_rfl)) ?_
  intro W base args ds gs before hval0 hW hcnd _
  have hval : ∀ (j : Nat) t v, Try.f3.params[j]? = some t → args[j]? = some v → Value.okWide Try.prog W .any base t v := hval0
  have hW' := hW
  obtain ⟨p, q, hA0, hV, rfl, hfz, hnd⟩ := hW
  have hA : DataW.TrodAll enc Try.prog W 0 (fun _ => true) true Try.f3.params.toList args.toList ds p := hA0
  rw [Try.params3] at hA hval
  obtain ⟨v0, vs0, d0, ds0, p0, q0, hargs, rfl, rfl, h0, r0⟩ := trodAll_cons hA
  obtain ⟨v1, vs1, d1, ds1, p1, q1, rfl, rfl, rfl, h1, r1⟩ := trodAll_cons r0
  obtain ⟨v2, vs2, d2, ds2, p2, q2, rfl, rfl, rfl, h2, r2⟩ := trodAll_cons r1
  obtain ⟨rfl, rfl, rfl⟩ := trodAll_nil r2
  obtain rfl : args = #[v0, v1, v2] := by cases args; simp_all
  obtain ⟨rfl, rfl⟩ := trodVars_none hV
  have k0 := h0
  have lt0 : ∀ x ∈ p0, x.block < W.heap.size := by obtain ⟨m, hm⟩ := k0; exact DataW.trod_lt m _ _ _ hm
  obtain ⟨s0, x0, A0, n0, e0, l0, rfl, g0⟩ := Tm.open_terms (hval 0 28 v0 rfl rfl) h0
  have k1 := h1
  have lt1 : ∀ x ∈ p1, x.block < W.heap.size := by obtain ⟨m, hm⟩ := k1; exact DataW.trod_lt m _ _ _ hm
  obtain ⟨A1, n1, e1, l1, rfl, g1⟩ := Tm.open_covers (hval 1 26 v1 rfl rfl) h1
  obtain ⟨a2, rfl, rfl, rfl, w2⟩ := open_int Try.underlying3 (hval 2 3 v2 rfl rfl) h2
  clear hA0 hval0
  refine (walk s0 x0 A0 n0 e0 l0 g0 A1 n1 e1 l1 g1 a2 (Tm.i64_of w2)).mono fun e W' ⟨he, bel⟩ => ?_
  subst he
  exact ⟨_, rfl, _, _, _, [], _, [], hW', trodAll_mk1 (shut_bool Try.underlying4 _), (trodAll_cons_mk (Below.trod Tm.laidOut (by kernel_rfl) (of_decide_eq_true (by kernel_rfl)) k0 bel lt0) (trodAll_cons_mk (Below.trod Tm.laidOut (by kernel_rfl) (of_decide_eq_true (by kernel_rfl)) k1 bel lt1) (trodAll_cons_mk (shut_int Try.underlying3 w2) trodAll_mk0))), rfl, bel.frame _, fun h => by cases h⟩

theorem over : Rows.termsTellsRow.holds Try.pinned (OpenSpec.ofChange Rows.termsTellsSpec) :=
  OpenClaim.holds_of_wide 3 Try.f3 rfl rfl rfl rfl rfl rfl rfl ⟨rfl, rfl, rfl, rfl, rfl⟩ rfl rfl rfl rfl rfl (by kernel_rfl) Try.func3 (by kernel_rfl)
    (of_decide_eq_true (by kernel_rfl)) (by unfold Func.isWrapper; first | (rw [if_pos (by decide +kernel)]; kernel_rfl) | (rw [if_neg (by decide +kernel)]; exact ⟨rfl, rfl⟩))
    (fun os started H enc _ => lifted os started H enc)

theorem proved : Rows.TermsTellsSaid := over
end Go.Proofs.Ytaadhageloiiaaa.termsTells
