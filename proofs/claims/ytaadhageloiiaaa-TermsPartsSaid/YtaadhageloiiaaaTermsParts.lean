/-
  The statement TermsParts holds: for every input the call returns true, and each argument reads afterwards as it read before. Conditions: none beside those that the row itself bears.
-/
import Derived.Test.YtaadhageloiiaaaGiven
import Derived.Test.YtaadhageloiiaaaRCov
namespace Go.Proofs.Ytaadhageloiiaaa.termsParts
open Go.ChangeShapes Go.WideShapes Go.ChangeAt Go.RowKit Ba Cv Sp Te Tm
set_option linter.unusedVariables false

/-- The terms' box. -/
structure TB (w W : World) (s : Sp) (r : Ri) (A : Option Addr) (n c : Nat) : Prop where
  b : Below w.heap.size w W
  x : Bx W w.heap.size 28 (tc s r A n c)
section
variable {w W W' : World} {s : Sp} {r : Ri} {A : Option Addr} {n c : Nat}
theorem TB.next (h : TB w W s r A n c) (hb : Below W.heap.size W W') : TB w W' s r A n c := ⟨h.b.trans (hb.mono h.b.size), h.x.keep hb⟩
theorem TB.start (w : World) (s : Sp) (r : Ri) (A : Option Addr) (n c : Nat) : TB w (w.alloc (.cells (tc s r A n c) 28)) s r A n c := ⟨alloc_ _ _, Bx.new _ _ _⟩
end
/-- The terms' box and the risk's. -/
structure TR (w W : World) (s : Sp) (r : Ri) (A : Option Addr) (n c : Nat) (q : Ri) : Prop extends TB w W s r A n c where
  y : Bx W (w.heap.size + 1) 25 (rc q)
section
variable {w W W' : World} {s : Sp} {r q : Ri} {A : Option Addr} {n c : Nat}
theorem TR.next (h : TR w W s r A n c q) (hb : Below W.heap.size W W') : TR w W' s r A n c q := ⟨h.toTB.next hb, h.y.keep hb⟩
theorem TR.start (w : World) (s : Sp) (r : Ri) (A : Option Addr) (n c : Nat) (q : Ri) : TR w ((w.alloc (.cells (tc s r A n c) 28)).alloc (.cells (rc q) 25)) s r A n c q := by
  refine ⟨(TB.start w s r A n c).next (alloc_ _ _), ?_⟩
  have := Bx.new (w.alloc (.cells (tc s r A n c) 28)) 25 (rc q)
  rw [World.size_alloc] at this
  exact this
end
set_option maxRecDepth 100000 in
set_option maxHeartbeats 4000000 in
theorem way_far1 (w : World) (s : Sp) (r : Ri) (A : Option Addr) (n c : Nat) (ls : List Co) (g : GivenC w A n c ls) (q : Ri) (B : Option Addr) (m d : Nat) (ks : List Co) (gk : GivenC w B m d ks) (h1 : 50 < n) : Calls Try.prog 7 #[tg s r A n c, rg q, .slice B m d] w (Yes w true) := by
  have t1 : decide (50 < n) = true := decide_eq_true h1
  have t1' : decide (50 < (n : Int)) = true := decide_eq_true (by omega)
  obtain ⟨W, hW⟩ : ∃ W, ((w.alloc (.cells (tc s r A n c) 28)).alloc (.cells (rc q) 25)) = W := ⟨_, rfl⟩
  have H0 := Lib.hid (show TR w W s r A n c q by rw [← hW]; exact TR.start w s r A n c q)
  have HW := Lib.hid hW
  clear hW
  go_enter Try.func7, Try.ntmps7
  go_wp2_with fail
  rw [HW.out]
  clear HW
  refine (awake_ _).mono ?_
  rintro e w1 ⟨rfl, hb1⟩
  have H1 := Lib.hid (H0.out.next hb1)
  clear hb1 H0
  have x0 := H1.out.x.c 0
  have x1 := H1.out.x.c 1
  have x2 := H1.out.x.c 2
  have x3 := H1.out.x.c 3
  have x4 := H1.out.x.c 4
  have x5 := H1.out.x.c 5
  have x6 := H1.out.x.c 6
  simp at x0 x1 x2 x3 x4 x5 x6
  go_wp2
  go_ret
  exact ⟨rfl, H1.out.b⟩

set_option maxRecDepth 100000 in
set_option maxHeartbeats 4000000 in
theorem way_far2 (w : World) (s : Sp) (r : Ri) (A : Option Addr) (n c : Nat) (ls : List Co) (g : GivenC w A n c ls) (q : Ri) (B : Option Addr) (m d : Nat) (ks : List Co) (gk : GivenC w B m d ks) (h1 : ¬ 50 < n) (h2 : 50 < m) : Calls Try.prog 7 #[tg s r A n c, rg q, .slice B m d] w (Yes w true) := by
  have t1 : decide (50 < n) = false := decide_eq_false h1
  have t1' : decide (50 < (n : Int)) = false := decide_eq_false (by omega)
  have t2 : decide (50 < m) = true := decide_eq_true h2
  have t2' : decide (50 < (m : Int)) = true := decide_eq_true (by omega)
  obtain ⟨W, hW⟩ : ∃ W, ((w.alloc (.cells (tc s r A n c) 28)).alloc (.cells (rc q) 25)) = W := ⟨_, rfl⟩
  have H0 := Lib.hid (show TR w W s r A n c q by rw [← hW]; exact TR.start w s r A n c q)
  have HW := Lib.hid hW
  clear hW
  go_enter Try.func7, Try.ntmps7
  go_wp2_with fail
  rw [HW.out]
  clear HW
  refine (awake_ _).mono ?_
  rintro e w1 ⟨rfl, hb1⟩
  have H1 := Lib.hid (H0.out.next hb1)
  clear hb1 H0
  have x0 := H1.out.x.c 0
  have x1 := H1.out.x.c 1
  have x2 := H1.out.x.c 2
  have x3 := H1.out.x.c 3
  have x4 := H1.out.x.c 4
  have x5 := H1.out.x.c 5
  have x6 := H1.out.x.c 6
  simp at x0 x1 x2 x3 x4 x5 x6
  go_wp2
  go_ret
  exact ⟨rfl, H1.out.b⟩

set_option maxRecDepth 100000 in
set_option maxHeartbeats 4000000 in
theorem way_no (w : World) (s : Sp) (r : Ri) (A : Option Addr) (n c : Nat) (ls : List Co) (g : GivenC w A n c ls) (q : Ri) (B : Option Addr) (m d : Nat) (ks : List Co) (gk : GivenC w B m d ks) (h1 : ¬ 50 < n) (h2 : ¬ 50 < m) (C : ∀ W : World, Below w.heap.size w W → Hid (Calls Try.prog 13 #[tg s r A n c] W (Yes W false))) : Calls Try.prog 7 #[tg s r A n c, rg q, .slice B m d] w (Yes w true) := by
  have t1 : decide (50 < n) = false := decide_eq_false h1
  have t1' : decide (50 < (n : Int)) = false := decide_eq_false (by omega)
  have t2 : decide (50 < m) = false := decide_eq_false h2
  have t2' : decide (50 < (m : Int)) = false := decide_eq_false (by omega)
  obtain ⟨W, hW⟩ : ∃ W, ((w.alloc (.cells (tc s r A n c) 28)).alloc (.cells (rc q) 25)) = W := ⟨_, rfl⟩
  have H0 := Lib.hid (show TR w W s r A n c q by rw [← hW]; exact TR.start w s r A n c q)
  have HW := Lib.hid hW
  clear hW
  go_enter Try.func7, Try.ntmps7
  go_wp2_with fail
  rw [HW.out]
  clear HW
  refine (awake_ _).mono ?_
  rintro e w1 ⟨rfl, hb1⟩
  have H1 := Lib.hid (H0.out.next hb1)
  clear hb1 H0
  have x0 := H1.out.x.c 0
  have x1 := H1.out.x.c 1
  have x2 := H1.out.x.c 2
  have x3 := H1.out.x.c 3
  have x4 := H1.out.x.c 4
  have x5 := H1.out.x.c 5
  have x6 := H1.out.x.c 6
  simp at x0 x1 x2 x3 x4 x5 x6
  go_wp2_with fail
  refine ((C _ H1.out.b).out).mono ?_
  rintro e w2 ⟨rfl, hb2⟩
  have H2 := Lib.hid (H1.out.next hb2)
  clear hb2 H1 x0 x1 x2 x3 x4 x5 x6
  go_wp2
  go_ret
  exact ⟨rfl, H2.out.b⟩

set_option maxRecDepth 100000 in
set_option maxHeartbeats 4000000 in
theorem way_yes (w : World) (s : Sp) (r : Ri) (A : Option Addr) (n c : Nat) (ls : List Co) (g : GivenC w A n c ls) (q : Ri) (B : Option Addr) (m d : Nat) (ks : List Co) (gk : GivenC w B m d ks) (h1 : ¬ 50 < n) (h2 : ¬ 50 < m) (C : ∀ W : World, Below w.heap.size w W → Hid (Calls Try.prog 13 #[tg s r A n c] W (Yes W true))) (z1 z2 : Bool)
    (CX : ∀ W : World, Below w.heap.size w W → Hid (Calls Try.prog 13 #[tg s q A n c] W (Yes W z1))) (CY : ∀ W : World, Below w.heap.size w W → Hid (Calls Try.prog 13 #[tg s r B m d] W (Yes W z2))) (CQ : ∀ W : World, Below w.heap.size w W → Hid (Calls Try.prog 16 #[rg q] W (Yes W z1))) (CL : ∀ W : World, Below w.heap.size w W → Hid (Calls Try.prog 11 #[.slice B m d] W (Yes W z2))) : Calls Try.prog 7 #[tg s r A n c, rg q, .slice B m d] w (Yes w true) := by
  have t1 : decide (50 < n) = false := decide_eq_false h1
  have t1' : decide (50 < (n : Int)) = false := decide_eq_false (by omega)
  have t2 : decide (50 < m) = false := decide_eq_false h2
  have t2' : decide (50 < (m : Int)) = false := decide_eq_false (by omega)
  obtain ⟨W, hW⟩ : ∃ W, ((w.alloc (.cells (tc s r A n c) 28)).alloc (.cells (rc q) 25)) = W := ⟨_, rfl⟩
  have H0 := Lib.hid (show TR w W s r A n c q by rw [← hW]; exact TR.start w s r A n c q)
  have HW := Lib.hid hW
  clear hW
  go_enter Try.func7, Try.ntmps7
  go_wp2_with fail
  rw [HW.out]
  clear HW
  refine (awake_ _).mono ?_
  rintro e w1 ⟨rfl, hb1⟩
  have H1 := Lib.hid (H0.out.next hb1)
  clear hb1 H0
  have x0 := H1.out.x.c 0
  have x1 := H1.out.x.c 1
  have x2 := H1.out.x.c 2
  have x3 := H1.out.x.c 3
  have x4 := H1.out.x.c 4
  have x5 := H1.out.x.c 5
  have x6 := H1.out.x.c 6
  simp at x0 x1 x2 x3 x4 x5 x6
  go_wp2_with fail
  refine ((C _ H1.out.b).out).mono ?_
  rintro e w2 ⟨rfl, hb2⟩
  have H2 := Lib.hid (H1.out.next hb2)
  clear hb2 H1 x0 x1 x2 x3 x4 x5 x6
  have x0 := H2.out.x.c 0
  have x1 := H2.out.x.c 1
  have x2 := H2.out.x.c 2
  have x3 := H2.out.x.c 3
  have x4 := H2.out.x.c 4
  have x5 := H2.out.x.c 5
  have x6 := H2.out.x.c 6
  simp at x0 x1 x2 x3 x4 x5 x6
  have y0 := H2.out.y.c 0
  have y1 := H2.out.y.c 1
  have y2 := H2.out.y.c 2
  have y3 := H2.out.y.c 3
  simp at y0 y1 y2 y3
  have l0 := H2.out.x.lt
  have l1 := H2.out.y.lt
  obtain ⟨w4, hw4⟩ : ∃ w4, ((w2.alloc (.cells (tc s q A n c) 28)).alloc (.cells (tc s r B m d) 28)) = w4 := ⟨_, rfl⟩
  have H4 := Lib.hid (hw4 ▸ (H2.out.next (alloc_ w2 (.cells (tc s q A n c) 28))).next (alloc_ _ (.cells (tc s r B m d) 28)))
  have X4 := Lib.hid (hw4 ▸ (Bx.new w2 28 (tc s q A n c)).alloc (.cells (tc s r B m d) 28))
  have Y4 := Lib.hid (show Bx w4 (w2.heap.size + 1) 28 (tc s r B m d) by
    have := Bx.new (w2.alloc (.cells (tc s q A n c) 28)) 28 (tc s r B m d)
    rw [World.size_alloc] at this
    rw [← hw4]
    exact this)
  have HW4 := Lib.hid hw4
  clear hw4
  go_wp2_with fail
  rw [HW4.out]
  clear HW4 H2 l0 l1 x0 x1 x2 x3 x4 x5 x6 y0 y1 y2 y3
  have y0 : ∀ p : Ext w4, p.W.cell? ⟨w.heap.size + 1, 0, none⟩ = some (.int .i64 q.k) := fun p => H4.out.y.ext p 0
  have y1 : ∀ p : Ext w4, p.W.cell? ⟨w.heap.size + 1, 1, none⟩ = some (.int .i64 q.v) := fun p => H4.out.y.ext p 1
  have y2 : ∀ p : Ext w4, p.W.cell? ⟨w.heap.size + 1, 2, none⟩ = some (.int .i64 q.a) := fun p => H4.out.y.ext p 2
  have y3 : ∀ p : Ext w4, p.W.cell? ⟨w.heap.size + 1, 3, none⟩ = some (.int .i64 q.z) := fun p => H4.out.y.ext p 3
  have x0 : ∀ p : Ext w4, p.W.cell? ⟨w2.heap.size, 0, none⟩ = some (.int .i64 s.1) := fun p => X4.out.ext p 0
  have x1 : ∀ p : Ext w4, p.W.cell? ⟨w2.heap.size, 1, none⟩ = some (.int .i64 s.2) := fun p => X4.out.ext p 1
  have x2 : ∀ p : Ext w4, p.W.cell? ⟨w2.heap.size, 2, none⟩ = some (.int .i64 q.k) := fun p => X4.out.ext p 2
  have x3 : ∀ p : Ext w4, p.W.cell? ⟨w2.heap.size, 3, none⟩ = some (.int .i64 q.v) := fun p => X4.out.ext p 3
  have x4 : ∀ p : Ext w4, p.W.cell? ⟨w2.heap.size, 4, none⟩ = some (.int .i64 q.a) := fun p => X4.out.ext p 4
  have x5 : ∀ p : Ext w4, p.W.cell? ⟨w2.heap.size, 5, none⟩ = some (.int .i64 q.z) := fun p => X4.out.ext p 5
  have x6 : ∀ p : Ext w4, p.W.cell? ⟨w2.heap.size, 6, none⟩ = some (.slice A n c) := fun p => X4.out.ext p 6
  have z0 : ∀ p : Ext w4, p.W.cell? ⟨w2.heap.size + 1, 0, none⟩ = some (.int .i64 s.1) := fun p => Y4.out.ext p 0
  have z1 : ∀ p : Ext w4, p.W.cell? ⟨w2.heap.size + 1, 1, none⟩ = some (.int .i64 s.2) := fun p => Y4.out.ext p 1
  have z2 : ∀ p : Ext w4, p.W.cell? ⟨w2.heap.size + 1, 2, none⟩ = some (.int .i64 r.k) := fun p => Y4.out.ext p 2
  have z3 : ∀ p : Ext w4, p.W.cell? ⟨w2.heap.size + 1, 3, none⟩ = some (.int .i64 r.v) := fun p => Y4.out.ext p 3
  have z4 : ∀ p : Ext w4, p.W.cell? ⟨w2.heap.size + 1, 4, none⟩ = some (.int .i64 r.a) := fun p => Y4.out.ext p 4
  have z5 : ∀ p : Ext w4, p.W.cell? ⟨w2.heap.size + 1, 5, none⟩ = some (.int .i64 r.z) := fun p => Y4.out.ext p 5
  have z6 : ∀ p : Ext w4, p.W.cell? ⟨w2.heap.size + 1, 6, none⟩ = some (.slice B m d) := fun p => Y4.out.ext p 6
  have C1 := fun (p : Ext w4) => CX p.W (H4.out.b.trans (p.b.mono H4.out.b.size))
  have C2 := fun (p : Ext w4) => CQ p.W (H4.out.b.trans (p.b.mono H4.out.b.size))
  have C3 := fun (p : Ext w4) => CY p.W (H4.out.b.trans (p.b.mono H4.out.b.size))
  have C4 := fun (p : Ext w4) => CL p.W (H4.out.b.trans (p.b.mono H4.out.b.size))
  clear C CX CQ CY CL
  have ne : Nonempty (Ext w4) := ⟨⟨w4, Below.refl _ _⟩⟩
  refine quietE (by kernel_rfl) (by kernel_rfl) ?_
  repeat (first | go_big_quiet_skip | quiet_step (first
    | (go_at_call 13; with_reducible exact ext_of (C1 _).out)
    | (go_at_call 16; with_reducible exact ext_of (C2 _).out)
    | (go_at_call 13; with_reducible exact ext_of (C3 _).out)
    | (go_at_call 11; with_reducible exact ext_of (C4 _).out)
    | fail))
  refine wpQuiet_nil ?_
  rintro _ ⟨p, rfl⟩
  have H5 := Lib.hid (H4.out.next p.b)
  generalize p.W = w5 at H5 ⊢
  clear C1 C2 C3 C4 ne H4 X4 Y4 x0 x1 x2 x3 x4 x5 x6 y0 y1 y2 y3 z0 z1 z2 z3 z4 z5 z6
  go_wp2
  go_ret
  exact ⟨rfl, H5.out.b⟩

theorem walk {w : World} (s : Sp) (r : Ri) (A : Option Addr) (n c : Nat) (ls : List Co) (g : GivenC w A n c ls) (q : Ri) (B : Option Addr) (m d : Nat) (ks : List Co) (gk : GivenC w B m d ks) : Calls Try.prog 7 #[tg s r A n c, rg q, .slice B m d] w (Yes w true) := by
  by_cases h1 : 50 < n
  · exact way_far1 w s r A n c ls g q B m d ks gk h1
  by_cases h2 : 50 < m
  · exact way_far2 w s r A n c ls g q B m d ks gk h1 h2
  have C : ∀ W : World, Below w.heap.size w W → Hid (Calls Try.prog 13 #[tg s r A n c] W (Yes W (te s r ls))) := fun W h => Lib.hid (right_ s r A n c ls W (g.r.below h) g.m)
  cases ht : te s r ls
  · rw [ht] at C
    exact way_no w s r A n c ls g q B m d ks gk h1 h2 C
  rw [ht] at C
  have CX : ∀ W : World, Below w.heap.size w W → Hid (Calls Try.prog 13 #[tg s q A n c] W (Yes W (te s q ls))) := fun W h => Lib.hid (right_ s q A n c ls W (g.r.below h) g.m)
  have CY : ∀ W : World, Below w.heap.size w W → Hid (Calls Try.prog 13 #[tg s r B m d] W (Yes W (te s r ks))) := fun W h => Lib.hid (right_ s r B m d ks W (gk.r.below h) gk.m)
  rw [te_risk ht] at CX
  rw [te_covers ht] at CY
  exact way_yes w s r A n c ls g q B m d ks gk h1 h2 C _ _ CX CY (fun W _ => Lib.hid (risk_right q.k q.v q.a q.z W)) (fun W h => Lib.hid (covers_ B m d ks W (gk.r.below h) gk.m))

set_option maxRecDepth 100000 in
theorem lifted (os : Os) (started : os.Started) (H : Type) (enc : TypeId × Value → H) :
    ReturnsInHanded {} Try.checked os 7 .any (Rows.termsPartsSpec.pre6 enc Try.prog Try.f7 Rows.termsPartsRow.domain false) (Rows.termsPartsSpec.post enc Try.prog Try.f7 false true false false) := by
  refine returnsInHanded_of_change (C := Try.checked) Tm.own started (by kernel_rfl) Try.func7
    (ChangeSpec.witness6 (enc := enc) (C := Try.checked) false ⟨#[], #[.agg #[.int .i64 0, .int .i64 0, .int .i64 0, .int .i64 0, .int .i64 0, .int .i64 0, .slice none 0 0], .agg #[.int .i64 0, .int .i64 0, .int .i64 0, .int .i64 0], .slice none 0 0], []⟩ 8 (by kernel_rfl) (by kernel_rfl) (by kernel_rfl) (by kernel_rfl)) ?_
  intro W base args ds gs before hval0 hW hcnd _
  have hval : ∀ (j : Nat) t v, Try.f7.params[j]? = some t → args[j]? = some v → Value.okWide Try.prog W .any base t v := hval0
  have hW' := hW
  obtain ⟨p, q, hA0, hV, rfl, hfz, hnd⟩ := hW
  have hA : DataW.TrodAll enc Try.prog W 0 (fun _ => true) true Try.f7.params.toList args.toList ds p := hA0
  rw [Try.params7] at hA hval
  obtain ⟨v0, vs0, d0, ds0, p0, q0, hargs, rfl, rfl, h0, r0⟩ := trodAll_cons hA
  obtain ⟨v1, vs1, d1, ds1, p1, q1, rfl, rfl, rfl, h1, r1⟩ := trodAll_cons r0
  obtain ⟨v2, vs2, d2, ds2, p2, q2, rfl, rfl, rfl, h2, r2⟩ := trodAll_cons r1
  obtain ⟨rfl, rfl, rfl⟩ := trodAll_nil r2
  obtain rfl : args = #[v0, v1, v2] := by cases args; simp_all
  obtain ⟨rfl, rfl⟩ := trodVars_none hV
  have k0 := h0
  have lt0 : ∀ x ∈ p0, x.block < W.heap.size := by obtain ⟨m, hm⟩ := k0; exact DataW.trod_lt m _ _ _ hm
  obtain ⟨s0, x0, A0, n0, e0, l0, rfl, g0⟩ := Tm.open_terms (hval 0 28 v0 rfl rfl) h0
  have k1 := h1
  have lt1 : ∀ x ∈ p1, x.block < W.heap.size := by obtain ⟨m, hm⟩ := k1; exact DataW.trod_lt m _ _ _ hm
  obtain ⟨x1, rfl⟩ := Tm.open_risk (hval 1 25 v1 rfl rfl) h1
  have k2 := h2
  have lt2 : ∀ x ∈ p2, x.block < W.heap.size := by obtain ⟨m, hm⟩ := k2; exact DataW.trod_lt m _ _ _ hm
  obtain ⟨A2, n2, e2, l2, rfl, g2⟩ := Tm.open_covers (hval 2 26 v2 rfl rfl) h2
  clear hA0 hval0
  refine (walk s0 x0 A0 n0 e0 l0 g0 x1 A2 n2 e2 l2 g2).mono fun e W' ⟨he, bel⟩ => ?_
  subst he
  exact ⟨_, rfl, _, _, _, [], _, [], hW', trodAll_mk1 (shut_bool Try.underlying4 _), (trodAll_cons_mk (Below.trod Tm.laidOut (by kernel_rfl) (of_decide_eq_true (by kernel_rfl)) k0 bel lt0) (trodAll_cons_mk (Below.trod Tm.laidOut (by kernel_rfl) (of_decide_eq_true (by kernel_rfl)) k1 bel lt1) (trodAll_cons_mk (Below.trod Tm.laidOut (by kernel_rfl) (of_decide_eq_true (by kernel_rfl)) k2 bel lt2) trodAll_mk0))), rfl, bel.frame _, fun h => by cases h⟩

theorem over : Rows.termsPartsRow.holds Try.pinned (OpenSpec.ofChange Rows.termsPartsSpec) :=
  OpenClaim.holds_of_wide 7 Try.f7 rfl rfl rfl rfl rfl rfl rfl ⟨rfl, rfl, rfl, rfl, rfl⟩ rfl rfl rfl rfl rfl (by kernel_rfl) Try.func7 (by kernel_rfl)
    (of_decide_eq_true (by kernel_rfl)) (by unfold Func.isWrapper; first | (rw [if_pos (by decide +kernel)]; kernel_rfl) | (rw [if_neg (by decide +kernel)]; exact ⟨rfl, rfl⟩))
    (fun os started H enc _ => lifted os started H enc)

theorem proved : Rows.TermsPartsSaid := over
end Go.Proofs.Ytaadhageloiiaaa.termsParts
