/-
  The document's Pieces. Conditions: the rows read as lists of ints.
-/
import Derived.Test.YtigacpjcadlkeaaPiecesW
import Derived.Test.YtigacpjcadlkeaaRRight
namespace Go.Proofs.Ytigacpjcadlkeaa
open Go.RowKit St
namespace Stp
set_option linter.unusedVariables false

/-- The cuts that were found by place k, and the last of them. -/
def Cu (s : Pr) (ps : List Pr) (k : Nat) (pre : List Int) (fd : Int) : Prop := pre ++ [fd] = cuts s (ps.take k)
theorem Cu.start (s : Pr) (ps : List Pr) : Cu s ps 0 [] s.1 := rfl
theorem Cu.end_ {s : Pr} {ps : List Pr} {k : Nat} {pre : List Int} {fd : Int} (h : Cu s ps k pre fd) (hk : ps.length ≤ k) : pre ++ [fd] = cuts s ps := by
  unfold Cu at h
  rwa [List.take_of_length_le hk] at h
theorem cuts_more {s : Pr} {ps : List Pr} {k : Nat} {a v : Int} (hz : ps[k]? = some (a, v)) : cuts s (ps.take (k + 1)) = cuts s (ps.take k) ++ (if s.1 < a ∧ a < s.2 then [a] else []) := by
  unfold cuts
  rw [take_more hz, List.map_append, List.filter_append]
  by_cases h : s.1 < a ∧ a < s.2
  · rw [if_pos h]; simp [h.1, h.2]
  · rw [if_neg h]
    have : (decide (s.1 < a) && decide (a < s.2)) = false := by rw [Bool.and_eq_false_iff, decide_eq_false_iff_not, decide_eq_false_iff_not]; omega
    simp [this]
theorem Cu.no {s : Pr} {ps : List Pr} {k : Nat} {pre : List Int} {fd a v : Int} (h : Cu s ps k pre fd) (hz : ps[k]? = some (a, v)) (hn : ¬ (s.1 < a ∧ a < s.2)) : Cu s ps (k + 1) pre fd := by
  unfold Cu
  rw [cuts_more hz, if_neg hn, List.append_nil]
  exact h
theorem Cu.yes {s : Pr} {ps : List Pr} {k : Nat} {pre : List Int} {fd a v : Int} (h : Cu s ps k pre fd) (hz : ps[k]? = some (a, v)) (hy : s.1 < a ∧ a < s.2) : Cu s ps (k + 1) (pre ++ [fd]) a := by
  unfold Cu
  rw [cuts_more hz, if_pos hy, ← h]
theorem Cu.ge {s : Pr} {ps : List Pr} {k : Nat} {pre : List Int} {fd : Int} (h : Cu s ps k pre fd) : s.1 ≤ fd := by
  have hm : fd ∈ cuts s (ps.take k) := by rw [← h]; simp
  rcases List.mem_cons.1 hm with e | e
  · omega
  · have := (List.mem_filter.1 e).2
    simp at this
    omega
theorem Cu.le {s : Pr} {ps : List Pr} (hp : Rt 0 0 ps) {k : Nat} {pre : List Int} {fd a v : Int} (h : Cu s ps k pre fd) (hz : ps[k]? = some (a, v)) (ha : s.1 < a) : fd < a := by
  have hm : fd ∈ cuts s (ps.take k) := by rw [← h]; simp
  rcases List.mem_cons.1 hm with e | e
  · omega
  · have h1 := (List.mem_filter.1 e).1
    have h2 := (hp.take (k + 1)).sorted
    rw [take_more hz, List.map_append, List.pairwise_append] at h2
    exact h2.2.2 fd h1 a (by simp)
theorem Cu.len {s : Pr} {ps : List Pr} {k : Nat} {pre : List Int} {fd : Int} (h : Cu s ps k pre fd) : pre.length ≤ ps.length := by
  have h1 := congrArg List.length h
  have h2 := List.length_filter_le (fun a => decide (s.1 < a) && decide (a < s.2)) ((ps.take k).map (·.1))
  simp only [cuts, List.length_append, List.length_cons, List.length_nil, List.length_map, List.length_take] at h1 h2
  omega

/-- The rows that are made, and what stays. -/
structure RP (w3 W : World) (A : Option Addr) (n c : Nat) (V : Option Addr) (m d : Nat) (zs : List Pr) (vs : List Int) : Prop where
  sp : OwnP W w3.heap.size A n c zs
  vl : OwnI W w3.heap.size V m d vs
  b : Below w3.heap.size w3 W
section
variable {w3 W W2 : World} {A V : Option Addr} {n c m d : Nat} {zs : List Pr} {vs : List Int}
theorem RP.drew (h : RP w3 W A n c V m d zs vs) (k : Nat) : RP w3 (W.drewN k) A n c V m d zs vs := ⟨h.sp, h.vl, below_drewN h.b k⟩
theorem RP.appP (h : RP w3 W A n c V m d zs vs) {o : Obj} {A2 : Option Addr} {n2 c2 : Nat} {ys : List Pr} (hO : OwnP W2 w3.heap.size A2 n2 c2 ys) (hg : (W.alloc o).grownBy W2 (Value.slice A n c).ownBlock) : RP w3 W2 A2 n2 c2 V m d ys vs := by
  have hO1 := h.sp.alloc o
  refine ⟨hO, (h.vl.alloc o).grown hg (own_apart (fun g e => (hO1.apart (h.vl.alloc o)) g e)), ?_⟩
  exact (h.b.alloc h.b.size o).grown hg (by have := h.b.size; simp; omega) (fun r e => (hO1.lt r e).1)
theorem RP.appV (h : RP w3 W A n c V m d zs vs) {o : Obj} {V2 : Option Addr} {n2 c2 : Nat} {ys : List Int} (hO : OwnI W2 w3.heap.size V2 n2 c2 ys) (hg : (W.alloc o).grownBy W2 (Value.slice V m d).ownBlock) : RP w3 W2 A n c V2 n2 c2 zs ys := by
  have hO1 := h.vl.alloc o
  refine ⟨(h.sp.alloc o).grown hg (own_apart (fun g e hv => (h.sp.alloc o).apart hO1 g hv e)), hO, ?_⟩
  exact (h.b.alloc h.b.size o).grown hg (by have := h.b.size; simp; omega) (fun r e => (hO1.lt r e).1)
end

set_option maxRecDepth 100000 in
set_option maxHeartbeats 2000000 in
theorem rpieces_no1 (A : Option Addr) (n c : Nat) (V : Option Addr) (m d : Nat) (xs vs : List Int) (s : Pr) (w : World) (hS : Sx w w.heap.size A n V m xs vs) (hn : n ≤ 1000) (h : rg xs vs = false) :
    Calls Try.prog 26 #[sg A n c V m d, ag s] w fun e w' => e = .returned (.tuple #[.slice none 0 0, .slice none 0 0]) ∧ Below w.heap.size w w' := by
  have S0 : PB w (pieW w A n c V m d s) A n c V m d s := PB.new
  have C := Lib.hid (rright A n c V m d xs vs _ ((hS.below S0.b (Nat.le_refl _)).wide S0.b.size) (by omega))
  rw [h] at C
  have C2 := fun w => Lib.hid (rfull s w)
  obtain ⟨fb, hfb⟩ : ∃ fb, full s = fb := ⟨_, rfl⟩
  rw [hfb] at C2
  have HS := Lib.hid S0
  clear h hS S0 hfb
  obtain ⟨s1, s2⟩ := s
  go_enter Try.func26, Try.ntmps26
  go_wp2_with fail
  refine C.out.mono ?_
  rintro e w1 ⟨rfl, hb⟩
  have S1 := HS.out.keep hb
  have H1 := Lib.hid S1
  have p0 := S1.s.c0
  have p1 := S1.s.c1
  simp only at p0 p1
  clear hb HS S1 C
  go_wp2_with fail
  refine (C2 _).out.mono ?_
  rintro e w2 ⟨rfl, hb⟩
  have H2 := Lib.hid (H1.out.keep hb)
  clear hb H1 C2
  go_wp2
  go_ret2
  exact ⟨rfl, H2.out.b⟩

set_option maxRecDepth 100000 in
set_option maxHeartbeats 2000000 in
theorem rpieces_no2 (A : Option Addr) (n c : Nat) (V : Option Addr) (m d : Nat) (xs vs : List Int) (s : Pr) (w : World) (hS : Sx w w.heap.size A n V m xs vs) (hn : n ≤ 1000) (h : rg xs vs = true) (hs : full s = false) :
    Calls Try.prog 26 #[sg A n c V m d, ag s] w fun e w' => e = .returned (.tuple #[.slice none 0 0, .slice none 0 0]) ∧ Below w.heap.size w w' := by
  have S0 : PB w (pieW w A n c V m d s) A n c V m d s := PB.new
  have C := Lib.hid (rright A n c V m d xs vs _ ((hS.below S0.b (Nat.le_refl _)).wide S0.b.size) (by omega))
  rw [h] at C
  have C2 := fun w => Lib.hid (rfull s w)
  rw [hs] at C2
  have HS := Lib.hid S0
  clear h hS S0 hs
  obtain ⟨s1, s2⟩ := s
  go_enter Try.func26, Try.ntmps26
  go_wp2_with fail
  refine C.out.mono ?_
  rintro e w1 ⟨rfl, hb⟩
  have S1 := HS.out.keep hb
  have H1 := Lib.hid S1
  have p0 := S1.s.c0
  have p1 := S1.s.c1
  simp only at p0 p1
  clear hb HS S1 C
  go_wp2_with fail
  refine (C2 _).out.mono ?_
  rintro e w2 ⟨rfl, hb⟩
  have H2 := Lib.hid (H1.out.keep hb)
  clear hb H1 C2
  go_wp2
  go_ret2
  exact ⟨rfl, H2.out.b⟩

set_option maxRecDepth 100000 in
set_option maxHeartbeats 4000000 in
theorem rpieces_yes (A : Option Addr) (n c : Nat) (V : Option Addr) (d : Nat) (ps : List Pr) (s : Pr) (w : World) (hS : Sr w w.heap.size A V n ps) (hn : n ≤ 1000) (h : Right ps) (hs : full s = true) :
    Calls Try.prog 26 #[sg A n c V n d, ag s] w (GivesP w (cuts s ps) (val 0 ps) s.2) := by
  have S0 : PB w (pieW w A n c V n d s) A n c V n d s := PB.new
  have C := Lib.hid (rright A n c V n d _ _ _ ((hS.below S0.b (Nat.le_refl _)).wide S0.b.size) (by omega))
  rw [rg_of h] at C
  have C2 := fun w => Lib.hid (rfull s w)
  rw [hs] at C2
  have HS0 := Lib.hid hS
  have HP := Lib.hid h
  have HS := Lib.hid S0
  have HLen := Lib.hid hS.len
  clear h hS S0 hs
  obtain ⟨s1, s2⟩ := s
  go_enter Try.func26, Try.ntmps26
  go_wp2_with fail
  refine C.out.mono ?_
  rintro e w1 ⟨rfl, hb⟩
  have S1 := HS.out.keep hb
  have p0 := S1.s.c0
  have p1 := S1.s.c1
  simp only at p0 p1
  have H1 := Lib.hid S1
  clear hb HS S1 C
  go_wp2_with fail
  refine (C2 _).out.mono ?_
  rintro e w2 ⟨rfl, hb⟩
  have S2 := H1.out.keep hb
  clear p0 p1
  have p0 := S2.s.c0
  have p1 := S2.s.c1
  have q1 := S2.f.c0
  have q2 := S2.f.c1
  simp only at p0 p1
  have H2 := Lib.hid S2
  clear hb H1 S2 C2
  obtain ⟨u0, hu0⟩ : ∃ u0, val 0 ps s1 = u0 := ⟨_, rfl⟩
  have C3 := Lib.hid (rat_yes A n c V d ps s1 w2 ((HS0.out.below H2.out.b (Nat.le_refl _)).wide H2.out.b.size) (by omega) HP.out)
  rw [hu0] at C3
  have HU0 := Lib.hid hu0
  clear hu0
  go_wp2_with fail
  refine C3.out.mono ?_
  rintro e w3 ⟨rfl, hb⟩
  have S3 := H2.out.keep hb
  clear p0 p1 q1 q2
  have H3 := Lib.hid S3
  have z0 := S3.f.lt
  have z1 := S3.s.lt
  have HS3 := Lib.hid (HS0.out.below S3.b (Nat.le_refl _))
  have hws := S3.b.size
  clear hb H2 S3 C3 HS0
  go_wp2
  go_loopw [8, 9, 10, 11, 12] (fun sa sv' sf su i w' => ∃ (k N : Nat) (A1 : Option Addr) (c1 : Nat) (V1 : Option Addr) (d1 : Nat) (pre : List Int) (fd u : Int) (zs : List Pr) (vs : List Int), k ≤ n ∧ N ≤ 1000 ∧ i = .int .i64 (k : Int) ∧ sa = .slice A1 N c1 ∧ sv' = .slice V1 N d1 ∧ sf = .int .i64 fd ∧ su = .int .i64 u ∧ Hid (pre.length = N ∧ fr pre fd = zs ∧ pre.map (val 0 ps) = vs ∧ val 0 ps fd = u ∧ Cu (s1, s2) ps k pre fd) ∧ Hid (RP w3 w' A1 N c1 V1 N d1 zs vs)) (fun _ _ _ _ i _ => n - (intOf i).toNat)
  case atStart => exact ⟨0, 0, none, 0, none, 0, [], s1, u0, [], [], Nat.zero_le _, Nat.zero_le _, rfl, rfl, rfl, rfl, rfl, Lib.hid ⟨rfl, rfl, rfl, HU0.out, Cu.start (s1, s2) ps⟩, Lib.hid ⟨OwnP.nil, OwnI.nil, Below.refl _ _⟩⟩
  case round =>
    obtain ⟨k, N, A1, c1, V1, d1, pre, fd, u, zs, vs, hk, hN, rfl, rfl, rfl, rfl, rfl, HC, HR⟩ := hrel
    have HX := Lib.hid (H3.out.f.below HR.out.b z0)
    have HY := Lib.hid (H3.out.s.below HR.out.b z1)
    have q0 := HX.out.c0
    have q1 := HX.out.c1
    have y0 := HY.out.c0
    have y1 := HY.out.c1
    simp only at y0 y1
    by_cases hlt : k < n
    · have HSr := Lib.hid (HS3.out.below (HR.out.b.mono hws) (Nat.le_refl _))
      obtain ⟨ad, a, rfl, hab, hy, hc⟩ := HSr.out.a.get hlt
      obtain ⟨av, v, rfl, hvb, hv, hcv⟩ := HSr.out.v.get hlt
      have hz : ps[k]? = some (a, v) := by
        rw [List.getElem?_map] at hy hv
        cases hq : ps[k]? with
        | none => rw [hq] at hy; cases hy
        | some q => rw [hq] at hy hv; simp at hy hv; rw [← hy, ← hv]
      have hlt2 : (k : Int) < (n : Int) := by omega
      have hvm : val 0 ps a = v := val_mem HP.out.1 (List.mem_of_getElem? hz)
      obtain ⟨e1, e2, e3, e4, hcu⟩ := HC.out
      have hge := hcu.ge
      have hNn := hcu.len
      simp only at hge
      by_cases g : s1 < a ∧ a < s2
      · have hfa := hcu.le HP.out.1 hz g.1
        have HNx := Lib.hid (hcu.yes hz g)
        have HE := Lib.hid (And.intro e1 (And.intro e2 (And.intro e3 e4)))
        have HVM := Lib.hid hvm
        have t1 : decide (fd < a) = true := by rw [decide_eq_true_eq]; exact hfa
        have t2 : decide (a < s2) = true := by rw [decide_eq_true_eq]; exact g.2
        have hN1 : N + 1 ≤ 1000 := by
          have h1 := HNx.out.len
          have h2 := HLen.out
          simp only [List.length_append, List.length_cons, List.length_nil] at h1
          omega
        have HSIX := Lib.hid (show ∀ W', Below w3.heap.size w3 W' → W'.cell? ⟨w.heap.size, 0, none⟩ = some (.slice (some ad) n c) ∧ W'.cell? ⟨w.heap.size, 1, none⟩ = some (.slice (some av) n d) ∧ W'.cell? (ad.add k) = some (.int .i64 a) ∧ W'.cell? (av.add k) = some (.int .i64 v) from fun W' hb => ⟨(H3.out.f.below hb z0).c0, (H3.out.f.below hb z0).c1, (hb.cell (by rw [add_block]; omega)).trans ((HR.out.b.cell (by rw [add_block]; omega)).symm.trans hc), (hb.cell (by rw [add_block]; omega)).trans ((HR.out.b.cell (by rw [add_block]; omega)).symm.trans hcv)⟩)
        clear hy hv hz hvm e1 e2 e3 e4 hcu hge hNn g hfa
        go_wp2
        go_quiet (fail)
        obtain ⟨W0, hW0⟩ : ∃ W0, wr.drewN nq = W0 := ⟨_, rfl⟩
        have HR0 := Lib.hid (show RP w3 W0 A1 N c1 V1 N d1 zs vs by rw [← hW0]; exact HR.out.drew nq)
        rw [hW0]
        clear hW0 q0 q1 y0 y1 hc hcv HX HY HSr HR HC
        obtain ⟨q0, q1, hc, hcv⟩ := HSIX.out W0 HR0.out.b
        go_wp2_with (first | (at_builtin; refine wpList_appP _ rfl (.tmp 52) (.tmp 60) rfl w3.heap.size A1 N c1 zs rfl (HR0.out.sp.alloc _) (W0.heap.size + 1) ⟨W0.heap.size, 0, none⟩ 1 1 [(fd, a)] rfl (spans_new1 W0 fd a W0.heap.size rfl) (by omega) (by have := HR0.out.b.size; simp only [World.size_alloc]; omega) ?_; intro A2 c2 W2 hO2 hg2; have HR2 := Lib.hid (HR0.out.appP hO2 hg2); clear hO2 hg2) | (at_builtin; refine wpList_appW _ rfl (.tmp 62) (.tmp 64) rfl w3.heap.size V1 N d1 vs rfl (HR2.out.vl.alloc _) (W2.heap.size + 1) ⟨W2.heap.size, 0, none⟩ 1 1 [u] rfl (ints_new1' W2 u W2.heap.size rfl) (by omega) (by omega) (by have := HR2.out.b.size; simp only [World.size_alloc]; omega) ?_; intro V3 d3 W3 hO3 hg3 hw3; have HR3 := Lib.hid (HR2.out.appV hO3 hg3); clear hO3 hg3 hw3; obtain ⟨r0, r1, rc, rcv⟩ := HSIX.out W3 HR3.out.b) | fail)
        go_roundw
        case rel => exact ⟨k + 1, N + 1, A2, c2, V3, d3, pre ++ [fd], a, v, _, _, by omega, hN1, by go_num, rfl, rfl, rfl, rfl, Lib.hid ⟨by rw [← HE.out.1]; simp, by rw [fr_snoc, HE.out.2.1], by rw [List.map_append, HE.out.2.2.1]; simp [HE.out.2.2.2], HVM.out, HNx.out⟩, HR3⟩
        case measure => simp [intOf]; omega
      · have HNx := Lib.hid (hcu.no hz g)
        have HE := Lib.hid (And.intro e1 (And.intro e2 (And.intro e3 e4)))
        have hg : fd < a → ¬ a < s2 := fun h1 h2 => g ⟨by omega, h2⟩
        clear hy hv hz hvm e1 e2 e3 e4 hcu hge hNn g
        by_cases g1 : fd < a
        · have t1 : decide (fd < a) = true := by rw [decide_eq_true_eq]; exact g1
          have t2 : decide (a < s2) = false := by rw [decide_eq_false_iff_not]; exact hg g1
          clear hg g1
          go_wp2
          go_quiet (fail)
          go_wp2
          go_roundw
          case rel => exact ⟨k + 1, N, A1, c1, V1, d1, pre, fd, u, _, _, by omega, hN, by go_num, rfl, rfl, rfl, rfl, Lib.hid ⟨HE.out.1, HE.out.2.1, HE.out.2.2.1, HE.out.2.2.2, HNx.out⟩, Lib.hid (HR.out.drew _)⟩
          case measure => simp [intOf]; omega
        · have t1 : decide (fd < a) = false := by rw [decide_eq_false_iff_not]; exact g1
          clear hg g1
          go_wp2
          go_quiet (fail)
          go_wp2
          go_roundw
          case rel => exact ⟨k + 1, N, A1, c1, V1, d1, pre, fd, u, _, _, by omega, hN, by go_num, rfl, rfl, rfl, rfl, Lib.hid ⟨HE.out.1, HE.out.2.1, HE.out.2.2.1, HE.out.2.2.2, HNx.out⟩, Lib.hid (HR.out.drew _)⟩
          case measure => simp [intOf]; omega
    · obtain ⟨e1, e2, e3, e4, hcu⟩ := HC.out
      have HEnd := Lib.hid (hcu.end_ (by have := HLen.out; omega))
      have HE := Lib.hid (And.intro e1 (And.intro e2 (And.intro e3 e4)))
      clear e1 e2 e3 e4 hcu HC
      go_wp2_with (first | (at_builtin; refine wpList_appP _ rfl (.tmp 76) (.tmp 81) rfl w3.heap.size A1 N c1 zs rfl (HR.out.sp.alloc _) (wr.heap.size + 1) ⟨wr.heap.size, 0, none⟩ 1 1 [(fd, s2)] rfl (spans_new1 wr fd s2 wr.heap.size rfl) (by omega) (by have := HR.out.b.size; simp only [World.size_alloc]; omega) ?_; intro A2 c2 W2 hO2 hg2; have HR2 := Lib.hid (HR.out.appP hO2 hg2); clear hO2 hg2) | (at_builtin; refine wpList_appW _ rfl (.tmp 83) (.tmp 85) rfl w3.heap.size V1 N d1 vs rfl (HR2.out.vl.alloc _) (W2.heap.size + 1) ⟨W2.heap.size, 0, none⟩ 1 1 [u] rfl (ints_new1' W2 u W2.heap.size rfl) (by omega) (by omega) (by have := HR2.out.b.size; simp only [World.size_alloc]; omega) ?_; intro V3 d3 W3 hO3 hg3 hw3; have HR3 := Lib.hid (HR2.out.appV hO3 hg3); clear hO3 hg3 hw3) | fail)
      go_ret2
      have hl : (cuts (s1, s2) ps).length = N + 1 := by rw [← HEnd.out, ← HE.out.1]; simp
      refine ⟨A2, c2, V3, d3, by rw [hl]; rfl, ?_, ?_, H3.out.b.trans (HR3.out.b.mono hws)⟩
      · rw [hl, ← HEnd.out, fr_snoc, HE.out.2.1]; exact HR3.out.sp.spans.1
      · rw [hl, ← HEnd.out, List.map_append, HE.out.2.2.1]; simpa [HE.out.2.2.2] using HR3.out.vl.ints.1

end Stp
end Go.Proofs.Ytigacpjcadlkeaa
