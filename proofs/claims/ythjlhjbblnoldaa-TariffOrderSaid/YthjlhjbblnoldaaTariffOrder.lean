/-
  The statement TariffOrder holds: for every input the call returns true, and each argument reads afterwards as it read before. Conditions: none beside those that the row itself bears.
-/
import Derived.Test.YthjlhjbblnoldaaSames
namespace Go.Proofs.Ythjlhjbblnoldaa.tariffOrder
open Go.ChangeShapes Go.WideShapes Go.ChangeAt Go.RowKit Ba Tf Trf
set_option linter.unusedVariables false


theorem Own.two (w : World) (r q : Rw) : Own (w.alloc (.cells #[.int .i64 r.v.fr, .int .i64 r.v.b0, .int .i64 r.v.b1, .int .i64 r.v.b2, .int .i64 r.v.b3, .slice r.A r.la r.ca, .slice r.Z r.lz r.cz, .slice r.P r.lp r.cp, .int .i64 r.v.mn, .int .i64 q.v.fr, .int .i64 q.v.b0, .int .i64 q.v.b1, .int .i64 q.v.b2, .int .i64 q.v.b3, .slice q.A q.la q.ca, .slice q.Z q.lz q.cz, .slice q.P q.lp q.cp, .int .i64 q.v.mn] 26)) w.heap.size (some ⟨w.heap.size, 0, none⟩) 2 2 [r, q] :=
  ⟨rfl, .inr ⟨w.heap.size, 2, _, rfl, Nat.le_refl _, heap_alloc_new w _, Nat.le_refl _, by unfold maxLen; omega, rfl, rfl⟩⟩
/-- A tariff's box and two versions' boxes. -/
structure B3 (w W : World) (A : Option Addr) (n c : Nat) (r q : Rw) : Prop where
  b : Below w.heap.size w W
  x : Bx W w.heap.size 29 #[.slice A n c]
  y : Bx W (w.heap.size + 1) 26 (vc r)
  z : Bx W (w.heap.size + 2) 26 (vc q)
section
variable {w W W' : World} {A : Option Addr} {n c : Nat} {r q : Rw}
theorem B3.next (h : B3 w W A n c r q) (hb : Below W.heap.size W W') : B3 w W' A n c r q := ⟨h.b.trans (hb.mono h.b.size), h.x.keep hb, h.y.keep hb, h.z.keep hb⟩
theorem B3.start : B3 w (((w.alloc (.cells #[.slice A n c] 29)).alloc (.cells (vc r) 26)).alloc (.cells (vc q) 26)) A n c r q := by
  refine ⟨((alloc_ _ _).alloc (by simp) _).alloc (by simp; omega) _, ((Bx.new _ _ _).alloc _).alloc _, ?_, ?_⟩
  · have := (Bx.new (w.alloc (.cells #[.slice A n c] 29)) 26 (vc r)).alloc (.cells (vc q) 26)
    rw [World.size_alloc] at this
    exact this
  · have := Bx.new ((w.alloc (.cells #[.slice A n c] 29)).alloc (.cells (vc r) 26)) 26 (vc q)
    rw [World.size_alloc, World.size_alloc] at this
    exact this
theorem B3.grown (h : B3 w W A n c r q) {D : Option Addr} {m d : Nat} {xs : List Rw} {o : Obj} (hO : Own (W.alloc o) W.heap.size D m d xs) (hg : (W.alloc o).grownBy W' (Value.slice D m d).ownBlock) : B3 w W' A n c r q := by
  have hb : Below W.heap.size W W' := (alloc_ W o).grown hg (by simp) fun j hj => (hO.lt j hj).1
  exact h.next hb
end

set_option maxRecDepth 100000 in
set_option maxHeartbeats 4000000 in
theorem walk (A : Option Addr) (n c : Nat) (rs : List Rw) {w : World} (G : GivenT w A n c rs) (r : Rw) (GV : GivenV w r) (q : Rw) (GQ : GivenV w q) :
    Calls Try.prog 6 #[tg A n c, vg r, vg q] w (Yes w true) := by
  have HG := Lib.hid G
  have HV := Lib.hid GV
  have HQ := Lib.hid GQ
  have hbig := G.big
  have HNIL := Lib.hid G.nil
  obtain ⟨N, hN⟩ : ∃ N, 2 + n = N := ⟨_, rfl⟩
  have HN := Lib.hid hN
  have H0 := Lib.hid (B3.start (w := w) (A := A) (n := n) (c := c) (r := r) (q := q))
  have HO := Lib.hid (Own.two (((w.alloc (.cells #[.slice A n c] 29)).alloc (.cells (vc r) 26)).alloc (.cells (vc q) 26)) r q)
  have HRW := Lib.hid (show Raws ((((w.alloc (.cells #[.slice A n c] 29)).alloc (.cells (vc r) 26)).alloc (.cells (vc q) 26)).alloc (.cells #[.int .i64 r.v.fr, .int .i64 r.v.b0, .int .i64 r.v.b1, .int .i64 r.v.b2, .int .i64 r.v.b3, .slice r.A r.la r.ca, .slice r.Z r.lz r.cz, .slice r.P r.lp r.cp, .int .i64 r.v.mn, .int .i64 q.v.fr, .int .i64 q.v.b0, .int .i64 q.v.b1, .int .i64 q.v.b2, .int .i64 q.v.b3, .slice q.A q.la q.ca, .slice q.Z q.lz q.cz, .slice q.P q.lp q.cp, .int .i64 q.v.mn] 26)) (· < w.heap.size) A n rs from G.r.keep (fun p hp => ((H0.out.b.alloc H0.out.b.size _).cell hp)) fun _ h => h)
  clear G GV GQ hN
  go_enter Try.func6, Try.ntmps6
  go_wp2_with (at_builtin; refine wpList_app _ rfl _ _ rfl (w.heap.size + 3) (some ⟨w.heap.size + 3, 0, none⟩) 2 2 [r, q] rfl (by have := HO.out; rw [World.size_alloc, World.size_alloc, World.size_alloc] at this; exact this) (· < w.heap.size) A n c rs rfl HRW.out HNIL.out N HN.out (by omega) (by simp) ?_; intro D d w1 hO1 hg1)
  have H1 := Lib.hid (show B3 w w1 A n c r q from H0.out.grown (by have := HO.out; exact this) (by rw [World.size_alloc, World.size_alloc, World.size_alloc]; exact hg1))
  have HRO := Lib.hid (hO1.raws)
  clear hO1 hg1 HO HRW H0
  have CF := Lib.hid (few_ D N d ([r, q] ++ rs) w1 (HRO.out.keep (fun _ _ => rfl) fun b hb => hb.2) (by have := HN.out; omega) (by
    intro x hx
    rcases List.mem_append.1 hx with hx | hx
    · simp only [List.mem_cons, List.not_mem_nil, or_false] at hx
      rcases hx with rfl | rfl
      · exact HV.out.l
      · exact HQ.out.l
    · exact HG.out.l x hx))
  clear HRO
  cases hf : fw N ([r, q] ++ rs)
  · rw [hf] at CF
    clear hf
    refine CF.out.mono ?_
    rintro e w2 ⟨rfl, hb2⟩
    have HB2 := Lib.hid (H1.out.next hb2)
    clear hb2 CF H1
    go_wp2_with fail
    refine (alive_ _).mono ?_
    rintro e w3 ⟨rfl, hb3⟩
    have HB3 := Lib.hid (HB2.out.next hb3)
    clear hb3 HB2
    go_wp2
    go_ret
    exact ⟨rfl, HB3.out.b⟩
  obtain ⟨f1, f2⟩ := fw_yes hf
  have hS : Sm r := sm_of f2 r (by simp)
  have hSq : Sm q := sm_of f2 q (by simp)
  have hVS : Vers w A n rs := HG.out.vers (by rw [tl_append] at f2; omega)
  have hn1 : n ≤ 200 := by have := HN.out; omega
  have HSm := Lib.hid hS
  have HSq := Lib.hid hSq
  have HVS := Lib.hid hVS
  have HCAP := Lib.hid HG.out.cap
  rw [hf] at CF
  clear hf f1 f2 hS hSq hVS hbig HN
  refine CF.out.mono ?_
  rintro e w2 ⟨rfl, hb2⟩
  have HB2 := Lib.hid (H1.out.next hb2)
  clear hb2 CF H1
  have x0 := HB2.out.x.c 0
  simp at x0
  by_cases hm : 98 < n
  · have t98 : decide (98 < (n : Int)) = true := decide_eq_true (by omega)
    have t98' : decide (98 < n) = true := decide_eq_true hm
    go_wp2_with fail
    refine (alive_ _).mono ?_
    rintro e w3 ⟨rfl, hb3⟩
    have HB3 := Lib.hid (HB2.out.next hb3)
    clear hb3 HB2
    go_wp2
    go_ret
    exact ⟨rfl, HB3.out.b⟩
  have t98 : decide (98 < (n : Int)) = false := decide_eq_false (by omega)
  have t98' : decide (98 < n) = false := decide_eq_false hm
  have HM := Lib.hid hm
  have CP1 := Lib.hid (put_ A n c rs r w2 (HVS.out.below HB2.out.b) (by omega) (HV.out.m.below HB2.out.b) HSm.out HCAP.out HNIL.out)
  have CP2 := fun w' (h : Below w.heap.size w w') => Lib.hid (put_ A n c rs q w' (HVS.out.below h) (by omega) (HQ.out.m.below h) HSq.out HCAP.out HNIL.out)
  have y0 := HB2.out.y.c 0
  have y1 := HB2.out.y.c 1
  have y2 := HB2.out.y.c 2
  have y3 := HB2.out.y.c 3
  have y4 := HB2.out.y.c 4
  have y5 := HB2.out.y.c 5
  have y6 := HB2.out.y.c 6
  have y7 := HB2.out.y.c 7
  have y8 := HB2.out.y.c 8
  simp at y0 y1 y2 y3 y4 y5 y6 y7 y8
  have xl := HB2.out.x.lt
  obtain ⟨e1, he1⟩ : ∃ e1, cd (rs.map Rw.v) r.v = e1 := ⟨_, rfl⟩
  obtain ⟨e2, he2⟩ : ∃ e2, cd (rs.map Rw.v) q.v = e2 := ⟨_, rfl⟩
  clear hm
  go_wp2_with fail
  refine CP1.out.mono ?_
  rintro e w3 ⟨A3, n3, c3, rs3, rfl, hV3, hE3, hc3, hz3, hb3⟩
  rw [he1]
  have HB3 := Lib.hid (HB2.out.next hb3)
  have HX3 := Lib.hid (Bx.new w3 29 #[.slice A3 n3 c3])
  have HB3a := Lib.hid (HB3.out.next (alloc_ w3 (.cells #[.slice A3 n3 c3] 29)))
  have HV3 := Lib.hid (hV3.below (alloc_ w3 (.cells #[.slice A3 n3 c3] 29)))
  have HE3 := Lib.hid hE3
  have HC3 := Lib.hid (And.intro hc3 hz3)
  clear hb3 CP1 HB2 x0 xl y0 y1 y2 y3 y4 y5 y6 y7 y8 hV3 hE3 hc3 hz3
  have x0 := HB3.out.x.c 0
  have xl := HB3.out.x.lt
  simp at x0
  have y0 := HB3.out.z.c 0
  have y1 := HB3.out.z.c 1
  have y2 := HB3.out.z.c 2
  have y3 := HB3.out.z.c 3
  have y4 := HB3.out.z.c 4
  have y5 := HB3.out.z.c 5
  have y6 := HB3.out.z.c 6
  have y7 := HB3.out.z.c 7
  have y8 := HB3.out.z.c 8
  simp at y0 y1 y2 y3 y4 y5 y6 y7 y8
  have yl := HB3.out.z.lt
  go_wp2_with fail
  refine (CP2 _ HB3a.out.b).out.mono ?_
  rintro e w4 ⟨A4, n4, c4, rs4, rfl, hV4, hE4, hc4, hz4, hb4⟩
  rw [he2]
  have HB4 := Lib.hid (HB3a.out.next hb4)
  have HX3b := Lib.hid (HX3.out.keep hb4)
  have HX4 := Lib.hid (Bx.new w4 29 #[.slice A4 n4 c4])
  have HB4a := Lib.hid (HB4.out.next (alloc_ w4 (.cells #[.slice A4 n4 c4] 29)))
  have HV3b := Lib.hid ((HV3.out.below hb4).below (alloc_ w4 (.cells #[.slice A4 n4 c4] 29)))
  have HV4 := Lib.hid (hV4.below (alloc_ w4 (.cells #[.slice A4 n4 c4] 29)))
  have HE4 := Lib.hid hE4
  have HC4 := Lib.hid (And.intro hc4 hz4)
  clear hb4 CP2 HB3 HB3a HX3 HV3 x0 xl yl y0 y1 y2 y3 y4 y5 y6 y7 y8 hV4 hE4 hc4 hz4
  by_cases h1 : e1 = 0
  rotate_left
  · have q1 : (e1 == 0) = false := by simpa using h1
    have q1' : decide (e1 = 0) = false := decide_eq_false h1
    clear h1 he1 he2
    go_wp2_with fail
    refine (alive_ _).mono ?_
    rintro e w5 ⟨rfl, hb5⟩
    have HB5 := Lib.hid (HB4a.out.next hb5)
    clear hb5
    go_wp2
    go_ret
    exact ⟨rfl, HB5.out.b⟩
  by_cases h2 : e2 = 0
  rotate_left
  · have q2 : (e2 == 0) = false := by simpa using h2
    have q2' : decide (e2 = 0) = false := decide_eq_false h2
    subst h1
    clear h2 he1 he2
    go_wp2_with fail
    refine (alive_ _).mono ?_
    rintro e w5 ⟨rfl, hb5⟩
    have HB5 := Lib.hid (HB4a.out.next hb5)
    clear hb5
    go_wp2
    go_ret
    exact ⟨rfl, HB5.out.b⟩
  subst h1 h2
  have HI1 := Lib.hid he1
  have HI2 := Lib.hid he2
  have HF3 := Lib.hid (show rs3.map Rw.v = ins r.v (rs.map Rw.v) by rw [HE3.out, pt_ok he1])
  have HF4 := Lib.hid (show rs4.map Rw.v = ins q.v (rs.map Rw.v) by rw [HE4.out, pt_ok he2])
  have hl98 : (rs.map Rw.v).length ≤ 98 := by rw [HVS.out.len]; have := HM.out; omega
  have HG1 := Lib.hid (put_two hl98 he1 he2)
  have HG2 := Lib.hid (put_two hl98 he2 he1)
  have hn3 : n3 ≤ 1000 := by have h1 := HV3b.out.len; rw [HF3.out, ins_length] at h1; omega
  have hn4 : n4 ≤ 1000 := by have h1 := HV4.out.len; rw [HF4.out, ins_length] at h1; omega
  have CP3 := fun w' (h : Below (w4.alloc (.cells #[.slice A4 n4 c4] 29)).heap.size (w4.alloc (.cells #[.slice A4 n4 c4] 29)) w') => Lib.hid (put_ A3 n3 c3 rs3 q w' (HV3b.out.below h) hn3 (HQ.out.m.below (HB4a.out.next h).b) HSq.out HC3.out.1 HC3.out.2)
  have CP4 := fun w' (h : Below (w4.alloc (.cells #[.slice A4 n4 c4] 29)).heap.size (w4.alloc (.cells #[.slice A4 n4 c4] 29)) w') => Lib.hid (put_ A4 n4 c4 rs4 r w' (HV4.out.below h) hn4 (HV.out.m.below (HB4a.out.next h).b) HSm.out HC4.out.1 HC4.out.2)
  rw [HF3.out] at CP3
  rw [HF4.out] at CP4
  clear he1 he2 hl98
  obtain ⟨g1, hg1⟩ : ∃ g1, cd (ins r.v (rs.map Rw.v)) q.v = g1 := ⟨_, rfl⟩
  obtain ⟨g2, hg2⟩ : ∃ g2, cd (ins q.v (rs.map Rw.v)) r.v = g2 := ⟨_, rfl⟩
  have x0 := HX3b.out.c 0
  have xl := HX3b.out.lt
  simp at x0
  have y0 := HB4.out.z.c 0
  have y1 := HB4.out.z.c 1
  have y2 := HB4.out.z.c 2
  have y3 := HB4.out.z.c 3
  have y4 := HB4.out.z.c 4
  have y5 := HB4.out.z.c 5
  have y6 := HB4.out.z.c 6
  have y7 := HB4.out.z.c 7
  have y8 := HB4.out.z.c 8
  simp at y0 y1 y2 y3 y4 y5 y6 y7 y8
  have yl := HB4.out.z.lt
  go_wp2_with fail
  refine (CP3 _ (Below.refl _ _)).out.mono ?_
  rintro e w5 ⟨A5, n5, c5, rs5, rfl, hV5, hE5, hc5, hz5, hb5⟩
  rw [hg1]
  have HB5 := Lib.hid (HB4a.out.next hb5)
  have HX4b := Lib.hid (HX4.out.keep hb5)
  have HX5 := Lib.hid (Bx.new w5 29 #[.slice A5 n5 c5])
  have HB5b := Lib.hid (hb5.alloc hb5.size (.cells #[.slice A5 n5 c5] 29))
  have HV5 := Lib.hid (hV5.below (alloc_ w5 (.cells #[.slice A5 n5 c5] 29)))
  have HE5 := Lib.hid hE5
  clear hb5 CP3 HB4 HX3b x0 xl yl y0 y1 y2 y3 y4 y5 y6 y7 y8 hV5 hE5 hc5 hz5
  have x0 := HX4b.out.c 0
  have xl := HX4b.out.lt
  simp at x0
  have y0 := HB5.out.y.c 0
  have y1 := HB5.out.y.c 1
  have y2 := HB5.out.y.c 2
  have y3 := HB5.out.y.c 3
  have y4 := HB5.out.y.c 4
  have y5 := HB5.out.y.c 5
  have y6 := HB5.out.y.c 6
  have y7 := HB5.out.y.c 7
  have y8 := HB5.out.y.c 8
  simp at y0 y1 y2 y3 y4 y5 y6 y7 y8
  have yl := HB5.out.y.lt
  go_wp2_with fail
  refine (CP4 _ HB5b.out).out.mono ?_
  rintro e w6 ⟨A6, n6, c6, rs6, rfl, hV6, hE6, hc6, hz6, hb6⟩
  rw [hg2]
  have HB6 := Lib.hid ((HB4a.out.next HB5b.out).next hb6)
  have HX5b := Lib.hid (HX5.out.keep hb6)
  have HX6 := Lib.hid (Bx.new w6 29 #[.slice A6 n6 c6])
  have HB6a := Lib.hid (HB6.out.next (alloc_ w6 (.cells #[.slice A6 n6 c6] 29)))
  have HV5b := Lib.hid ((HV5.out.below hb6).below (alloc_ w6 (.cells #[.slice A6 n6 c6] 29)))
  have HV6 := Lib.hid (hV6.below (alloc_ w6 (.cells #[.slice A6 n6 c6] 29)))
  have HE6 := Lib.hid hE6
  have HX5c := Lib.hid (HX5b.out.alloc (.cells #[.slice A6 n6 c6] 29))
  clear hb6 CP4 HB5 HB5b HX4b HX5 HV5 x0 xl yl y0 y1 y2 y3 y4 y5 y6 y7 y8 hV6 hE6 hc6 hz6 HX5b
  have HSAME := Lib.hid (show rs6.map Rw.v = rs5.map Rw.v by
    rw [HE6.out, HE5.out]
    by_cases h : r.v.fr = q.v.fr
    · rw [pt_no (by rw [HG2.out, if_pos h.symm]; omega), pt_no (by rw [HG1.out, if_pos h]; omega)]
    · rw [pt_ok (by rw [HG2.out, if_neg (fun e => h e.symm)]), pt_ok (by rw [HG1.out, if_neg h])]
      exact ins_comm (fun e => h e.symm) _)
  obtain rfl : n6 = n5 := by rw [← HV6.out.len, HSAME.out, HV5b.out.len]
  have hn5 : n6 ≤ 1000 := by
    have h1 := HV5b.out.len
    rw [HE5.out] at h1
    have h2 := pt_len (vs := ins r.v (rs.map Rw.v)) (v := q.v)
    rw [ins_length, HVS.out.len] at h2
    omega
  have CS := fun w' (h : Below (w6.alloc (.cells #[.slice A6 n6 c6] 29)).heap.size (w6.alloc (.cells #[.slice A6 n6 c6] 29)) w') => Lib.hid (same_ A5 A6 n6 c5 c6 rs5 rs6 w' (HV5b.out.below h) (HV6.out.below h) HSAME.out hn5)
  have HGG := Lib.hid (show g1 = g2 by rw [← hg1, ← hg2, HG1.out, HG2.out]; by_cases h : r.v.fr = q.v.fr; rw [if_pos h, if_pos h.symm]; rw [if_neg h, if_neg (fun e => h e.symm)])
  by_cases hne : r.v.fr = q.v.fr
  · obtain rfl : g1 = 8 := by rw [← hg1, HG1.out, if_pos hne]
    obtain rfl : g2 = 8 := HGG.out.symm
    have q3 : (r.v.fr == q.v.fr) = true := by simpa using hne
    have q3' : decide (r.v.fr = q.v.fr) = true := decide_eq_true hne
    have q3n : (r.v.fr != q.v.fr) = false := by simp [hne]
    clear hg1 hg2 HGG hne
    go_wp2_with fail
    refine (alive_ _).mono ?_
    rintro e w7 ⟨rfl, hb7⟩
    have HB7 := Lib.hid (HB6a.out.next hb7)
    have u0 := (HX5c.out.keep hb7).c 0
    have v0 := (HX6.out.keep hb7).c 0
    simp at u0 v0
    have C7 := Lib.hid (CS _ hb7).out
    clear hb7 CS
    go_wp2_with fail
    refine C7.out.mono ?_
    rintro e w8 ⟨rfl, hb8⟩
    have HB8 := Lib.hid (HB7.out.next hb8)
    clear u0 v0 hb8
    have u0 := HB8.out.y.c 0
    have v0 := HB8.out.z.c 0
    simp at u0 v0
    go_wp2
    go_ret
    exact ⟨rfl, HB8.out.b⟩
  · obtain rfl : g1 = 0 := by rw [← hg1, HG1.out, if_neg hne]
    obtain rfl : g2 = 0 := HGG.out.symm
    have q3 : (r.v.fr == q.v.fr) = false := by simpa using hne
    have q3' : decide (r.v.fr = q.v.fr) = false := decide_eq_false hne
    have q3n : (r.v.fr != q.v.fr) = true := by simpa using hne
    clear hg1 hg2 HGG hne
    go_wp2_with fail
    refine (alive_ _).mono ?_
    rintro e w7 ⟨rfl, hb7⟩
    have HB7 := Lib.hid (HB6a.out.next hb7)
    have u0 := (HX5c.out.keep hb7).c 0
    have v0 := (HX6.out.keep hb7).c 0
    simp at u0 v0
    have C7 := Lib.hid (CS _ hb7).out
    clear hb7 CS
    go_wp2_with fail
    refine C7.out.mono ?_
    rintro e w8 ⟨rfl, hb8⟩
    have HB8 := Lib.hid (HB7.out.next hb8)
    clear u0 v0 hb8
    have u0 := HB8.out.y.c 0
    have v0 := HB8.out.z.c 0
    simp at u0 v0
    go_wp2
    go_ret
    exact ⟨rfl, HB8.out.b⟩

set_option maxRecDepth 100000 in
theorem lifted (os : Os) (started : os.Started) (H : Type) (enc : TypeId × Value → H) :
    ReturnsInHanded {} Try.checked os 6 .any (Rows.tariffOrderSpec.pre6 enc Try.prog Try.f6 Rows.tariffOrderRow.domain false) (Rows.tariffOrderSpec.post enc Try.prog Try.f6 false true false false) := by
  refine returnsInHanded_of_change_sized (C := Try.checked) Trf.own started (by kernel_rfl) Try.func6
    (ChangeSpec.witness6 (enc := enc) (C := Try.checked) false ⟨#[], #[.agg #[.slice none 0 0], .agg #[.int .i64 0, .int .i64 0, .int .i64 0, .int .i64 0, .int .i64 0, .slice none 0 0, .slice none 0 0, .slice none 0 0, .int .i64 0], .agg #[.int .i64 0, .int .i64 0, .int .i64 0, .int .i64 0, .int .i64 0, .slice none 0 0, .slice none 0 0, .slice none 0 0, .int .i64 0]], []⟩ 8 (by kernel_rfl) (by kernel_rfl) (by kernel_rfl) (by kernel_rfl)) ?_
  intro W base args ds gs before hval0 hW hcnd hsz0 _
  have hval : ∀ (j : Nat) t v, Try.f6.params[j]? = some t → args[j]? = some v → Value.okWide Try.prog W .any base t v := hval0
  have hW' := hW
  have hsz : (DataW.weightsEach Try.prog (Try.f6.params.toList ++ Rows.tariffOrderSpec.plain.varTypes Try.prog) (ds ++ gs)).all (· ≤ reachBytes) = true := hsz0
  obtain ⟨p, q, hA0, hV, rfl, hfz, hnd⟩ := hW
  have hA : DataW.TrodAll enc Try.prog W 0 (fun _ => true) true Try.f6.params.toList args.toList ds p := hA0
  rw [Try.params6] at hA hval hsz
  obtain ⟨v0, vs0, d0, ds0, p0, q0, hargs, rfl, rfl, h0, r0⟩ := trodAll_cons hA
  obtain ⟨v1, vs1, d1, ds1, p1, q1, rfl, rfl, rfl, h1, r1⟩ := trodAll_cons r0
  obtain ⟨v2, vs2, d2, ds2, p2, q2, rfl, rfl, rfl, h2, r2⟩ := trodAll_cons r1
  obtain ⟨rfl, rfl, rfl⟩ := trodAll_nil r2
  obtain rfl : args = #[v0, v1, v2] := by cases args; simp_all
  obtain ⟨rfl, rfl⟩ := trodVars_none hV
  have k0 := h0
  have lt0 : ∀ x ∈ p0, x.block < W.heap.size := by obtain ⟨m, hm⟩ := k0; exact DataW.trod_lt m _ _ _ hm
  obtain ⟨A0, n0, c0, s0, rfl, g0⟩ := Trf.open_tariff (hval 0 29 v0 rfl rfl) h0 (fun k hk => of_decide_eq_true (List.all_eq_true.1 hsz _ (DataW.weights_mem_each (j := 0) rfl rfl k hk)))
  have k1 := h1
  have lt1 : ∀ x ∈ p1, x.block < W.heap.size := by obtain ⟨m, hm⟩ := k1; exact DataW.trod_lt m _ _ _ hm
  obtain ⟨z1, rfl, g1⟩ := Trf.open_version (hval 1 26 v1 rfl rfl) h1 (fun k hk => of_decide_eq_true (List.all_eq_true.1 hsz _ (DataW.weights_mem_each (j := 1) rfl rfl k hk)))
  have k2 := h2
  have lt2 : ∀ x ∈ p2, x.block < W.heap.size := by obtain ⟨m, hm⟩ := k2; exact DataW.trod_lt m _ _ _ hm
  obtain ⟨z2, rfl, g2⟩ := Trf.open_version (hval 2 26 v2 rfl rfl) h2 (fun k hk => of_decide_eq_true (List.all_eq_true.1 hsz _ (DataW.weights_mem_each (j := 2) rfl rfl k hk)))
  clear hA0 hval0 hsz hsz0
  refine (walk A0 n0 c0 s0 g0 z1 g1 z2 g2).mono fun e W' ⟨he, bel⟩ => ?_
  subst he
  exact ⟨_, rfl, _, _, _, [], _, [], hW', trodAll_mk1 (shut_bool Try.underlying4 _), (trodAll_cons_mk (Below.trod Trf.laidOut (by kernel_rfl) (of_decide_eq_true (by kernel_rfl)) k0 bel lt0) (trodAll_cons_mk (Below.trod Trf.laidOut (by kernel_rfl) (of_decide_eq_true (by kernel_rfl)) k1 bel lt1) (trodAll_cons_mk (Below.trod Trf.laidOut (by kernel_rfl) (of_decide_eq_true (by kernel_rfl)) k2 bel lt2) trodAll_mk0))), rfl, bel.frame _, fun h => by cases h⟩

theorem over : Rows.tariffOrderRow.holds Try.pinned (OpenSpec.ofChange Rows.tariffOrderSpec) :=
  OpenClaim.holds_of_wide 6 Try.f6 rfl rfl rfl rfl rfl rfl rfl ⟨rfl, rfl, rfl, rfl, rfl⟩ rfl rfl rfl rfl rfl (by kernel_rfl) Try.func6 (by kernel_rfl)
    (of_decide_eq_true (by kernel_rfl)) (by unfold Func.isWrapper; first | (rw [if_pos (by decide +kernel)]; kernel_rfl) | (rw [if_neg (by decide +kernel)]; exact ⟨rfl, rfl⟩))
    (fun os started H enc _ => lifted os started H enc)

theorem proved : Rows.TariffOrderSaid := over
end Go.Proofs.Ythjlhjbblnoldaa.tariffOrder
