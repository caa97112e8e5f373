/-
  Put of package tariff, where the version is put. Conditions: the version's lists read as lists, and are short.
-/
import Derived.Test.YthjlhjbblnoldaaPut
import Derived.Deep.SlicePairs
namespace Go.Proofs.Ythjlhjbblnoldaa
open Go.RowKit Ba Tf
namespace Trf
set_option linter.unusedVariables false

theorem Raws.take {w : World} {ok : Nat → Prop} {A : Option Addr} {n p : Nat} {rs : List Rw} (h : Raws w ok A n rs) (hp : p ≤ n) : Raws w ok A p (rs.take p) := by
  refine ⟨by rw [List.length_take, h.1]; omega, fun h0 => ?_⟩
  obtain ⟨ad, e, hb, hc⟩ := h.2 (by omega)
  refine ⟨ad, e, hb, fun j x hx => hc j x ?_⟩
  rw [List.getElem?_take] at hx
  split at hx
  · exact hx
  · cases hx
theorem add_addr (a : Addr) (i j : Nat) : (a.add i).add j = a.add (i + j) := Go.Deep.add_add a i j
theorem Raws.drop {w : World} {ok : Nat → Prop} {ad : Addr} {n p : Nat} {rs : List Rw} (h : Raws w ok (some ad) n rs) (hp : p ≤ n) : Raws w ok (some (ad.add (p * 9))) (n - p) (rs.drop p) := by
  refine ⟨by rw [List.length_drop, h.1], fun h0 => ?_⟩
  obtain ⟨ad', e, hb, hc⟩ := h.2 (by omega)
  injection e with e
  subst e
  refine ⟨_, rfl, by rw [add_block]; exact hb, fun j x hx => ?_⟩
  rw [List.getElem?_drop] at hx
  have := hc _ _ hx
  rw [add_addr]
  rwa [show p * 9 + j * 9 = (p + j) * 9 by omega]
theorem raws_new (w : World) (r : Rw) : Raws (w.alloc (.cells (vc r) 26)) (· < w.heap.size + 1) (some ⟨w.heap.size, 0, none⟩) 1 [r] := by
  obtain ⟨A', c', e, hr⟩ := raws_own (Own.one w r)
  injection e with e1
  subst e1
  exact hr.keep (fun _ _ => rfl) fun b hb => by have := hb.2; rwa [World.size_alloc] at this

theorem Own.low {w : World} {base base' n c : Nat} {A : Option Addr} {xs : List Rw} (h : Own w base A n c xs) (hb : base' ≤ base) : Own w base' A n c xs := by
  refine ⟨h.1, ?_⟩
  rcases h.2 with h | ⟨g, cap, cur, e, hb2, hr⟩
  · exact .inl h
  · exact .inr ⟨g, cap, cur, e, by omega, hr⟩
theorem put_concat (W : World) (A C : Option Addr) (p c n3 c3 N : Nat) (r1 r3 : List Rw) (r : Rw) (hA : Raws W (· < W.heap.size) A p r1) (hC : Raws W (· < W.heap.size) C n3 r3) (zA : A = none → p = 0 ∧ c = 0) (zC : C = none → n3 = 0 ∧ c3 = 0) (hN : p + 1 + n3 = N) (hn : N ≤ 1000) :
    Calls Try.prog 31 #[.slice (some ⟨W.heap.size + 1, 0, none⟩) 3 3] ((W.alloc (.cells (vc r) 26)).alloc (.cells #[.slice A p c, .slice (some ⟨W.heap.size, 0, none⟩) 1 1, .slice C n3 c3] 27)).drew
      fun e w' => ∃ g cap, e = .returned (.slice (some ⟨g, 0, none⟩) N cap) ∧ Own w' W.heap.size (some ⟨g, 0, none⟩) N cap (r1 ++ [r] ++ r3) ∧ W.heap.size ≤ g ∧ g < w'.heap.size ∧ Below W.heap.size W w' := by
  obtain ⟨V, hV⟩ : ∃ V, ((W.alloc (.cells (vc r) 26)).alloc (.cells #[.slice A p c, .slice (some ⟨W.heap.size, 0, none⟩) 1 1, .slice C n3 c3] 27)).drew = V := ⟨_, rfl⟩
  have hb : Below W.heap.size W V := by
    have h : Below W.heap.size W ((W.alloc (.cells (vc r) 26)).alloc (.cells #[.slice A p c, .slice (some ⟨W.heap.size, 0, none⟩) 1 1, .slice C n3 c3] 27)) := (alloc_ _ _).alloc (by simp) _
    rw [← hV]
    exact ⟨h.os, h.tape, h.output, h.size, h.block⟩
  have hb2 : Below (W.heap.size + 1) (W.alloc (.cells (vc r) 26)) V := by
    have h := alloc_ (W.alloc (.cells (vc r) 26)) (.cells #[.slice A p c, .slice (some ⟨W.heap.size, 0, none⟩) 1 1, .slice C n3 c3] 27)
    rw [World.size_alloc] at h
    rw [← hV]
    exact ⟨h.os, h.tape, h.output, h.size, h.block⟩
  have hx : Bx V (W.heap.size + 1) 27 #[.slice A p c, .slice (some ⟨W.heap.size, 0, none⟩) 1 1, .slice C n3 c3] := by
    have h := Bx.new (W.alloc (.cells (vc r) 26)) 27 #[.slice A p c, .slice (some ⟨W.heap.size, 0, none⟩) 1 1, .slice C n3 c3]
    rw [World.size_alloc] at h
    rw [← hV]
    exact h
  rw [hV]
  have hsz := hb2.size
  rw [World.size_alloc] at hsz
  refine (concat (W.heap.size + 1) A (some ⟨W.heap.size, 0, none⟩) C p c 1 1 n3 c3 N r1 [r] r3 V hx (hA.keep (fun p hp => hb.cell hp) fun b h => Nat.lt_of_lt_of_le h hb.size) ((raws_new W r).keep (fun p hp => hb2.cell hp) fun b h => Nat.lt_of_lt_of_le h (by omega)) (hC.keep (fun p hp => hb.cell hp) fun b h => Nat.lt_of_lt_of_le h hb.size) zA (fun e => by cases e) zC hN (by omega) hn).mono ?_
  rintro e w' ⟨g, cap, rfl, hO, hlo, hlt, hB⟩
  exact ⟨g, cap, rfl, hO.low hb.size, Nat.le_trans hb.size hlo, hlt, hb.trans (hB.mono hb.size)⟩

set_option maxRecDepth 100000 in
set_option maxHeartbeats 4000000 in
theorem put_ok (A : Option Addr) (n c : Nat) (rs : List Rw) (r : Rw) (w : World) (hS : Vers w A n rs) (hn : n ≤ 1000) (hM : Mean w (· < w.heap.size) r) (hSm : Sm r) (hcap : n ≤ c) (hnil : A = none → n = 0 ∧ c = 0) (h : rgt (rs.map Rw.v) = true) (h2 : ver r.v = true) (h3 : has r.v.fr (rs.map Rw.v) = false) (h4 : n ≠ 100) :
    Calls Try.prog 17 #[tg A n c, vg r] w (PutTo w (rs.map Rw.v) r.v) := by
  have HC := Lib.hid (cd_ok h h2 h3 (by rw [hS.len]; exact h4))
  have H3 := Lib.hid h3
  have q4 : ((n : Int) == 100) = false := by simpa using (show ¬ (n : Int) = 100 by omega)
  have q4' : decide ((n : Int) = 100) = false := decide_eq_false (by omega)
  have HNIL := Lib.hid hnil
  clear h3 h4 hnil
  have CR := fun w' (hb : Below w.heap.size w w') => Lib.hid (right_ A n c rs w' (hS.below hb) hn)
  have CV := fun w' (hb : Below w.heap.size w w') => Lib.hid (version_ r w' (hM.below hb) hSm)
  rw [h] at CR
  rw [h2] at CV
  have HP := Lib.hid (P0.start (w := w) (A := A) (n := n) (c := c) (r := r))
  have HS := Lib.hid hS
  have HM := Lib.hid hM
  have HR := Lib.hid h
  have HV := Lib.hid h2
  clear hS hM h h2
  go_enter Try.func17, Try.ntmps17
  go_wp2_with fail
  refine (CR _ HP.out.b).out.mono ?_
  rintro e w1 ⟨rfl, hb1⟩
  have HP1 := Lib.hid (HP.out.next hb1)
  have y0 := HP1.out.x1.c 0
  have y1 := HP1.out.x1.c 1
  have y2 := HP1.out.x1.c 2
  have y3 := HP1.out.x1.c 3
  have y4 := HP1.out.x1.c 4
  have y5 := HP1.out.x1.c 5
  have y6 := HP1.out.x1.c 6
  have y7 := HP1.out.x1.c 7
  have y8 := HP1.out.x1.c 8
  simp at y0 y1 y2 y3 y4 y5 y6 y7 y8
  clear hb1 HP CR
  go_wp2_with fail
  refine (CV _ HP1.out.b).out.mono ?_
  rintro e w2 ⟨rfl, hb2⟩
  have HP2 := Lib.hid (HP1.out.next hb2)
  have x0 := HP2.out.x0.c 0
  simp at x0
  clear hb2 HP1 CV y0 y1 y2 y3 y4 y5 y6 y7 y8
  go_wp2_with fail
  refine (put_search A n c rs r w w2 HS.out hn HP2.out HR.out).mono ?_
  rintro e w3 ⟨p, rfl, hPl, hb3⟩
  have HP3 := Lib.hid (HP2.out.next hb3)
  have HPl := Lib.hid hPl
  have hpn := hPl.le
  clear hb3 hPl x0 HP2
  have x0 := HP3.out.x0.c 0
  have x1 := HP3.out.x1.c 0
  simp at x0 x1
  rcases Nat.lt_or_ge p n with hplt | hplt
  · obtain ⟨ad, rp, rfl, hb, hx, hN, _⟩ := (HS.out.below HP3.out.b).get hplt
    have c0 := hN.c0
    have hne : rp.v.fr ≠ r.v.fr := has_false H3.out rp.v (List.mem_of_getElem? (map_get hx))
    have hplt2 : (p : Int) < (n : Int) := by omega
    have q1 : decide ((p : Int) < (n : Int)) = true := decide_eq_true hplt2
    have q1' : decide (p < n) = true := decide_eq_true hplt
    have q2 : (rp.v.fr == r.v.fr) = false := by simpa using hne
    have q2' : decide (rp.v.fr = r.v.fr) = false := decide_eq_false hne
    clear hN hb hx hne
    go_wp2
    go_quiet (fail)
    have HPZ := Lib.hid (show P0 w (w3.drewN nq) (some ad) n c r from ⟨below_drewN HP3.out.b _, HP3.out.x0, HP3.out.x1, HP3.out.x2⟩)
    clear c0 q2 q2' x0 x1
    obtain ⟨W, hW⟩ : ∃ W, w3.drewN nq = W := ⟨_, rfl⟩
    rw [hW] at HPZ ⊢
    have x0 := HPZ.out.x0.c 0
    have u0 := HPZ.out.x1.c 0
    have u1 := HPZ.out.x1.c 1
    have u2 := HPZ.out.x1.c 2
    have u3 := HPZ.out.x1.c 3
    have u4 := HPZ.out.x1.c 4
    have u5 := HPZ.out.x1.c 5
    have u6 := HPZ.out.x1.c 6
    have u7 := HPZ.out.x1.c 7
    have u8 := HPZ.out.x1.c 8
    have zl := HPZ.out.x2.lt
    simp at x0 u0 u1 u2 u3 u4 u5 u6 u7 u8
    have hRW : Raws W (· < W.heap.size) (some ad) n rs := (HS.out.below HPZ.out.b).r
    obtain ⟨N, hN⟩ : ∃ N, p + 1 + (n - p) = N := ⟨_, rfl⟩
    have hN2 : N ≤ 1000 := by have := rgt_rise HR.out; rw [HS.out.len] at this; omega
    have CC := Lib.hid (put_concat W (some ad) (some (ad.add (p * 9))) p c (n - p) (c - p) N (rs.take p) (rs.drop p) r (hRW.take (by omega)) (hRW.drop (by omega)) (fun e => by cases e) (fun e => by cases e) hN hN2)
    have HE := Lib.hid (show ((rs.take p) ++ [r] ++ (rs.drop p)).map Rw.v = ins r.v (rs.map Rw.v) by rw [ins_place (p := p) (by rw [HS.out.len]; exact HPl.out.le) (fun i x hi hx => (by rw [List.getElem?_map] at hx; obtain ⟨y, hy, rfl⟩ := Option.map_eq_some_iff.1 hx; exact HPl.out.lo i y hi hy)) (fun i x hi hx => (by rw [List.getElem?_map] at hx; obtain ⟨y, hy, rfl⟩ := Option.map_eq_some_iff.1 hx; exact HPl.out.hi i y hi hy)), List.map_append, List.map_append, List.map_take, List.map_drop]; rfl)
    have HQ := Lib.hid (show ∀ x ∈ (rs.take p) ++ [r] ++ (rs.drop p), x ∈ rs ∨ x = r by
      intro x hx
      simp only [List.mem_append, List.mem_singleton] at hx
      rcases hx with (hx | hx) | hx
      · first | exact .inl (List.mem_of_mem_take hx) | cases hx
      · exact .inr hx
      · first | exact .inl (List.mem_of_mem_drop hx) | cases hx)
    have hpc : (p : Int) ≤ (c : Int) := by omega
    have hpn2 : (p : Int) ≤ (n : Int) := by omega
    have hnc2 : (n : Int) ≤ (c : Int) := by omega
    have hcp : ¬ c = p := by omega
    have HN0 := Lib.hid hN
    clear hW HP3 hRW hN
    go_wp2
    go_region_held3 (fun w' => w'.cell? ⟨w.heap.size, 0, none⟩ = some (.slice (some ad) n c) ∧ w'.cell? ⟨w.heap.size + 1, 0, none⟩ = some (.int .i64 r.v.fr) ∧ w'.cell? ⟨w.heap.size + 1, 1, none⟩ = some (.int .i64 r.v.b0) ∧ w'.cell? ⟨w.heap.size + 1, 2, none⟩ = some (.int .i64 r.v.b1) ∧ w'.cell? ⟨w.heap.size + 1, 3, none⟩ = some (.int .i64 r.v.b2) ∧ w'.cell? ⟨w.heap.size + 1, 4, none⟩ = some (.int .i64 r.v.b3) ∧ w'.cell? ⟨w.heap.size + 1, 5, none⟩ = some (.slice r.A r.la r.ca) ∧ w'.cell? ⟨w.heap.size + 1, 6, none⟩ = some (.slice r.Z r.lz r.cz) ∧ w'.cell? ⟨w.heap.size + 1, 7, none⟩ = some (.slice r.P r.lp r.cp) ∧ w'.cell? ⟨w.heap.size + 1, 8, none⟩ = some (.int .i64 r.v.mn))
      (first
        | go_keep
        | (go_split_ands
           refine ⟨?_, ?_, ?_, ?_, ?_, ?_, ?_, ?_, ?_, ?_⟩ <;> (rw [hB4.cell (by simp; omega)]; assumption))
        | fail)
      (first
        | (go_at_call 31; (refine CC.out.mono ?_); rintro e w4 ⟨g, cap, rfl, hO4, hlo, hlt, hB4⟩)
        | fail)
    have HPL := Lib.hid (PL.start (w := w) (W := W) HPZ.out.b HPZ.out.x2 hO4 hB4 hlo hlt HE.out (fun x hx => by rcases HQ.out x hx with h | h; exact HS.out.s x h; subst h; exact hSm) (fun x hx => by rcases HQ.out x hx with h | h; exact (HS.out.m x h).keep (fun p hp => HPZ.out.b.cell hp) fun _ h => h; subst h; exact HM.out.keep (fun p hp => HPZ.out.b.cell hp) fun _ h => h))
    have HNC := Lib.hid (show N ≤ cap by
      rcases hO4.2 with ⟨e, _⟩ | ⟨g', cap', cur, e, _, _, hnc, _⟩
      · cases e
      · injection e with _ _ e; omega)
    clear hO4 hB4 hlo hlt CC HQ HE HPZ x0 u0 u1 u2 u3 u4 u5 u6 u7 u8 zl
    go_wp2
    go_loopw [9, 10, 58] (fun s9 s10 i w' => ∃ (q : Nat) (w1 : World), q ≤ N ∧ i = .int .i64 (q : Int) ∧ w1 = w' ∧ Hid (PL w w1 g N (ins r.v (rs.map Rw.v)))) (fun _ _ i _ => N - (intOf i).toNat)
    case atStart => exact ⟨0, _, Nat.zero_le _, rfl, rfl, HPL⟩
    case round =>
      obtain ⟨q, w1, hq, rfl, rfl, HL⟩ := hrel
      clear HPL
      by_cases hlt : q < N
      · obtain ⟨rq, hx, hN9, hMq, hSq⟩ := HL.out.get hlt
        have hlt2 : (q : Int) < (N : Int) := by omega
        have hgl := HL.out.lt
        have CO := Lib.hid (own_ rq (w1.alloc (.cells (vc rq) 26)) _ (hMq.keep (fun p hp => (alloc_ w1 _).cell hp.2) fun _ h => h) (fun b hb => by have := hb.2; rw [World.size_alloc]; omega) hSq)
        have HN9 := Lib.hid hN9
        obtain ⟨c0, c1, c2, c3, c4, c5, c6, c7, c8⟩ := hN9
        have HX := Lib.hid hx
        clear hx hMq
        go_wp2_with fail
        refine CO.out.mono ?_
        rintro e w5 ⟨r5, rfl, e5, s5, m5, hb5⟩
        have HN5 := Lib.hid (HL.out.put hlt _ hb5 (r := r5) (by rw [e5]; exact HX.out) s5 m5)
        have hb5' := below_alloc hb5
        clear c0 c1 c2 c3 c4 c5 c6 c7 c8
        obtain ⟨c0, c1, c2, c3, c4, c5, c6, c7, c8⟩ := HN9.out.keep (w' := w5) (fun p hp => hb5'.cell (by rw [hp]; exact hgl))
        have f0 := (hb5'.frozen (p := ⟨g, q * 9, none⟩) hgl).trans (HL.out.fz _)
        have f1 := (hb5'.frozen (p := ⟨g, q * 9 + 1, none⟩) hgl).trans (HL.out.fz _)
        have f2 := (hb5'.frozen (p := ⟨g, q * 9 + 2, none⟩) hgl).trans (HL.out.fz _)
        have f3 := (hb5'.frozen (p := ⟨g, q * 9 + 3, none⟩) hgl).trans (HL.out.fz _)
        have f4 := (hb5'.frozen (p := ⟨g, q * 9 + 4, none⟩) hgl).trans (HL.out.fz _)
        have f5 := (hb5'.frozen (p := ⟨g, q * 9 + 5, none⟩) hgl).trans (HL.out.fz _)
        have f6 := (hb5'.frozen (p := ⟨g, q * 9 + 6, none⟩) hgl).trans (HL.out.fz _)
        have f7 := (hb5'.frozen (p := ⟨g, q * 9 + 7, none⟩) hgl).trans (HL.out.fz _)
        have f8 := (hb5'.frozen (p := ⟨g, q * 9 + 8, none⟩) hgl).trans (HL.out.fz _)
        dsimp only at c0 c1 c2 c3 c4 c5 c6 c7 c8
        clear hb5 hb5' CO m5 e5 HN9
        go_wp2
        go_roundw
        case rel => exact ⟨q + 1, _, by omega, by go_num, rfl, HN5⟩
        case measure => simp [intOf]; omega
      · obtain rfl : q = N := by omega
        obtain ⟨rs', hV, hE'⟩ := HL.out.done (.slice (some ⟨g, 0, none⟩) q cap)
        have HD := Lib.hid (And.intro hV hE')
        have z0 := HL.out.x.c 0
        have zf := HL.out.x.f 0
        have zl := HL.out.x.lt
        simp at z0
        clear hV hE'
        go_wp2
        refine bodyPost_ret (v := .tuple #[tg (some ⟨g, 0, none⟩) q cap, .int .i64 0]) (by simp [results, Try.results17, go_sem, z0]) rfl ⟨some ⟨g, 0, none⟩, q, cap, rs', by rw [HC.out], HD.out.1, by rw [pt_ok HC.out]; exact HD.out.2, HNC.out, (fun e => by cases e), HL.out.b.setCell (p := ⟨w.heap.size + 2, 0, none⟩) (by show w.heap.size ≤ w.heap.size + 2; omega) _⟩
  · obtain rfl : p = n := by omega
    have q1 : decide ((p : Int) < (p : Int)) = false := decide_eq_false (by omega)
    have q1' : decide (p < p) = false := decide_eq_false (by omega)
    cases A with
    | some ad =>
      go_wp2
      go_quiet (fail)
      have HPZ := Lib.hid (show P0 w (w3.drewN nq) (some ad) p c r from ⟨below_drewN HP3.out.b _, HP3.out.x0, HP3.out.x1, HP3.out.x2⟩)
      clear x0 x1
      by_cases hcp : c = p
      · obtain rfl : c = p := hcp
        obtain ⟨W, hW⟩ : ∃ W, w3.drewN nq = W := ⟨_, rfl⟩
        rw [hW] at HPZ ⊢
        have x0 := HPZ.out.x0.c 0
        have u0 := HPZ.out.x1.c 0
        have u1 := HPZ.out.x1.c 1
        have u2 := HPZ.out.x1.c 2
        have u3 := HPZ.out.x1.c 3
        have u4 := HPZ.out.x1.c 4
        have u5 := HPZ.out.x1.c 5
        have u6 := HPZ.out.x1.c 6
        have u7 := HPZ.out.x1.c 7
        have u8 := HPZ.out.x1.c 8
        have zl := HPZ.out.x2.lt
        simp at x0 u0 u1 u2 u3 u4 u5 u6 u7 u8
        have hRW : Raws W (· < W.heap.size) (some ad) c rs := (HS.out.below HPZ.out.b).r
        obtain ⟨N, hN⟩ : ∃ N, c + 1 + 0 = N := ⟨_, rfl⟩
        have hN2 : N ≤ 1000 := by have := rgt_rise HR.out; rw [HS.out.len] at this; omega
        have CC := Lib.hid (put_concat W (some ad) (some ad) c c 0 0 N (rs.take c) [] r (hRW.take (by omega)) Raws.nil (fun e => by cases e) (fun e => by cases e) hN hN2)
        have HE := Lib.hid (show ((rs.take c) ++ [r] ++ []).map Rw.v = ins r.v (rs.map Rw.v) by rw [ins_place (p := c) (by rw [HS.out.len]; exact HPl.out.le) (fun i x hi hx => (by rw [List.getElem?_map] at hx; obtain ⟨y, hy, rfl⟩ := Option.map_eq_some_iff.1 hx; exact HPl.out.lo i y hi hy)) (fun i x hi hx => (by rw [List.getElem?_map] at hx; obtain ⟨y, hy, rfl⟩ := Option.map_eq_some_iff.1 hx; exact HPl.out.hi i y hi hy)), List.map_append, List.map_append, List.map_take, List.drop_of_length_le (by rw [HS.out.len]; omega)]; rfl)
        have HQ := Lib.hid (show ∀ x ∈ (rs.take c) ++ [r] ++ [], x ∈ rs ∨ x = r by
          intro x hx
          simp only [List.mem_append, List.mem_singleton] at hx
          rcases hx with (hx | hx) | hx
          · first | exact .inl (List.mem_of_mem_take hx) | cases hx
          · exact .inr hx
          · first | exact .inl (List.mem_of_mem_drop hx) | cases hx)
        have HN0 := Lib.hid hN
        clear hW HP3 hRW hN
        go_wp2
        go_region_held3 (fun w' => w'.cell? ⟨w.heap.size, 0, none⟩ = some (.slice (some ad) c c) ∧ w'.cell? ⟨w.heap.size + 1, 0, none⟩ = some (.int .i64 r.v.fr) ∧ w'.cell? ⟨w.heap.size + 1, 1, none⟩ = some (.int .i64 r.v.b0) ∧ w'.cell? ⟨w.heap.size + 1, 2, none⟩ = some (.int .i64 r.v.b1) ∧ w'.cell? ⟨w.heap.size + 1, 3, none⟩ = some (.int .i64 r.v.b2) ∧ w'.cell? ⟨w.heap.size + 1, 4, none⟩ = some (.int .i64 r.v.b3) ∧ w'.cell? ⟨w.heap.size + 1, 5, none⟩ = some (.slice r.A r.la r.ca) ∧ w'.cell? ⟨w.heap.size + 1, 6, none⟩ = some (.slice r.Z r.lz r.cz) ∧ w'.cell? ⟨w.heap.size + 1, 7, none⟩ = some (.slice r.P r.lp r.cp) ∧ w'.cell? ⟨w.heap.size + 1, 8, none⟩ = some (.int .i64 r.v.mn))
          (first
            | go_keep
            | (go_split_ands
               refine ⟨?_, ?_, ?_, ?_, ?_, ?_, ?_, ?_, ?_, ?_⟩ <;> (rw [hB4.cell (by simp; omega)]; assumption))
            | fail)
          (first
            | (go_at_call 31; (refine CC.out.mono ?_); rintro e w4 ⟨g, cap, rfl, hO4, hlo, hlt, hB4⟩)
            | fail)
        have HPL := Lib.hid (PL.start (w := w) (W := W) HPZ.out.b HPZ.out.x2 hO4 hB4 hlo hlt HE.out (fun x hx => by rcases HQ.out x hx with h | h; exact HS.out.s x h; subst h; exact hSm) (fun x hx => by rcases HQ.out x hx with h | h; exact (HS.out.m x h).keep (fun p hp => HPZ.out.b.cell hp) fun _ h => h; subst h; exact HM.out.keep (fun p hp => HPZ.out.b.cell hp) fun _ h => h))
        have HNC := Lib.hid (show N ≤ cap by
          rcases hO4.2 with ⟨e, _⟩ | ⟨g', cap', cur, e, _, _, hnc, _⟩
          · cases e
          · injection e with _ _ e; omega)
        clear hO4 hB4 hlo hlt CC HQ HE HPZ x0 u0 u1 u2 u3 u4 u5 u6 u7 u8 zl
        go_wp2
        go_loopw [9, 10, 58] (fun s9 s10 i w' => ∃ (q : Nat) (w1 : World), q ≤ N ∧ i = .int .i64 (q : Int) ∧ w1 = w' ∧ Hid (PL w w1 g N (ins r.v (rs.map Rw.v)))) (fun _ _ i _ => N - (intOf i).toNat)
        case atStart => exact ⟨0, _, Nat.zero_le _, rfl, rfl, HPL⟩
        case round =>
          obtain ⟨q, w1, hq, rfl, rfl, HL⟩ := hrel
          clear HPL
          by_cases hlt : q < N
          · obtain ⟨rq, hx, hN9, hMq, hSq⟩ := HL.out.get hlt
            have hlt2 : (q : Int) < (N : Int) := by omega
            have hgl := HL.out.lt
            have CO := Lib.hid (own_ rq (w1.alloc (.cells (vc rq) 26)) _ (hMq.keep (fun p hp => (alloc_ w1 _).cell hp.2) fun _ h => h) (fun b hb => by have := hb.2; rw [World.size_alloc]; omega) hSq)
            have HN9 := Lib.hid hN9
            obtain ⟨c0, c1, c2, c3, c4, c5, c6, c7, c8⟩ := hN9
            have HX := Lib.hid hx
            clear hx hMq
            go_wp2_with fail
            refine CO.out.mono ?_
            rintro e w5 ⟨r5, rfl, e5, s5, m5, hb5⟩
            have HN5 := Lib.hid (HL.out.put hlt _ hb5 (r := r5) (by rw [e5]; exact HX.out) s5 m5)
            have hb5' := below_alloc hb5
            clear c0 c1 c2 c3 c4 c5 c6 c7 c8
            obtain ⟨c0, c1, c2, c3, c4, c5, c6, c7, c8⟩ := HN9.out.keep (w' := w5) (fun p hp => hb5'.cell (by rw [hp]; exact hgl))
            have f0 := (hb5'.frozen (p := ⟨g, q * 9, none⟩) hgl).trans (HL.out.fz _)
            have f1 := (hb5'.frozen (p := ⟨g, q * 9 + 1, none⟩) hgl).trans (HL.out.fz _)
            have f2 := (hb5'.frozen (p := ⟨g, q * 9 + 2, none⟩) hgl).trans (HL.out.fz _)
            have f3 := (hb5'.frozen (p := ⟨g, q * 9 + 3, none⟩) hgl).trans (HL.out.fz _)
            have f4 := (hb5'.frozen (p := ⟨g, q * 9 + 4, none⟩) hgl).trans (HL.out.fz _)
            have f5 := (hb5'.frozen (p := ⟨g, q * 9 + 5, none⟩) hgl).trans (HL.out.fz _)
            have f6 := (hb5'.frozen (p := ⟨g, q * 9 + 6, none⟩) hgl).trans (HL.out.fz _)
            have f7 := (hb5'.frozen (p := ⟨g, q * 9 + 7, none⟩) hgl).trans (HL.out.fz _)
            have f8 := (hb5'.frozen (p := ⟨g, q * 9 + 8, none⟩) hgl).trans (HL.out.fz _)
            dsimp only at c0 c1 c2 c3 c4 c5 c6 c7 c8
            clear hb5 hb5' CO m5 e5 HN9
            go_wp2
            go_roundw
            case rel => exact ⟨q + 1, _, by omega, by go_num, rfl, HN5⟩
            case measure => simp [intOf]; omega
          · obtain rfl : q = N := by omega
            obtain ⟨rs', hV, hE'⟩ := HL.out.done (.slice (some ⟨g, 0, none⟩) q cap)
            have HD := Lib.hid (And.intro hV hE')
            have z0 := HL.out.x.c 0
            have zf := HL.out.x.f 0
            have zl := HL.out.x.lt
            simp at z0
            clear hV hE'
            go_wp2
            refine bodyPost_ret (v := .tuple #[tg (some ⟨g, 0, none⟩) q cap, .int .i64 0]) (by simp [results, Try.results17, go_sem, z0]) rfl ⟨some ⟨g, 0, none⟩, q, cap, rs', by rw [HC.out], HD.out.1, by rw [pt_ok HC.out]; exact HD.out.2, HNC.out, (fun e => by cases e), HL.out.b.setCell (p := ⟨w.heap.size + 2, 0, none⟩) (by show w.heap.size ≤ w.heap.size + 2; omega) _⟩
      · skip
        obtain ⟨W, hW⟩ : ∃ W, w3.drewN nq = W := ⟨_, rfl⟩
        rw [hW] at HPZ ⊢
        have x0 := HPZ.out.x0.c 0
        have u0 := HPZ.out.x1.c 0
        have u1 := HPZ.out.x1.c 1
        have u2 := HPZ.out.x1.c 2
        have u3 := HPZ.out.x1.c 3
        have u4 := HPZ.out.x1.c 4
        have u5 := HPZ.out.x1.c 5
        have u6 := HPZ.out.x1.c 6
        have u7 := HPZ.out.x1.c 7
        have u8 := HPZ.out.x1.c 8
        have zl := HPZ.out.x2.lt
        simp at x0 u0 u1 u2 u3 u4 u5 u6 u7 u8
        have hRW : Raws W (· < W.heap.size) (some ad) p rs := (HS.out.below HPZ.out.b).r
        obtain ⟨N, hN⟩ : ∃ N, p + 1 + 0 = N := ⟨_, rfl⟩
        have hN2 : N ≤ 1000 := by have := rgt_rise HR.out; rw [HS.out.len] at this; omega
        have CC := Lib.hid (put_concat W (some ad) (some (ad.add (p * 9))) p c 0 (c - p) N (rs.take p) [] r (hRW.take (by omega)) Raws.nil (fun e => by cases e) (fun e => by cases e) hN hN2)
        have HE := Lib.hid (show ((rs.take p) ++ [r] ++ []).map Rw.v = ins r.v (rs.map Rw.v) by rw [ins_place (p := p) (by rw [HS.out.len]; exact HPl.out.le) (fun i x hi hx => (by rw [List.getElem?_map] at hx; obtain ⟨y, hy, rfl⟩ := Option.map_eq_some_iff.1 hx; exact HPl.out.lo i y hi hy)) (fun i x hi hx => (by rw [List.getElem?_map] at hx; obtain ⟨y, hy, rfl⟩ := Option.map_eq_some_iff.1 hx; exact HPl.out.hi i y hi hy)), List.map_append, List.map_append, List.map_take, List.drop_of_length_le (by rw [HS.out.len]; omega)]; rfl)
        have HQ := Lib.hid (show ∀ x ∈ (rs.take p) ++ [r] ++ [], x ∈ rs ∨ x = r by
          intro x hx
          simp only [List.mem_append, List.mem_singleton] at hx
          rcases hx with (hx | hx) | hx
          · first | exact .inl (List.mem_of_mem_take hx) | cases hx
          · exact .inr hx
          · first | exact .inl (List.mem_of_mem_drop hx) | cases hx)
        have hnc2 : (p : Int) ≤ (c : Int) := by omega
        have HN0 := Lib.hid hN
        clear hW HP3 hRW hN
        go_wp2
        go_region_held3 (fun w' => w'.cell? ⟨w.heap.size, 0, none⟩ = some (.slice (some ad) p c) ∧ w'.cell? ⟨w.heap.size + 1, 0, none⟩ = some (.int .i64 r.v.fr) ∧ w'.cell? ⟨w.heap.size + 1, 1, none⟩ = some (.int .i64 r.v.b0) ∧ w'.cell? ⟨w.heap.size + 1, 2, none⟩ = some (.int .i64 r.v.b1) ∧ w'.cell? ⟨w.heap.size + 1, 3, none⟩ = some (.int .i64 r.v.b2) ∧ w'.cell? ⟨w.heap.size + 1, 4, none⟩ = some (.int .i64 r.v.b3) ∧ w'.cell? ⟨w.heap.size + 1, 5, none⟩ = some (.slice r.A r.la r.ca) ∧ w'.cell? ⟨w.heap.size + 1, 6, none⟩ = some (.slice r.Z r.lz r.cz) ∧ w'.cell? ⟨w.heap.size + 1, 7, none⟩ = some (.slice r.P r.lp r.cp) ∧ w'.cell? ⟨w.heap.size + 1, 8, none⟩ = some (.int .i64 r.v.mn))
          (first
            | go_keep
            | (go_split_ands
               refine ⟨?_, ?_, ?_, ?_, ?_, ?_, ?_, ?_, ?_, ?_⟩ <;> (rw [hB4.cell (by simp; omega)]; assumption))
            | fail)
          (first
            | (go_at_call 31; (refine CC.out.mono ?_); rintro e w4 ⟨g, cap, rfl, hO4, hlo, hlt, hB4⟩)
            | fail)
        have HPL := Lib.hid (PL.start (w := w) (W := W) HPZ.out.b HPZ.out.x2 hO4 hB4 hlo hlt HE.out (fun x hx => by rcases HQ.out x hx with h | h; exact HS.out.s x h; subst h; exact hSm) (fun x hx => by rcases HQ.out x hx with h | h; exact (HS.out.m x h).keep (fun p hp => HPZ.out.b.cell hp) fun _ h => h; subst h; exact HM.out.keep (fun p hp => HPZ.out.b.cell hp) fun _ h => h))
        have HNC := Lib.hid (show N ≤ cap by
          rcases hO4.2 with ⟨e, _⟩ | ⟨g', cap', cur, e, _, _, hnc, _⟩
          · cases e
          · injection e with _ _ e; omega)
        clear hO4 hB4 hlo hlt CC HQ HE HPZ x0 u0 u1 u2 u3 u4 u5 u6 u7 u8 zl
        go_wp2
        go_loopw [9, 10, 58] (fun s9 s10 i w' => ∃ (q : Nat) (w1 : World), q ≤ N ∧ i = .int .i64 (q : Int) ∧ w1 = w' ∧ Hid (PL w w1 g N (ins r.v (rs.map Rw.v)))) (fun _ _ i _ => N - (intOf i).toNat)
        case atStart => exact ⟨0, _, Nat.zero_le _, rfl, rfl, HPL⟩
        case round =>
          obtain ⟨q, w1, hq, rfl, rfl, HL⟩ := hrel
          clear HPL
          by_cases hlt : q < N
          · obtain ⟨rq, hx, hN9, hMq, hSq⟩ := HL.out.get hlt
            have hlt2 : (q : Int) < (N : Int) := by omega
            have hgl := HL.out.lt
            have CO := Lib.hid (own_ rq (w1.alloc (.cells (vc rq) 26)) _ (hMq.keep (fun p hp => (alloc_ w1 _).cell hp.2) fun _ h => h) (fun b hb => by have := hb.2; rw [World.size_alloc]; omega) hSq)
            have HN9 := Lib.hid hN9
            obtain ⟨c0, c1, c2, c3, c4, c5, c6, c7, c8⟩ := hN9
            have HX := Lib.hid hx
            clear hx hMq
            go_wp2_with fail
            refine CO.out.mono ?_
            rintro e w5 ⟨r5, rfl, e5, s5, m5, hb5⟩
            have HN5 := Lib.hid (HL.out.put hlt _ hb5 (r := r5) (by rw [e5]; exact HX.out) s5 m5)
            have hb5' := below_alloc hb5
            clear c0 c1 c2 c3 c4 c5 c6 c7 c8
            obtain ⟨c0, c1, c2, c3, c4, c5, c6, c7, c8⟩ := HN9.out.keep (w' := w5) (fun p hp => hb5'.cell (by rw [hp]; exact hgl))
            have f0 := (hb5'.frozen (p := ⟨g, q * 9, none⟩) hgl).trans (HL.out.fz _)
            have f1 := (hb5'.frozen (p := ⟨g, q * 9 + 1, none⟩) hgl).trans (HL.out.fz _)
            have f2 := (hb5'.frozen (p := ⟨g, q * 9 + 2, none⟩) hgl).trans (HL.out.fz _)
            have f3 := (hb5'.frozen (p := ⟨g, q * 9 + 3, none⟩) hgl).trans (HL.out.fz _)
            have f4 := (hb5'.frozen (p := ⟨g, q * 9 + 4, none⟩) hgl).trans (HL.out.fz _)
            have f5 := (hb5'.frozen (p := ⟨g, q * 9 + 5, none⟩) hgl).trans (HL.out.fz _)
            have f6 := (hb5'.frozen (p := ⟨g, q * 9 + 6, none⟩) hgl).trans (HL.out.fz _)
            have f7 := (hb5'.frozen (p := ⟨g, q * 9 + 7, none⟩) hgl).trans (HL.out.fz _)
            have f8 := (hb5'.frozen (p := ⟨g, q * 9 + 8, none⟩) hgl).trans (HL.out.fz _)
            dsimp only at c0 c1 c2 c3 c4 c5 c6 c7 c8
            clear hb5 hb5' CO m5 e5 HN9
            go_wp2
            go_roundw
            case rel => exact ⟨q + 1, _, by omega, by go_num, rfl, HN5⟩
            case measure => simp [intOf]; omega
          · obtain rfl : q = N := by omega
            obtain ⟨rs', hV, hE'⟩ := HL.out.done (.slice (some ⟨g, 0, none⟩) q cap)
            have HD := Lib.hid (And.intro hV hE')
            have z0 := HL.out.x.c 0
            have zf := HL.out.x.f 0
            have zl := HL.out.x.lt
            simp at z0
            clear hV hE'
            go_wp2
            refine bodyPost_ret (v := .tuple #[tg (some ⟨g, 0, none⟩) q cap, .int .i64 0]) (by simp [results, Try.results17, go_sem, z0]) rfl ⟨some ⟨g, 0, none⟩, q, cap, rs', by rw [HC.out], HD.out.1, by rw [pt_ok HC.out]; exact HD.out.2, HNC.out, (fun e => by cases e), HL.out.b.setCell (p := ⟨w.heap.size + 2, 0, none⟩) (by show w.heap.size ≤ w.heap.size + 2; omega) _⟩
    | none =>
      obtain ⟨rfl, rfl⟩ := HNIL.out rfl
      go_wp2
      go_quiet (fail)
      have HPZ := Lib.hid (show P0 w (w3.drewN nq) none 0 0 r from ⟨below_drewN HP3.out.b _, HP3.out.x0, HP3.out.x1, HP3.out.x2⟩)
      clear x0 x1
      obtain ⟨W, hW⟩ : ∃ W, w3.drewN nq = W := ⟨_, rfl⟩
      rw [hW] at HPZ ⊢
      have x0 := HPZ.out.x0.c 0
      have u0 := HPZ.out.x1.c 0
      have u1 := HPZ.out.x1.c 1
      have u2 := HPZ.out.x1.c 2
      have u3 := HPZ.out.x1.c 3
      have u4 := HPZ.out.x1.c 4
      have u5 := HPZ.out.x1.c 5
      have u6 := HPZ.out.x1.c 6
      have u7 := HPZ.out.x1.c 7
      have u8 := HPZ.out.x1.c 8
      have zl := HPZ.out.x2.lt
      simp at x0 u0 u1 u2 u3 u4 u5 u6 u7 u8
      have hRW : Raws W (· < W.heap.size) none 0 rs := (HS.out.below HPZ.out.b).r
      obtain ⟨N, hN⟩ : ∃ N, 0 + 1 + 0 = N := ⟨_, rfl⟩
      have hN2 : N ≤ 1000 := by have := rgt_rise HR.out; rw [HS.out.len] at this; omega
      have CC := Lib.hid (put_concat W none none 0 0 0 0 N [] [] r Raws.nil Raws.nil (fun _ => ⟨rfl, rfl⟩) (fun _ => ⟨rfl, rfl⟩) hN hN2)
      have HE := Lib.hid (show ([] ++ [r] ++ []).map Rw.v = ins r.v (rs.map Rw.v) by have := HS.out.r.1; rw [List.eq_nil_of_length_eq_zero this]; rfl)
      have HQ := Lib.hid (show ∀ x ∈ [] ++ [r] ++ [], x ∈ rs ∨ x = r by
        intro x hx
        simp only [List.mem_append, List.mem_singleton] at hx
        rcases hx with (hx | hx) | hx
        · first | exact .inl (List.mem_of_mem_take hx) | cases hx
        · exact .inr hx
        · first | exact .inl (List.mem_of_mem_drop hx) | cases hx)
      have HN0 := Lib.hid hN
      clear hW HP3 hRW hN
      go_wp2
      go_region_held3 (fun w' => w'.cell? ⟨w.heap.size, 0, none⟩ = some (.slice none 0 0) ∧ w'.cell? ⟨w.heap.size + 1, 0, none⟩ = some (.int .i64 r.v.fr) ∧ w'.cell? ⟨w.heap.size + 1, 1, none⟩ = some (.int .i64 r.v.b0) ∧ w'.cell? ⟨w.heap.size + 1, 2, none⟩ = some (.int .i64 r.v.b1) ∧ w'.cell? ⟨w.heap.size + 1, 3, none⟩ = some (.int .i64 r.v.b2) ∧ w'.cell? ⟨w.heap.size + 1, 4, none⟩ = some (.int .i64 r.v.b3) ∧ w'.cell? ⟨w.heap.size + 1, 5, none⟩ = some (.slice r.A r.la r.ca) ∧ w'.cell? ⟨w.heap.size + 1, 6, none⟩ = some (.slice r.Z r.lz r.cz) ∧ w'.cell? ⟨w.heap.size + 1, 7, none⟩ = some (.slice r.P r.lp r.cp) ∧ w'.cell? ⟨w.heap.size + 1, 8, none⟩ = some (.int .i64 r.v.mn))
        (first
          | go_keep
          | (go_split_ands
             refine ⟨?_, ?_, ?_, ?_, ?_, ?_, ?_, ?_, ?_, ?_⟩ <;> (rw [hB4.cell (by simp; omega)]; assumption))
          | fail)
        (first
          | (go_at_call 31; (refine CC.out.mono ?_); rintro e w4 ⟨g, cap, rfl, hO4, hlo, hlt, hB4⟩)
          | fail)
      have HPL := Lib.hid (PL.start (w := w) (W := W) HPZ.out.b HPZ.out.x2 hO4 hB4 hlo hlt HE.out (fun x hx => by rcases HQ.out x hx with h | h; exact HS.out.s x h; subst h; exact hSm) (fun x hx => by rcases HQ.out x hx with h | h; exact (HS.out.m x h).keep (fun p hp => HPZ.out.b.cell hp) fun _ h => h; subst h; exact HM.out.keep (fun p hp => HPZ.out.b.cell hp) fun _ h => h))
      have HNC := Lib.hid (show N ≤ cap by
        rcases hO4.2 with ⟨e, _⟩ | ⟨g', cap', cur, e, _, _, hnc, _⟩
        · cases e
        · injection e with _ _ e; omega)
      clear hO4 hB4 hlo hlt CC HQ HE HPZ x0 u0 u1 u2 u3 u4 u5 u6 u7 u8 zl
      go_wp2
      go_loopw [9, 10, 58] (fun s9 s10 i w' => ∃ (q : Nat) (w1 : World), q ≤ N ∧ i = .int .i64 (q : Int) ∧ w1 = w' ∧ Hid (PL w w1 g N (ins r.v (rs.map Rw.v)))) (fun _ _ i _ => N - (intOf i).toNat)
      case atStart => exact ⟨0, _, Nat.zero_le _, rfl, rfl, HPL⟩
      case round =>
        obtain ⟨q, w1, hq, rfl, rfl, HL⟩ := hrel
        clear HPL
        by_cases hlt : q < N
        · obtain ⟨rq, hx, hN9, hMq, hSq⟩ := HL.out.get hlt
          have hlt2 : (q : Int) < (N : Int) := by omega
          have hgl := HL.out.lt
          have CO := Lib.hid (own_ rq (w1.alloc (.cells (vc rq) 26)) _ (hMq.keep (fun p hp => (alloc_ w1 _).cell hp.2) fun _ h => h) (fun b hb => by have := hb.2; rw [World.size_alloc]; omega) hSq)
          have HN9 := Lib.hid hN9
          obtain ⟨c0, c1, c2, c3, c4, c5, c6, c7, c8⟩ := hN9
          have HX := Lib.hid hx
          clear hx hMq
          go_wp2_with fail
          refine CO.out.mono ?_
          rintro e w5 ⟨r5, rfl, e5, s5, m5, hb5⟩
          have HN5 := Lib.hid (HL.out.put hlt _ hb5 (r := r5) (by rw [e5]; exact HX.out) s5 m5)
          have hb5' := below_alloc hb5
          clear c0 c1 c2 c3 c4 c5 c6 c7 c8
          obtain ⟨c0, c1, c2, c3, c4, c5, c6, c7, c8⟩ := HN9.out.keep (w' := w5) (fun p hp => hb5'.cell (by rw [hp]; exact hgl))
          have f0 := (hb5'.frozen (p := ⟨g, q * 9, none⟩) hgl).trans (HL.out.fz _)
          have f1 := (hb5'.frozen (p := ⟨g, q * 9 + 1, none⟩) hgl).trans (HL.out.fz _)
          have f2 := (hb5'.frozen (p := ⟨g, q * 9 + 2, none⟩) hgl).trans (HL.out.fz _)
          have f3 := (hb5'.frozen (p := ⟨g, q * 9 + 3, none⟩) hgl).trans (HL.out.fz _)
          have f4 := (hb5'.frozen (p := ⟨g, q * 9 + 4, none⟩) hgl).trans (HL.out.fz _)
          have f5 := (hb5'.frozen (p := ⟨g, q * 9 + 5, none⟩) hgl).trans (HL.out.fz _)
          have f6 := (hb5'.frozen (p := ⟨g, q * 9 + 6, none⟩) hgl).trans (HL.out.fz _)
          have f7 := (hb5'.frozen (p := ⟨g, q * 9 + 7, none⟩) hgl).trans (HL.out.fz _)
          have f8 := (hb5'.frozen (p := ⟨g, q * 9 + 8, none⟩) hgl).trans (HL.out.fz _)
          dsimp only at c0 c1 c2 c3 c4 c5 c6 c7 c8
          clear hb5 hb5' CO m5 e5 HN9
          go_wp2
          go_roundw
          case rel => exact ⟨q + 1, _, by omega, by go_num, rfl, HN5⟩
          case measure => simp [intOf]; omega
        · obtain rfl : q = N := by omega
          obtain ⟨rs', hV, hE'⟩ := HL.out.done (.slice (some ⟨g, 0, none⟩) q cap)
          have HD := Lib.hid (And.intro hV hE')
          have z0 := HL.out.x.c 0
          have zf := HL.out.x.f 0
          have zl := HL.out.x.lt
          simp at z0
          clear hV hE'
          go_wp2
          refine bodyPost_ret (v := .tuple #[tg (some ⟨g, 0, none⟩) q cap, .int .i64 0]) (by simp [results, Try.results17, go_sem, z0]) rfl ⟨some ⟨g, 0, none⟩, q, cap, rs', by rw [HC.out], HD.out.1, by rw [pt_ok HC.out]; exact HD.out.2, HNC.out, (fun e => by cases e), HL.out.b.setCell (p := ⟨w.heap.size + 2, 0, none⟩) (by show w.heap.size ≤ w.heap.size + 2; omega) _⟩

end Trf
end Go.Proofs.Ythjlhjbblnoldaa
