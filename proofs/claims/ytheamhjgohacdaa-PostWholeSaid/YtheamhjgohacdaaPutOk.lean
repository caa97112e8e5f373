/-
  Put of package post, its good ending. Conditions: the book reads as a list of entries of at most a thousand lines each, the entry's lines as a list.
-/
import Derived.Test.YtheamhjgohacdaaPut
namespace Go.Proofs.Ytheamhjgohacdaa
open Go.RowKit Bk
namespace Pst
set_option linter.unusedVariables false

theorem ents_raws {w w1 : World} {A : Option Addr} {n : Nat} {es : List En} (h : Ents w A n es) (hb : Below w.heap.size w w1) : ∃ rs, Raws w1 (· < w.heap.size) A n rs ∧ Means w1 (· < w.heap.size) rs es := by
  obtain ⟨rs, a, b⟩ := h
  exact ⟨rs, a.keep (fun _ hp => hb.cell hp) fun _ h => h, b.keep (fun _ hp => hb.cell hp) fun _ h => h⟩
theorem means_snoc {w : World} {ok : Nat → Prop} {rs : List Rw} {es : List En} {r : Rw} {e : En} (h : Means w ok rs es) (hm : Mean w ok r e) : Means w ok (rs ++ [r]) (es ++ [e]) := by
  refine ⟨by simp [h.1], fun j r' e' hr he => ?_⟩
  rcases Nat.lt_or_ge j rs.length with hj | hj
  · rw [List.getElem?_append_left hj] at hr
    rw [List.getElem?_append_left (by rw [← h.1]; exact hj)] at he
    exact h.2 j r' e' hr he
  · rw [List.getElem?_append_right hj] at hr
    rw [List.getElem?_append_right (by rw [← h.1]; exact hj)] at he
    have hj0 : j - rs.length = 0 := by
      have := (List.getElem?_eq_some_iff.1 hr).1
      simp at this; omega
    rw [hj0] at hr
    rw [← h.1, hj0] at he
    simp at hr he
    subst hr he
    exact hm

set_option maxRecDepth 100000 in
set_option maxHeartbeats 4000000 in
theorem put_zero (A : Option Addr) (n c : Nat) (es : List En) (d f : Int) (L : Option Addr) (m k : Nat) (ls : List Pr) (w : World) (hS : Ents w A n es) (hcap : n ≤ c) (hsm : ∀ e ∈ es, e.ls.length ≤ 1000) (hl : Lns w (· < w.heap.size) L m ls) (h : fm ⟨d, f, ls⟩ = true) (ht : tot ls = 0) (hn : n < 2000) (ha : ahd es d = false) (h0 : n = 0) :
    Calls Try.prog 21 #[bg A n c, eg d f L m k] w (PutTo w es ⟨d, f, ls⟩) := by
  have hm9 : m ≤ 9 := by have := (fm_len h).2; have e := hl.1; simp only at this; omega
  have CF := fun w' (hb : Below w.heap.size w w') => Lib.hid (formed d f L m k ls w' (hl.below hb))
  have CS := fun w' (hb : Below w.heap.size w w') => Lib.hid (sum_ d f L m k ls w' (hl.below hb) (by unfold maxLen; omega))
  have HC := Lib.hid (show cde es ⟨d, f, ls⟩ = 0 by unfold cde; rw [h, if_pos rfl, if_pos ht, if_pos (by rw [hS.len]; omega), if_neg (by rw [ha]; simp)])
  rw [ht, wr0] at CS
  rw [h] at CF
  have HS := Lib.hid hS
  have HL := Lib.hid hl
  have HSM := Lib.hid hsm
  clear hl h ht hS ha hsm
  have t1 : decide (2000 ≤ (n : Int)) = false := by simpa using (show ¬ 2000 ≤ (n : Int) by omega)
  have t2 : decide (2000 ≤ n) = false := by simpa using (show ¬ 2000 ≤ n by omega)
  have tk : decide (0 < (n : Int)) = false := by simpa using (show ¬ 0 < (n : Int) by omega)
  have tk2 : decide (0 < n) = false := by simpa using (show ¬ 0 < n by omega)
  clear h0
  go_enter Try.func21, Try.ntmps21
  go_wp2_with fail
  have HP := Lib.hid (P0.start (w := w) (A := A) (n := n) (c := c) (d := d) (f := f) (L := L) (m := m) (k := k))
  refine (CF _ HP.out.b).out.mono ?_
  rintro e w1 ⟨rfl, hb1⟩
  have HP1 := Lib.hid (HP.out.next hb1)
  have y0 := HP1.out.x1.c 0
  have y1 := HP1.out.x1.c 1
  have y2 := HP1.out.x1.c 2
  simp at y0 y1 y2
  clear hb1 HP CF
  go_wp2_with fail
  refine (CS _ HP1.out.b).out.mono ?_
  rintro e w2 ⟨rfl, hb2⟩
  have HP2 := Lib.hid (HP1.out.next hb2)
  have v0 := HP2.out.x0.c 0
  have u0 := HP2.out.x1.c 0
  have u1 := HP2.out.x1.c 1
  have u2 := HP2.out.x1.c 2
  have zl := HP2.out.x2.lt
  simp at v0 u0 u1 u2
  clear hb2 CS y0 y1 y2
  go_wp2
  go_quiet (fail)
  go_wp2
  obtain ⟨W, hW⟩ : ∃ W, w2.drewN nq = W := ⟨_, rfl⟩
  have HPW := Lib.hid (show P0 w W A n c d f L m k by rw [← hW]; exact ⟨below_drewN HP2.out.b _, HP2.out.x0, HP2.out.x1, HP2.out.x2⟩)
  rw [hW]
  clear HP2 hW v0 u0 u1 u2 zl
  have v0 := HPW.out.x0.c 0
  have u0 := HPW.out.x1.c 0
  have u1 := HPW.out.x1.c 1
  have u2 := HPW.out.x1.c 2
  have zl := HPW.out.x2.lt
  have hcap2 : (n : Int) ≤ (c : Int) := by omega
  simp at v0 u0 u1 u2
  obtain ⟨rs, hRa, hMe⟩ := ents_raws HS.out HPW.out.b
  have HRA := Lib.hid hRa
  have HME := Lib.hid hMe
  clear hRa hMe
  go_region_held3 (fun w' => w'.cell? ⟨w.heap.size, 0, none⟩ = some (.slice A n c) ∧ w'.cell? ⟨w.heap.size + 1, 0, none⟩ = some (.int .i64 d) ∧ w'.cell? ⟨w.heap.size + 1, 1, none⟩ = some (.int .i64 f) ∧ w'.cell? ⟨w.heap.size + 1, 2, none⟩ = some (.slice L m k))
    (first
      | go_keep
      | (go_split_ands
         refine ⟨?_, ?_, ?_, ?_⟩ <;> (rw [hB.cell (by simp; omega)]; assumption))
      | fail)
    ((refine step_grow _ (by rfl) _ _ (by rfl) (· < w.heap.size) A n rs (by rfl) (HRA.out.keep (fun p hp => (alloc_ W _).cell (Nat.lt_of_lt_of_le hp HPW.out.b.size)) fun _ h => h) W.heap.size ⟨d, f, L, m, k⟩ (by rfl) (Bx.new W _ _) (by omega) ?_; intro g cap w3 hO hB hlo hlt))
  have hMs : Means W (· < w.heap.size) (rs ++ [⟨d, f, L, m, k⟩]) (es ++ [⟨d, f, ls⟩]) := means_snoc HME.out ⟨rfl, rfl, HL.out.keep (fun p hp => HPW.out.b.cell hp) fun _ h => h⟩
  have hPL : PL w w3 g (n + 1) 0 (es ++ [⟨d, f, ls⟩]) := by
    refine PL.start (W := W.alloc (.cells #[.int .i64 d, .int .i64 f, .slice L m k] 24)) (HPW.out.b.alloc HPW.out.b.size _) (HPW.out.x2.alloc _) hO ⟨hB.os, hB.tape, hB.output, hB.size, hB.block⟩ hlo hlt (hMs.keep (fun p hp => (alloc_ W _).cell (Nat.lt_of_lt_of_le hp HPW.out.b.size)) fun _ h => h)
  have HPL := Lib.hid hPL
  have hnc : n + 1 ≤ cap := by
    rcases hO.2 with ⟨e, _⟩ | ⟨g', cap', cur, e, _, _, hnc, _⟩
    · cases e
    · injection e with _ _ e; omega
  have hms : ∀ e ∈ es ++ [⟨d, f, ls⟩], e.ls.length ≤ 1000 := by
    intro e he
    rcases List.mem_append.1 he with he | he
    · exact HSM.out e he
    · simp at he; subst he; have := HL.out.1; simp only; omega
  have HMS := Lib.hid hms
  obtain ⟨N, hN⟩ : ∃ N, n + 1 = N := ⟨_, rfl⟩
  rw [hN] at HPL hnc ⊢
  have hN2 : N ≤ 2000 := by omega
  have HNC := Lib.hid hnc
  clear hPL hms hMs hO hB hlo hlt hN hnc v0 u0 u1 u2 zl hcap2 t1 t2 tk tk2 HRA HME HPW HSM HS
  go_wp2
  go_loopw [8, 9, 49] (fun s8 s9 i w' => ∃ (q : Nat) (w1 : World), q ≤ N ∧ i = .int .i64 (q : Int) ∧ w1 = w' ∧ Hid (PL w w1 g N q (es ++ [⟨d, f, ls⟩]))) (fun _ _ i _ => N - (intOf i).toNat)
  case atStart => exact ⟨0, _, Nat.zero_le _, rfl, rfl, HPL⟩
  case round =>
    obtain ⟨q, w1, hq, rfl, rfl, HR⟩ := hrel
    by_cases hlt : q < N
    · obtain ⟨d', f', ls', L', m', c', hx, hc0, hc1, hc2, hl'⟩ := HR.out.get hlt
      have hm' : m' ≤ 1000 := by have := HMS.out _ (List.mem_of_getElem? hx); simp only at this; rw [← hl'.1]; exact this
      have hlt2 : (q : Int) < (N : Int) := by omega
      have hgl := HR.out.lt
      have C := Lib.hid (clone_ L' m' c' ls' (fun b => (b < w.heap.size ∨ g < b) ∧ b < w1.heap.size) (w1.alloc (.cells #[.int .i64 d', .int .i64 f', .slice L' m' c'] 24)) (hl'.keep (fun p hp => (alloc_ w1 _).cell hp.2) fun _ h => h) (fun b hb => by have := hb.2; simp; omega) hm')
      have HX := Lib.hid hx
      clear hx hl'
      go_wp2_with fail
      refine C.out.mono ?_
      rintro e w4 ⟨A5, c5, rfl, hL5, hb5⟩
      have HN5 := Lib.hid (HR.out.put (c := c5) hlt _ hb5 HX.out hL5)
      have hb5' := below_alloc hb5
      have z2 : w4.cell? ⟨g, q * 3 + 2, none⟩ = some (.slice L' m' c') := (hb5'.cell (p := ⟨g, q * 3 + 2, none⟩) hgl).trans hc2
      have zf : w4.frozen? ⟨g, q * 3 + 2, none⟩ = false := (hb5'.frozen (p := ⟨g, q * 3 + 2, none⟩) hgl).trans (HR.out.fz _)
      clear hb5 hb5' C hL5 hc0 hc1 hc2
      go_wp2
      go_roundw
      case rel => exact ⟨q + 1, _, by omega, by go_num, rfl, HN5⟩
      case measure => simp [intOf]; omega
    · obtain rfl : q = N := by omega
      have HD := Lib.hid (HR.out.done (.slice (some ⟨g, 0, none⟩) q cap))
      have z0 := HR.out.x.c 0
      have zf := HR.out.x.f 0
      have zl := HR.out.x.lt
      simp at z0
      go_wp2
      refine bodyPost_ret (v := .tuple #[bg (some ⟨g, 0, none⟩) q cap, .int .i64 0]) (by simp [results, Try.results21, go_sem, z0]) rfl ⟨some ⟨g, 0, none⟩, q, cap, by rw [HC.out], ?_, HNC.out, HR.out.b.setCell (by simp <;> omega) _⟩
      unfold ptL
      rw [if_pos HC.out]
      exact HD.out.keep (fun _ _ => rfl) fun b hb => ⟨hb.1, by simpa using hb.2⟩

set_option maxRecDepth 100000 in
set_option maxHeartbeats 4000000 in
theorem put_more (A : Option Addr) (n c : Nat) (es : List En) (d f : Int) (L : Option Addr) (m k : Nat) (ls : List Pr) (w : World) (hS : Ents w A n es) (hcap : n ≤ c) (hsm : ∀ e ∈ es, e.ls.length ≤ 1000) (hl : Lns w (· < w.heap.size) L m ls) (h : fm ⟨d, f, ls⟩ = true) (ht : tot ls = 0) (hn : n < 2000) (ha : ahd es d = false) (j : Nat) (hj : j + 1 = n) :
    Calls Try.prog 21 #[bg A n c, eg d f L m k] w (PutTo w es ⟨d, f, ls⟩) := by
  have hm9 : m ≤ 9 := by have := (fm_len h).2; have e := hl.1; simp only at this; omega
  have CF := fun w' (hb : Below w.heap.size w w') => Lib.hid (formed d f L m k ls w' (hl.below hb))
  have CS := fun w' (hb : Below w.heap.size w w') => Lib.hid (sum_ d f L m k ls w' (hl.below hb) (by unfold maxLen; omega))
  have HC := Lib.hid (show cde es ⟨d, f, ls⟩ = 0 by unfold cde; rw [h, if_pos rfl, if_pos ht, if_pos (by rw [hS.len]; omega), if_neg (by rw [ha]; simp)])
  rw [ht, wr0] at CS
  rw [h] at CF
  have HS := Lib.hid hS
  have HL := Lib.hid hl
  have HSM := Lib.hid hsm
  have HA := Lib.hid ha
  clear hl h ht hS ha hsm
  have t1 : decide (2000 ≤ (n : Int)) = false := by simpa using (show ¬ 2000 ≤ (n : Int) by omega)
  have t2 : decide (2000 ≤ n) = false := by simpa using (show ¬ 2000 ≤ n by omega)
  have tk : decide (0 < (n : Int)) = true := by simpa using (show 0 < (n : Int) by omega)
  have tk2 : decide (0 < n) = true := by simpa using (show 0 < n by omega)
  have HJ := Lib.hid hj
  clear hj
  go_enter Try.func21, Try.ntmps21
  go_wp2_with fail
  have HP := Lib.hid (P0.start (w := w) (A := A) (n := n) (c := c) (d := d) (f := f) (L := L) (m := m) (k := k))
  refine (CF _ HP.out.b).out.mono ?_
  rintro e w1 ⟨rfl, hb1⟩
  have HP1 := Lib.hid (HP.out.next hb1)
  have y0 := HP1.out.x1.c 0
  have y1 := HP1.out.x1.c 1
  have y2 := HP1.out.x1.c 2
  simp at y0 y1 y2
  clear hb1 HP CF
  go_wp2_with fail
  refine (CS _ HP1.out.b).out.mono ?_
  rintro e w2 ⟨rfl, hb2⟩
  have HP2 := Lib.hid (HP1.out.next hb2)
  have v0 := HP2.out.x0.c 0
  have u0 := HP2.out.x1.c 0
  have u1 := HP2.out.x1.c 1
  have u2 := HP2.out.x1.c 2
  have zl := HP2.out.x2.lt
  simp at v0 u0 u1 u2
  clear hb2 CS y0 y1 y2
  obtain ⟨ad, d', f', ls', L', m', c', rfl, hb, hx, hc0, hc1, hc2, hl'⟩ := (HS.out.below HP2.out.b).get (k := j) (by have := HJ.out; omega)
  have td : decide (d < d') = false := by have := HA.out; rwa [ahd_get hx (by rw [HS.out.len, HJ.out])] at this
  have e1 : (n : Int) - 1 = (j : Int) := by have := HJ.out; omega
  have hjn : (j : Int) < (n : Int) := by have := HJ.out; omega
  have hjn2 : j < n := by have := HJ.out; omega
  have hj0 : (0 : Int) ≤ (j : Int) := by omega
  have ew := wrap_small j (by omega)
  clear hx hl' hb
  go_wp2
  go_quiet (fail)
  go_wp2
  clear hc0 hc1 hc2 e1 ew hjn hjn2 hj0 td HA
  obtain ⟨A, hA⟩ : ∃ A, some ad = A := ⟨_, rfl⟩
  rw [hA] at v0 HP2 HS ⊢
  clear hA
  obtain ⟨W, hW⟩ : ∃ W, w2.drewN nq = W := ⟨_, rfl⟩
  have HPW := Lib.hid (show P0 w W A n c d f L m k by rw [← hW]; exact ⟨below_drewN HP2.out.b _, HP2.out.x0, HP2.out.x1, HP2.out.x2⟩)
  rw [hW]
  clear HP2 hW v0 u0 u1 u2 zl
  have v0 := HPW.out.x0.c 0
  have u0 := HPW.out.x1.c 0
  have u1 := HPW.out.x1.c 1
  have u2 := HPW.out.x1.c 2
  have zl := HPW.out.x2.lt
  have hcap2 : (n : Int) ≤ (c : Int) := by omega
  simp at v0 u0 u1 u2
  obtain ⟨rs, hRa, hMe⟩ := ents_raws HS.out HPW.out.b
  have HRA := Lib.hid hRa
  have HME := Lib.hid hMe
  clear hRa hMe
  go_region_held3 (fun w' => w'.cell? ⟨w.heap.size, 0, none⟩ = some (.slice A n c) ∧ w'.cell? ⟨w.heap.size + 1, 0, none⟩ = some (.int .i64 d) ∧ w'.cell? ⟨w.heap.size + 1, 1, none⟩ = some (.int .i64 f) ∧ w'.cell? ⟨w.heap.size + 1, 2, none⟩ = some (.slice L m k))
    (first
      | go_keep
      | (go_split_ands
         refine ⟨?_, ?_, ?_, ?_⟩ <;> (rw [hB.cell (by simp; omega)]; assumption))
      | fail)
    ((refine step_grow _ (by rfl) _ _ (by rfl) (· < w.heap.size) A n rs (by rfl) (HRA.out.keep (fun p hp => (alloc_ W _).cell (Nat.lt_of_lt_of_le hp HPW.out.b.size)) fun _ h => h) W.heap.size ⟨d, f, L, m, k⟩ (by rfl) (Bx.new W _ _) (by omega) ?_; intro g cap w3 hO hB hlo hlt))
  have hMs : Means W (· < w.heap.size) (rs ++ [⟨d, f, L, m, k⟩]) (es ++ [⟨d, f, ls⟩]) := means_snoc HME.out ⟨rfl, rfl, HL.out.keep (fun p hp => HPW.out.b.cell hp) fun _ h => h⟩
  have hPL : PL w w3 g (n + 1) 0 (es ++ [⟨d, f, ls⟩]) := by
    refine PL.start (W := W.alloc (.cells #[.int .i64 d, .int .i64 f, .slice L m k] 24)) (HPW.out.b.alloc HPW.out.b.size _) (HPW.out.x2.alloc _) hO ⟨hB.os, hB.tape, hB.output, hB.size, hB.block⟩ hlo hlt (hMs.keep (fun p hp => (alloc_ W _).cell (Nat.lt_of_lt_of_le hp HPW.out.b.size)) fun _ h => h)
  have HPL := Lib.hid hPL
  have hnc : n + 1 ≤ cap := by
    rcases hO.2 with ⟨e, _⟩ | ⟨g', cap', cur, e, _, _, hnc, _⟩
    · cases e
    · injection e with _ _ e; omega
  have hms : ∀ e ∈ es ++ [⟨d, f, ls⟩], e.ls.length ≤ 1000 := by
    intro e he
    rcases List.mem_append.1 he with he | he
    · exact HSM.out e he
    · simp at he; subst he; have := HL.out.1; simp only; omega
  have HMS := Lib.hid hms
  obtain ⟨N, hN⟩ : ∃ N, n + 1 = N := ⟨_, rfl⟩
  rw [hN] at HPL hnc ⊢
  have hN2 : N ≤ 2000 := by omega
  have HNC := Lib.hid hnc
  clear hPL hms hMs hO hB hlo hlt hN hnc v0 u0 u1 u2 zl hcap2 t1 t2 tk tk2 HRA HME HPW HSM HS
  go_wp2
  go_loopw [8, 9, 49] (fun s8 s9 i w' => ∃ (q : Nat) (w1 : World), q ≤ N ∧ i = .int .i64 (q : Int) ∧ w1 = w' ∧ Hid (PL w w1 g N q (es ++ [⟨d, f, ls⟩]))) (fun _ _ i _ => N - (intOf i).toNat)
  case atStart => exact ⟨0, _, Nat.zero_le _, rfl, rfl, HPL⟩
  case round =>
    obtain ⟨q, w1, hq, rfl, rfl, HR⟩ := hrel
    by_cases hlt : q < N
    · obtain ⟨d', f', ls', L', m', c', hx, hc0, hc1, hc2, hl'⟩ := HR.out.get hlt
      have hm' : m' ≤ 1000 := by have := HMS.out _ (List.mem_of_getElem? hx); simp only at this; rw [← hl'.1]; exact this
      have hlt2 : (q : Int) < (N : Int) := by omega
      have hgl := HR.out.lt
      have C := Lib.hid (clone_ L' m' c' ls' (fun b => (b < w.heap.size ∨ g < b) ∧ b < w1.heap.size) (w1.alloc (.cells #[.int .i64 d', .int .i64 f', .slice L' m' c'] 24)) (hl'.keep (fun p hp => (alloc_ w1 _).cell hp.2) fun _ h => h) (fun b hb => by have := hb.2; simp; omega) hm')
      have HX := Lib.hid hx
      clear hx hl'
      go_wp2_with fail
      refine C.out.mono ?_
      rintro e w4 ⟨A5, c5, rfl, hL5, hb5⟩
      have HN5 := Lib.hid (HR.out.put (c := c5) hlt _ hb5 HX.out hL5)
      have hb5' := below_alloc hb5
      have z2 : w4.cell? ⟨g, q * 3 + 2, none⟩ = some (.slice L' m' c') := (hb5'.cell (p := ⟨g, q * 3 + 2, none⟩) hgl).trans hc2
      have zf : w4.frozen? ⟨g, q * 3 + 2, none⟩ = false := (hb5'.frozen (p := ⟨g, q * 3 + 2, none⟩) hgl).trans (HR.out.fz _)
      clear hb5 hb5' C hL5 hc0 hc1 hc2
      go_wp2
      go_roundw
      case rel => exact ⟨q + 1, _, by omega, by go_num, rfl, HN5⟩
      case measure => simp [intOf]; omega
    · obtain rfl : q = N := by omega
      have HD := Lib.hid (HR.out.done (.slice (some ⟨g, 0, none⟩) q cap))
      have z0 := HR.out.x.c 0
      have zf := HR.out.x.f 0
      have zl := HR.out.x.lt
      simp at z0
      go_wp2
      refine bodyPost_ret (v := .tuple #[bg (some ⟨g, 0, none⟩) q cap, .int .i64 0]) (by simp [results, Try.results21, go_sem, z0]) rfl ⟨some ⟨g, 0, none⟩, q, cap, by rw [HC.out], ?_, HNC.out, HR.out.b.setCell (by simp <;> omega) _⟩
      unfold ptL
      rw [if_pos HC.out]
      exact HD.out.keep (fun _ _ => rfl) fun b hb => ⟨hb.1, by simpa using hb.2⟩

theorem put (A : Option Addr) (n c : Nat) (es : List En) (d f : Int) (L : Option Addr) (m k : Nat) (ls : List Pr) (w : World) (hS : Ents w A n es) (hcap : n ≤ c) (hsm : ∀ e ∈ es, e.ls.length ≤ 1000) (hl : Lns w (· < w.heap.size) L m ls) :
    Calls Try.prog 21 #[bg A n c, eg d f L m k] w (PutTo w es ⟨d, f, ls⟩) := by
  cases h : fm ⟨d, f, ls⟩
  · exact put_arg A n c es d f L m k ls w hl h
  · by_cases ht : tot ls = 0
    · rcases Nat.lt_or_ge n 2000 with hn | hn
      · rcases Nat.eq_zero_or_pos n with h0 | h0
        · have ha : ahd es d = false := by
            have := hS.len
            rw [h0] at this
            rw [List.eq_nil_of_length_eq_zero this]; rfl
          exact put_zero A n c es d f L m k ls w hS hcap hsm hl h ht hn ha h0
        · obtain ⟨j, rfl⟩ : ∃ j, n = j + 1 := ⟨n - 1, by omega⟩
          cases ha : ahd es d
          · exact put_more A (j + 1) c es d f L m k ls w hS hcap hsm hl h ht hn ha j rfl
          · exact put_order A j c es d f L m k ls w hS hl h ht hn ha
      · exact put_bound A n c es d f L m k ls w hS.len hl h ht hn
    · exact put_sum A n c es d f L m k ls w hl h ht

end Pst
end Go.Proofs.Ytheamhjgohacdaa
