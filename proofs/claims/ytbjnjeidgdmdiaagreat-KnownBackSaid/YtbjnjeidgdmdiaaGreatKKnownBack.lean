/-
  The statement KnownBack holds: for every input the call returns true, and each argument reads afterwards as it read before. Conditions: none beside those that the row itself bears.
-/
import Derived.Test.YtbjnjeidgdmdiaaGreatKLaws13
namespace Go.Proofs.YtbjnjeidgdmdiaaGreat
open Go.RowKit Ba Cv Sp Te Ag Tf Sl Tm
namespace Slc
set_option linter.unusedVariables false
section
variable {h : Hi} {vs : List Ve} {a b c : Int} {e f k : Int} {zs ws us ts : List Sp}
theorem MvIs.sl (H : MvIs h vs a b e zs) : ∃ ca s1, SlIs h vs a ca s1 := by
 cases H with
 | first s1 h1 _ _ => exact ⟨_, s1, h1⟩
 | second s1 _ h1 _ _ _ => exact ⟨_, s1, h1⟩
 | told s1 _ h1 _ _ _ _ => exact ⟨_, s1, h1⟩
theorem mv_back (H : MvIs h vs a b e zs) (K : MvIs h vs b a f ws) : (e = 0 ↔ f = 0) ∧ zs = ws := by
 obtain ⟨ca, s1, A⟩ := H.sl; obtain ⟨cb, s2, B⟩ := K.sl; have h1 := H.codes A B; have h2 := K.codes B A
 have he : e = 0 ↔ ca = 0 ∧ cb = 0 := by
  rw [h1]; by_cases h : ca = 0
  ·simp [h]
  ·rw [if_pos h]; simp [h]
 have hf : f = 0 ↔ ca = 0 ∧ cb = 0 := by
  rw [h2]; by_cases h : cb = 0
  ·simp [h]
  ·rw [if_pos h]; simp [h]
 refine ⟨he.trans hf.symm, ?_⟩; by_cases h0 : e = 0
 ·have hf0 := hf.2 (he.1 h0); subst h0 hf0; obtain ⟨t1, t2, g1, g2, g3, g4⟩ := H.ok; obtain ⟨t3, t4, k1, k2, k3, k4⟩ := K.ok; obtain ⟨_, rfl⟩ := g1.one k2; obtain ⟨_, rfl⟩ := g2.one k1; exact g3.unique k3 fun d => (g4 d).trans (ne_comm.trans (k4 d).symm)
 ·rw [H.nil h0, K.nil fun h => h0 (he.2 (hf.1 h))]
theorem mv_self (H : MvIs h vs a a e zs) : zs = [] := by
 by_cases h0 : e = 0
 ·subst h0; obtain ⟨t1, t2, g1, g2, g3, g4⟩ := H.ok; obtain ⟨_, rfl⟩ := g1.one g2; exact g3.unique trivial fun d => ⟨fun h => absurd rfl ((g4 d).1 h), fun h => absurd h (hit_nil d)⟩
 ·exact H.nil h0
theorem mv_self0 (H : MvIs h vs a b 0 zs) (K : MvIs h vs a a e ws) : e = 0 := by
 obtain ⟨t1, t2, g1, g2, g3, g4⟩ := H.ok; rw [K.codes g1 g1]; simp
theorem mv_over (H : MvIs h vs a b 0 zs) (K : MvIs h vs b c 0 ws) (M : MvIs h vs a c e us) : e = 0 ∧ ∀ d, hit us d → hit zs d ∨ hit ws d := by
 obtain ⟨t1, t2, g1, g2, g3, g4⟩ := H.ok; obtain ⟨t3, t4, k1, k2, k3, k4⟩ := K.ok; have h0 : e = 0 := by rw [M.codes g1 k2]; simp
 subst h0; obtain ⟨t5, t6, m1, m2, m3, m4⟩ := M.ok; obtain ⟨_, rfl⟩ := g1.one m1; obtain ⟨_, rfl⟩ := g2.one k1; obtain ⟨_, rfl⟩ := k2.one m2; refine ⟨rfl, fun d hd => ?_⟩; have := (m4 d).1 hd; by_cases h1 : lk t1 d = lk t2 d
 ·exact .inr ((k4 d).2 (by rw [← h1]; exact this))
 ·exact .inl ((g4 d).2 h1)
end
def shr (s : Sp) (us : List Sp) : Int := (us.map fun u => mn (ct s u)).foldl (· + ·) 0
theorem shr_nil (s : Sp) : shr s [] = 0 := rfl
theorem shr_cons (s u : Sp) (us : List Sp) : shr s (u :: us) = mn (ct s u) + shr s us := by
 unfold shr; rw [List.map_cons, List.foldl_cons, foldl_add]; omega
theorem shr_next {s : Sp} {us : List Sp} {k : Nat} {u : Sp} (h : us[k]? = some u) : shr s (us.take (k + 1)) = shr s (us.take k) + mn (ct s u) := by
 unfold shr; rw [take_get h, List.map_append, List.foldl_append]; rfl
theorem shr_bd (s : Sp) : ∀ us : List Sp, 0 ≤ shr s us ∧ shr s us ≤ 292194 * us.length
 | [] => by simp [shr_nil]
 | u :: us => by
  have h1 := mn_bd (ct s u); have h2 := shr_bd s us; rw [shr_cons, List.length_cons]; omega
theorem shr_none {s : Sp} : ∀ {us : List Sp}, (∀ u ∈ us, ∀ d, ¬ (inn s d = true ∧ inn u d = true)) → shr s us = 0
 | [], _ => rfl
 | u :: us, h => by
  rw [shr_cons, shr_none fun v hv => h v (List.mem_cons_of_mem _ hv)]
  have : has (ct s u) = false := by
   cases hh : has (ct s u) with
   | false => rfl
   | true =>
    have hi := (has_iff _).1 hh; have h1 : inn (ct s u) (ct s u).1 = true := (inn_iff _ _).2 ⟨hi.1, hi.2.2, Int.le_refl _, hi.2.1⟩; exact absurd ((ct_inn s u _).1 h1) (h u List.mem_cons_self _)
  rw [mn_no this]; rfl
theorem shr_all {s : Sp} : ∀ {us : List Sp}, Apart us → (∀ d, inn s d = true → hit us d) → shr s us = mn s
 | [], _, h => by
  have : has s = false := by
   cases hh : has s with
   | false => rfl
   | true =>
    have hi := (has_iff _).1 hh; exact absurd (h s.1 ((inn_iff _ _).2 ⟨hi.1, hi.2.2, Int.le_refl _, hi.2.1⟩)) (hit_nil _)
  rw [mn_no this]; rfl
 | u :: us, hA, h => by
  obtain ⟨hu, hlt, hA'⟩ := hA; have hui := (has_iff _).1 hu; cases hh : has s with
  | false =>
   rw [mn_no hh]; refine shr_none fun v _ d hd => ?_
   rw [inn_has hd.1] at hh; cases hh
  | true =>
   have hi := (has_iff _).1 hh; have hfirst := h s.1 ((inn_iff _ _).2 ⟨hi.1, hi.2.2, Int.le_refl _, hi.2.1⟩)
   have later : ∀ d, hit us d → u.2 < d := by
    rintro d ⟨y, hy, hd⟩; have h1 := hlt y hy; have h2 := ((inn_iff _ _).1 hd).2.2.1; omega
   rw [shr_cons]; rcases (hit_cons u us s.1).1 hfirst with h1 | h1
   ·have h1 := (inn_iff _ _).1 h1
    have h2 : s.2 ≤ u.2 := by
     rcases Int.lt_or_le u.2 s.2 with h2 | h2
     ·have h3 := h u.2 ((inn_iff _ _).2 ⟨hi.1, hi.2.2, by omega, h2⟩); rcases (hit_cons u us u.2).1 h3 with h4 | h4
      ·have h4 := (inn_iff _ _).1 h4; omega
      ·have := later _ h4; omega
     ·exact h2
    have e1 : ct s u = s := by
     have h3 : has (bt s u) = true := by
      rw [has_iff]; unfold bt; exact ⟨by show 1 ≤ max s.1 u.1; omega, by show max s.1 u.1 < min s.2 u.2; omega, by show min s.2 u.2 ≤ 292195; omega⟩
     unfold ct; rw [if_pos ⟨has_rt hh, has_rt hu, h3⟩]; unfold bt; exact Prod.ext (by show max s.1 u.1 = s.1; omega) (by show min s.2 u.2 = s.2; omega)
    rw [e1, shr_none (us := us)]
    ·omega
    ·intro v hv d hd; have h3 := hlt v hv; have h4 := (inn_iff _ _).1 hd.1; have h5 := (inn_iff _ _).1 hd.2; omega
   ·have h2 := later _ h1
    have e1 : has (ct s u) = false := by
     cases hc : has (ct s u) with
     | false => rfl
     | true =>
      have hci := (has_iff _).1 hc; have h3 := (ct_inn s u (ct s u).1).1 ((inn_iff _ _).2 ⟨hci.1, hci.2.2, Int.le_refl _, hci.2.1⟩); have h4 := (inn_iff _ _).1 h3.1; have h5 := (inn_iff _ _).1 h3.2; omega
    rw [mn_no e1, shr_all hA' fun d hd => ?_]
    ·omega
    ·rcases (hit_cons u us d).1 (h d hd) with h3 | h3
     ·have h4 := (inn_iff _ _).1 hd; have h5 := (inn_iff _ _).1 h3; omega
     ·exact h3
set_option maxRecDepth 100000 in
set_option maxHeartbeats 4000000 in
theorem walk_KnownBack {w : World} (h : Hr) (G : GivenH w h) (T : Option Addr) (nt ct : Nat) (vs : List Trf.Rw) (GT : Trf.GivenT w T nt ct vs) (z0 z1 z2 : Int) (hz : (-9223372036854775808 ≤ z0 ∧ z0 ≤ 9223372036854775807) ∧ (-9223372036854775808 ≤ z1 ∧ z1 ≤ 9223372036854775807) ∧ (-9223372036854775808 ≤ z2 ∧ z2 ≤ 9223372036854775807)) : Calls Tryz.prog 7 #[hg h, Trf.tg T nt ct, .agg #[.int .i64 z0, .int .i64 z1, .int .i64 z2]] w (Yes w true) := by
 clear hz; obtain ⟨W, hW⟩ : ∃ W, ((w.alloc (.cells (hc h) 31)).alloc (.cells #[.slice T nt ct] 34)).alloc (.cells #[.int .i64 z0, .int .i64 z1, .int .i64 z2] 56) = W := ⟨_, rfl⟩; have H0 := Lib.hid (show O3 w W h T nt ct 56 #[.int .i64 z0, .int .i64 z1, .int .i64 z2] by rw [← hW]; exact O3.start w h T nt ct _ _); have HW := Lib.hid hW; have HG := Lib.hid G; have HGT := Lib.hid GT; clear hW G GT; go_enter Tryz.func7, Tryz.ntmps7
 go_upto_region 1 with fail
 rw [HW.out]; clear HW; have x0 := H0.out.o.x.c 0; have x1 := H0.out.o.x.c 1; have x2 := H0.out.o.x.c 2; have x3 := H0.out.o.x.c 3; have x4 := H0.out.o.x.c 4; have x5 := H0.out.o.x.c 5; have x6 := H0.out.o.x.c 6; have x7 := H0.out.o.x.c 7; have x8 := H0.out.o.x.c 8; have x9 := H0.out.o.x.c 9; have y0 := H0.out.o.y.c 0; have c0 := H0.out.z.c 0; have c1 := H0.out.z.c 1; have d2 := H0.out.z.c 2; simp at x0 x1 x2 x3 x4 x5 x6 x7 x8 x9 y0 c0 c1 d2; have C := Lib.hid (few12 h T nt ct vs W (gh_below HG.out H0.out.o.b) (gt_below HGT.out H0.out.o.b))
 go_wp2_with fail
 refine C.out.mono ?_; rintro e w1 ⟨b, rfl, hb1, hs⟩; have H1 := Lib.hid (H0.out.next hb1); have HS0 := Lib.hid hs; clear hb1 hs C x0 x1 x2 x3 x4 x5 x6 x7 x8 x9 y0 c0 c1 d2 H0; cases b
 ·go_wp2_with fail
  refine (alive13 _).mono ?_; rintro e w9 ⟨rfl, hb9⟩; have H9 := Lib.hid (H1.out.next hb9); clear hb9; go_wp2; go_ret; exact ⟨rfl, H9.out.o.b⟩
 have HS := Lib.hid (HS0.out rfl); clear HS0; have x0 := H1.out.o.x.c 0; have x1 := H1.out.o.x.c 1; have x2 := H1.out.o.x.c 2; have x3 := H1.out.o.x.c 3; have x4 := H1.out.o.x.c 4; have x5 := H1.out.o.x.c 5; have x6 := H1.out.o.x.c 6; have x7 := H1.out.o.x.c 7; have x8 := H1.out.o.x.c 8; have x9 := H1.out.o.x.c 9; have y0 := H1.out.o.y.c 0; have c0 := H1.out.z.c 0; have c1 := H1.out.z.c 1; have d2 := H1.out.z.c 2; simp at x0 x1 x2 x3 x4 x5 x6 x7 x8 x9 y0 c0 c1 d2; have C := Lib.hid (kmoved h T nt ct vs z0 z1 w1 (HG.out.M.below H1.out.o.b) (HS.out.hs HG.out) (Nat.le_trans HS.out.m (by omega)) (HS.out.vers (gt_below HGT.out H1.out.o.b)) (Nat.le_trans HS.out.t (by omega)))
 go_wp2_with fail
 refine C.out.mono ?_; rintro e w2 ⟨A2, n2, c2, zs2, cd2, rfl, hs, hn, hc, hi, hb2⟩; have H2 := Lib.hid (H1.out.next hb2); have S2 := Lib.hid hs; have I2 := Lib.hid hi; have F2 := Lib.hid (And.intro hn hc); clear hs hi hn hc C x0 x1 x2 x3 x4 x5 x6 x7 x8 x9 y0 c0 c1 d2 H1; clear hb2; have x0 := H2.out.o.x.c 0; have x1 := H2.out.o.x.c 1; have x2 := H2.out.o.x.c 2; have x3 := H2.out.o.x.c 3; have x4 := H2.out.o.x.c 4; have x5 := H2.out.o.x.c 5; have x6 := H2.out.o.x.c 6; have x7 := H2.out.o.x.c 7; have x8 := H2.out.o.x.c 8; have x9 := H2.out.o.x.c 9; have y0 := H2.out.o.y.c 0; have c0 := H2.out.z.c 0; have c1 := H2.out.z.c 1; have d2 := H2.out.z.c 2; simp at x0 x1 x2 x3 x4 x5 x6 x7 x8 x9 y0 c0 c1 d2; have C := Lib.hid (kmoved h T nt ct vs z1 z0 w2 (HG.out.M.below H2.out.o.b) (HS.out.hs HG.out) (Nat.le_trans HS.out.m (by omega)) (HS.out.vers (gt_below HGT.out H2.out.o.b)) (Nat.le_trans HS.out.t (by omega)))
 go_wp2_with fail
 refine C.out.mono ?_; rintro e w3 ⟨A3, n3, c3, zs3, cd3, rfl, hs, hn, hc, hi, hb3⟩; have H3 := Lib.hid (H2.out.next hb3); have S3 := Lib.hid hs; have I3 := Lib.hid hi; have F3 := Lib.hid (And.intro hn hc); clear hs hi hn hc C x0 x1 x2 x3 x4 x5 x6 x7 x8 x9 y0 c0 c1 d2 H2; have S2' := Lib.hid (S2.out.below hb3 (Nat.le_refl _) |>.wide hb3.size); clear S2; have S2 := S2'; clear S2'; clear hb3; have x0 := H3.out.o.x.c 0; have x1 := H3.out.o.x.c 1; have x2 := H3.out.o.x.c 2; have x3 := H3.out.o.x.c 3; have x4 := H3.out.o.x.c 4; have x5 := H3.out.o.x.c 5; have x6 := H3.out.o.x.c 6; have x7 := H3.out.o.x.c 7; have x8 := H3.out.o.x.c 8; have x9 := H3.out.o.x.c 9; have y0 := H3.out.o.y.c 0; have c0 := H3.out.z.c 0; have c1 := H3.out.z.c 1; have d2 := H3.out.z.c 2; simp at x0 x1 x2 x3 x4 x5 x6 x7 x8 x9 y0 c0 c1 d2; have C := Lib.hid (kmoved h T nt ct vs z0 z0 w3 (HG.out.M.below H3.out.o.b) (HS.out.hs HG.out) (Nat.le_trans HS.out.m (by omega)) (HS.out.vers (gt_below HGT.out H3.out.o.b)) (Nat.le_trans HS.out.t (by omega)))
 go_wp2_with fail
 refine C.out.mono ?_; rintro e w4 ⟨A4, n4, c4, zs4, cd4, rfl, hs, hn, hc, hi, hb4⟩; have H4 := Lib.hid (H3.out.next hb4); have S4 := Lib.hid hs; have I4 := Lib.hid hi; have F4 := Lib.hid (And.intro hn hc); clear hs hi hn hc C x0 x1 x2 x3 x4 x5 x6 x7 x8 x9 y0 c0 c1 d2 H3; have S2' := Lib.hid (S2.out.below hb4 (Nat.le_refl _) |>.wide hb4.size); clear S2; have S2 := S2'; clear S2'; have S3' := Lib.hid (S3.out.below hb4 (Nat.le_refl _) |>.wide hb4.size); clear S3; have S3 := S3'; clear S3'; clear hb4; have x0 := H4.out.o.x.c 0; have x1 := H4.out.o.x.c 1; have x2 := H4.out.o.x.c 2; have x3 := H4.out.o.x.c 3; have x4 := H4.out.o.x.c 4; have x5 := H4.out.o.x.c 5; have x6 := H4.out.o.x.c 6; have x7 := H4.out.o.x.c 7; have x8 := H4.out.o.x.c 8; have x9 := H4.out.o.x.c 9; have y0 := H4.out.o.y.c 0; have c0 := H4.out.z.c 0; have c1 := H4.out.z.c 1; have d2 := H4.out.z.c 2; simp at x0 x1 x2 x3 x4 x5 x6 x7 x8 x9 y0 c0 c1 d2; have C := Lib.hid (kmoved h T nt ct vs z1 z2 w4 (HG.out.M.below H4.out.o.b) (HS.out.hs HG.out) (Nat.le_trans HS.out.m (by omega)) (HS.out.vers (gt_below HGT.out H4.out.o.b)) (Nat.le_trans HS.out.t (by omega)))
 go_wp2_with fail
 refine C.out.mono ?_; rintro e w5 ⟨A5, n5, c5, zs5, cd5, rfl, hs, hn, hc, hi, hb5⟩; have H5 := Lib.hid (H4.out.next hb5); have S5 := Lib.hid hs; have I5 := Lib.hid hi; have F5 := Lib.hid (And.intro hn hc); clear hs hi hn hc C x0 x1 x2 x3 x4 x5 x6 x7 x8 x9 y0 c0 c1 d2 H4; have S2' := Lib.hid (S2.out.below hb5 (Nat.le_refl _) |>.wide hb5.size); clear S2; have S2 := S2'; clear S2'; have S3' := Lib.hid (S3.out.below hb5 (Nat.le_refl _) |>.wide hb5.size); clear S3; have S3 := S3'; clear S3'; have S4' := Lib.hid (S4.out.below hb5 (Nat.le_refl _) |>.wide hb5.size); clear S4; have S4 := S4'; clear S4'; clear hb5; have x0 := H5.out.o.x.c 0; have x1 := H5.out.o.x.c 1; have x2 := H5.out.o.x.c 2; have x3 := H5.out.o.x.c 3; have x4 := H5.out.o.x.c 4; have x5 := H5.out.o.x.c 5; have x6 := H5.out.o.x.c 6; have x7 := H5.out.o.x.c 7; have x8 := H5.out.o.x.c 8; have x9 := H5.out.o.x.c 9; have y0 := H5.out.o.y.c 0; have c0 := H5.out.z.c 0; have c1 := H5.out.z.c 1; have d2 := H5.out.z.c 2; simp at x0 x1 x2 x3 x4 x5 x6 x7 x8 x9 y0 c0 c1 d2; have C := Lib.hid (kmoved h T nt ct vs z0 z2 w5 (HG.out.M.below H5.out.o.b) (HS.out.hs HG.out) (Nat.le_trans HS.out.m (by omega)) (HS.out.vers (gt_below HGT.out H5.out.o.b)) (Nat.le_trans HS.out.t (by omega)))
 go_wp2_with fail
 refine C.out.mono ?_; rintro e w6 ⟨A6, n6, c6, zs6, cd6, rfl, hs, hn, hc, hi, hb6⟩; have H6 := Lib.hid (H5.out.next hb6); have S6 := Lib.hid hs; have I6 := Lib.hid hi; have F6 := Lib.hid (And.intro hn hc); clear hs hi hn hc C x0 x1 x2 x3 x4 x5 x6 x7 x8 x9 y0 c0 c1 d2 H5; have S2' := Lib.hid (S2.out.below hb6 (Nat.le_refl _) |>.wide hb6.size); clear S2; have S2 := S2'; clear S2'; have S3' := Lib.hid (S3.out.below hb6 (Nat.le_refl _) |>.wide hb6.size); clear S3; have S3 := S3'; clear S3'; have S4' := Lib.hid (S4.out.below hb6 (Nat.le_refl _) |>.wide hb6.size); clear S4; have S4 := S4'; clear S4'; have S5' := Lib.hid (S5.out.below hb6 (Nat.le_refl _) |>.wide hb6.size); clear S5; have S5 := S5'; clear S5'; clear hb6; obtain ⟨he, hz23⟩ := mv_back I2.out I3.out; subst hz23; obtain rfl := mv_self I4.out; obtain rfl : n4 = 0 := S4.out.1.symm
 obtain rfl : n2 = n3 := by
  have h1 := S2.out.1; have h2 := S3.out.1; omega
 have FS := Lib.hid (Spn.same A2 A3 n2 c2 c3 _ _ zs2 w6 S2.out S3.out (by have := F2.out.1; unfold maxLen; omega)); by_cases h0 : cd2 = 0
 ·subst h0; obtain rfl : cd3 = 0 := he.1 rfl; obtain rfl := mv_self0 I2.out I4.out; clear he I3 I4
  go_wp2_with fail
  refine FS.out.mono ?_; rintro e w7 ⟨rfl, hb7⟩; have H7 := Lib.hid (H6.out.next hb7); have T2 := Lib.hid (S2.out.below hb7 (Nat.le_refl _) |>.wide hb7.size); have T5 := Lib.hid (S5.out.below hb7 (Nat.le_refl _) |>.wide hb7.size); have T6 := Lib.hid (S6.out.below hb7 (Nat.le_refl _) |>.wide hb7.size); clear hb7 FS S2 S3 S4 S5 S6 H6; by_cases h5 : cd5 = 0
  ·subst h5; obtain ⟨rfl, hov⟩ := mv_over I2.out I5.out I6.out; have HOV := Lib.hid hov; have hn2 : n2 ≤ 2200 := F2.out.1; have hn5 : n5 ≤ 2200 := F5.out.1; have hsz := H7.out.o.b.size; have T2' := Lib.hid (T2.out.below (alloc_ w7 (.cells #[] 23)) (Nat.le_refl _)); clear hov I2 I5 I6
   go_wp2_with (first
    | (at_builtin; refine Spn.wpList_app _ rfl (.tmp 109) (.tmp 110) rfl w7.heap.size (some ⟨w7.heap.size, 0, none⟩) 0 0 [] rfl (World.ownsRow_made w7 #[] 0 (Nat.le_refl _) (Nat.zero_le _) (by simp)) w7.heap.size A2 n2 c2 zs2 rfl T2'.out F2.out.2.2 (by omega) (by simp) ?_; intro A8 c8 w8 hO8 hg8; rw [Nat.zero_add, List.nil_append] at hO8; have HO8 := Lib.hid hO8; have HB8 := Lib.hid (show Below w7.heap.size w7 w8 from (alloc_ w7 (.cells #[] 23)).grown hg8 (by simp) (fun j hj => by simp [Value.ownBlock] at hj; omega)); have T5' := Lib.hid (T5.out.below HB8.out (Nat.le_refl _)); have hs8 := HB8.out.size; clear hO8 hg8)
    | (at_builtin; refine Spn.wpList_app _ rfl (.tmp 111) (.tmp 112) rfl w7.heap.size A8 n2 c8 zs2 rfl HO8.out w7.heap.size A5 n5 c5 zs5 rfl T5'.out F5.out.2.2 (by omega) hs8 ?_; intro A9 c9 w9 hO9 hg9; have HO9 := Lib.hid hO9; have HB9 := Lib.hid (HB8.out.grown hg9 hs8 (fun j hj => (Spn.Own.lt HO8.out j hj).1)); clear hO9 hg9)
    | fail)
   refine (Spn.joinA A9 (n2 + n5) c9 (zs2 ++ zs5) w9 (Spn.Own.spans HO9.out).1 (by omega)).mono ?_; rintro e w10 ⟨zb, hj, hl, A10, n10, c10, rfl, hs10, hc10, hb10⟩; have H10 := Lib.hid (H7.out.next (HB9.out.trans (hb10.mono HB9.out.size))); have hb79 := HB9.out.trans (hb10.mono HB9.out.size); have S6 := Lib.hid (T6.out.below hb79 (Nat.le_refl _) |>.wide hb79.size); have S10 := Lib.hid hs10
   have HSH := Lib.hid (show ∀ s ∈ zs6, shr s zb = mn s from fun s hs => shr_all hj.apart fun d hd => by
    rw [hj.same d, hit_append]; exact HOV.out d ⟨s, hs, hd⟩)
   have HN10 := Lib.hid (show n10 ≤ 4400 by
    have h1 := hs10.1; have h2 := (Spn.Own.len HO9.out); omega)
   have HN6 := Lib.hid (show n6 ≤ 2200 from F6.out.1); clear hj hl hs10 hc10 hb10 hb79 HOV HO8 HO9 HB8 HB9 T2 T2' T5 T5' T6 H7 hs8 hsz; go_wp2
   go_loopw [117, 18] (fun i nn w' => ∃ (k : Nat) (V : World), k ≤ n6 ∧ i = .int .i64 (k : Int) ∧ nn = .int .i64 0 ∧ V = w' ∧ Hid (O3 w V h T nt ct 56 #[.int .i64 z0, .int .i64 z1, .int .i64 z2]) ∧ Hid (Spn.Spans V V.heap.size A6 n6 zs6) ∧ Hid (Spn.Spans V V.heap.size A10 n10 zb)) (fun i _ _ => n6 - (intOf i).toNat)
   case atStart => exact ⟨0, w10, Nat.zero_le _, rfl, rfl, rfl, H10, S6, S10⟩
   case round =>
    clear H10 S6 S10; obtain ⟨k, V, hk, rfl, rfl, rfl, H, S6, S10⟩ := hrel; by_cases hlt : k < n6
    ·obtain ⟨ad, u, v, rfl, hb, hx, hc, hc'⟩ := S6.out.get hlt; have hlt2 : (k : Int) < (n6 : Int) := by omega
     have hmb : n6 ≤ 2200 := HN6.out; have HSU := Lib.hid (HSH.out (u, v) (List.mem_of_getElem? hx)); obtain ⟨W2, hW2⟩ : ∃ W2, V.alloc (.cells #[.int .i64 u, .int .i64 v] 23) = W2 := ⟨_, rfl⟩; have hb2 : Below V.heap.size V W2 := hW2 ▸ alloc_ _ _; obtain ⟨g, hg⟩ : ∃ g, V.heap.size = g := ⟨_, rfl⟩; have HY := Lib.hid (show Spn.Bx W2 g u v from hg ▸ hW2 ▸ Spn.Bx.new V u v); have H2 := Lib.hid (H.out.next hb2); have T6 := Lib.hid (S6.out.below hb2 (Nat.le_refl _) |>.wide hb2.size); have T10 := Lib.hid (S10.out.below hb2 (Nat.le_refl _) |>.wide hb2.size); have HW2 := Lib.hid hW2; have HG := Lib.hid hg; clear hx hb hW2 hb2 H S6 S10 hg
     go_upto_region 17 with fail
     rw [HW2.out, HG.out]; clear HW2 HG hc hc'; go_wp2
     go_loopw [123, 18] (fun i nn w' => ∃ (j : Nat) (m : Int) (V2 : World), j ≤ n10 ∧ i = .int .i64 (j : Int) ∧ nn = .int .i64 m ∧ V2 = w' ∧ Hid (shr (u, v) (zb.take j) = m) ∧ Hid (O3 w V2 h T nt ct 56 #[.int .i64 z0, .int .i64 z1, .int .i64 z2]) ∧ Hid (Spn.Spans V2 V2.heap.size (some ad) n6 zs6) ∧ Hid (Spn.Spans V2 V2.heap.size A10 n10 zb) ∧ Hid (Spn.Bx V2 g u v)) (fun i _ _ => n10 - (intOf i).toNat)
     case atStart => exact ⟨0, 0, W2, Nat.zero_le _, rfl, rfl, rfl, Lib.hid rfl, H2, T6, T10, HY⟩
     case round =>
      clear H2 T6 T10 HY; obtain ⟨j, m, V2, hj, rfl, rfl, rfl, HM, H, S6, S10, HY⟩ := hrel; by_cases hlt3 : j < n10
      ·obtain ⟨ad2, u2, v2, rfl, hb, hx, hc, hc'⟩ := S10.out.get hlt3; have hlt4 : (j : Int) < (n10 : Int) := by omega
       have hmb2 : n10 ≤ 4400 := HN10.out; have HX := Lib.hid (shr_next (s := (u, v)) hx)
       have hm : 0 ≤ m ∧ m ≤ 292194 * 4400 := by
        rw [← HM.out]; have h1 := shr_bd (u, v) (zb.take j); rw [List.length_take] at h1; omega
       obtain ⟨W3, hW3⟩ : ∃ W3, V2.alloc (.cells #[.int .i64 u2, .int .i64 v2] 23) = W3 := ⟨_, rfl⟩; have hb3 : Below V2.heap.size V2 W3 := hW3 ▸ alloc_ _ _; have HY2 := Lib.hid (show Spn.Bx W3 V2.heap.size u2 v2 from hW3 ▸ Spn.Bx.new V2 u2 v2); have HY3 := Lib.hid (HY.out.keep hb3); have H3 := Lib.hid (H.out.next hb3); have T6 := Lib.hid (S6.out.below hb3 (Nat.le_refl _) |>.wide hb3.size); have T10 := Lib.hid (S10.out.below hb3 (Nat.le_refl _) |>.wide hb3.size); have HW3 := Lib.hid hW3; clear hx hb hW3 hb3 H S6 S10 HY
       go_upto_region 20 with fail
       rw [HW3.out]; clear HW3 hc hc'; have q0 := HY3.out.c0; have q1 := HY3.out.c1; have r0 := HY2.out.c0; have r1 := HY2.out.c1; obtain ⟨cz, hcz⟩ : ∃ cz, Sp.ct (u, v) (u2, v2) = cz := ⟨_, rfl⟩; have C := Lib.hid (Spn.cut (u, v) (u2, v2) W3); rw [hcz] at C HX; obtain ⟨y, hy⟩ : ∃ y, mn cz = y := ⟨_, rfl⟩; have D := fun w => Lib.hid (Spn.many cz w)
       simp only [hy] at D; rw [hy] at HX; have hyb : 0 ≤ y ∧ y ≤ 292194 := by rw [← hy]; exact mn_bd cz
       have HM2 := Lib.hid (show shr (u, v) (zb.take (j + 1)) = m + y by rw [HX.out, HM.out]); clear hcz hy HX HM
       go_wp2_with fail
       refine C.out.mono ?_; rintro e w11 ⟨rfl, hb11⟩; have H4 := Lib.hid (H3.out.next hb11); have U6 := Lib.hid (T6.out.below hb11 (Nat.le_refl _) |>.wide hb11.size); have U10 := Lib.hid (T10.out.below hb11 (Nat.le_refl _) |>.wide hb11.size); have HY4 := Lib.hid (HY3.out.keep hb11); clear hb11 C q0 q1 r0 r1 H3 T6 T10 HY3 HY2
       go_wp2_with fail
       refine (D w11).out.mono ?_; rintro e w12 ⟨rfl, hb12⟩; have H5 := Lib.hid (H4.out.next hb12); have X6 := Lib.hid (U6.out.below hb12 (Nat.le_refl _) |>.wide hb12.size); have X10 := Lib.hid (U10.out.below hb12 (Nat.le_refl _) |>.wide hb12.size); have HY5 := Lib.hid (HY4.out.keep hb12); clear hb12 D H4 U6 U10 HY4; have hw : wrap64 (m + y) = m + y := IntWalk.wrap64_in _ ⟨by omega, by omega⟩; have hw2 : IntKind.i64.wrap (m + y) = m + y := (IntWalk.i64_left _).trans hw; go_wp2; go_roundw
       case rel => exact ⟨j + 1, m + y, w12, by omega, by go_num, rfl, rfl, HM2, H5, X6, X10, HY5⟩
       case measure => simp [intOf]; omega
      ·obtain rfl : j = n10 := by omega
       have hmn : m = mn (u, v) := by
        rw [← HM.out, List.take_of_length_le (Nat.le_of_eq S10.out.1)]; exact HSU.out
       have D := Lib.hid (Spn.many (u, v) V2); rw [← hmn] at D; have hmb3 := mn_bd (u, v); rw [← hmn] at hmb3; have q0 := HY.out.c0; have q1 := HY.out.c1; have hw : m - m = 0 := by omega
       clear hmn HM HSU hlt3
       go_wp2_with fail
       refine D.out.mono ?_; rintro e w13 ⟨rfl, hb13⟩; have H5 := Lib.hid (H.out.next hb13); have X6 := Lib.hid (S6.out.below hb13 (Nat.le_refl _) |>.wide hb13.size); have X10 := Lib.hid (S10.out.below hb13 (Nat.le_refl _) |>.wide hb13.size); clear hb13 D q0 q1 H S6 S10 HY; go_wp2; go_roundw
       case rel => exact ⟨k + 1, w13, by omega, by go_num, rfl, rfl, H5, X6, X10⟩
       case measure => simp [intOf]; omega
    ·obtain rfl : k = n6 := by omega
     clear hlt
     go_wp2_with fail
     refine (alive13 _).mono ?_; rintro e w14 ⟨rfl, hb14⟩; have H9 := Lib.hid (H.out.next hb14); clear hb14; go_wp2; go_ret; exact ⟨rfl, H9.out.o.b⟩
  ·have t0 : decide (cd5 = 0) = false := decide_eq_false h5; have t1 : (cd5 == 0) = false := beq_eq_false_iff_ne.2 h5; have t2 : (cd5 != 0) = true := bne_iff_ne.2 h5; clear h5
   go_wp2_with fail
   refine (alive13 _).mono ?_; rintro e w9 ⟨rfl, hb9⟩; have H9 := Lib.hid (H7.out.next hb9); clear hb9; go_wp2; go_ret; exact ⟨rfl, H9.out.o.b⟩
 ·have h3 : cd3 ≠ 0 := fun h => h0 (he.2 h)
  have t0 : decide (cd2 = 0) = false := decide_eq_false h0; have t1 : (cd2 == 0) = false := beq_eq_false_iff_ne.2 h0; have t2 : (cd2 != 0) = true := bne_iff_ne.2 h0; have t3 : decide (cd3 = 0) = false := decide_eq_false h3; have t4 : (cd3 == 0) = false := beq_eq_false_iff_ne.2 h3; have t5 : (cd3 != 0) = true := bne_iff_ne.2 h3; clear he h0 h3
  go_wp2_with fail
  refine FS.out.mono ?_; rintro e w7 ⟨rfl, hb7⟩; have H7 := Lib.hid (H6.out.next hb7); have T2 := Lib.hid (S2.out.below hb7 (Nat.le_refl _) |>.wide hb7.size); have T5 := Lib.hid (S5.out.below hb7 (Nat.le_refl _) |>.wide hb7.size); have T6 := Lib.hid (S6.out.below hb7 (Nat.le_refl _) |>.wide hb7.size); clear hb7 FS S2 S3 S4 S5 S6 H6
  go_wp2_with fail
  refine (alive13 _).mono ?_; rintro e w9 ⟨rfl, hb9⟩; have H9 := Lib.hid (H7.out.next hb9); clear hb9; go_wp2; go_ret; exact ⟨rfl, H9.out.o.b⟩
end Slc
end Go.Proofs.YtbjnjeidgdmdiaaGreat
namespace Go.Proofs.YtbjnjeidgdmdiaaGreat.knownBack
open Go.ChangeShapes Go.WideShapes Go.ChangeAt Go.RowKit Ba Cv Sp Te Ag Tf Sl Slc
set_option linter.unusedVariables false
set_option maxRecDepth 100000 in
theorem lifted (os : Os) (started : os.Started) (H : Type) (enc : TypeId × Value → H) :
  ReturnsInHanded {} Tryz.checked os 7 .any (Rows.knownBackSpec.pre6 enc Tryz.prog Tryz.f7 Rows.knownBackRow.domain false) (Rows.knownBackSpec.post enc Tryz.prog Tryz.f7 false true false false) := by
 refine returnsInHanded_of_change_sized (C := Tryz.checked) Slc.own started (by kernel_rfl) Tryz.func7
  (ChangeSpec.witness6 (enc := enc) (C := Tryz.checked) false ⟨#[], #[.agg #[.int .i64 0, .int .i64 0, .int .i64 0, .int .i64 0, .int .i64 0, .int .i64 0, .int .i64 0, .int .i64 0, .slice none 0 0, .slice none 0 0], .agg #[.slice none 0 0], .agg #[.int .i64 0, .int .i64 0, .int .i64 0]], []⟩ 8 (by kernel_rfl) (by kernel_rfl) (by kernel_rfl) (by kernel_rfl)) ?_
 intro W base args ds gs before hval0 hW hcnd hsz0 _; have hval : ∀ (j : Nat) t v, Tryz.f7.params[j]? = some t → args[j]? = some v → Value.okWide Tryz.prog W .any base t v := hval0; have hW' := hW; have hsz : (DataW.weightsEach Tryz.prog (Tryz.f7.params.toList ++ Rows.knownBackSpec.plain.varTypes Tryz.prog) (ds ++ gs)).all (· ≤ reachBytes) = true := hsz0; obtain ⟨p, q, hA0, hV, rfl, hfz, hnd⟩ := hW; have hA : DataW.TrodAll enc Tryz.prog W 0 (fun _ => true) true Tryz.f7.params.toList args.toList ds p := hA0; rw [Tryz.params7] at hA hval hsz; obtain ⟨v0, vs0, d0, ds0, p0, q0, hargs, rfl, rfl, h0, r0⟩ := trodAll_cons hA; obtain ⟨v1, vs1, d1, ds1, p1, q1, rfl, rfl, rfl, h1, r1⟩ := trodAll_cons r0; obtain ⟨v2, vs2, d2, ds2, p2, q2, rfl, rfl, rfl, h2, r2⟩ := trodAll_cons r1; obtain ⟨rfl, rfl, rfl⟩ := trodAll_nil r2; obtain rfl : args = #[v0, v1, v2] := by cases args; simp_all
 obtain ⟨rfl, rfl⟩ := trodVars_none hV; have k0 := h0; have lt0 : ∀ x ∈ p0, x.block < W.heap.size := by obtain ⟨m, hm⟩ := k0; exact DataW.trod_lt m _ _ _ hm
 obtain ⟨y0, rfl, g0⟩ := Slc.open_history (hval 0 31 v0 rfl rfl) h0 (fun k hk => of_decide_eq_true (List.all_eq_true.1 hsz _ (DataW.weights_mem_each (j := 0) rfl rfl k hk))); have k1 := h1; have lt1 : ∀ x ∈ p1, x.block < W.heap.size := by obtain ⟨m, hm⟩ := k1; exact DataW.trod_lt m _ _ _ hm
 obtain ⟨A1, n1, c1, s1, rfl, g1⟩ := Slc.open_tariff (hval 1 34 v1 rfl rfl) h1 (fun k hk => of_decide_eq_true (List.all_eq_true.1 hsz _ (DataW.weights_mem_each (j := 1) rfl rfl k hk))); have k2 := h2; have lt2 : ∀ x ∈ p2, x.block < W.heap.size := by obtain ⟨m, hm⟩ := k2; exact DataW.trod_lt m _ _ _ hm
 obtain ⟨y2, t2, q2, rfl, b2⟩ := Slc.open_arr3 (hval 2 56 v2 rfl rfl) h2 (fun k hk => of_decide_eq_true (List.all_eq_true.1 hsz _ (DataW.weights_mem_each (j := 2) rfl rfl k hk))); clear hA0 hval0 hsz hsz0; refine (Slc.walk_KnownBack y0 g0 A1 n1 c1 s1 g1 y2 t2 q2 b2).mono fun e W' ⟨he, bel⟩ => ?_
 subst he; exact ⟨_, rfl, _, _, _, [], _, [], hW', trodAll_mk1 (shut_bool Tryz.underlying4 _), (trodAll_cons_mk (Below.trod Slc.laidOut (by kernel_rfl) (of_decide_eq_true (by kernel_rfl)) k0 bel lt0) (trodAll_cons_mk (Below.trod Slc.laidOut (by kernel_rfl) (of_decide_eq_true (by kernel_rfl)) k1 bel lt1) (trodAll_cons_mk (Below.trod Slc.laidOut (by kernel_rfl) (of_decide_eq_true (by kernel_rfl)) k2 bel lt2) trodAll_mk0))), rfl, bel.frame _, fun h => by cases h⟩
theorem over : Rows.knownBackRow.holds Tryz.pinned (OpenSpec.ofChange Rows.knownBackSpec) :=
 OpenClaim.holds_of_wide 7 Tryz.f7 rfl rfl rfl rfl rfl rfl rfl ⟨rfl, rfl, rfl, rfl, rfl⟩ rfl rfl rfl rfl rfl (by kernel_rfl) Tryz.func7 (by kernel_rfl)
  (of_decide_eq_true (by kernel_rfl)) (by unfold Func.isWrapper; first | (rw [if_pos (by decide +kernel)]; kernel_rfl) | (rw [if_neg (by decide +kernel)]; exact ⟨rfl, rfl⟩))
  (fun os started H enc _ => lifted os started H enc)
theorem proved : Rows.KnownBackSaid := over
end Go.Proofs.YtbjnjeidgdmdiaaGreat.knownBack
