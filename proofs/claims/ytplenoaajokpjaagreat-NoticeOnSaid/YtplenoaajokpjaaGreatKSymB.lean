/-
  The library's merge. Conditions: those of each theorem.
-/
import Derived.Test.YtplenoaajokpjaaGreatKSymM
namespace Go.Proofs.YtplenoaajokpjaaGreat
open Go.RowKit Ba Cv Sp Te
namespace Tm
set_option linter.unusedVariables false

set_option maxRecDepth 100000 in
set_option maxHeartbeats 8000000 in
theorem symB (w0 : World) (ad : Addr) (n c : Nat) (key : Int → Int) (V : Int → Prop) (pt : Value) (P L R Q xs : List Int) (a m b mid nn s0 r0 : Nat) (Pr : Nat → Prop) (w : World) (h : At w0 ad xs w) (hxs : P ++ L ++ R ++ Q = xs) (ha : P.length = a) (hn : b + Q.length = n) (hn2 : n ≤ 4000000)
    (hS : Sr key xs L R a m b nn s0 r0 Pr) (hG : Geo a m b mid nn s0 r0) (hside : m ≤ mid) (hV : ∀ y ∈ L ++ R, V y) (CL : Clo w0 ad key V pt) (IH : Merges w0 ad n c key V pt (L.length + R.length)) :
    Calls Tryz.prog 133 #[.slice (some ad) n c, .int .i64 (a : Int), .int .i64 (m : Int), .int .i64 (b : Int), clv pt] w (Puts w0 ad key P (L ++ R) Q) := by
  have hml := hS.ml
  have hmr := hS.mr
  obtain ⟨g1, g2, g3, g4, g5⟩ := hG
  have hG : Geo a m b mid nn s0 r0 := ⟨g1, g2, g3, g4, g5⟩
  obtain ⟨d, hd⟩ : ∃ d, m - a = d := ⟨_, rfl⟩
  obtain ⟨f, hf⟩ : ∃ f, b - m = f := ⟨_, rfl⟩
  obtain ⟨u, hu⟩ : ∃ u, a + b = u := ⟨_, rfl⟩
  obtain ⟨p, hp⟩ : ∃ p, nn - 1 = p := ⟨_, rfl⟩
  have e0 : (m : Int) - (a : Int) = (d : Int) := by omega
  have e00 : ((d : Int) == 1) = false := by rw [beq_eq_false_iff_ne]; omega
  have e00' : ¬ (d : Int) = 1 := by omega
  have e01 : (b : Int) - (m : Int) = (f : Int) := by omega
  have e02 : ((f : Int) == 1) = false := by rw [beq_eq_false_iff_ne]; omega
  have e02' : ¬ (f : Int) = 1 := by omega
  have e1 : (a : Int) + (b : Int) = (u : Int) := by omega
  have e2 : (u : Int) / 2 = (mid : Int) := by omega
  have e3 : (mid : Int) + (m : Int) = (nn : Int) := by omega
  have e5 : (nn : Int) - 1 = (p : Int) := by omega
  have l1 : d ≤ 4000000 := by omega
  have l2 : f ≤ 4000000 := by omega
  have l3 : u ≤ 8000000 := by omega
  have l4 : nn ≤ 8000000 := by omega
  have l5 : p ≤ 8000000 := by omega
  have l6 : mid ≤ 4000000 := by omega
  have hs0 : a = s0 := by rcases g3 with g | g <;> omega
  have hr0 : m = r0 := by rcases g3 with g | g <;> omega
  have t0 : decide ((mid : Int) < (m : Int)) = false := decide_eq_false (by omega)
  have t0n : decide (mid < m) = false := decide_eq_false (by omega)
  have HL := Lib.hid (show P.length = a ∧ a + L.length = m ∧ m + R.length = b ∧ b + Q.length = n from ⟨ha, hml, hmr, hn⟩)
  have HX := Lib.hid hxs
  have HS := Lib.hid hS
  have HG := Lib.hid hG
  have HV := Lib.hid hV
  have HC := Lib.hid CL
  have HI := Lib.hid IH
  have HP := Lib.hid hp
  have H0 := Lib.hid (show Se w0 ad xs Pr s0 r0 s0 r0 w from ⟨h, St.Bis.start hG.io.2.1⟩)
  have l7 : r0 ≤ 4000000 := by omega
  have l8 : s0 ≤ 4000000 := by have := hG.io; omega
  clear h hxs ha hn hS hG hV CL IH hml hmr g1 g2 g3 g4 g5 hd hf hu hp hside
  subst hr0 hs0
  go_enter Tryz.func133, Tryz.ntmps133
  go_wp2
  go_loopw [20, 21] (fun vi vj w' => ∃ (i j : Nat) (W : World), vi = .int .i64 (i : Int) ∧ vj = .int .i64 (j : Int) ∧ W = w' ∧ Hid (Se w0 ad xs Pr a m i j W)) (fun vi vj _ => (intOf vj).toNat - (intOf vi).toNat)
  case atStart => exact ⟨a, m, w, rfl, rfl, rfl, H0⟩
  case round =>
    clear H0
    obtain ⟨i, j, W, rfl, rfl, rfl, H⟩ := hrel
    by_cases hlt : i < j
    · obtain ⟨s, hs⟩ : ∃ s, i + j = s := ⟨_, rfl⟩
      obtain ⟨h, hh⟩ : ∃ h, s / 2 = h := ⟨_, rfl⟩
      have hlt2 : (i : Int) < (j : Int) := by omega
      have e6 : (i : Int) + (j : Int) = (s : Int) := by omega
      have e7 : (s : Int) / 2 = (h : Int) := by omega
      obtain ⟨h1, h2⟩ := half_in hs hh hlt
      have hsa := H.out.s.a
      have hsc := H.out.s.c
      have hsn : s ≤ 8000000 := by omega
      obtain ⟨h3, h4, h5, h6⟩ := HG.out.at (c := h) (by omega) (by omega)
      obtain ⟨y, x, k1, k2, k3, k4, _, _⟩ := HS.out.look HG.out (c := h) (by omega) (by omega)
      obtain ⟨k, hk⟩ : ∃ k, nn - 1 - h = k := ⟨_, rfl⟩
      rw [hk] at k1
      obtain ⟨v, hv⟩ : ∃ v : Int, (p : Int) - (h : Int) = v := ⟨_, rfl⟩
      have hpp := HP.out
      have v1 : IntKind.i64.wrap v = v := (IntWalk.i64_left _).trans (IntWalk.wrap64_in _ ⟨by omega, by omega⟩)
      have v2 : 0 ≤ v := by omega
      have v3 : v < (n : Int) := by have := HL.out; omega
      have v4 : v.toNat = k := by omega
      have b1 : (h : Int) < (n : Int) := by have := HL.out; omega
      obtain ⟨q, hq⟩ : ∃ q, St.cf (key y) (key x) = q := ⟨_, rfl⟩
      have hqk : decide (q < 0) = decide (key y < key x) := by rw [← hq]; exact St.cf_neg _ _
      have CQ : ∀ p : Ext W, Hid (Calls Tryz.prog 93 #[.int .i64 y, .int .i64 x, pt] p.W fun e w' => e = .returned (.int .i64 q) ∧ Below p.W.heap.size p.W w') := fun p => Lib.hid (by rw [← hq]; exact HC.out p.W y x (H.out.next p.b).at_.g (HV.out y (List.mem_append_right _ k3)) (HV.out x (List.mem_append_left _ k4)))
      have c1 : ∀ p : Ext W, p.W.cell? (ad.add k) = some (.int .i64 y) := fun p => (H.out.next p.b).at_.c k y k1
      have c2 : ∀ p : Ext W, p.W.cell? (ad.add h) = some (.int .i64 x) := fun p => (H.out.next p.b).at_.c h x k2
      have HQ := Lib.hid hqk
      have HN := Lib.hid (show (key y < key x → ∀ p : Ext W, Se w0 ad xs Pr a m i h p.W) ∧ (key x ≤ key y → ∀ p : Ext W, Se w0 ad xs Pr a m (h + 1) j p.W) from
        ⟨fun hlt p => ⟨(H.out.next p.b).at_, H.out.s.down (HS.out.down HG.out) h1 h2 (by rw [HS.out.p]; intro hp; have := hp y x (by rw [hk]; exact k1) k2; omega)⟩,
         fun hge p => ⟨(H.out.next p.b).at_, H.out.s.up (HS.out.down HG.out) h1 h2 (by rw [HS.out.p]; intro y' x' hy hx; rw [hk, k1] at hy; rw [k2] at hx; injection hy with hy; injection hx with hx; rw [← hy, ← hx]; exact hge)⟩⟩)
      have HH := Lib.hid (And.intro h1 h2)
      clear hs hh hlt h1 h2 h3 h4 h5 h6 hsa hsc k1 k2 k3 k4 hk hq hqk hpp H
      go_wp2
      have ne : Nonempty (Ext W) := ⟨⟨W, Below.refl _ _⟩⟩
      refine quietE (by kernel_rfl) (by kernel_rfl) ?_
      repeat (first | go_big_quiet_skip | quiet_step (first
        | (go_at_call 93; with_reducible exact ext_of (CQ _).out)
        | fail))
      refine wpQuiet_nil ?_
      rintro _ ⟨p, rfl⟩
      have HN1 := Lib.hid (show (key y < key x → Se w0 ad xs Pr a m i h p.W) ∧ (key x ≤ key y → Se w0 ad xs Pr a m (h + 1) j p.W) from ⟨fun hk => HN.out.1 (by omega) p, fun hk => HN.out.2 (by omega) p⟩)
      generalize p.W = W1 at HN1 ⊢
      clear CQ c1 c2 ne HN v1 v2 v3 v4 hv
      by_cases hk : key y < key x
      · have t1 : decide (q < 0) = true := HQ.out.trans (decide_eq_true hk)
        have HE := Lib.hid (HN1.out.1 hk)
        rw [t1]
        clear hk HN1
        go_wp2
        go_roundw
        case rel => exact ⟨i, h, W1, rfl, rfl, rfl, HE⟩
        case measure => have := HH.out; simp [intOf]; omega
      · have t1 : decide (q < 0) = false := HQ.out.trans (decide_eq_false hk)
        have HE := Lib.hid (HN1.out.2 (by omega))
        rw [t1]
        clear hk HN1
        go_wp2
        go_roundw
        case rel => exact ⟨h + 1, j, W1, by go_num, rfl, rfl, HE⟩
        case measure => have := HH.out; simp [intOf]; omega
    · obtain rfl : i = j := by have := H.out.s.b; omega
      have hfin := HS.out.fin HG.out H.out.s
      obtain ⟨st, hst⟩ : ∃ st, st = i := ⟨_, rfl⟩
      subst hst
      obtain ⟨en, hen⟩ : ∃ en, nn - st = en := ⟨_, rfl⟩
      rw [hen] at hfin
      obtain ⟨s, hs⟩ : ∃ s, st - a = s := ⟨_, rfl⟩
      obtain ⟨t, ht⟩ : ∃ t, en - m = t := ⟨_, rfl⟩
      rw [hs, ht] at hfin
      have HF := Lib.hid hfin
      have H := Lib.hid H.out.at_
      have e8 : (nn : Int) - (st : Int) = (en : Int) := by have := hfin.e; omega
      have l9 : en ≤ 4000000 := by have := hfin.et; have := hfin.tr; have := HL.out; omega
      have t9 : decide ((st : Int) < (st : Int)) = false := by simp
      clear hen hs ht hlt
      have hcase : (0 < s ∧ L.length ≤ s ∧ t = 0 ∧ t < R.length) ∨ (0 < s ∧ s < L.length ∧ t = 0 ∧ t < R.length) ∨ (s = 0 ∧ s < L.length ∧ 0 < t ∧ R.length ≤ t) ∨ (0 < s ∧ s < L.length ∧ 0 < t ∧ R.length ≤ t) ∨ (s = 0 ∧ s < L.length ∧ 0 < t ∧ t < R.length) ∨ (0 < s ∧ s < L.length ∧ 0 < t ∧ t < R.length) ∨ (0 < s ∧ L.length ≤ s ∧ 0 < t ∧ t < R.length) := by
        have := hfin.sl
        have := hfin.tr
        have := hfin.n0
        have := hfin.n1
        have := HS.out.ml
        have := HS.out.mr
        have := HG.out.h4
        have := HG.out.h5
        omega
      clear hfin
      rcases hcase with ⟨z1, z2, z3, z4⟩ | ⟨z1, z2, z3, z4⟩ | ⟨z1, z2, z3, z4⟩ | ⟨z1, z2, z3, z4⟩ | ⟨z1, z2, z3, z4⟩ | ⟨z1, z2, z3, z4⟩ | ⟨z1, z2, z3, z4⟩
      · have hf := HF.out
        obtain ⟨f1, f2, f3, f4, f5, _, f7, f8, f9, f10⟩ := hf
        have hml := HS.out.ml
        have hmr := HS.out.mr
        have t1 : decide ((st : Int) < (m : Int)) = false := decide_eq_false (by omega)
        have t1n : decide (st < m) = false := decide_eq_false (by omega)
        have t3 : decide ((a : Int) < (st : Int)) = true := decide_eq_true (by omega)
        have t3n : decide (a < st) = true := decide_eq_true (by omega)
        have t4 : decide ((st : Int) < (mid : Int)) = false := decide_eq_false (by omega)
        have t4n : decide (st < mid) = false := decide_eq_false (by omega)
        have t5 : decide ((mid : Int) < (en : Int)) = false := decide_eq_false (by omega)
        have t5n : decide (mid < en) = false := decide_eq_false (by omega)
        have HF2 := HF
        have HA1 := Lib.hid (show At w0 ad (P ++ (L.take s ++ R.take t) ++ (L.drop s ++ R.drop t) ++ Q) W by have := H.out; rw [← HX.out, HF.out.no (P := P) (Q := Q) (by omega)] at this; exact this)
        obtain ⟨S1, hS1⟩ : ∃ S1, L.take s ++ R.take t = S1 := ⟨_, rfl⟩
        have HG1 := Lib.hid (show St.Good key S1 (L.take s ++ R.take t) by rw [← hS1]; exact left_good HS.out.l HS.out.r (by omega))
        have HA2 := Lib.hid (show At w0 ad ((P ++ S1) ++ (L.drop s ++ R.drop t) ++ Q) W by rw [← hS1]; exact HA1.out)
        clear hS1
        have HE := Lib.hid (HF2.out.done HS.out.l HS.out.r HG1.out (right_good HS.out.l HS.out.r (by omega)) HA2.out)
        go_wp2
        go_end0
        exact ⟨rfl, HE.out⟩
      · have hf := HF.out
        obtain ⟨f1, f2, f3, f4, f5, _, f7, f8, f9, f10⟩ := hf
        have hml := HS.out.ml
        have hmr := HS.out.mr
        have t1 : decide ((st : Int) < (m : Int)) = true := decide_eq_true (by omega)
        have t1n : decide (st < m) = true := decide_eq_true (by omega)
        have t2 : decide ((m : Int) < (en : Int)) = false := decide_eq_false (by omega)
        have t2n : decide (m < en) = false := decide_eq_false (by omega)
        have t3 : decide ((a : Int) < (st : Int)) = true := decide_eq_true (by omega)
        have t3n : decide (a < st) = true := decide_eq_true (by omega)
        have t4 : decide ((st : Int) < (mid : Int)) = false := decide_eq_false (by omega)
        have t4n : decide (st < mid) = false := decide_eq_false (by omega)
        have t5 : decide ((mid : Int) < (en : Int)) = true := decide_eq_true (by omega)
        have t5n : decide (mid < en) = true := decide_eq_true (by omega)
        have t6 : decide ((en : Int) < (b : Int)) = true := decide_eq_true (by omega)
        have t6n : decide (en < b) = true := decide_eq_true (by omega)
        have HF2 := HF
        have HA1 := Lib.hid (show At w0 ad (P ++ (L.take s ++ R.take t) ++ (L.drop s ++ R.drop t) ++ Q) W by have := H.out; rw [← HX.out, HF.out.no (P := P) (Q := Q) (by omega)] at this; exact this)
        obtain ⟨S1, hS1⟩ : ∃ S1, L.take s ++ R.take t = S1 := ⟨_, rfl⟩
        have HG1 := Lib.hid (show St.Good key S1 (L.take s ++ R.take t) by rw [← hS1]; exact left_good HS.out.l HS.out.r (by omega))
        have HA2 := Lib.hid (show At w0 ad ((P ++ S1) ++ (L.drop s ++ R.drop t) ++ Q) W by rw [← hS1]; exact HA1.out)
        clear hS1
        have HC2 := Lib.hid (HI.out (P ++ S1) (L.drop s) (R.drop t) Q mid en b W (by simp; omega) (by have := HA2.out; simpa using this) (by have := HG1.out.len; simp at this ⊢; have := HL.out; omega) (by simp; omega) (by simp; omega) (by have := HG1.out.len; simp at this ⊢; have := HL.out; omega) (by simp; omega) (by simp; omega) (St.srt_sub HS.out.l (List.drop_sublist _ _)) (St.srt_sub HS.out.r (List.drop_sublist _ _)) (fun x hx y hy => HS.out.lr x (List.mem_of_mem_drop hx) y (List.mem_of_mem_drop hy)) (fun y hy => HV.out y (by rcases List.mem_append.1 hy with hy | hy; exact List.mem_append_left _ (List.mem_of_mem_drop hy); exact List.mem_append_right _ (List.mem_of_mem_drop hy))))
        go_wp2_with fail
        refine HC2.out.mono ?_
        rintro e w3 ⟨rfl, S2, hg2, hA3⟩
        have HE := Lib.hid (HF2.out.done HS.out.l HS.out.r HG1.out hg2 hA3)
        clear hg2 hA3 HC2
        go_wp2
        go_end0
        exact ⟨rfl, HE.out⟩
      · have hf := HF.out
        obtain ⟨f1, f2, f3, f4, f5, _, f7, f8, f9, f10⟩ := hf
        have hml := HS.out.ml
        have hmr := HS.out.mr
        have t1 : decide ((st : Int) < (m : Int)) = true := decide_eq_true (by omega)
        have t1n : decide (st < m) = true := decide_eq_true (by omega)
        have t2 : decide ((m : Int) < (en : Int)) = true := decide_eq_true (by omega)
        have t2n : decide (m < en) = true := decide_eq_true (by omega)
        have t3 : decide ((a : Int) < (st : Int)) = false := decide_eq_false (by omega)
        have t3n : decide (a < st) = false := decide_eq_false (by omega)
        have t5 : decide ((mid : Int) < (en : Int)) = true := decide_eq_true (by omega)
        have t5n : decide (mid < en) = true := decide_eq_true (by omega)
        have t6 : decide ((en : Int) < (b : Int)) = false := decide_eq_false (by omega)
        have t6n : decide (en < b) = false := decide_eq_false (by omega)
        have HF2 := HF
        have HRo := Lib.hid (rotate w0 ad n c (P ++ L.take s) (L.drop s) (R.take t) (R.drop t ++ Q) st m en (clv pt) W (by have := H.out; rw [← HX.out] at this; rw [show P ++ L.take s ++ L.drop s ++ R.take t ++ (R.drop t ++ Q) = P ++ L ++ R ++ Q by rw [List.append_assoc P, take_one]; simp only [List.append_assoc]; rw [← List.append_assoc (R.take t), take_one]]; exact this) (by simp; omega) (by simp; omega) (by simp; have := HL.out; omega) (by simp; have := HL.out; omega) (by simp; have := HL.out; omega) (by simp; have := HL.out; omega) hn2)
        go_wp2_with fail
        refine HRo.out.mono ?_
        rintro e w1 ⟨rfl, hA1⟩
        have HA1 := Lib.hid (show At w0 ad (P ++ (L.take s ++ R.take t) ++ (L.drop s ++ R.drop t) ++ Q) w1 by simpa using hA1)
        clear hA1 HRo
        obtain ⟨S1, hS1⟩ : ∃ S1, L.take s ++ R.take t = S1 := ⟨_, rfl⟩
        have HG1 := Lib.hid (show St.Good key S1 (L.take s ++ R.take t) by rw [← hS1]; exact left_good HS.out.l HS.out.r (by omega))
        have HA2 := Lib.hid (show At w0 ad ((P ++ S1) ++ (L.drop s ++ R.drop t) ++ Q) w1 by rw [← hS1]; exact HA1.out)
        clear hS1
        have HE := Lib.hid (HF2.out.done HS.out.l HS.out.r HG1.out (right_good HS.out.l HS.out.r (by omega)) HA2.out)
        go_wp2
        go_end0
        exact ⟨rfl, HE.out⟩
      · have hf := HF.out
        obtain ⟨f1, f2, f3, f4, f5, _, f7, f8, f9, f10⟩ := hf
        have hml := HS.out.ml
        have hmr := HS.out.mr
        have t1 : decide ((st : Int) < (m : Int)) = true := decide_eq_true (by omega)
        have t1n : decide (st < m) = true := decide_eq_true (by omega)
        have t2 : decide ((m : Int) < (en : Int)) = true := decide_eq_true (by omega)
        have t2n : decide (m < en) = true := decide_eq_true (by omega)
        have t3 : decide ((a : Int) < (st : Int)) = true := decide_eq_true (by omega)
        have t3n : decide (a < st) = true := decide_eq_true (by omega)
        have t4 : decide ((st : Int) < (mid : Int)) = true := decide_eq_true (by omega)
        have t4n : decide (st < mid) = true := decide_eq_true (by omega)
        have t5 : decide ((mid : Int) < (en : Int)) = true := decide_eq_true (by omega)
        have t5n : decide (mid < en) = true := decide_eq_true (by omega)
        have t6 : decide ((en : Int) < (b : Int)) = false := decide_eq_false (by omega)
        have t6n : decide (en < b) = false := decide_eq_false (by omega)
        have HF2 := HF
        have HRo := Lib.hid (rotate w0 ad n c (P ++ L.take s) (L.drop s) (R.take t) (R.drop t ++ Q) st m en (clv pt) W (by have := H.out; rw [← HX.out] at this; rw [show P ++ L.take s ++ L.drop s ++ R.take t ++ (R.drop t ++ Q) = P ++ L ++ R ++ Q by rw [List.append_assoc P, take_one]; simp only [List.append_assoc]; rw [← List.append_assoc (R.take t), take_one]]; exact this) (by simp; omega) (by simp; omega) (by simp; have := HL.out; omega) (by simp; have := HL.out; omega) (by simp; have := HL.out; omega) (by simp; have := HL.out; omega) hn2)
        go_wp2_with fail
        refine HRo.out.mono ?_
        rintro e w1 ⟨rfl, hA1⟩
        have HA1 := Lib.hid (show At w0 ad (P ++ (L.take s ++ R.take t) ++ (L.drop s ++ R.drop t) ++ Q) w1 by simpa using hA1)
        clear hA1 HRo
        have HB := Lib.hid (HI.out P (L.take s) (R.take t) (L.drop s ++ R.drop t ++ Q) a st mid w1 (by simp; omega) (by have := HA1.out; simpa using this) HL.out.1 (by simp; omega) (by simp; omega) (by simp; have := HL.out; omega) (by simp; omega) (by simp; omega) (St.srt_sub HS.out.l (List.take_sublist _ _)) (St.srt_sub HS.out.r (List.take_sublist _ _)) (fun x hx y hy => HS.out.lr x (List.mem_of_mem_take hx) y (List.mem_of_mem_take hy)) (fun y hy => HV.out y (by rcases List.mem_append.1 hy with hy | hy; exact List.mem_append_left _ (List.mem_of_mem_take hy); exact List.mem_append_right _ (List.mem_of_mem_take hy))))
        go_wp2_with fail
        refine HB.out.mono ?_
        rintro e w2 ⟨rfl, S1, hg1, hA2⟩
        have HG1 := Lib.hid hg1
        have HA2 := Lib.hid (show At w0 ad ((P ++ S1) ++ (L.drop s ++ R.drop t) ++ Q) w2 by simpa using hA2)
        clear hg1 hA2 HB
        have HE := Lib.hid (HF2.out.done HS.out.l HS.out.r HG1.out (right_good HS.out.l HS.out.r (by omega)) HA2.out)
        go_wp2
        go_end0
        exact ⟨rfl, HE.out⟩
      · have hf := HF.out
        obtain ⟨f1, f2, f3, f4, f5, _, f7, f8, f9, f10⟩ := hf
        have hml := HS.out.ml
        have hmr := HS.out.mr
        have t1 : decide ((st : Int) < (m : Int)) = true := decide_eq_true (by omega)
        have t1n : decide (st < m) = true := decide_eq_true (by omega)
        have t2 : decide ((m : Int) < (en : Int)) = true := decide_eq_true (by omega)
        have t2n : decide (m < en) = true := decide_eq_true (by omega)
        have t3 : decide ((a : Int) < (st : Int)) = false := decide_eq_false (by omega)
        have t3n : decide (a < st) = false := decide_eq_false (by omega)
        have t5 : decide ((mid : Int) < (en : Int)) = true := decide_eq_true (by omega)
        have t5n : decide (mid < en) = true := decide_eq_true (by omega)
        have t6 : decide ((en : Int) < (b : Int)) = true := decide_eq_true (by omega)
        have t6n : decide (en < b) = true := decide_eq_true (by omega)
        have HF2 := HF
        have HRo := Lib.hid (rotate w0 ad n c (P ++ L.take s) (L.drop s) (R.take t) (R.drop t ++ Q) st m en (clv pt) W (by have := H.out; rw [← HX.out] at this; rw [show P ++ L.take s ++ L.drop s ++ R.take t ++ (R.drop t ++ Q) = P ++ L ++ R ++ Q by rw [List.append_assoc P, take_one]; simp only [List.append_assoc]; rw [← List.append_assoc (R.take t), take_one]]; exact this) (by simp; omega) (by simp; omega) (by simp; have := HL.out; omega) (by simp; have := HL.out; omega) (by simp; have := HL.out; omega) (by simp; have := HL.out; omega) hn2)
        go_wp2_with fail
        refine HRo.out.mono ?_
        rintro e w1 ⟨rfl, hA1⟩
        have HA1 := Lib.hid (show At w0 ad (P ++ (L.take s ++ R.take t) ++ (L.drop s ++ R.drop t) ++ Q) w1 by simpa using hA1)
        clear hA1 HRo
        obtain ⟨S1, hS1⟩ : ∃ S1, L.take s ++ R.take t = S1 := ⟨_, rfl⟩
        have HG1 := Lib.hid (show St.Good key S1 (L.take s ++ R.take t) by rw [← hS1]; exact left_good HS.out.l HS.out.r (by omega))
        have HA2 := Lib.hid (show At w0 ad ((P ++ S1) ++ (L.drop s ++ R.drop t) ++ Q) w1 by rw [← hS1]; exact HA1.out)
        clear hS1
        have HC2 := Lib.hid (HI.out (P ++ S1) (L.drop s) (R.drop t) Q mid en b w1 (by simp; omega) (by have := HA2.out; simpa using this) (by have := HG1.out.len; simp at this ⊢; have := HL.out; omega) (by simp; omega) (by simp; omega) (by have := HG1.out.len; simp at this ⊢; have := HL.out; omega) (by simp; omega) (by simp; omega) (St.srt_sub HS.out.l (List.drop_sublist _ _)) (St.srt_sub HS.out.r (List.drop_sublist _ _)) (fun x hx y hy => HS.out.lr x (List.mem_of_mem_drop hx) y (List.mem_of_mem_drop hy)) (fun y hy => HV.out y (by rcases List.mem_append.1 hy with hy | hy; exact List.mem_append_left _ (List.mem_of_mem_drop hy); exact List.mem_append_right _ (List.mem_of_mem_drop hy))))
        go_wp2_with fail
        refine HC2.out.mono ?_
        rintro e w3 ⟨rfl, S2, hg2, hA3⟩
        have HE := Lib.hid (HF2.out.done HS.out.l HS.out.r HG1.out hg2 hA3)
        clear hg2 hA3 HC2
        go_wp2
        go_end0
        exact ⟨rfl, HE.out⟩
      · have hf := HF.out
        obtain ⟨f1, f2, f3, f4, f5, _, f7, f8, f9, f10⟩ := hf
        have hml := HS.out.ml
        have hmr := HS.out.mr
        have t1 : decide ((st : Int) < (m : Int)) = true := decide_eq_true (by omega)
        have t1n : decide (st < m) = true := decide_eq_true (by omega)
        have t2 : decide ((m : Int) < (en : Int)) = true := decide_eq_true (by omega)
        have t2n : decide (m < en) = true := decide_eq_true (by omega)
        have t3 : decide ((a : Int) < (st : Int)) = true := decide_eq_true (by omega)
        have t3n : decide (a < st) = true := decide_eq_true (by omega)
        have t4 : decide ((st : Int) < (mid : Int)) = true := decide_eq_true (by omega)
        have t4n : decide (st < mid) = true := decide_eq_true (by omega)
        have t5 : decide ((mid : Int) < (en : Int)) = true := decide_eq_true (by omega)
        have t5n : decide (mid < en) = true := decide_eq_true (by omega)
        have t6 : decide ((en : Int) < (b : Int)) = true := decide_eq_true (by omega)
        have t6n : decide (en < b) = true := decide_eq_true (by omega)
        have HF2 := HF
        have HRo := Lib.hid (rotate w0 ad n c (P ++ L.take s) (L.drop s) (R.take t) (R.drop t ++ Q) st m en (clv pt) W (by have := H.out; rw [← HX.out] at this; rw [show P ++ L.take s ++ L.drop s ++ R.take t ++ (R.drop t ++ Q) = P ++ L ++ R ++ Q by rw [List.append_assoc P, take_one]; simp only [List.append_assoc]; rw [← List.append_assoc (R.take t), take_one]]; exact this) (by simp; omega) (by simp; omega) (by simp; have := HL.out; omega) (by simp; have := HL.out; omega) (by simp; have := HL.out; omega) (by simp; have := HL.out; omega) hn2)
        go_wp2_with fail
        refine HRo.out.mono ?_
        rintro e w1 ⟨rfl, hA1⟩
        have HA1 := Lib.hid (show At w0 ad (P ++ (L.take s ++ R.take t) ++ (L.drop s ++ R.drop t) ++ Q) w1 by simpa using hA1)
        clear hA1 HRo
        have HB := Lib.hid (HI.out P (L.take s) (R.take t) (L.drop s ++ R.drop t ++ Q) a st mid w1 (by simp; omega) (by have := HA1.out; simpa using this) HL.out.1 (by simp; omega) (by simp; omega) (by simp; have := HL.out; omega) (by simp; omega) (by simp; omega) (St.srt_sub HS.out.l (List.take_sublist _ _)) (St.srt_sub HS.out.r (List.take_sublist _ _)) (fun x hx y hy => HS.out.lr x (List.mem_of_mem_take hx) y (List.mem_of_mem_take hy)) (fun y hy => HV.out y (by rcases List.mem_append.1 hy with hy | hy; exact List.mem_append_left _ (List.mem_of_mem_take hy); exact List.mem_append_right _ (List.mem_of_mem_take hy))))
        go_wp2_with fail
        refine HB.out.mono ?_
        rintro e w2 ⟨rfl, S1, hg1, hA2⟩
        have HG1 := Lib.hid hg1
        have HA2 := Lib.hid (show At w0 ad ((P ++ S1) ++ (L.drop s ++ R.drop t) ++ Q) w2 by simpa using hA2)
        clear hg1 hA2 HB
        have HC2 := Lib.hid (HI.out (P ++ S1) (L.drop s) (R.drop t) Q mid en b w2 (by simp; omega) (by have := HA2.out; simpa using this) (by have := HG1.out.len; simp at this ⊢; have := HL.out; omega) (by simp; omega) (by simp; omega) (by have := HG1.out.len; simp at this ⊢; have := HL.out; omega) (by simp; omega) (by simp; omega) (St.srt_sub HS.out.l (List.drop_sublist _ _)) (St.srt_sub HS.out.r (List.drop_sublist _ _)) (fun x hx y hy => HS.out.lr x (List.mem_of_mem_drop hx) y (List.mem_of_mem_drop hy)) (fun y hy => HV.out y (by rcases List.mem_append.1 hy with hy | hy; exact List.mem_append_left _ (List.mem_of_mem_drop hy); exact List.mem_append_right _ (List.mem_of_mem_drop hy))))
        go_wp2_with fail
        refine HC2.out.mono ?_
        rintro e w3 ⟨rfl, S2, hg2, hA3⟩
        have HE := Lib.hid (HF2.out.done HS.out.l HS.out.r HG1.out hg2 hA3)
        clear hg2 hA3 HC2
        go_wp2
        go_end0
        exact ⟨rfl, HE.out⟩
      · have hf := HF.out
        obtain ⟨f1, f2, f3, f4, f5, _, f7, f8, f9, f10⟩ := hf
        have hml := HS.out.ml
        have hmr := HS.out.mr
        have t1 : decide ((st : Int) < (m : Int)) = false := decide_eq_false (by omega)
        have t1n : decide (st < m) = false := decide_eq_false (by omega)
        have t3 : decide ((a : Int) < (st : Int)) = true := decide_eq_true (by omega)
        have t3n : decide (a < st) = true := decide_eq_true (by omega)
        have t4 : decide ((st : Int) < (mid : Int)) = true := decide_eq_true (by omega)
        have t4n : decide (st < mid) = true := decide_eq_true (by omega)
        have t5 : decide ((mid : Int) < (en : Int)) = false := decide_eq_false (by omega)
        have t5n : decide (mid < en) = false := decide_eq_false (by omega)
        have HF2 := HF
        have HA1 := Lib.hid (show At w0 ad (P ++ (L.take s ++ R.take t) ++ (L.drop s ++ R.drop t) ++ Q) W by have := H.out; rw [← HX.out, HF.out.no (P := P) (Q := Q) (by omega)] at this; exact this)
        have HB := Lib.hid (HI.out P (L.take s) (R.take t) (L.drop s ++ R.drop t ++ Q) a st mid W (by simp; omega) (by have := HA1.out; simpa using this) HL.out.1 (by simp; omega) (by simp; omega) (by simp; have := HL.out; omega) (by simp; omega) (by simp; omega) (St.srt_sub HS.out.l (List.take_sublist _ _)) (St.srt_sub HS.out.r (List.take_sublist _ _)) (fun x hx y hy => HS.out.lr x (List.mem_of_mem_take hx) y (List.mem_of_mem_take hy)) (fun y hy => HV.out y (by rcases List.mem_append.1 hy with hy | hy; exact List.mem_append_left _ (List.mem_of_mem_take hy); exact List.mem_append_right _ (List.mem_of_mem_take hy))))
        go_wp2_with fail
        refine HB.out.mono ?_
        rintro e w2 ⟨rfl, S1, hg1, hA2⟩
        have HG1 := Lib.hid hg1
        have HA2 := Lib.hid (show At w0 ad ((P ++ S1) ++ (L.drop s ++ R.drop t) ++ Q) w2 by simpa using hA2)
        clear hg1 hA2 HB
        have HE := Lib.hid (HF2.out.done HS.out.l HS.out.r HG1.out (right_good HS.out.l HS.out.r (by omega)) HA2.out)
        go_wp2
        go_end0
        exact ⟨rfl, HE.out⟩

end Tm
end Go.Proofs.YtplenoaajokpjaaGreat
