/-
  The library's stable sort. Conditions: those of each theorem.
-/
import Derived.Test.YtplenoaajokpjaaGreatKSymA
import Derived.Test.YtplenoaajokpjaaGreatKSymB
namespace Go.Proofs.YtplenoaajokpjaaGreat
open Go.RowKit Ba Cv Sp Te
namespace Tm
set_option linter.unusedVariables false
theorem merges (w0 : World) (ad : Addr) (n c : Nat) (key : Int → Int) (V : Int → Prop) (pt : Value) (hn2 : n ≤ 4000000) (CL : Clo w0 ad key V pt) : ∀ N, Merges w0 ad n c key V pt N := by
 intro N
 induction N with
 | zero => intro P L R Q a m b w h; omega
 | succ N ih =>
  intro P L R Q a m b w hN h ha hm hb hn hL0 hR0 hL hR hLR hV; by_cases h1 : L.length = 1
  ·obtain ⟨x, rfl⟩ := List.length_eq_one_iff.1 h1; have h' : At w0 ad (P ++ x :: R ++ Q) w := by simpa using h
   exact sym1 w0 ad n c key V pt P R Q x a m b w h' ha (by simpa using hm) hb (by simpa using hn) hn2 hR (fun y hy => hLR x (by simp) y hy) hV CL
  by_cases h2 : R.length = 1
  ·obtain ⟨x, rfl⟩ := List.length_eq_one_iff.1 h2; have h' : At w0 ad (P ++ L ++ x :: Q) w := by simpa using h
   exact sym2 w0 ad n c key V pt P L Q x a m b w h' ha hm (by simpa using hb) (by simpa using hn) hn2 h1 hL (fun y hy => hLR y hy x (by simp)) hV CL
  have IH : Merges w0 ad n c key V pt (L.length + R.length) := fun P' L' R' Q' a' m' b' w' hN' => ih P' L' R' Q' a' m' b' w' (by omega)
  have hbn : b + Q.length = n := by rw [← hn]; simp; omega
  have gl : ∀ h t, a + t = h → t < L.length → (P ++ L ++ R ++ Q)[h]? = L[t]? := fun h t ht hl => by rw [List.append_assoc (P ++ L)]; exact St.get_mid ha ht hl
  have gr : ∀ h t, m + t = h → t < R.length → (P ++ L ++ R ++ Q)[h]? = R[t]? := fun h t ht hl => St.get_mid (by simp; omega) ht hl
  by_cases hs : (a + b) / 2 < m
  ·exact symA w0 ad n c key V pt P L R Q _ a m b _ ((a + b) / 2 + m) ((a + b) / 2 + m - b) ((a + b) / 2) _ w h rfl ha hbn hn2 ⟨gl, gr, hL, hR, hLR, hm, hb, rfl⟩ ⟨rfl, rfl, .inl ⟨hs, by omega, rfl⟩, by omega, by omega⟩ hs hV CL IH
  ·exact symB w0 ad n c key V pt P L R Q _ a m b _ ((a + b) / 2 + m) a m _ w h rfl ha hbn hn2 ⟨gl, gr, hL, hR, hLR, hm, hb, rfl⟩ ⟨rfl, rfl, .inr ⟨by omega, rfl, rfl⟩, by omega, by omega⟩ (by omega) hV CL IH
def Puts1 (w0 : World) (ad : Addr) (key : Int → Int) (D : List Int) (e : Ending) (w' : World) : Prop := e = .returned (.tuple #[]) ∧ ∃ S, St.Good key S D ∧ At w0 ad S w'
structure B1 (w0 : World) (ad : Addr) (key : Int → Int) (D : List Int) (a : Nat) (W : World) : Prop where
 r : ∃ X D1 D2, D = D1 ++ D2 ∧ St.Full key 20 X D1 ∧ D1.length = a ∧ At w0 ad (X ++ D2) W
structure B2 (w0 : World) (ad : Addr) (key : Int → Int) (D : List Int) (s a : Nat) (W : World) : Prop where
 r : ∃ X Y D1 D2, D = D1 ++ D2 ∧ St.Full key (2 * s) X D1 ∧ St.Blk key s Y D2 ∧ D1.length = a ∧ At w0 ad (X ++ Y) W
structure B3 (w0 : World) (ad : Addr) (key : Int → Int) (D : List Int) (s : Nat) (W : World) : Prop where
 r : ∃ X, St.Blk key s X D ∧ At w0 ad X W
section
variable {w0 W : World} {ad : Addr} {key : Int → Int} {D : List Int} {n c a s : Nat} {V : Int → Prop} {pt : Value}
theorem B1.step (h : B1 w0 ad key D a W) (hn : D.length = n) (hn2 : n ≤ 4000000) (hD : D.Pairwise (· < ·)) (hV : ∀ x ∈ D, V x) (CL : Clo w0 ad key V pt) (hb : a + 20 ≤ n) :
  Calls Tryz.prog 132 #[.slice (some ad) n c, .int .i64 (a : Int), .int .i64 ((a + 20 : Nat) : Int), clv pt] W fun e w' => e = .returned (.tuple #[]) ∧ B1 w0 ad key D (a + 20) w' := by
 obtain ⟨X, D1, D2, hD2, hF, ha, hA⟩ := h.r; have hl := hF.len; have hD3 := hD; rw [hD2] at hD hV hn; rw [List.length_append] at hn; have hk : D2.take 20 ++ D2.drop 20 = D2 := List.take_append_drop 20 D2; refine (insertion w0 ad n c key V pt X (D2.take 20) (D2.drop 20) a (a + 20) W (by rw [List.append_assoc, hk]; exact hA) (by omega) (by simp; omega) (by simp; omega) hn2 ((List.pairwise_append.1 hD).2.1.sublist (List.take_sublist _ _)) (fun x hx => hV x (List.mem_append_right _ (List.mem_of_mem_take hx))) CL).mono ?_; rintro e w' ⟨rfl, S, hg, hA'⟩; exact ⟨rfl, ⟨X ++ S, D1 ++ D2.take 20, D2.drop 20, by rw [hD2, List.append_assoc, hk], .snoc hF (by simp; omega) hg, by simp; omega, hA'⟩⟩
theorem B1.last (h : B1 w0 ad key D a W) (hn : D.length = n) (hn2 : n ≤ 4000000) (hD : D.Pairwise (· < ·)) (hV : ∀ x ∈ D, V x) (CL : Clo w0 ad key V pt) (hb : ¬ a + 20 ≤ n) :
  Calls Tryz.prog 132 #[.slice (some ad) n c, .int .i64 (a : Int), .int .i64 (n : Int), clv pt] W fun e w' => e = .returned (.tuple #[]) ∧ B3 w0 ad key D 20 w' := by
 obtain ⟨X, D1, D2, hD2, hF, ha, hA⟩ := h.r; have hl := hF.len; rw [hD2] at hD hV hn; rw [List.length_append] at hn; refine (insertion w0 ad n c key V pt X D2 [] a n W (by simpa using hA) (by omega) (by omega) (by simp; omega) hn2 (List.pairwise_append.1 hD).2.1 (fun x hx => hV x (List.mem_append_right _ hx)) CL).mono ?_; rintro e w' ⟨rfl, S, hg, hA'⟩; exact ⟨rfl, ⟨X ++ S, by rw [hD2]; exact hF.blk (.last (by omega) hg), by simpa using hA'⟩⟩
theorem B3.start (h : B3 w0 ad key D s W) : B2 w0 ad key D s 0 W := by
 obtain ⟨X, hb, hA⟩ := h.r; exact ⟨[], X, [], D, rfl, .nil, hb, rfl, hA⟩
theorem B3.done (h : B3 w0 ad key D s W) (hs : D.length ≤ s) : ∃ S, St.Good key S D ∧ At w0 ad S W := by
 obtain ⟨X, hb, hA⟩ := h.r; exact ⟨X, hb.done hs, hA⟩
theorem pair_lt {D1 E1 E2 E3 y1 y2 : List Int} (hD : (D1 ++ (E1 ++ (E2 ++ E3))).Pairwise (· < ·)) (h1 : List.Perm y1 E1) (h2 : List.Perm y2 E2) : ∀ x ∈ y1, ∀ y ∈ y2, x < y := by
 intro x hx y hy; have := (List.pairwise_append.1 (List.pairwise_append.1 hD).2.1).2.2; exact this x (h1.mem_iff.1 hx) y (List.mem_append_left _ (h2.mem_iff.1 hy))
theorem B2.step (h : B2 w0 ad key D s a W) (hn : D.length = n) (hn2 : n ≤ 4000000) (hs : 1 ≤ s) (hD : D.Pairwise (· < ·)) (hV : ∀ x ∈ D, V x) (CL : Clo w0 ad key V pt) (hb : a + 2 * s ≤ n) :
  Calls Tryz.prog 133 #[.slice (some ad) n c, .int .i64 (a : Int), .int .i64 ((a + s : Nat) : Int), .int .i64 ((a + 2 * s : Nat) : Int), clv pt] W fun e w' => e = .returned (.tuple #[]) ∧ B2 w0 ad key D s (a + 2 * s) w' := by
 obtain ⟨X, Y, D1, D2, hD2, hF, hB, ha, hA⟩ := h.r; have hl := hF.len; rw [hD2] at hD hV hn; rw [List.length_append] at hn; obtain ⟨y1, E1, Y1, D3, rfl, rfl, h1, g1, hB1⟩ := hB.head (by omega); rw [List.length_append] at hn; obtain ⟨y2, E2, Y2, D4, rfl, rfl, h2, g2, hB2⟩ := hB1.head (by omega); rw [List.length_append] at hn; have l1 := g1.len; have l2 := g2.len; have l3 := hB2.len; refine (merges w0 ad n c key V pt hn2 CL _ X y1 y2 Y2 a (a + s) (a + 2 * s) W (Nat.lt_succ_self _) (by simpa using hA) (by omega) (by omega) (by omega) (by simp; omega) (by omega) (by omega) g1.2 g2.2 (pair_lt hD g1.1 g2.1) (fun y hy => hV y ?_)).mono ?_
 ·rcases List.mem_append.1 hy with hy | hy
  ·have := g1.mem hy; simp [this]
  ·have := g2.mem hy; simp [this]
 ·rintro e w' ⟨rfl, S, hg, hA'⟩; exact ⟨rfl, ⟨X ++ S, Y2, D1 ++ (E1 ++ E2), D4, by rw [hD2]; simp, .snoc hF (by simp; omega) (hg.perm (g1.1.append g2.1)), hB2, by simp; omega, hA'⟩⟩
theorem B2.merge (h : B2 w0 ad key D s a W) (hn : D.length = n) (hn2 : n ≤ 4000000) (hs : 1 ≤ s) (hD : D.Pairwise (· < ·)) (hV : ∀ x ∈ D, V x) (CL : Clo w0 ad key V pt) (hb : ¬ a + 2 * s ≤ n) (hm : a + s < n) :
  Calls Tryz.prog 133 #[.slice (some ad) n c, .int .i64 (a : Int), .int .i64 ((a + s : Nat) : Int), .int .i64 (n : Int), clv pt] W fun e w' => e = .returned (.tuple #[]) ∧ B3 w0 ad key D (2 * s) w' := by
 obtain ⟨X, Y, D1, D2, hD2, hF, hB, ha, hA⟩ := h.r; have hl := hF.len; rw [hD2] at hD hV hn; rw [List.length_append] at hn; obtain ⟨y1, E1, y2, E2, rfl, rfl, h1, g1, hB1⟩ := hB.first (by omega)
 rw [List.length_append] at hn; have g2 := hB1.done (by omega); have l1 := g1.len; have l2 := g2.len; refine (merges w0 ad n c key V pt hn2 CL _ X y1 y2 [] a (a + s) n W (Nat.lt_succ_self _) (by simpa using hA) (by omega) (by omega) (by omega) (by simp; omega) (by omega) (by omega) g1.2 g2.2 (pair_lt (E3 := []) (by simpa using hD) g1.1 g2.1) (fun y hy => hV y ?_)).mono ?_
 ·rcases List.mem_append.1 hy with hy | hy
  ·have := g1.mem hy; simp [this]
  ·have := g2.mem hy; simp [this]
 ·rintro e w' ⟨rfl, S, hg, hA'⟩; exact ⟨rfl, ⟨X ++ S, by rw [hD2]; exact hF.blk (.last (by simp; omega) (hg.perm (g1.1.append g2.1))), by simpa using hA'⟩⟩
theorem B2.last (h : B2 w0 ad key D s a W) (hn : D.length = n) (hm : ¬ a + s < n) : B3 w0 ad key D (2 * s) W := by
 obtain ⟨X, Y, D1, D2, hD2, hF, hB, ha, hA⟩ := h.r; rw [hD2, List.length_append] at hn; exact ⟨X ++ Y, by rw [hD2]; exact hF.blk (.last (by omega) (hB.done (by omega))), hA⟩
end
set_option maxRecDepth 100000 in
set_option maxHeartbeats 4000000 in
theorem stable (w0 : World) (ad : Addr) (n c : Nat) (key : Int → Int) (V : Int → Prop) (pt : Value) (D : List Int) (w : World) (h : At w0 ad D w) (hn : D.length = n) (hn2 : n ≤ 1000000) (hD : D.Pairwise (· < ·)) (hV : ∀ x ∈ D, V x) (CL : Clo w0 ad key V pt) :
  Calls Tryz.prog 119 #[.slice (some ad) n c, .int .i64 (n : Int), clv pt] w (Puts1 w0 ad key D) := by
 have S1 := fun a W (H : B1 w0 ad key D a W) hb => Lib.hid (B1.step (c := c) H hn (by omega) hD hV CL hb)
 have S2 := fun a W (H : B1 w0 ad key D a W) hb => Lib.hid (B1.last (c := c) H hn (by omega) hD hV CL hb)
 have S3 := fun s a W hs (H : B2 w0 ad key D s a W) hb => Lib.hid (B2.step (c := c) H hn (by omega) hs hD hV CL hb)
 have S4 := fun s a W hs (H : B2 w0 ad key D s a W) hb hm => Lib.hid (B2.merge (c := c) H hn (by omega) hs hD hV CL hb hm)
 have HS := Lib.hid (And.intro S1 (And.intro S2 (And.intro S3 S4))); have HN := Lib.hid hn; have H0 := Lib.hid (show B1 w0 ad key D 0 w from ⟨[], [], D, rfl, .nil, rfl, h⟩); clear S1 S2 S3 S4 h hn hD hV CL; go_enter Tryz.func119, Tryz.ntmps119; go_wp2
 go_loopw [7, 8] (fun va vb w' => ∃ (a b : Nat) (W : World), a + 20 = b ∧ a ≤ n ∧ va = .int .i64 (a : Int) ∧ vb = .int .i64 (b : Int) ∧ W = w' ∧ Hid (B1 w0 ad key D a W)) (fun va _ _ => n - (intOf va).toNat)
 case atStart => exact ⟨0, 20, w, rfl, Nat.zero_le _, rfl, rfl, rfl, H0⟩
 case round =>
  clear H0; obtain ⟨a, b, W, hab, han, rfl, rfl, rfl, H⟩ := hrel; by_cases hlt : b ≤ n
  ·have hlt2 : (b : Int) ≤ (n : Int) := by omega
   obtain ⟨b2, hb2⟩ : ∃ b2, b + 20 = b2 := ⟨_, rfl⟩; have e1 : (b : Int) + 20 = (b2 : Int) := by omega
   have C := Lib.hid (HS.out.1 a W H.out (by omega)).out; rw [hab] at C; have HB := Lib.hid (And.intro hb2 (And.intro hab hlt)); clear hb2 hab hlt H
   go_wp2_with fail
   refine C.out.mono ?_; rintro e w1 ⟨rfl, hB⟩; have H1 := Lib.hid hB; clear hB C; go_wp2; go_roundw
   case rel => exact ⟨b, b2, w1, HB.out.1, HB.out.2.2, rfl, by go_num, rfl, H1⟩
   case measure => have := HB.out; simp [intOf]; omega
  ·have t1 : decide ((b : Int) ≤ (n : Int)) = false := decide_eq_false (by omega); have t1n : decide (b ≤ n) = false := decide_eq_false (by omega); have C := Lib.hid (HS.out.2.1 a W H.out (by omega)).out; clear hlt H
   go_wp2_with fail
   refine C.out.mono ?_; rintro e w1 ⟨rfl, hB⟩; have H1 := Lib.hid hB; clear hB C hab; go_wp2
   go_loopw [6] (fun vs w' => ∃ (s : Nat) (W : World), 1 ≤ s ∧ s ≤ 2000000 ∧ vs = .int .i64 (s : Int) ∧ W = w' ∧ Hid (B3 w0 ad key D s W)) (fun vs _ => n - (intOf vs).toNat)
   case atStart => exact ⟨20, w1, by omega, by omega, rfl, rfl, H1⟩
   case round =>
    clear H1; obtain ⟨s, W2, hs1, hs2, rfl, rfl, H⟩ := hrel; by_cases hsn : s < n
    ·obtain ⟨t, ht⟩ : ∃ t, 2 * s = t := ⟨_, rfl⟩; have hsn2 : (s : Int) < (n : Int) := by omega
     have e2 : (2 : Int) * (s : Int) = (t : Int) := by omega
     have e2' : (s : Int) * 2 = (t : Int) := by omega
     have htn : t ≤ 2000000 := by omega
     have H2 := Lib.hid H.out.start; have HT := Lib.hid (And.intro ht (And.intro hs1 hsn)); clear ht H hs1 hs2 hsn; go_wp2
     go_loopw [7, 8] (fun va vb w' => ∃ (a b : Nat) (W : World), a + t = b ∧ a ≤ n ∧ va = .int .i64 (a : Int) ∧ vb = .int .i64 (b : Int) ∧ W = w' ∧ Hid (B2 w0 ad key D s a W)) (fun va _ _ => n - (intOf va).toNat)
     case atStart => exact ⟨0, t, W2, by omega, Nat.zero_le _, rfl, rfl, rfl, H2⟩
     case round =>
      clear H2; obtain ⟨a, b, W3, hab, han, rfl, rfl, rfl, H⟩ := hrel; obtain ⟨m, hm⟩ : ∃ m, a + s = m := ⟨_, rfl⟩; have e3 : (a : Int) + (s : Int) = (m : Int) := by omega
      have hmn : m ≤ 3000000 := by omega
      by_cases hlt : b ≤ n
      ·have hlt2 : (b : Int) ≤ (n : Int) := by omega
       obtain ⟨b2, hb2⟩ : ∃ b2, b + t = b2 := ⟨_, rfl⟩; have e4 : (b : Int) + (t : Int) = (b2 : Int) := by omega
       have C := Lib.hid (HS.out.2.2.1 s a W3 HT.out.2.1 H.out (by have := HT.out; omega)).out; rw [hm, HT.out.1, hab] at C; have HB := Lib.hid (And.intro hb2 (And.intro hab hlt)); clear hb2 hab hlt H hm
       go_wp2_with fail
       refine C.out.mono ?_; rintro e w2 ⟨rfl, hB⟩; have H1 := Lib.hid hB; clear hB C; go_wp2; go_roundw
       case rel => exact ⟨b, b2, w2, HB.out.1, HB.out.2.2, rfl, by go_num, rfl, H1⟩
       case measure => have := HB.out; have := HT.out; simp [intOf]; omega
      ·have t2 : decide ((b : Int) ≤ (n : Int)) = false := decide_eq_false (by omega); have t2n : decide (b ≤ n) = false := decide_eq_false (by omega); by_cases hmm : m < n
       ·have t3 : decide ((m : Int) < (n : Int)) = true := decide_eq_true (by omega); have t3n : decide (m < n) = true := decide_eq_true hmm; have C := Lib.hid (HS.out.2.2.2 s a W3 HT.out.2.1 H.out (by have := HT.out; omega) (by omega)).out; rw [hm, HT.out.1] at C; clear hab hlt H hm hmm
        go_wp2_with fail
        refine C.out.mono ?_; rintro e w2 ⟨rfl, hB⟩; have H1 := Lib.hid hB; clear hB C; go_wp2; go_roundw
        case rel => exact ⟨t, w2, by have := HT.out; omega, htn, by go_num, rfl, H1⟩
        case measure => have := HT.out; simp [intOf]; omega
       ·have t3 : decide ((m : Int) < (n : Int)) = false := decide_eq_false (by omega); have t3n : decide (m < n) = false := decide_eq_false hmm; have H1 := Lib.hid (H.out.last HN.out (by omega)); rw [HT.out.1] at H1; clear hab hlt H hm hmm; go_wp2; go_roundw
        case rel => exact ⟨t, W3, by have := HT.out; omega, htn, by go_num, rfl, H1⟩
        case measure => have := HT.out; simp [intOf]; omega
    ·have t3 : decide ((s : Int) < (n : Int)) = false := decide_eq_false (by omega); have t3n : decide (s < n) = false := decide_eq_false hsn; have HE := Lib.hid (H.out.done (by have := HN.out; omega)); clear H hsn; go_wp2
     go_end0
     exact ⟨rfl, HE.out⟩
set_option maxHeartbeats 1000000 in
theorem sortStable (w0 : World) (ad : Addr) (n c : Nat) (key : Int → Int) (V : Int → Prop) (pt : Value) (D : List Int) (w : World) (h : At w0 ad D w) (hn : D.length = n) (hn2 : n ≤ 1000000) (hD : D.Pairwise (· < ·)) (hV : ∀ x ∈ D, V x) (CL : Clo w0 ad key V pt) :
  Calls Tryz.prog 92 #[.slice (some ad) n c, clv pt] w (Puts1 w0 ad key D) := by
 have C := Lib.hid (stable w0 ad n c key V pt D w h hn hn2 hD hV CL); clear h hn hD hV CL; go_enter Tryz.func92, Tryz.ntmps92
 go_wp2_with fail
 refine C.out.mono ?_; rintro e w1 ⟨rfl, hE⟩; have HE := Lib.hid hE; clear hE C; go_wp2
 go_end0
 exact ⟨rfl, HE.out⟩
end Tm
end Go.Proofs.YtplenoaajokpjaaGreat
