/-
  AccrueCuts over what Written, Between and the document's Parts tell. Conditions: those of each theorem.
-/
import Derived.Test.YtjmbccdcnmmhgaaAcL
namespace Go.Proofs.Ytjmbccdcnmmhgaa
open Go.RowKit Ba Cv Sp Te Ag Sl Tm Slc
namespace Acr
set_option linter.unusedVariables false

/-- Spans on end lie in memory. -/
def PaTo (w : World) (s : Sp) (e : Ending) (w' : World) : Prop := ∃ A m c ps, e = .returned (.slice A m c) ∧ m ≤ 292195 ∧ ps.length = m ∧ (∀ (k : Nat) (x : Sp), ps[k]? = some x → ∃ ad : Addr, A = some ad ∧ ad.block < w'.heap.size ∧ w'.cell? (ad.add (k * 2)) = some (.int .i64 x.1) ∧ w'.cell? ⟨(ad.add (k * 2)).block, (ad.add (k * 2)).off + 1, none⟩ = some (.int .i64 x.2)) ∧ Chain s.1 s.2 ps ∧ Below w.heap.size w w'
set_option maxHeartbeats 1000000 in
theorem right3 (x : Sp) (w : World) : Calls Try.prog 10 #[sg x] w fun e w' => e = .returned (.bool (rt x)) ∧ Below w.heap.size w w' := by
  obtain ⟨a, b⟩ := x
  by_cases h1 : 1 ≤ a
  · have t1 : decide (1 ≤ a) = true := by simpa using h1
    by_cases h2 : a ≤ b
    · have t2 : decide (a ≤ b) = true := by simpa using h2
      by_cases h3 : b ≤ 292195
      · have t3 : decide (b ≤ 292195) = true := by simpa using h3
        rw [(rt_iff (a, b)).2 ⟨h1, h2, h3⟩]
        clear h1 h2 h3
        go_enter Try.func10, Try.ntmps10
        go_wp2
        go_ret
        exact ⟨rfl, (Below.refl _ _).alloc (Nat.le_refl _) _⟩
      · have t3 : decide (b ≤ 292195) = false := by simpa using h3
        rw [(rt_not (a, b)).2 (by simp only; omega)]
        clear h1 h2 h3
        go_enter Try.func10, Try.ntmps10
        go_wp2
        go_ret
        exact ⟨rfl, (Below.refl _ _).alloc (Nat.le_refl _) _⟩
    · have t2 : decide (a ≤ b) = false := by simpa using h2
      rw [(rt_not (a, b)).2 (by simp only; omega)]
      clear h1 h2
      go_enter Try.func10, Try.ntmps10
      go_wp2
      go_ret
      exact ⟨rfl, (Below.refl _ _).alloc (Nat.le_refl _) _⟩
  · have t1 : decide (1 ≤ a) = false := by simpa using h1
    rw [(rt_not (a, b)).2 (by simp only; omega)]
    clear h1
    go_enter Try.func10, Try.ntmps10
    go_wp2
    go_ret
    exact ⟨rfl, (Below.refl _ _).alloc (Nat.le_refl _) _⟩

theorem drop_one {ps : List Sp} {k : Nat} {x : Sp} (h : ps[k]? = some x) : ps.drop k = x :: ps.drop (k + 1) := by
  have hl := (List.getElem?_eq_some_iff.1 h).1
  rw [List.drop_eq_getElem_cons hl, (List.getElem?_eq_some_iff.1 h).2]
theorem hf_in {l : List Sc} (h : upc l 292195 = 0) (d : Int) : 0 ≤ hf (ern l d) ∧ hf (ern l d) ≤ 10958904109589042 := by
  have h1 := upc_may h
  have hr := (may_iff.1 h1.1).2
  have h2 := ern_nonneg hr (d := d)
  have h3 := ern_all hr (d := d)
  unfold hf; omega
set_option maxRecDepth 100000 in
set_option maxHeartbeats 4000000 in
theorem walk_AccrueCuts (HU : UpC) (HR : WrC) (HT : BtC) {w : World} (A : Option Addr) (n c : Nat) (rs : List Rw) (G : Raws w (· < w.heap.size) A n rs) (hm : n ≤ 140737488355328) (hf' : n ≤ c) (z0 z1 : Int) (hz0 : -9223372036854775808 ≤ z0 ∧ z0 ≤ 9223372036854775807) (hz1 : -9223372036854775808 ≤ z1 ∧ z1 ≤ 9223372036854775807)
    (B : Option Addr) (p q : Nat) (hp0 : p ≤ 9223372036854775807) (HP : p ≤ 60 → rt (z0, z1) = true → ∀ W, Below w.heap.size w W → Calls Try.prog 12 #[sg (z0, z1), .slice B p q] W (PaTo W (z0, z1))) : Calls Try.prog 4 #[.slice A n c, .agg #[.int .i64 z0, .int .i64 z1], .slice B p q] w (Yes w true) := by
  obtain ⟨W, hW⟩ : ∃ W, w.alloc (.cells #[.int .i64 z0, .int .i64 z1] 30) = W := ⟨_, rfl⟩
  have H0 := Lib.hid (show Below w.heap.size w W from hW ▸ alloc_ _ _)
  have X0 := Lib.hid (show Bx W w.heap.size 30 #[.int .i64 z0, .int .i64 z1] from hW ▸ Bx.new w 30 _)
  have HW := Lib.hid hW
  have HG := Lib.hid G
  have HF := Lib.hid hf'
  have HZ := Lib.hid (And.intro hz0 hz1)
  have HPA := Lib.hid HP
  clear G hf' hW hz0 hz1 HP
  have CA := Lib.hid (awake14 HU HR W)
  go_enter Try.func4, Try.ntmps4
  go_upto_region 1 with fail
  rw [HW.out]
  clear HW
  go_wp2_with fail
  refine CA.out.mono ?_
  rintro e w1 ⟨rfl, hb⟩
  have H1 := Lib.hid (H0.out.trans (hb.mono H0.out.size))
  have X1 := Lib.hid (X0.out.keep hb)
  clear hb CA H0 X0
  have CF := Lib.hid (right3 (z0, z1) w1)
  obtain ⟨qq, hq⟩ : ∃ qq, rt (z0, z1) = qq := ⟨_, rfl⟩
  rw [hq] at CF
  have c0 := X1.out.c 0
  have c1 := X1.out.c 1
  simp at c0 c1
  go_wp2_with fail
  refine CF.out.mono ?_
  rintro e w2 ⟨rfl, hb⟩
  have H2 := Lib.hid (H1.out.trans (hb.mono H1.out.size))
  have X2 := Lib.hid (X1.out.keep hb)
  clear hb CF H1 X1 c0 c1
  by_cases hn : n ≤ 100
  case neg =>
    have t1 : decide ((100 : Int) < (n : Int)) = true := decide_eq_true (by omega)
    go_wp2
    go_ret
    exact ⟨rfl, H2.out⟩
  have t1 : decide ((100 : Int) < (n : Int)) = false := decide_eq_false (by omega)
  by_cases hp : p ≤ 60
  case neg =>
    have t2 : decide ((60 : Int) < (p : Int)) = true := decide_eq_true (by omega)
    go_wp2
    go_ret
    exact ⟨rfl, H2.out⟩
  have t2 : decide ((60 : Int) < (p : Int)) = false := decide_eq_false (by omega)
  cases qq
  · go_wp2
    go_ret
    exact ⟨rfl, H2.out⟩
  have HS := Lib.hid ((rt_iff _).1 hq)
  have HQ := Lib.hid hq
  have HN := Lib.hid (show n ≤ 1100 by omega)
  have HPP := Lib.hid hp
  clear hn hq hp
  have C1 := Lib.hid (HR A n c rs w2 (HG.out.below H2.out) HN.out HF.out)
  go_wp2_with fail
  refine C1.out.mono ?_
  rintro e w3 ⟨rfl, hb⟩
  have H3 := Lib.hid (H2.out.trans (hb.mono H2.out.size))
  have X3 := Lib.hid (X2.out.keep hb)
  clear hb C1 H2 X2 t1 t2
  obtain ⟨k, hk⟩ : ∃ k, upc (rs.map Rw.v) 292195 = k := ⟨_, rfl⟩
  rw [hk]
  by_cases h0 : k = 0
  case neg =>
    have t1 : decide (k = 0) = false := decide_eq_false h0
    have t2 : (k == 0) = false := beq_eq_false_iff_ne.2 h0
    have t3 : (k != 0) = true := bne_iff_ne.2 h0
    go_wp2
    go_ret
    exact ⟨rfl, H3.out⟩
  subst h0
  have HOK := Lib.hid hk
  rw [upv_ok hk]
  obtain ⟨E, hE⟩ : ∃ E : Int → Int, (fun d => hf (ern (rs.map Rw.v) d)) = E := ⟨_, rfl⟩
  have HE1 := Lib.hid (show E 1 = 0 by rw [← hE]; show hf (ern _ 1) = 0; rw [ern_lo (may_iff.1 (upc_may hk).1).2 (Int.le_refl _)]; rfl)
  have HEB := Lib.hid (show ∀ d, 0 ≤ E d ∧ E d ≤ 10958904109589042 from fun d => by rw [← hE]; exact hf_in hk d)
  have HBT := Lib.hid (show ∀ a b : Int, 1 ≤ a → a ≤ b → b ≤ 292195 → btc (rs.map Rw.v) (a, b) = 0 ∧ btv (rs.map Rw.v) (a, b) = E b - E a ∧ 0 ≤ E b - E a from fun a b h1 h2 h3 => by
    have h := bt_ok hk (s := (a, b)) ((rt_iff _).2 ⟨h1, h2, h3⟩)
    rw [← hE]
    exact ⟨h.1, h.2.1, by have h4 := h.2.2; rw [h.2.1] at h4; exact h4⟩)
  rw [show hf (ern (rs.map Rw.v) 292195) = E 292195 from congrFun hE 292195]
  clear hk hE HOK
  have C1 := Lib.hid (HT A n c rs (z0, z1) w3 (HG.out.below H3.out) HN.out HF.out (by have := HS.out; simp only at this ⊢; omega) (by have := HS.out; simp only at this ⊢; omega))
  have c0 := X3.out.c 0
  have c1 := X3.out.c 1
  simp at c0 c1
  go_wp2_with fail
  refine C1.out.mono ?_
  rintro e w4 ⟨rfl, hb⟩
  have H4 := Lib.hid (H3.out.trans (hb.mono H3.out.size))
  have X4 := Lib.hid (X3.out.keep hb)
  clear hb C1 H3 X3 c0 c1
  obtain ⟨b1, b2, b3⟩ := HBT.out z0 z1 (by have := HS.out; omega) (by have := HS.out; omega) (by have := HS.out; omega)
  rw [b1, b2]
  clear b1 b2 b3
  have C1 := Lib.hid (HT A n c rs (1, z0) w4 (HG.out.below H4.out) HN.out HF.out (by have := HS.out; simp only at this ⊢; omega) (by have := HS.out; simp only at this ⊢; omega))
  have c0 := X4.out.c 0
  have c1 := X4.out.c 1
  simp at c0 c1
  go_wp2_with fail
  refine C1.out.mono ?_
  rintro e w5 ⟨rfl, hb⟩
  have H5 := Lib.hid (H4.out.trans (hb.mono H4.out.size))
  have X5 := Lib.hid (X4.out.keep hb)
  clear hb C1 H4 X4 c0 c1
  obtain ⟨b1, b2, b3⟩ := HBT.out 1 z0 (by have := HS.out; omega) (by have := HS.out; omega) (by have := HS.out; omega)
  rw [b1, b2]
  clear b1 b2 b3
  have C1 := Lib.hid (HT A n c rs (z1, 292195) w5 (HG.out.below H5.out) HN.out HF.out (by have := HS.out; simp only at this ⊢; omega) (by have := HS.out; simp only at this ⊢; omega))
  have c0 := X5.out.c 0
  have c1 := X5.out.c 1
  simp at c0 c1
  go_wp2_with fail
  refine C1.out.mono ?_
  rintro e w6 ⟨rfl, hb⟩
  have H6 := Lib.hid (H5.out.trans (hb.mono H5.out.size))
  have X6 := Lib.hid (X5.out.keep hb)
  clear hb C1 H5 X5 c0 c1
  obtain ⟨b1, b2, b3⟩ := HBT.out z1 292195 (by have := HS.out; omega) (by have := HS.out; omega) (by have := HS.out; omega)
  rw [b1, b2]
  clear b1 b2 b3
  rw [HE1.out]
  have C1 := Lib.hid (HPA.out HPP.out HQ.out w6 H6.out)
  have c0 := X6.out.c 0
  have c1 := X6.out.c 1
  simp at c0 c1
  go_wp2_with fail
  refine C1.out.mono ?_
  rintro e w7 ⟨A7, m, c7, ps, rfl, hm7, hl7, hr7, hc7, hb⟩
  have H7 := Lib.hid (H6.out.trans (hb.mono H6.out.size))
  have R7 := Lib.hid hr7
  have L7 := Lib.hid hl7
  have M7 := Lib.hid hm7
  have K7 := Lib.hid hc7
  clear hb C1 H6 X6 c0 c1 hr7 hl7 hm7 hc7 HPA
  go_wp2
  go_loopw [18, 19] (fun vs vi w' => ∃ (k : Nat) (e : Int) (V : World), k ≤ m ∧ vs = .int .i64 (E e - E z0) ∧ vi = .int .i64 (k : Int) ∧ V = w' ∧ Hid (Below w.heap.size w V) ∧ Hid (Below w7.heap.size w7 V) ∧ Hid (z0 ≤ e ∧ Chain e z1 (ps.drop k))) (fun _ vi _ => m - (intOf vi).toNat)
  case atStart => exact ⟨0, z0, w7, Nat.zero_le _, by rw [Int.sub_self], rfl, rfl, H7, Lib.hid (Below.refl _ _), Lib.hid ⟨Int.le_refl _, K7.out⟩⟩
  case round =>
    clear H7
    obtain ⟨k, e, V, hk, rfl, rfl, rfl, H8, HB, HCH⟩ := hrel
    have hm7 := M7.out
    by_cases hlt : k < m
    · have hlt2 : (k : Int) < (m : Int) := by omega
      obtain ⟨x, hx⟩ : ∃ x, ps[k]? = some x := ⟨_, List.getElem?_eq_getElem (by rw [L7.out]; exact hlt)⟩
      obtain ⟨ad, rfl, hbl, q0, q1⟩ := R7.out k x hx
      have r0 := (HB.out.cell (p := ad.add (k * 2)) (by rw [add_block]; exact hbl)).trans q0
      have r1 := (HB.out.cell (p := ⟨(ad.add (k * 2)).block, (ad.add (k * 2)).off + 1, none⟩) (by show (ad.add (k * 2)).block < _; rw [add_block]; exact hbl)).trans q1
      clear q0 q1 hbl
      have hch := HCH.out
      rw [drop_one hx] at hch
      obtain ⟨x0, x1⟩ := x
      obtain ⟨h1, h2, h3, h4⟩ := hch
      have h2 : x0 = e := h2
      have h3 : x0 < x1 := h3
      have h4 : Chain x1 z1 (ps.drop (k + 1)) := h4
      subst h2
      have h5 := h4.le
      have HX := Lib.hid (show 1 ≤ x0 ∧ x0 < x1 ∧ x1 ≤ 292195 by have := HS.out; omega)
      have HCH2 := Lib.hid (show z0 ≤ x1 ∧ Chain x1 z1 (ps.drop (k + 1)) from ⟨by omega, h4⟩)
      clear h1 h3 h4 h5 HCH hx
      have C1 := Lib.hid (HT A n c rs (x0, x1) V (HG.out.below H8.out) HN.out HF.out (by have := HX.out; simp only; omega) (by have := HX.out; simp only; omega))
      go_wp2_with fail
      refine C1.out.mono ?_
      rintro e w9 ⟨rfl, hb⟩
      have H9 := Lib.hid (H8.out.trans (hb.mono H8.out.size))
      have HB9 := Lib.hid (HB.out.trans (hb.mono HB.out.size))
      clear hb C1 r0 r1 H8 HB
      obtain ⟨b1, b2, b3⟩ := HBT.out x0 x1 HX.out.1 (Int.le_of_lt HX.out.2.1) HX.out.2.2
      rw [b1, b2]
      have e0 := HEB.out z0
      have e1 := HEB.out x0
      have e2 := HEB.out x1
      obtain ⟨y, hy⟩ : ∃ y, E x1 - E x0 = y := ⟨_, rfl⟩
      obtain ⟨u, hu⟩ : ∃ u, E x0 - E z0 = u := ⟨_, rfl⟩
      rw [hy] at b3 ⊢
      rw [hu]
      have t3 : decide (y < 0) = false := decide_eq_false (by omega)
      have e5 : u + y = E x1 - E z0 := by omega
      have e6 : wrap64 (u + y) = u + y := IntWalk.wrap64_in _ (by omega)
      have E5 := Lib.hid e5
      clear b1 b2 b3 e0 e1 e2 hy hu e5
      go_wp2
      go_roundw
      case rel => exact ⟨k + 1, x1, w9, by omega, by rw [e6, E5.out], by go_num, rfl, H9, HB9, HCH2⟩
      case measure => simp [intOf]; omega
    · obtain rfl : k = m := by omega
      have hch := HCH.out.2
      rw [List.drop_of_length_le (Nat.le_of_eq L7.out)] at hch
      have hch : e = z1 := hch
      subst hch
      have e0 := HEB.out z0
      have e1 := HEB.out e
      have e2 := HEB.out 292195
      have g1 : E z0 + (E e - E z0) = E e := by omega
      have g2 : E e + (E 292195 - E e) = E 292195 := by omega
      have g3 : wrap64 (E e) = E e := IntWalk.wrap64_in _ (by omega)
      have g4 : wrap64 (E 292195) = E 292195 := IntWalk.wrap64_in _ (by omega)
      obtain ⟨u, hu⟩ : ∃ u, E e - E z0 = u := ⟨_, rfl⟩
      obtain ⟨y, hy⟩ : ∃ y, E 292195 - E e = y := ⟨_, rfl⟩
      rw [hu] at g1 ⊢
      rw [hy] at g2 ⊢
      obtain ⟨v, hv⟩ : ∃ v, E z0 = v := ⟨_, rfl⟩
      obtain ⟨p1, hp1⟩ : ∃ p1, E e = p1 := ⟨_, rfl⟩
      obtain ⟨p2, hp2⟩ : ∃ p2, E 292195 = p2 := ⟨_, rfl⟩
      rw [hv, hp1] at g1
      rw [hp1, hp2] at g2
      rw [hp1] at g3
      rw [hp2] at g4
      rw [hv, hp2]
      clear e0 e1 e2 hu hy hv hp1 hp2 hlt HCH
      have t5 : decide (u = u) = true := decide_eq_true rfl
      have t6 : decide (p2 = p2) = true := decide_eq_true rfl
      go_wp2
      go_ret
      exact ⟨rfl, H8.out⟩

end Acr
end Go.Proofs.Ytjmbccdcnmmhgaa
