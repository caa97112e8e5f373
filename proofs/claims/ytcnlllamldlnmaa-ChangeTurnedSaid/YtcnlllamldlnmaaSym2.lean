/-
  symMergeCmpFunc of package slices, where the right block is one place. Conditions: the closure answers by a key.
-/
import Derived.Test.YtcnlllamldlnmaaSym1
namespace Go.Proofs.Ytcnlllamldlnmaa
open Go.RowKit Ba Cv Sp Te
namespace Tm
set_option linter.unusedVariables false

set_option maxRecDepth 100000 in
set_option maxHeartbeats 4000000 in
theorem sym2 (w0 : World) (ad : Addr) (n c : Nat) (key : Int → Int) (V : Int → Prop) (pt : Value) (P L Q : List Int) (x : Int) (a m b : Nat) (w : World) (h : At w0 ad (P ++ L ++ x :: Q) w) (ha : P.length = a) (hm : a + L.length = m) (hb : m + 1 = b) (hn : (P ++ L ++ x :: Q).length = n) (hn2 : n ≤ 4000000)
    (hL1 : L.length ≠ 1) (hL : St.Srt key L) (hxL : ∀ y ∈ L, y < x) (hV : ∀ y ∈ L ++ [x], V y) (CL : Clo w0 ad key V pt) :
    Calls Try.prog 73 #[.slice (some ad) n c, .int .i64 (a : Int), .int .i64 (m : Int), .int .i64 (b : Int), clv pt] w (Puts w0 ad key P (L ++ [x]) Q) := by
  have hl : a + L.length + 1 + Q.length = n := by rw [← hn, ← ha]; simp; omega
  obtain ⟨xs, hxs⟩ : ∃ xs, P ++ L ++ x :: Q = xs := ⟨_, rfl⟩
  have hxm : xs[m]? = some x := by rw [← hxs]; exact St.get_at (by simp; omega)
  have hget : ∀ h t, a + t = h → t < L.length → xs[h]? = L[t]? := by
    intro h t ht hl
    rw [← hxs]
    exact St.get_mid ha ht hl
  obtain ⟨Pr, hPr⟩ : ∃ Pr : Nat → Prop, Pr = fun h => ∀ y, xs[h]? = some y → key y ≤ key x := ⟨_, rfl⟩
  have hDown : St.Down Pr a m := by
    intro h h' h1 h2 h3 hp
    rw [hPr] at hp ⊢
    intro y hy
    rw [hget h' (h' - a) (by omega) (by omega)] at hy
    obtain ⟨z, hz⟩ : ∃ z, L[h - a]? = some z := ⟨_, List.getElem?_eq_getElem (by omega)⟩
    have h4 := hp z (by rw [hget h (h - a) (by omega) (by omega)]; exact hz)
    have h5 := St.srt_get hL hy hz (by omega)
    unfold St.lt at h5
    omega
  rw [hxs] at h hn
  obtain ⟨d, hd⟩ : ∃ d, L.length = d := ⟨_, rfl⟩
  have e0 : (m : Int) - (a : Int) = (d : Int) := by omega
  have e00 : ((d : Int) == 1) = false := by rw [beq_eq_false_iff_ne]; omega
  have e00' : ¬ (d : Int) = 1 := by omega
  have e01 : (b : Int) - (m : Int) = 1 := by omega
  have hdn : d ≤ 4000000 := by omega
  have b0 : (m : Int) < (n : Int) := by omega
  have HL := Lib.hid (And.intro ha (And.intro hm (And.intro hb hl)))
  have HX := Lib.hid hxs
  have HXA := Lib.hid hxm
  have HG := Lib.hid hget
  have HP := Lib.hid hPr
  have HD := Lib.hid hDown
  have HR := Lib.hid (And.intro hL hxL)
  have HV := Lib.hid hV
  have HC := Lib.hid CL
  have H0 := Lib.hid (show Se w0 ad xs Pr a m a m w from ⟨h, St.Bis.start (by omega)⟩)
  clear h ha hm hb hn hL hxL hV CL hl hxm hget hPr hDown hxs hd hL1
  go_enter Try.func73, Try.ntmps73
  go_wp2
  go_loopw [14, 15] (fun vi vj w' => ∃ (i j : Nat) (W : World), vi = .int .i64 (i : Int) ∧ vj = .int .i64 (j : Int) ∧ W = w' ∧ Hid (Se w0 ad xs Pr a m i j W)) (fun vi vj _ => (intOf vj).toNat - (intOf vi).toNat)
  case atStart => exact ⟨a, m, w, rfl, rfl, rfl, H0⟩
  case round =>
    clear H0
    obtain ⟨i, j, W, rfl, rfl, rfl, H⟩ := hrel
    by_cases hlt : i < j
    · obtain ⟨s, hs⟩ : ∃ s, i + j = s := ⟨_, rfl⟩
      obtain ⟨h, hh⟩ : ∃ h, s / 2 = h := ⟨_, rfl⟩
      have hlt2 : (i : Int) < (j : Int) := by omega
      have e1 : (i : Int) + (j : Int) = (s : Int) := by omega
      have e2 : (s : Int) / 2 = (h : Int) := by omega
      have hsn : s ≤ 8000000 := by have := HL.out; have := H.out.s.c; omega
      obtain ⟨h1, h2⟩ := half_in hs hh hlt
      have hhb : h < m := by have := H.out.s.c; omega
      have hmh : a ≤ h := by have := H.out.s.a; omega
      have hhn : h < n := by have := HL.out; omega
      have b1 : (h : Int) < (n : Int) := by omega
      obtain ⟨y, hy⟩ : ∃ y, L[h - a]? = some y := ⟨_, List.getElem?_eq_getElem (by have := HL.out; omega)⟩
      have hyx : xs[h]? = some y := by rw [HG.out h (h - a) (by omega) (by have := HL.out; omega)]; exact hy
      have hyR := List.mem_of_getElem? hy
      obtain ⟨q, hq⟩ : ∃ q, St.cf (key x) (key y) = q := ⟨_, rfl⟩
      have hqk : decide (q < 0) = decide (key x < key y) := by rw [← hq]; exact St.cf_neg _ _
      have CQ : ∀ p : Ext W, Hid (Calls Try.prog 41 #[.int .i64 x, .int .i64 y, pt] p.W fun e w' => e = .returned (.int .i64 q) ∧ Below p.W.heap.size p.W w') := fun p => Lib.hid (by rw [← hq]; exact HC.out p.W x y (H.out.next p.b).at_.g (HV.out x (by simp)) (HV.out y (List.mem_append_left _ hyR)))
      have c1 : ∀ p : Ext W, p.W.cell? (ad.add h) = some (.int .i64 y) := fun p => (H.out.next p.b).at_.c h y hyx
      have c2 : ∀ p : Ext W, p.W.cell? (ad.add m) = some (.int .i64 x) := fun p => (H.out.next p.b).at_.c m x HXA.out
      have HQ := Lib.hid hqk
      have HN := Lib.hid (show (key x < key y → ∀ p : Ext W, Se w0 ad xs Pr a m i h p.W) ∧ (key y ≤ key x → ∀ p : Ext W, Se w0 ad xs Pr a m (h + 1) j p.W) from
        ⟨fun hk p => ⟨(H.out.next p.b).at_, H.out.s.down HD.out h1 h2 (by rw [HP.out]; intro hp; have := hp y hyx; omega)⟩,
         fun hk p => ⟨(H.out.next p.b).at_, H.out.s.up HD.out h1 h2 (by rw [HP.out]; intro z hz; rw [hyx] at hz; injection hz with hz; rw [← hz]; omega)⟩⟩)
      have HI := Lib.hid (And.intro h1 h2)
      clear hs hh hlt h1 h2 hhb hmh hhn hy hyx hyR hq hqk H
      go_wp2
      have ne : Nonempty (Ext W) := ⟨⟨W, Below.refl _ _⟩⟩
      refine quietE (by kernel_rfl) (by kernel_rfl) ?_
      repeat (first | go_big_quiet_skip | quiet_step (first
        | (go_at_call 41; with_reducible exact ext_of (CQ _).out)
        | fail))
      refine wpQuiet_nil ?_
      rintro _ ⟨p, rfl⟩
      have HN1 := Lib.hid (show (key x < key y → Se w0 ad xs Pr a m i h p.W) ∧ (key y ≤ key x → Se w0 ad xs Pr a m (h + 1) j p.W) from ⟨fun hk => HN.out.1 (by omega) p, fun hk => HN.out.2 (by omega) p⟩)
      generalize p.W = W1 at HN1 ⊢
      clear CQ c1 c2 ne HN
      by_cases hk : key x < key y
      · have t1 : decide (q < 0) = true := HQ.out.trans (decide_eq_true hk)
        have HS := Lib.hid (HN1.out.1 hk)
        rw [t1]
        clear hk HN1
        go_wp2
        go_roundw
        case rel => exact ⟨i, h, W1, rfl, rfl, rfl, HS⟩
        case measure => have := HI.out; simp [intOf]; omega
      · have t1 : decide (q < 0) = false := HQ.out.trans (decide_eq_false hk)
        have HS := Lib.hid (HN1.out.2 (by omega))
        rw [t1]
        clear hk HN1
        go_wp2
        go_roundw
        case rel => exact ⟨h + 1, j, W1, by go_num, rfl, rfl, HS⟩
        case measure => have := HI.out; simp [intOf]; omega
    · obtain rfl : i = j := by have := H.out.s.b; omega
      have hr : i ≤ m := H.out.s.c
      have hmi : a ≤ i := H.out.s.a
      obtain ⟨r, hr2⟩ : ∃ r, i - a = r := ⟨_, rfl⟩
      have hir : a + r = i := by have := HL.out; omega
      have hrl : r ≤ L.length := by have := HL.out; omega
      have HF := Lib.hid (show St.Good key (L.take r ++ x :: L.drop r) (L ++ [x]) from by
        refine St.Good.perm (St.put_in HR.out.1 ⟨fun t y ht hy => ?_, fun t y ht hy => ?_⟩ fun y hy => ?_) (List.perm_append_singleton x L).symm
        · have h1 := H.out.s.yes (a + t) (by omega) (by omega)
          rw [HP.out] at h1
          have h2 := h1 y (by rw [HG.out (a + t) t rfl (by omega)]; exact hy)
          exact (St.lt_nkey (HR.out.2 y (List.mem_of_getElem? hy))).2 (by omega)
        · have htl := (List.getElem?_eq_some_iff.1 hy).1
          have h1 := H.out.s.no (a + t) (by omega) (by have := HL.out; omega)
          rw [HP.out] at h1
          intro h2
          refine h1 fun z hz => ?_
          rw [HG.out (a + t) t rfl htl, hy] at hz
          injection hz with hz
          subst hz
          have := (St.lt_nkey (HR.out.2 y (List.mem_of_getElem? hy))).1 h2
          omega
        · have := HR.out.2 y hy
          unfold St.lt; omega)
      have HI := Lib.hid (show a + r = i ∧ r ≤ L.length ∧ m < n ∧ a + L.length = m from ⟨by omega, hrl, by have := HL.out; omega, by have := HL.out; omega⟩)
      have HS := Lib.hid (show At w0 ad (P ++ (L.take L.length ++ x :: L.drop L.length) ++ Q) W by have := H.out.at_; rw [← HX.out] at this; simpa using this)
      clear hr hmi hr2 hir hrl hlt H
      have hge : ¬ (i : Int) < (i : Int) := by omega
      go_wp2
      go_loopw [17] (fun vk w' => ∃ (k t : Nat) (W : World), a + t = k ∧ r ≤ t ∧ t ≤ L.length ∧ vk = .int .i64 (k : Int) ∧ W = w' ∧ Hid (At w0 ad (P ++ (L.take t ++ x :: L.drop t) ++ Q) W)) (fun vk _ => (intOf vk).toNat)
      case atStart => exact ⟨m, L.length, W, HI.out.2.2.2, HI.out.2.1, Nat.le_refl _, rfl, rfl, HS⟩
      case round =>
        clear HS hge
        obtain ⟨k, t, W, hk, hrt, ht, rfl, rfl, H⟩ := hrel
        by_cases hlt : i < k
        · obtain ⟨t1, ht1⟩ : ∃ t1, t = t1 + 1 := ⟨t - 1, by have := HI.out; omega⟩
          subst ht1
          obtain ⟨y, _, _, _, g1, g2, g3⟩ := St.shift_next (P := P) (Q := Q) (x := x) (R := L) HL.out.1 (show t1 < L.length by omega)
          obtain ⟨k1, hk1⟩ : ∃ k1, a + t1 = k1 := ⟨_, rfl⟩
          rw [hk1] at g1 g2 g3
          rw [show k1 + 1 = k by omega] at g2 g3
          have e1 : (k : Int) - 1 = (k1 : Int) := by omega
          have b1 : (k : Int) < (n : Int) := by have := HI.out; omega
          have b2 : (k1 : Int) < (n : Int) := by have := HI.out; omega
          have hlt2 : (i : Int) < (k : Int) := by omega
          have c1 := H.out.c k1 y g1
          have c2 := H.out.c k x g2
          have f1 := H.out.f k1 (List.getElem?_eq_some_iff.1 g1).1
          have f2 := H.out.f k (List.getElem?_eq_some_iff.1 g2).1
          have c3 : (W.setCell (ad.add k) (.int .i64 y)).cell? (ad.add k1) = some (.int .i64 y) := by rw [World.cell?_setCell_other _ _ _ _ (add_ne ad (by omega))]; exact c1
          have hkn : k ≤ 4000000 := by have := HI.out; omega
          have HN := Lib.hid (show At w0 ad (P ++ (L.take t1 ++ x :: L.drop t1) ++ Q) _ from g3 ▸ H.out.swap g2 g1)
          have HK := Lib.hid (show a + t1 = k1 ∧ r ≤ t1 ∧ t1 ≤ L.length ∧ k1 < k by have := HI.out; omega)
          clear g1 g2 g3 hk1 hk ht hrt hlt H
          go_wp2
          go_region
          go_wp2
          go_roundw
          case rel => exact ⟨k1, t1, _, HK.out.1, HK.out.2.1, HK.out.2.2.1, rfl, rfl, Lib.hid (HN.out.drew _)⟩
          case measure => have := HK.out; simp [intOf]; omega
        · obtain rfl : t = r := by have := HI.out; omega
          have HE := Lib.hid (show ∃ S, St.Good key S (L ++ [x]) ∧ At w0 ad (P ++ S ++ Q) W from ⟨_, HF.out, H.out⟩)
          have t9 : decide ((i : Int) < (k : Int)) = false := decide_eq_false (by omega)
          have t9n : decide (i < k) = false := decide_eq_false (by omega)
          clear hlt hk H
          go_wp2
          exact bodyPost_ret (results_none rfl _ _ _) rfl ⟨rfl, HE.out⟩

end Tm
end Go.Proofs.Ytcnlllamldlnmaa
