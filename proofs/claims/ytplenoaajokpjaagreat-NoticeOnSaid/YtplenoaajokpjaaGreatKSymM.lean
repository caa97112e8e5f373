/-
  The library's merge. Conditions: those of each theorem.
-/
import Derived.Test.YtplenoaajokpjaaGreatKRow
namespace Go.Proofs.YtplenoaajokpjaaGreat
open Go.RowKit Ba Cv Sp Te
namespace Tm
set_option linter.unusedVariables false

/-- Two places halved. -/
theorem half_in {i j s h : Nat} (hs : i + j = s) (hh : s / 2 = h) (hij : i < j) : i ≤ h ∧ h < j := by omega
/-- The row while it is looked at. -/
structure Se (w0 : World) (ad : Addr) (xs : List Int) (P : Nat → Prop) (lo hi i j : Nat) (W : World) : Prop where
  at_ : At w0 ad xs W
  s : St.Bis P lo hi i j
theorem Se.next {w0 W W' : World} {ad : Addr} {xs : List Int} {P : Nat → Prop} {lo hi i j : Nat} (h : Se w0 ad xs P lo hi i j W) (hb : Below W.heap.size W W') : Se w0 ad xs P lo hi i j W' := ⟨h.at_.next hb, h.s⟩

set_option maxRecDepth 100000 in
set_option maxHeartbeats 4000000 in
theorem sym1 (w0 : World) (ad : Addr) (n c : Nat) (key : Int → Int) (V : Int → Prop) (pt : Value) (P R Q : List Int) (x : Int) (a m b : Nat) (w : World) (h : At w0 ad (P ++ x :: R ++ Q) w) (ha : P.length = a) (hm : a + 1 = m) (hb : m + R.length = b) (hn : (P ++ x :: R ++ Q).length = n) (hn2 : n ≤ 4000000)
    (hR : St.Srt key R) (hxR : ∀ y ∈ R, x < y) (hV : ∀ y ∈ x :: R, V y) (CL : Clo w0 ad key V pt) :
    Calls Tryz.prog 133 #[.slice (some ad) n c, .int .i64 (a : Int), .int .i64 (m : Int), .int .i64 (b : Int), clv pt] w (Puts w0 ad key P (x :: R) Q) := by
  have hl : a + 1 + R.length + Q.length = n := by rw [← hn, ← ha]; simp; omega
  obtain ⟨xs, hxs⟩ : ∃ xs, P ++ x :: R ++ Q = xs := ⟨_, rfl⟩
  have hxa : xs[a]? = some x := by rw [← hxs, List.append_assoc]; exact St.get_at ha
  have hget : ∀ h t, m + t = h → t < R.length → xs[h]? = R[t]? := by
    intro h t ht hl
    rw [← hxs, show P ++ x :: R ++ Q = (P ++ [x]) ++ R ++ Q by simp]
    exact St.get_mid (by simp; omega) ht hl
  obtain ⟨Pr, hPr⟩ : ∃ Pr : Nat → Prop, Pr = fun h => ∀ y, xs[h]? = some y → key y < key x := ⟨_, rfl⟩
  have hDown : St.Down Pr m b := by
    intro h h' h1 h2 h3 hp
    rw [hPr] at hp ⊢
    intro y hy
    rw [hget h' (h' - m) (by omega) (by omega)] at hy
    obtain ⟨z, hz⟩ : ∃ z, R[h - m]? = some z := ⟨_, List.getElem?_eq_getElem (by omega)⟩
    have h4 := hp z (by rw [hget h (h - m) (by omega) (by omega)]; exact hz)
    have h5 := St.srt_get hR hy hz (by omega)
    unfold St.lt at h5
    omega
  rw [hxs] at h hn
  have HL := Lib.hid (And.intro ha (And.intro hm (And.intro hb hl)))
  have HX := Lib.hid hxs
  have HXA := Lib.hid hxa
  have HG := Lib.hid hget
  have HP := Lib.hid hPr
  have HD := Lib.hid hDown
  have HR := Lib.hid (And.intro hR hxR)
  have HV := Lib.hid hV
  have HC := Lib.hid CL
  have H0 := Lib.hid (show Se w0 ad xs Pr m b m b w from ⟨h, St.Bis.start (by omega)⟩)
  have e0 : (m : Int) - (a : Int) = 1 := by omega
  have b0 : (a : Int) < (n : Int) := by omega
  clear h ha hm hb hn hR hxR hV CL hl hxa hget hPr hDown hxs
  go_enter Tryz.func133, Tryz.ntmps133
  go_wp2
  go_loopw [10, 11] (fun vi vj w' => ∃ (i j : Nat) (W : World), vi = .int .i64 (i : Int) ∧ vj = .int .i64 (j : Int) ∧ W = w' ∧ Hid (Se w0 ad xs Pr m b i j W)) (fun vi vj _ => (intOf vj).toNat - (intOf vi).toNat)
  case atStart => exact ⟨m, b, w, rfl, rfl, rfl, H0⟩
  case round =>
    clear H0
    obtain ⟨i, j, W, rfl, rfl, rfl, H⟩ := hrel
    by_cases hlt : i < j
    · obtain ⟨s, hs⟩ : ∃ s, i + j = s := ⟨_, rfl⟩
      obtain ⟨h, hh⟩ : ∃ h, s / 2 = h := ⟨_, rfl⟩
      have hlt2 : (i : Int) < (j : Int) := by omega
      have e1 : (i : Int) + (j : Int) = (s : Int) := by omega
      have e2 : (s : Int) / 2 = (h : Int) := by omega
      have hsn : s ≤ 8000000 := by have := HL.out; have := H.out.s.c; omega
      obtain ⟨h1, h2⟩ := half_in hs hh hlt
      have hhb : h < b := by have := H.out.s.c; omega
      have hmh : m ≤ h := by have := H.out.s.a; omega
      have hhn : h < n := by have := HL.out; omega
      have b1 : (h : Int) < (n : Int) := by omega
      obtain ⟨y, hy⟩ : ∃ y, R[h - m]? = some y := ⟨_, List.getElem?_eq_getElem (by have := HL.out; omega)⟩
      have hyx : xs[h]? = some y := by rw [HG.out h (h - m) (by omega) (by have := HL.out; omega)]; exact hy
      have hyR := List.mem_of_getElem? hy
      obtain ⟨q, hq⟩ : ∃ q, St.cf (key y) (key x) = q := ⟨_, rfl⟩
      have hqk : decide (q < 0) = decide (key y < key x) := by rw [← hq]; exact St.cf_neg _ _
      have CQ : ∀ p : Ext W, Hid (Calls Tryz.prog 93 #[.int .i64 y, .int .i64 x, pt] p.W fun e w' => e = .returned (.int .i64 q) ∧ Below p.W.heap.size p.W w') := fun p => Lib.hid (by rw [← hq]; exact HC.out p.W y x (H.out.next p.b).at_.g (HV.out y (List.mem_cons_of_mem _ hyR)) (HV.out x (List.mem_cons_self ..)))
      have c1 : ∀ p : Ext W, p.W.cell? (ad.add h) = some (.int .i64 y) := fun p => (H.out.next p.b).at_.c h y hyx
      have c2 : ∀ p : Ext W, p.W.cell? (ad.add a) = some (.int .i64 x) := fun p => (H.out.next p.b).at_.c a x HXA.out
      have HQ := Lib.hid hqk
      have HN := Lib.hid (show (key y < key x → ∀ p : Ext W, Se w0 ad xs Pr m b (h + 1) j p.W) ∧ (¬ key y < key x → ∀ p : Ext W, Se w0 ad xs Pr m b i h p.W) from
        ⟨fun hk p => ⟨(H.out.next p.b).at_, H.out.s.up HD.out h1 h2 (by rw [HP.out]; intro z hz; rw [hyx] at hz; injection hz with hz; rw [← hz]; exact hk)⟩,
         fun hk p => ⟨(H.out.next p.b).at_, H.out.s.down HD.out h1 h2 (by rw [HP.out]; intro hp; exact hk (hp y hyx))⟩⟩)
      have HI := Lib.hid (And.intro h1 h2)
      clear hs hh hlt h1 h2 hhb hmh hhn hy hyx hyR hq hqk H
      go_wp2
      have ne : Nonempty (Ext W) := ⟨⟨W, Below.refl _ _⟩⟩
      refine quietE (by kernel_rfl) (by kernel_rfl) ?_
      repeat (first | go_big_quiet_skip | quiet_step (first
        | (go_at_call 93; with_reducible exact ext_of (CQ _).out)
        | fail))
      refine wpQuiet_nil ?_
      rintro _ ⟨p, rfl⟩
      have HN1 := Lib.hid (show (key y < key x → Se w0 ad xs Pr m b (h + 1) j p.W) ∧ (¬ key y < key x → Se w0 ad xs Pr m b i h p.W) from ⟨fun hk => HN.out.1 (by omega) p, fun hk => HN.out.2 (by omega) p⟩)
      generalize p.W = W1 at HN1 ⊢
      clear CQ c1 c2 ne HN
      by_cases hk : key y < key x
      · have t1 : decide (q < 0) = true := HQ.out.trans (decide_eq_true hk)
        have HS := Lib.hid (HN1.out.1 hk)
        rw [t1]
        clear hk HN1
        go_wp2
        go_roundw
        case rel => exact ⟨h + 1, j, W1, by go_num, rfl, rfl, HS⟩
        case measure => have := HI.out; simp [intOf]; omega
      · have t1 : decide (q < 0) = false := HQ.out.trans (decide_eq_false hk)
        have HS := Lib.hid (HN1.out.2 hk)
        rw [t1]
        clear hk HN1
        go_wp2
        go_roundw
        case rel => exact ⟨i, h, W1, rfl, rfl, rfl, HS⟩
        case measure => have := HI.out; simp [intOf]; omega
    · obtain rfl : i = j := by have := H.out.s.b; omega
      have hr : i ≤ b := H.out.s.c
      have hmi : m ≤ i := H.out.s.a
      obtain ⟨r, hr2⟩ : ∃ r, i - m = r := ⟨_, rfl⟩
      have hir : a + r = i - 1 := by have := HL.out; omega
      have hrl : r ≤ R.length := by have := HL.out; omega
      have HF := Lib.hid (show St.Good key (R.take r ++ x :: R.drop r) (x :: R) from by
        refine St.put_in HR.out.1 ⟨fun t y ht hy => ?_, fun t y ht hy => ?_⟩ fun y hy => ?_
        · have h1 := H.out.s.yes (m + t) (by omega) (by omega)
          rw [HP.out] at h1
          exact .inl (h1 y (by rw [HG.out (m + t) t rfl (by omega)]; exact hy))
        · have htl := (List.getElem?_eq_some_iff.1 hy).1
          have h1 := H.out.s.no (m + t) (by omega) (by have := HL.out; omega)
          rw [HP.out] at h1
          intro h2
          refine h1 fun z hz => ?_
          rw [HG.out (m + t) t rfl htl, hy] at hz
          injection hz with hz
          subst hz
          exact (St.lt_key (HR.out.2 y (List.mem_of_getElem? hy))).1 h2
        · have := HR.out.2 y hy
          unfold St.lt; omega)
      obtain ⟨i1, hi1⟩ : ∃ i1, i - 1 = i1 := ⟨_, rfl⟩
      have e3 : (i : Int) - 1 = (i1 : Int) := by have := HL.out; omega
      have hi1n : i1 ≤ 4000000 := by have := HL.out; omega
      have HI := Lib.hid (show a + r = i1 ∧ r ≤ R.length ∧ i1 < n from ⟨by omega, hrl, by have := HL.out; omega⟩)
      have HS := Lib.hid (show At w0 ad (P ++ (R.take 0 ++ x :: R.drop 0) ++ Q) W by have := H.out.at_; rw [← HX.out] at this; simpa using this)
      clear hr hmi hr2 hir hrl hi1 hlt H
      have hge : ¬ (i : Int) < (i : Int) := by omega
      go_wp2
      go_loopw [13] (fun vk w' => ∃ (k t : Nat) (W : World), a + t = k ∧ t ≤ r ∧ vk = .int .i64 (k : Int) ∧ W = w' ∧ Hid (At w0 ad (P ++ (R.take t ++ x :: R.drop t) ++ Q) W)) (fun vk _ => i1 - (intOf vk).toNat)
      case atStart => exact ⟨a, 0, W, rfl, Nat.zero_le _, rfl, rfl, HS⟩
      case round =>
        clear HS hge
        obtain ⟨k, t, W, hk, ht, rfl, rfl, H⟩ := hrel
        by_cases hlt : k < i1
        · have htr : t < R.length := by have := HI.out; omega
          obtain ⟨y, g1, g2, g3, _⟩ := St.shift_next (P := P) (Q := Q) (x := x) HL.out.1 htr
          obtain ⟨k1, hk1⟩ : ∃ k1, k + 1 = k1 := ⟨_, rfl⟩
          rw [hk] at g1 g2 g3
          rw [hk1] at g2 g3
          have e1 : (k : Int) + 1 = (k1 : Int) := by omega
          have b1 : (k : Int) < (n : Int) := by have := HI.out; omega
          have b2 : (k1 : Int) < (n : Int) := by have := HI.out; omega
          have hlt2 : (k : Int) < (i1 : Int) := by omega
          have c1 := H.out.c k x g1
          have c2 := H.out.c k1 y g2
          have f1 := H.out.f k (List.getElem?_eq_some_iff.1 g1).1
          have f2 := H.out.f k1 (List.getElem?_eq_some_iff.1 g2).1
          have c3 : (W.setCell (ad.add k) (.int .i64 y)).cell? (ad.add k1) = some (.int .i64 y) := by rw [World.cell?_setCell_other _ _ _ _ (add_ne ad (by omega))]; exact c2
          have hkn : k ≤ 4000000 := by have := HI.out; omega
          have HN := Lib.hid (show At w0 ad (P ++ (R.take (t + 1) ++ x :: R.drop (t + 1)) ++ Q) _ from g3 ▸ H.out.swap g1 g2)
          have HK := Lib.hid (show a + (t + 1) = k1 ∧ t + 1 ≤ r ∧ k < k1 ∧ k < i1 by have := HI.out; omega)
          clear g1 g2 g3 hk1 hk ht htr hlt H
          go_wp2
          go_region
          go_wp2
          go_roundw
          case rel => exact ⟨k1, t + 1, _, HK.out.1, HK.out.2.1, by go_num, rfl, Lib.hid (HN.out.drew _)⟩
          case measure => have := HK.out; simp [intOf]; omega
        · obtain rfl : t = r := by have := HI.out; omega
          have HE := Lib.hid (show ∃ S, St.Good key S (x :: R) ∧ At w0 ad (P ++ S ++ Q) W from ⟨_, HF.out, H.out⟩)
          have t9 : decide ((k : Int) < (i1 : Int)) = false := decide_eq_false (by omega)
          have t9n : decide (k < i1) = false := decide_eq_false (by omega)
          clear hlt hk H
          go_wp2
          exact bodyPost_ret (results_none rfl _ _ _) rfl ⟨rfl, HE.out⟩

end Tm
end Go.Proofs.YtplenoaajokpjaaGreat

namespace Go.Proofs.YtplenoaajokpjaaGreat
open Go.RowKit Ba Cv Sp Te
namespace Tm
set_option linter.unusedVariables false

set_option maxRecDepth 100000 in
set_option maxHeartbeats 4000000 in
theorem sym2 (w0 : World) (ad : Addr) (n c : Nat) (key : Int → Int) (V : Int → Prop) (pt : Value) (P L Q : List Int) (x : Int) (a m b : Nat) (w : World) (h : At w0 ad (P ++ L ++ x :: Q) w) (ha : P.length = a) (hm : a + L.length = m) (hb : m + 1 = b) (hn : (P ++ L ++ x :: Q).length = n) (hn2 : n ≤ 4000000)
    (hL1 : L.length ≠ 1) (hL : St.Srt key L) (hxL : ∀ y ∈ L, y < x) (hV : ∀ y ∈ L ++ [x], V y) (CL : Clo w0 ad key V pt) :
    Calls Tryz.prog 133 #[.slice (some ad) n c, .int .i64 (a : Int), .int .i64 (m : Int), .int .i64 (b : Int), clv pt] w (Puts w0 ad key P (L ++ [x]) Q) := by
  have hl : a + L.length + 1 + Q.length = n := by rw [← hn, ← ha]; simp; omega
  obtain ⟨xs, hxs⟩ : ∃ xs, P ++ L ++ x :: Q = xs := ⟨_, rfl⟩
  have hxm : xs[m]? = some x := by rw [← hxs]; exact St.get_at (by simp; omega)
  have hget : ∀ h t, a + t = h → t < L.length → xs[h]? = L[t]? := by
    intro h t ht hl
    rw [← hxs]
    exact St.get_mid ha ht hl
  obtain ⟨Pr, hPr⟩ : ∃ Pr : Nat → Prop, Pr = fun h => ∀ y, xs[h]? = some y → key y ≤ key x := ⟨_, rfl⟩
  have hDown : St.Down Pr a m := by
    intro h h' h1 h2 h3 hp
    rw [hPr] at hp ⊢
    intro y hy
    rw [hget h' (h' - a) (by omega) (by omega)] at hy
    obtain ⟨z, hz⟩ : ∃ z, L[h - a]? = some z := ⟨_, List.getElem?_eq_getElem (by omega)⟩
    have h4 := hp z (by rw [hget h (h - a) (by omega) (by omega)]; exact hz)
    have h5 := St.srt_get hL hy hz (by omega)
    unfold St.lt at h5
    omega
  rw [hxs] at h hn
  obtain ⟨d, hd⟩ : ∃ d, L.length = d := ⟨_, rfl⟩
  have e0 : (m : Int) - (a : Int) = (d : Int) := by omega
  have e00 : ((d : Int) == 1) = false := by rw [beq_eq_false_iff_ne]; omega
  have e00' : ¬ (d : Int) = 1 := by omega
  have e01 : (b : Int) - (m : Int) = 1 := by omega
  have hdn : d ≤ 4000000 := by omega
  have b0 : (m : Int) < (n : Int) := by omega
  have HL := Lib.hid (And.intro ha (And.intro hm (And.intro hb hl)))
  have HX := Lib.hid hxs
  have HXA := Lib.hid hxm
  have HG := Lib.hid hget
  have HP := Lib.hid hPr
  have HD := Lib.hid hDown
  have HR := Lib.hid (And.intro hL hxL)
  have HV := Lib.hid hV
  have HC := Lib.hid CL
  have H0 := Lib.hid (show Se w0 ad xs Pr a m a m w from ⟨h, St.Bis.start (by omega)⟩)
  clear h ha hm hb hn hL hxL hV CL hl hxm hget hPr hDown hxs hd hL1
  go_enter Tryz.func133, Tryz.ntmps133
  go_wp2
  go_loopw [14, 15] (fun vi vj w' => ∃ (i j : Nat) (W : World), vi = .int .i64 (i : Int) ∧ vj = .int .i64 (j : Int) ∧ W = w' ∧ Hid (Se w0 ad xs Pr a m i j W)) (fun vi vj _ => (intOf vj).toNat - (intOf vi).toNat)
  case atStart => exact ⟨a, m, w, rfl, rfl, rfl, H0⟩
  case round =>
    clear H0
    obtain ⟨i, j, W, rfl, rfl, rfl, H⟩ := hrel
    by_cases hlt : i < j
    · obtain ⟨s, hs⟩ : ∃ s, i + j = s := ⟨_, rfl⟩
      obtain ⟨h, hh⟩ : ∃ h, s / 2 = h := ⟨_, rfl⟩
      have hlt2 : (i : Int) < (j : Int) := by omega
      have e1 : (i : Int) + (j : Int) = (s : Int) := by omega
      have e2 : (s : Int) / 2 = (h : Int) := by omega
      have hsn : s ≤ 8000000 := by have := HL.out; have := H.out.s.c; omega
      obtain ⟨h1, h2⟩ := half_in hs hh hlt
      have hhb : h < m := by have := H.out.s.c; omega
      have hmh : a ≤ h := by have := H.out.s.a; omega
      have hhn : h < n := by have := HL.out; omega
      have b1 : (h : Int) < (n : Int) := by omega
      obtain ⟨y, hy⟩ : ∃ y, L[h - a]? = some y := ⟨_, List.getElem?_eq_getElem (by have := HL.out; omega)⟩
      have hyx : xs[h]? = some y := by rw [HG.out h (h - a) (by omega) (by have := HL.out; omega)]; exact hy
      have hyR := List.mem_of_getElem? hy
      obtain ⟨q, hq⟩ : ∃ q, St.cf (key x) (key y) = q := ⟨_, rfl⟩
      have hqk : decide (q < 0) = decide (key x < key y) := by rw [← hq]; exact St.cf_neg _ _
      have CQ : ∀ p : Ext W, Hid (Calls Tryz.prog 93 #[.int .i64 x, .int .i64 y, pt] p.W fun e w' => e = .returned (.int .i64 q) ∧ Below p.W.heap.size p.W w') := fun p => Lib.hid (by rw [← hq]; exact HC.out p.W x y (H.out.next p.b).at_.g (HV.out x (by simp)) (HV.out y (List.mem_append_left _ hyR)))
      have c1 : ∀ p : Ext W, p.W.cell? (ad.add h) = some (.int .i64 y) := fun p => (H.out.next p.b).at_.c h y hyx
      have c2 : ∀ p : Ext W, p.W.cell? (ad.add m) = some (.int .i64 x) := fun p => (H.out.next p.b).at_.c m x HXA.out
      have HQ := Lib.hid hqk
      have HN := Lib.hid (show (key x < key y → ∀ p : Ext W, Se w0 ad xs Pr a m i h p.W) ∧ (key y ≤ key x → ∀ p : Ext W, Se w0 ad xs Pr a m (h + 1) j p.W) from
        ⟨fun hk p => ⟨(H.out.next p.b).at_, H.out.s.down HD.out h1 h2 (by rw [HP.out]; intro hp; have := hp y hyx; omega)⟩,
         fun hk p => ⟨(H.out.next p.b).at_, H.out.s.up HD.out h1 h2 (by rw [HP.out]; intro z hz; rw [hyx] at hz; injection hz with hz; rw [← hz]; omega)⟩⟩)
      have HI := Lib.hid (And.intro h1 h2)
      clear hs hh hlt h1 h2 hhb hmh hhn hy hyx hyR hq hqk H
      go_wp2
      have ne : Nonempty (Ext W) := ⟨⟨W, Below.refl _ _⟩⟩
      refine quietE (by kernel_rfl) (by kernel_rfl) ?_
      repeat (first | go_big_quiet_skip | quiet_step (first
        | (go_at_call 93; with_reducible exact ext_of (CQ _).out)
        | fail))
      refine wpQuiet_nil ?_
      rintro _ ⟨p, rfl⟩
      have HN1 := Lib.hid (show (key x < key y → Se w0 ad xs Pr a m i h p.W) ∧ (key y ≤ key x → Se w0 ad xs Pr a m (h + 1) j p.W) from ⟨fun hk => HN.out.1 (by omega) p, fun hk => HN.out.2 (by omega) p⟩)
      generalize p.W = W1 at HN1 ⊢
      clear CQ c1 c2 ne HN
      by_cases hk : key x < key y
      · have t1 : decide (q < 0) = true := HQ.out.trans (decide_eq_true hk)
        have HS := Lib.hid (HN1.out.1 hk)
        rw [t1]
        clear hk HN1
        go_wp2
        go_roundw
        case rel => exact ⟨i, h, W1, rfl, rfl, rfl, HS⟩
        case measure => have := HI.out; simp [intOf]; omega
      · have t1 : decide (q < 0) = false := HQ.out.trans (decide_eq_false hk)
        have HS := Lib.hid (HN1.out.2 (by omega))
        rw [t1]
        clear hk HN1
        go_wp2
        go_roundw
        case rel => exact ⟨h + 1, j, W1, by go_num, rfl, rfl, HS⟩
        case measure => have := HI.out; simp [intOf]; omega
    · obtain rfl : i = j := by have := H.out.s.b; omega
      have hr : i ≤ m := H.out.s.c
      have hmi : a ≤ i := H.out.s.a
      obtain ⟨r, hr2⟩ : ∃ r, i - a = r := ⟨_, rfl⟩
      have hir : a + r = i := by have := HL.out; omega
      have hrl : r ≤ L.length := by have := HL.out; omega
      have HF := Lib.hid (show St.Good key (L.take r ++ x :: L.drop r) (L ++ [x]) from by
        refine St.Good.perm (St.put_in HR.out.1 ⟨fun t y ht hy => ?_, fun t y ht hy => ?_⟩ fun y hy => ?_) (List.perm_append_singleton x L).symm
        · have h1 := H.out.s.yes (a + t) (by omega) (by omega)
          rw [HP.out] at h1
          have h2 := h1 y (by rw [HG.out (a + t) t rfl (by omega)]; exact hy)
          exact (St.lt_nkey (HR.out.2 y (List.mem_of_getElem? hy))).2 (by omega)
        · have htl := (List.getElem?_eq_some_iff.1 hy).1
          have h1 := H.out.s.no (a + t) (by omega) (by have := HL.out; omega)
          rw [HP.out] at h1
          intro h2
          refine h1 fun z hz => ?_
          rw [HG.out (a + t) t rfl htl, hy] at hz
          injection hz with hz
          subst hz
          have := (St.lt_nkey (HR.out.2 y (List.mem_of_getElem? hy))).1 h2
          omega
        · have := HR.out.2 y hy
          unfold St.lt; omega)
      have HI := Lib.hid (show a + r = i ∧ r ≤ L.length ∧ m < n ∧ a + L.length = m from ⟨by omega, hrl, by have := HL.out; omega, by have := HL.out; omega⟩)
      have HS := Lib.hid (show At w0 ad (P ++ (L.take L.length ++ x :: L.drop L.length) ++ Q) W by have := H.out.at_; rw [← HX.out] at this; simpa using this)
      clear hr hmi hr2 hir hrl hlt H
      have hge : ¬ (i : Int) < (i : Int) := by omega
      go_wp2
      go_loopw [17] (fun vk w' => ∃ (k t : Nat) (W : World), a + t = k ∧ r ≤ t ∧ t ≤ L.length ∧ vk = .int .i64 (k : Int) ∧ W = w' ∧ Hid (At w0 ad (P ++ (L.take t ++ x :: L.drop t) ++ Q) W)) (fun vk _ => (intOf vk).toNat)
      case atStart => exact ⟨m, L.length, W, HI.out.2.2.2, HI.out.2.1, Nat.le_refl _, rfl, rfl, HS⟩
      case round =>
        clear HS hge
        obtain ⟨k, t, W, hk, hrt, ht, rfl, rfl, H⟩ := hrel
        by_cases hlt : i < k
        · obtain ⟨t1, ht1⟩ : ∃ t1, t = t1 + 1 := ⟨t - 1, by have := HI.out; omega⟩
          subst ht1
          obtain ⟨y, _, _, _, g1, g2, g3⟩ := St.shift_next (P := P) (Q := Q) (x := x) (R := L) HL.out.1 (show t1 < L.length by omega)
          obtain ⟨k1, hk1⟩ : ∃ k1, a + t1 = k1 := ⟨_, rfl⟩
          rw [hk1] at g1 g2 g3
          rw [show k1 + 1 = k by omega] at g2 g3
          have e1 : (k : Int) - 1 = (k1 : Int) := by omega
          have b1 : (k : Int) < (n : Int) := by have := HI.out; omega
          have b2 : (k1 : Int) < (n : Int) := by have := HI.out; omega
          have hlt2 : (i : Int) < (k : Int) := by omega
          have c1 := H.out.c k1 y g1
          have c2 := H.out.c k x g2
          have f1 := H.out.f k1 (List.getElem?_eq_some_iff.1 g1).1
          have f2 := H.out.f k (List.getElem?_eq_some_iff.1 g2).1
          have c3 : (W.setCell (ad.add k) (.int .i64 y)).cell? (ad.add k1) = some (.int .i64 y) := by rw [World.cell?_setCell_other _ _ _ _ (add_ne ad (by omega))]; exact c1
          have hkn : k ≤ 4000000 := by have := HI.out; omega
          have HN := Lib.hid (show At w0 ad (P ++ (L.take t1 ++ x :: L.drop t1) ++ Q) _ from g3 ▸ H.out.swap g2 g1)
          have HK := Lib.hid (show a + t1 = k1 ∧ r ≤ t1 ∧ t1 ≤ L.length ∧ k1 < k by have := HI.out; omega)
          clear g1 g2 g3 hk1 hk ht hrt hlt H
          go_wp2
          go_region
          go_wp2
          go_roundw
          case rel => exact ⟨k1, t1, _, HK.out.1, HK.out.2.1, HK.out.2.2.1, rfl, rfl, Lib.hid (HN.out.drew _)⟩
          case measure => have := HK.out; simp [intOf]; omega
        · obtain rfl : t = r := by have := HI.out; omega
          have HE := Lib.hid (show ∃ S, St.Good key S (L ++ [x]) ∧ At w0 ad (P ++ S ++ Q) W from ⟨_, HF.out, H.out⟩)
          have t9 : decide ((i : Int) < (k : Int)) = false := decide_eq_false (by omega)
          have t9n : decide (i < k) = false := decide_eq_false (by omega)
          clear hlt hk H
          go_wp2
          exact bodyPost_ret (results_none rfl _ _ _) rfl ⟨rfl, HE.out⟩

end Tm
end Go.Proofs.YtplenoaajokpjaaGreat

namespace Go.Proofs.YtplenoaajokpjaaGreat
open Go.RowKit Ba Cv Sp Te
namespace Tm
set_option linter.unusedVariables false

/-- What a merge gives, of rows shorter than N in all. -/
def Merges (w0 : World) (ad : Addr) (n c : Nat) (key : Int → Int) (V : Int → Prop) (pt : Value) (N : Nat) : Prop := ∀ (P L R Q : List Int) (a m b : Nat) (w : World), L.length + R.length < N → At w0 ad (P ++ L ++ R ++ Q) w → P.length = a → a + L.length = m → m + R.length = b → (P ++ L ++ R ++ Q).length = n → 0 < L.length → 0 < R.length →
  St.Srt key L → St.Srt key R → (∀ x ∈ L, ∀ y ∈ R, x < y) → (∀ y ∈ L ++ R, V y) →
  Calls Tryz.prog 133 #[.slice (some ad) n c, .int .i64 (a : Int), .int .i64 (m : Int), .int .i64 (b : Int), clv pt] w (Puts w0 ad key P (L ++ R) Q)
/-- Where all lies. -/
structure Geo (a m b mid nn s0 r0 : Nat) : Prop where
  h1 : mid = (a + b) / 2
  h2 : nn = mid + m
  h3 : (mid < m ∧ s0 + b = nn ∧ r0 = mid) ∨ (m ≤ mid ∧ s0 = a ∧ r0 = m)
  h4 : a + 2 ≤ m
  h5 : m + 2 ≤ b
theorem Geo.io {a m b mid nn s0 r0 : Nat} (g : Geo a m b mid nn s0 r0) : a ≤ s0 ∧ s0 ≤ r0 ∧ r0 ≤ m := by
  obtain ⟨h1, h2, h3, h4, h5⟩ := g
  rcases h3 with ⟨h, h', h''⟩ | ⟨h, h', h''⟩ <;> omega
theorem Geo.at {a m b mid nn s0 r0 c : Nat} (g : Geo a m b mid nn s0 r0) (h1 : s0 ≤ c) (h2 : c < r0) : a ≤ c ∧ c < m ∧ m + c + 1 ≤ nn ∧ nn < b + c + 1 := by
  have := g.io
  obtain ⟨h1, h2, h3, h4, h5⟩ := g
  rcases h3 with ⟨h, h', h''⟩ | ⟨h, h', h''⟩ <;> omega
/-- The row, and how it is searched. -/
structure Sr (key : Int → Int) (xs L R : List Int) (a m b nn s0 r0 : Nat) (Pr : Nat → Prop) : Prop where
  gl : ∀ h t, a + t = h → t < L.length → xs[h]? = L[t]?
  gr : ∀ h t, m + t = h → t < R.length → xs[h]? = R[t]?
  l : St.Srt key L
  r : St.Srt key R
  lr : ∀ x ∈ L, ∀ y ∈ R, x < y
  ml : a + L.length = m
  mr : m + R.length = b
  p : Pr = fun h => ∀ u v, xs[nn - 1 - h]? = some u → xs[h]? = some v → key v ≤ key u
section
variable {key : Int → Int} {xs L R : List Int} {a m b mid nn s0 r0 : Nat} {Pr : Nat → Prop}
theorem Sr.look (s : Sr key xs L R a m b nn s0 r0 Pr) (g : Geo a m b mid nn s0 r0) {c : Nat} (h1 : s0 ≤ c) (h2 : c < r0) : ∃ u v, xs[nn - 1 - c]? = some u ∧ xs[c]? = some v ∧ u ∈ R ∧ v ∈ L ∧ R[nn - 1 - c - m]? = some u ∧ L[c - a]? = some v := by
  obtain ⟨h3, h4, h5, h6⟩ := g.at h1 h2
  have hl := s.ml
  have hr := s.mr
  obtain ⟨u, hu⟩ : ∃ u, R[nn - 1 - c - m]? = some u := ⟨_, List.getElem?_eq_getElem (by omega)⟩
  obtain ⟨v, hv⟩ : ∃ v, L[c - a]? = some v := ⟨_, List.getElem?_eq_getElem (by omega)⟩
  exact ⟨u, v, by rw [s.gr (nn - 1 - c) (nn - 1 - c - m) (by omega) (by omega)]; exact hu, by rw [s.gl c (c - a) (by omega) (by omega)]; exact hv, List.mem_of_getElem? hu, List.mem_of_getElem? hv, hu, hv⟩
theorem Sr.down (s : Sr key xs L R a m b nn s0 r0 Pr) (g : Geo a m b mid nn s0 r0) : St.Down Pr s0 r0 := by
  intro h h' h1 h2 h3 hp
  rw [s.p] at hp ⊢
  intro u' v' hu' hv'
  obtain ⟨u, v, a1, a2, _, _, a3, a4⟩ := s.look g (c := h) (by omega) h3
  obtain ⟨u2, v2, b1, b2, _, _, b3, b4⟩ := s.look g (c := h') h1 (by omega)
  rw [b1] at hu'
  rw [b2] at hv'
  injection hu' with hu'
  injection hv' with hv'
  subst hu' hv'
  have k := hp u v a1 a2
  have q1 := g.at (c := h) (by omega) h3
  have q2 := g.at (c := h') h1 (by omega)
  have k1 := St.srt_get s.l b4 a4 (by omega)
  have k2 := St.srt_get s.r a3 b3 (by omega)
  unfold St.lt at k1 k2
  omega
/-- Where the search ends. -/
structure Fi (key : Int → Int) (L R : List Int) (a m b mid nn st en s t : Nat) : Prop where
  es : a + s = st
  et : m + t = en
  sl : s ≤ L.length
  tr : t ≤ R.length
  e : en + st = nn
  x : (∀ x ∈ L.take s, ∀ y ∈ R.drop t, St.lt key x y) ∧ (∀ y ∈ R.take t, ∀ x ∈ L.drop s, St.lt key y x)
  md : a + s + t = mid
  me : mid + (L.length - s) = en
  n0 : 0 < s + t
  n1 : s + t < L.length + R.length
theorem Sr.fin (s : Sr key xs L R a m b nn s0 r0 Pr) (g : Geo a m b mid nn s0 r0) {st : Nat} (B : St.Bis Pr s0 r0 st st) : Fi key L R a m b mid nn st (nn - st) (st - a) (nn - st - m) := by
  have hl := s.ml
  have hr := s.mr
  have io := g.io
  have ba := B.a
  have bc := B.c
  obtain ⟨h1, h2, h3, h4, h5⟩ := g
  have g : Geo a m b mid nn s0 r0 := ⟨h1, h2, h3, h4, h5⟩
  have hq : m + st ≤ nn ∧ nn ≤ b + st := by rcases h3 with ⟨h, h', h''⟩ | ⟨h, h', h''⟩ <;> omega
  refine ⟨by omega, by omega, by omega, by omega, by omega, ?_, by omega, by omega, by omega, by omega⟩
  refine St.cross s.l s.r s.lr (by omega) (by omega) (fun x y hs hx hy => ?_) (fun x y ht hx hy => ?_)
  · have hyl := (List.getElem?_eq_some_iff.1 hy).1
    have hs0 : s0 ≤ st - 1 := by rcases h3 with ⟨h, h', h''⟩ | ⟨h, h', h''⟩ <;> omega
    have hp := B.yes (st - 1) hs0 (by omega)
    rw [s.p] at hp
    have := hp y x (by rw [s.gr (nn - 1 - (st - 1)) (nn - st - m) (by omega) hyl]; exact hy) (by rw [s.gl (st - 1) (st - a - 1) (by omega) (by omega)]; exact hx)
    omega
  · have hxl := (List.getElem?_eq_some_iff.1 hx).1
    have hs0 : st < r0 := by rcases h3 with ⟨h, h', h''⟩ | ⟨h, h', h''⟩ <;> omega
    have hp := B.no st (Nat.le_refl _) hs0
    rw [s.p] at hp
    rcases Int.lt_or_le (key y) (key x) with h | h
    · exact h
    · refine (hp fun u v hu hv => ?_).elim
      rw [s.gr (nn - 1 - st) (nn - st - m - 1) (by omega) (by omega), hy] at hu
      rw [s.gl st (st - a) (by omega) hxl, hx] at hv
      injection hu with hu
      injection hv with hv
      subst hu hv
      omega
/-- Where nothing is to be turned round. -/
theorem Fi.no {st en s t : Nat} {P Q : List Int} (f : Fi key L R a m b mid nn st en s t) (h : L.length ≤ s ∨ t = 0) : P ++ L ++ R ++ Q = P ++ (L.take s ++ R.take t) ++ (L.drop s ++ R.drop t) ++ Q := by
  rcases h with h | h
  · rw [List.take_of_length_le h, List.drop_of_length_le h]
    simp [← List.append_assoc (R.take t)]
  · subst h
    simp [← List.append_assoc (L.take s)]
theorem take_one {D : List Int} {k : Nat} : D.take k ++ D.drop k = D := List.take_append_drop k D
theorem left_good {s t : Nat} (hl : St.Srt key L) (hr : St.Srt key R) (h : s = 0 ∨ t = 0) : St.Good key (L.take s ++ R.take t) (L.take s ++ R.take t) := by
  refine ⟨List.Perm.refl _, ?_⟩
  rcases h with rfl | rfl
  · simpa using St.srt_sub hr (List.take_sublist t R)
  · simpa using St.srt_sub hl (List.take_sublist s L)
theorem right_good {s t : Nat} (hl : St.Srt key L) (hr : St.Srt key R) (h : L.length ≤ s ∨ R.length ≤ t) : St.Good key (L.drop s ++ R.drop t) (L.drop s ++ R.drop t) := by
  refine ⟨List.Perm.refl _, ?_⟩
  rcases h with h | h
  · rw [List.drop_of_length_le h]; simpa using St.srt_sub hr (List.drop_sublist t R)
  · rw [List.drop_of_length_le h, List.append_nil]; exact St.srt_sub hl (List.drop_sublist s L)
theorem Fi.done {w0 W : World} {ad : Addr} {st en s t : Nat} {P Q S1 S2 : List Int} (f : Fi key L R a m b mid nn st en s t) (hl : St.Srt key L) (hr : St.Srt key R) (g1 : St.Good key S1 (L.take s ++ R.take t)) (g2 : St.Good key S2 (L.drop s ++ R.drop t)) (h : At w0 ad ((P ++ S1) ++ S2 ++ Q) W) : ∃ S, St.Good key S (L ++ R) ∧ At w0 ad (P ++ S ++ Q) W := by
  refine ⟨S1 ++ S2, ?_, by simpa using h⟩
  have := St.halves (L1 := L.take s) (L2 := L.drop s) (R1 := R.take t) (R2 := R.drop t) (by rw [take_one]; exact hl) (by rw [take_one]; exact hr) f.x.1 f.x.2 g1 g2
  rwa [take_one, take_one] at this
end

end Tm
end Go.Proofs.YtplenoaajokpjaaGreat
