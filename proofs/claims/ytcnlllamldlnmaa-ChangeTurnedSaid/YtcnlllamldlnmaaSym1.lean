/-
  symMergeCmpFunc of package slices, where the left block is one place. Conditions: the closure answers by a key.
-/
import Derived.Test.YtcnlllamldlnmaaIns
namespace Go.Proofs.Ytcnlllamldlnmaa
open Go.RowKit Ba Cv Sp Te
namespace Tm
set_option linter.unusedVariables false

/-- Two places halved. -/
theorem half_in {i j s h : Nat} (hs : i + j = s) (hh : s / 2 = h) (hij : i < j) : i ≤ h ∧ h < j := by omega
/-- The row while it is looked at. -/
structure Se (w0 : World) (ad : Addr) (xs : List Int) (P : Nat → Prop) (lo hi i j : Nat) (W : World) : Prop where
  at_ : At w0 ad xs W
  s : St.Bis P lo hi i j
theorem Se.next {w0 W W' : World} {ad : Addr} {xs : List Int} {P : Nat → Prop} {lo hi i j : Nat} (h : Se w0 ad xs P lo hi i j W) (hb : Below W.heap.size W W') : Se w0 ad xs P lo hi i j W' := ⟨h.at_.next hb, h.s⟩

set_option maxRecDepth 100000 in
set_option maxHeartbeats 4000000 in
theorem sym1 (w0 : World) (ad : Addr) (n c : Nat) (key : Int → Int) (V : Int → Prop) (pt : Value) (P R Q : List Int) (x : Int) (a m b : Nat) (w : World) (h : At w0 ad (P ++ x :: R ++ Q) w) (ha : P.length = a) (hm : a + 1 = m) (hb : m + R.length = b) (hn : (P ++ x :: R ++ Q).length = n) (hn2 : n ≤ 4000000)
    (hR : St.Srt key R) (hxR : ∀ y ∈ R, x < y) (hV : ∀ y ∈ x :: R, V y) (CL : Clo w0 ad key V pt) :
    Calls Try.prog 73 #[.slice (some ad) n c, .int .i64 (a : Int), .int .i64 (m : Int), .int .i64 (b : Int), clv pt] w (Puts w0 ad key P (x :: R) Q) := by
  have hl : a + 1 + R.length + Q.length = n := by rw [← hn, ← ha]; simp; omega
  obtain ⟨xs, hxs⟩ : ∃ xs, P ++ x :: R ++ Q = xs := ⟨_, rfl⟩
  have hxa : xs[a]? = some x := by rw [← hxs, List.append_assoc]; exact St.get_at ha
  have hget : ∀ h t, m + t = h → t < R.length → xs[h]? = R[t]? := by
    intro h t ht hl
    rw [← hxs, show P ++ x :: R ++ Q = (P ++ [x]) ++ R ++ Q by simp]
    exact St.get_mid (by simp; omega) ht hl
  obtain ⟨Pr, hPr⟩ : ∃ Pr : Nat → Prop, Pr = fun h => ∀ y, xs[h]? = some y → key y < key x := ⟨_, rfl⟩
  have hDown : St.Down Pr m b := by
    intro h h' h1 h2 h3 hp
    rw [hPr] at hp ⊢
    intro y hy
    rw [hget h' (h' - m) (by omega) (by omega)] at hy
    obtain ⟨z, hz⟩ : ∃ z, R[h - m]? = some z := ⟨_, List.getElem?_eq_getElem (by omega)⟩
    have h4 := hp z (by rw [hget h (h - m) (by omega) (by omega)]; exact hz)
    have h5 := St.srt_get hR hy hz (by omega)
    unfold St.lt at h5
    omega
  rw [hxs] at h hn
  have HL := Lib.hid (And.intro ha (And.intro hm (And.intro hb hl)))
  have HX := Lib.hid hxs
  have HXA := Lib.hid hxa
  have HG := Lib.hid hget
  have HP := Lib.hid hPr
  have HD := Lib.hid hDown
  have HR := Lib.hid (And.intro hR hxR)
  have HV := Lib.hid hV
  have HC := Lib.hid CL
  have H0 := Lib.hid (show Se w0 ad xs Pr m b m b w from ⟨h, St.Bis.start (by omega)⟩)
  have e0 : (m : Int) - (a : Int) = 1 := by omega
  have b0 : (a : Int) < (n : Int) := by omega
  clear h ha hm hb hn hR hxR hV CL hl hxa hget hPr hDown hxs
  go_enter Try.func73, Try.ntmps73
  go_wp2
  go_loopw [10, 11] (fun vi vj w' => ∃ (i j : Nat) (W : World), vi = .int .i64 (i : Int) ∧ vj = .int .i64 (j : Int) ∧ W = w' ∧ Hid (Se w0 ad xs Pr m b i j W)) (fun vi vj _ => (intOf vj).toNat - (intOf vi).toNat)
  case atStart => exact ⟨m, b, w, rfl, rfl, rfl, H0⟩
  case round =>
    clear H0
    obtain ⟨i, j, W, rfl, rfl, rfl, H⟩ := hrel
    by_cases hlt : i < j
    · obtain ⟨s, hs⟩ : ∃ s, i + j = s := ⟨_, rfl⟩
      obtain ⟨h, hh⟩ : ∃ h, s / 2 = h := ⟨_, rfl⟩
      have hlt2 : (i : Int) < (j : Int) := by omega
      have e1 : (i : Int) + (j : Int) = (s : Int) := by omega
      have e2 : (s : Int) / 2 = (h : Int) := by omega
      have hsn : s ≤ 8000000 := by have := HL.out; have := H.out.s.c; omega
      obtain ⟨h1, h2⟩ := half_in hs hh hlt
      have hhb : h < b := by have := H.out.s.c; omega
      have hmh : m ≤ h := by have := H.out.s.a; omega
      have hhn : h < n := by have := HL.out; omega
      have b1 : (h : Int) < (n : Int) := by omega
      obtain ⟨y, hy⟩ : ∃ y, R[h - m]? = some y := ⟨_, List.getElem?_eq_getElem (by have := HL.out; omega)⟩
      have hyx : xs[h]? = some y := by rw [HG.out h (h - m) (by omega) (by have := HL.out; omega)]; exact hy
      have hyR := List.mem_of_getElem? hy
      obtain ⟨q, hq⟩ : ∃ q, St.cf (key y) (key x) = q := ⟨_, rfl⟩
      have hqk : decide (q < 0) = decide (key y < key x) := by rw [← hq]; exact St.cf_neg _ _
      have CQ : ∀ p : Ext W, Hid (Calls Try.prog 41 #[.int .i64 y, .int .i64 x, pt] p.W fun e w' => e = .returned (.int .i64 q) ∧ Below p.W.heap.size p.W w') := fun p => Lib.hid (by rw [← hq]; exact HC.out p.W y x (H.out.next p.b).at_.g (HV.out y (List.mem_cons_of_mem _ hyR)) (HV.out x (List.mem_cons_self ..)))
      have c1 : ∀ p : Ext W, p.W.cell? (ad.add h) = some (.int .i64 y) := fun p => (H.out.next p.b).at_.c h y hyx
      have c2 : ∀ p : Ext W, p.W.cell? (ad.add a) = some (.int .i64 x) := fun p => (H.out.next p.b).at_.c a x HXA.out
      have HQ := Lib.hid hqk
      have HN := Lib.hid (show (key y < key x → ∀ p : Ext W, Se w0 ad xs Pr m b (h + 1) j p.W) ∧ (¬ key y < key x → ∀ p : Ext W, Se w0 ad xs Pr m b i h p.W) from
        ⟨fun hk p => ⟨(H.out.next p.b).at_, H.out.s.up HD.out h1 h2 (by rw [HP.out]; intro z hz; rw [hyx] at hz; injection hz with hz; rw [← hz]; exact hk)⟩,
         fun hk p => ⟨(H.out.next p.b).at_, H.out.s.down HD.out h1 h2 (by rw [HP.out]; intro hp; exact hk (hp y hyx))⟩⟩)
      have HI := Lib.hid (And.intro h1 h2)
      clear hs hh hlt h1 h2 hhb hmh hhn hy hyx hyR hq hqk H
      go_wp2
      have ne : Nonempty (Ext W) := ⟨⟨W, Below.refl _ _⟩⟩
      refine quietE (by kernel_rfl) (by kernel_rfl) ?_
      repeat (first | go_big_quiet_skip | quiet_step (first
        | (go_at_call 41; with_reducible exact ext_of (CQ _).out)
        | fail))
      refine wpQuiet_nil ?_
      rintro _ ⟨p, rfl⟩
      have HN1 := Lib.hid (show (key y < key x → Se w0 ad xs Pr m b (h + 1) j p.W) ∧ (¬ key y < key x → Se w0 ad xs Pr m b i h p.W) from ⟨fun hk => HN.out.1 (by omega) p, fun hk => HN.out.2 (by omega) p⟩)
      generalize p.W = W1 at HN1 ⊢
      clear CQ c1 c2 ne HN
      by_cases hk : key y < key x
      · have t1 : decide (q < 0) = true := HQ.out.trans (decide_eq_true hk)
        have HS := Lib.hid (HN1.out.1 hk)
        rw [t1]
        clear hk HN1
        go_wp2
        go_roundw
        case rel => exact ⟨h + 1, j, W1, by go_num, rfl, rfl, HS⟩
        case measure => have := HI.out; simp [intOf]; omega
      · have t1 : decide (q < 0) = false := HQ.out.trans (decide_eq_false hk)
        have HS := Lib.hid (HN1.out.2 hk)
        rw [t1]
        clear hk HN1
        go_wp2
        go_roundw
        case rel => exact ⟨i, h, W1, rfl, rfl, rfl, HS⟩
        case measure => have := HI.out; simp [intOf]; omega
    · obtain rfl : i = j := by have := H.out.s.b; omega
      have hr : i ≤ b := H.out.s.c
      have hmi : m ≤ i := H.out.s.a
      obtain ⟨r, hr2⟩ : ∃ r, i - m = r := ⟨_, rfl⟩
      have hir : a + r = i - 1 := by have := HL.out; omega
      have hrl : r ≤ R.length := by have := HL.out; omega
      have HF := Lib.hid (show St.Good key (R.take r ++ x :: R.drop r) (x :: R) from by
        refine St.put_in HR.out.1 ⟨fun t y ht hy => ?_, fun t y ht hy => ?_⟩ fun y hy => ?_
        · have h1 := H.out.s.yes (m + t) (by omega) (by omega)
          rw [HP.out] at h1
          exact .inl (h1 y (by rw [HG.out (m + t) t rfl (by omega)]; exact hy))
        · have htl := (List.getElem?_eq_some_iff.1 hy).1
          have h1 := H.out.s.no (m + t) (by omega) (by have := HL.out; omega)
          rw [HP.out] at h1
          intro h2
          refine h1 fun z hz => ?_
          rw [HG.out (m + t) t rfl htl, hy] at hz
          injection hz with hz
          subst hz
          exact (St.lt_key (HR.out.2 y (List.mem_of_getElem? hy))).1 h2
        · have := HR.out.2 y hy
          unfold St.lt; omega)
      obtain ⟨i1, hi1⟩ : ∃ i1, i - 1 = i1 := ⟨_, rfl⟩
      have e3 : (i : Int) - 1 = (i1 : Int) := by have := HL.out; omega
      have hi1n : i1 ≤ 4000000 := by have := HL.out; omega
      have HI := Lib.hid (show a + r = i1 ∧ r ≤ R.length ∧ i1 < n from ⟨by omega, hrl, by have := HL.out; omega⟩)
      have HS := Lib.hid (show At w0 ad (P ++ (R.take 0 ++ x :: R.drop 0) ++ Q) W by have := H.out.at_; rw [← HX.out] at this; simpa using this)
      clear hr hmi hr2 hir hrl hi1 hlt H
      have hge : ¬ (i : Int) < (i : Int) := by omega
      go_wp2
      go_loopw [13] (fun vk w' => ∃ (k t : Nat) (W : World), a + t = k ∧ t ≤ r ∧ vk = .int .i64 (k : Int) ∧ W = w' ∧ Hid (At w0 ad (P ++ (R.take t ++ x :: R.drop t) ++ Q) W)) (fun vk _ => i1 - (intOf vk).toNat)
      case atStart => exact ⟨a, 0, W, rfl, Nat.zero_le _, rfl, rfl, HS⟩
      case round =>
        clear HS hge
        obtain ⟨k, t, W, hk, ht, rfl, rfl, H⟩ := hrel
        by_cases hlt : k < i1
        · have htr : t < R.length := by have := HI.out; omega
          obtain ⟨y, g1, g2, g3, _⟩ := St.shift_next (P := P) (Q := Q) (x := x) HL.out.1 htr
          obtain ⟨k1, hk1⟩ : ∃ k1, k + 1 = k1 := ⟨_, rfl⟩
          rw [hk] at g1 g2 g3
          rw [hk1] at g2 g3
          have e1 : (k : Int) + 1 = (k1 : Int) := by omega
          have b1 : (k : Int) < (n : Int) := by have := HI.out; omega
          have b2 : (k1 : Int) < (n : Int) := by have := HI.out; omega
          have hlt2 : (k : Int) < (i1 : Int) := by omega
          have c1 := H.out.c k x g1
          have c2 := H.out.c k1 y g2
          have f1 := H.out.f k (List.getElem?_eq_some_iff.1 g1).1
          have f2 := H.out.f k1 (List.getElem?_eq_some_iff.1 g2).1
          have c3 : (W.setCell (ad.add k) (.int .i64 y)).cell? (ad.add k1) = some (.int .i64 y) := by rw [World.cell?_setCell_other _ _ _ _ (add_ne ad (by omega))]; exact c2
          have hkn : k ≤ 4000000 := by have := HI.out; omega
          have HN := Lib.hid (show At w0 ad (P ++ (R.take (t + 1) ++ x :: R.drop (t + 1)) ++ Q) _ from g3 ▸ H.out.swap g1 g2)
          have HK := Lib.hid (show a + (t + 1) = k1 ∧ t + 1 ≤ r ∧ k < k1 ∧ k < i1 by have := HI.out; omega)
          clear g1 g2 g3 hk1 hk ht htr hlt H
          go_wp2
          go_region
          go_wp2
          go_roundw
          case rel => exact ⟨k1, t + 1, _, HK.out.1, HK.out.2.1, by go_num, rfl, Lib.hid (HN.out.drew _)⟩
          case measure => have := HK.out; simp [intOf]; omega
        · obtain rfl : t = r := by have := HI.out; omega
          have HE := Lib.hid (show ∃ S, St.Good key S (x :: R) ∧ At w0 ad (P ++ S ++ Q) W from ⟨_, HF.out, H.out⟩)
          have t9 : decide ((k : Int) < (i1 : Int)) = false := decide_eq_false (by omega)
          have t9n : decide (k < i1) = false := decide_eq_false (by omega)
          clear hlt hk H
          go_wp2
          exact bodyPost_ret (results_none rfl _ _ _) rfl ⟨rfl, HE.out⟩

end Tm
end Go.Proofs.Ytcnlllamldlnmaa
