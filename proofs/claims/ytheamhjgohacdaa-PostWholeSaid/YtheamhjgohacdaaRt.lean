/-
  Right of package post; the document's Formed and Right. Conditions: the lines read as a list.
-/
import Derived.Test.YtheamhjgohacdaaSums
namespace Go.Proofs.Ytheamhjgohacdaa
open Go.RowKit Bk
namespace Pst
set_option linter.unusedVariables false

theorem tot_in {e : En} (h : fm e = true) : wrap64 (tot e.ls) = tot e.ls := by
  have a := tot_bound (ls := e.ls) fun l hl => (fm_lines h l hl).2.2
  have b := (fm_len h).2
  exact wr_in (by omega) (by omega)
theorem below_alloc {w w1 : World} {o : Obj} (hb : Below (w.alloc o).heap.size (w.alloc o) w1) : Below w.heap.size w w1 := (alloc_ w o).trans (hb.mono (by simp))

set_option maxRecDepth 100000 in
set_option maxHeartbeats 2000000 in
theorem right_ (d f : Int) (L : Option Addr) (m c : Nat) (ls : List Pr) (w : World) (hS : Lns w (· < w.heap.size) L m ls) (hm : m ≤ maxLen) :
    Calls Try.prog 11 #[eg d f L m c] w (Yes w (rgt ⟨d, f, ls⟩)) := by
  have CF := fun w' (hb : Below w.heap.size w w') => Lib.hid (formed d f L m c ls w' (hS.below hb))
  have CS := fun w' (hb : Below w.heap.size w w') => Lib.hid (sum_ d f L m c ls w' (hS.below hb) hm)
  cases h1 : fm ⟨d, f, ls⟩
  · have hr : rgt ⟨d, f, ls⟩ = false := by unfold rgt; rw [h1]; rfl
    rw [hr]
    rw [h1] at CF
    clear hS h1 hr CS
    go_enter Try.func11, Try.ntmps11
    go_wp2_with fail
    refine (CF _ (alloc_ _ _)).out.mono ?_
    rintro e w1 ⟨rfl, hb1⟩
    obtain ⟨hX, hB⟩ := bx1 hb1
    have HB := Lib.hid hB
    clear hb1 hB hX CF
    go_wp2
    go_ret
    exact ⟨rfl, HB.out⟩
  · have ht := tot_in h1
    have hr : rgt ⟨d, f, ls⟩ = (tot ls == 0) := by unfold rgt; rw [h1]; rfl
    rw [hr]
    simp only at ht
    rw [h1] at CF
    rw [ht] at CS
    generalize tot ls = T at CS
    obtain ⟨bT, hT⟩ : ∃ b, (T == 0) = b := ⟨_, rfl⟩
    rw [hT]
    clear hS h1 hr ht
    go_enter Try.func11, Try.ntmps11
    go_wp2_with fail
    refine (CF _ (alloc_ _ _)).out.mono ?_
    rintro e w1 ⟨rfl, hb1⟩
    obtain ⟨hX, hB⟩ := bx1 hb1
    have HB := Lib.hid hB
    have c0 := hX.c 0
    have c1 := hX.c 1
    have c2 := hX.c 2
    simp at c0 c1 c2
    clear hb1 hB hX CF
    go_wp2_with fail
    refine (CS _ HB.out).out.mono ?_
    rintro e w2 ⟨rfl, hb2⟩
    have HB2 := Lib.hid (HB.out.trans (hb2.mono HB.out.size))
    clear hb2 CS
    go_wp2
    go_ret
    exact ⟨rfl, HB2.out⟩

/-- What was read ahead of place k. -/
structure Ah (ls : List Pr) (k : Nat) (last : Int) : Prop where
  z : k = 0 → last = 0
  s : ∀ j, k = j + 1 → ∃ y, ls[j]? = some (last, y)
theorem Ah.next {ls : List Pr} {k : Nat} {x y : Int} (h : ls[k]? = some (x, y)) : Ah ls (k + 1) x := by
  refine ⟨fun h => by omega, fun j hj => ?_⟩
  obtain rfl : k = j := by omega
  exact ⟨y, h⟩
theorem wrap_small (m : Nat) (h : m ≤ 1000000000) : IntKind.i64.wrap (m : Int) = (m : Int) := IntWalk.i64_in _ (by omega)

set_option maxRecDepth 100000 in
set_option maxHeartbeats 2000000 in
theorem rformed_hd (d f : Int) (L : Option Addr) (m c : Nat) (ls : List Pr) (w : World) (hS : Lns w (· < w.heap.size) L m ls) (hh : ¬ (1 ≤ d ∧ d ≤ 292194 ∧ 0 ≤ f ∧ f ≤ 1000000000 ∧ 2 ≤ m ∧ m ≤ 9)) :
    Calls Try.prog 27 #[eg d f L m c] w (Yes w (fm ⟨d, f, ls⟩)) := by
  rw [fm_no (e := ⟨d, f, ls⟩) (by rw [show (⟨d, f, ls⟩ : En).ls.length = m from hS.1]; exact hh)]
  clear hS
  by_cases h1 : d < 1
  · have t1 : decide (d < 1) = true := by simpa using h1
    clear h1 hh
    go_enter Try.func27, Try.ntmps27
    go_wp2
    go_ret
    exact ⟨rfl, alloc_ _ _⟩
  · have t1 : decide (d < 1) = false := by simpa using h1
    by_cases h2 : 292194 < d
    · have t2 : decide (292194 < d) = true := by simpa using h2
      clear h1 h2 hh
      go_enter Try.func27, Try.ntmps27
      go_wp2
      go_ret
      exact ⟨rfl, alloc_ _ _⟩
    · have t2 : decide (292194 < d) = false := by simpa using h2
      by_cases h3 : f < 0
      · have t3 : decide (f < 0) = true := by simpa using h3
        clear h1 h2 h3 hh
        go_enter Try.func27, Try.ntmps27
        go_wp2
        go_ret
        exact ⟨rfl, alloc_ _ _⟩
      · have t3 : decide (f < 0) = false := by simpa using h3
        by_cases h4 : 1000000000 < f
        · have t4 : decide (1000000000 < f) = true := by simpa using h4
          clear h1 h2 h3 h4 hh
          go_enter Try.func27, Try.ntmps27
          go_wp2
          go_ret
          exact ⟨rfl, alloc_ _ _⟩
        · have t4 : decide (1000000000 < f) = false := by simpa using h4
          by_cases h5 : m < 2
          · have t5 : decide ((m : Int) < 2) = true := by simpa using (show (m : Int) < 2 by omega)
            have t5' : decide (m < 2) = true := by simpa using h5
            clear h1 h2 h3 h4 h5 hh
            go_enter Try.func27, Try.ntmps27
            go_wp2
            go_ret
            exact ⟨rfl, alloc_ _ _⟩
          · have t5 : decide ((m : Int) < 2) = false := by simpa using (show ¬ (m : Int) < 2 by omega)
            have t6 : decide (9 < (m : Int)) = true := by simpa using (show 9 < (m : Int) by omega)
            have t6' : decide (9 < m) = true := by simpa using (show 9 < m by omega)
            clear h1 h2 h3 h4 h5 hh
            go_enter Try.func27, Try.ntmps27
            go_wp2
            go_ret
            exact ⟨rfl, alloc_ _ _⟩

/-- What holds at the head of each round. -/
structure RF (w w1 : World) (ls : List Pr) (k : Nat) (last : Int) (R : Bool) (xs : Array Value) : Prop where
  ah : Ah ls k last
  r : lnB last (ls.drop k) = R
  b : Below w.heap.size w w1
  x : Bx w1 w.heap.size 24 xs

set_option maxRecDepth 100000 in
set_option maxHeartbeats 4000000 in
theorem rformed_ln (d f : Int) (L : Option Addr) (m c : Nat) (ls : List Pr) (w : World) (hS : Lns w (· < w.heap.size) L m ls) (hh : 1 ≤ d ∧ d ≤ 292194 ∧ 0 ≤ f ∧ f ≤ 1000000000 ∧ 2 ≤ m ∧ m ≤ 9) :
    Calls Try.prog 27 #[eg d f L m c] w (Yes w (fm ⟨d, f, ls⟩)) := by
  have hl := hS.1
  rw [fm_yes (e := ⟨d, f, ls⟩) (by rw [show (⟨d, f, ls⟩ : En).ls.length = m from hS.1]; exact hh)]
  show Calls _ _ _ _ (Yes w (lnB 0 ls))
  obtain ⟨g1, g2, g3, g4, g5, g6⟩ := hh
  have t1 : decide (d < 1) = false := by simpa using (show ¬ d < 1 by omega)
  have t2 : decide (292194 < d) = false := by simpa using (show ¬ 292194 < d by omega)
  have t3 : decide (f < 0) = false := by simpa using (show ¬ f < 0 by omega)
  have t4 : decide (1000000000 < f) = false := by simpa using (show ¬ 1000000000 < f by omega)
  have t5 : decide ((m : Int) < 2) = false := by simpa using (show ¬ (m : Int) < 2 by omega)
  have t6 : decide (9 < (m : Int)) = false := by simpa using (show ¬ 9 < (m : Int) by omega)
  have HS := Lib.hid hS
  have HL := Lib.hid hl
  obtain ⟨R, hR⟩ : ∃ R, lnB 0 ls = R := ⟨_, rfl⟩
  rw [hR]
  have HR := Lib.hid hR
  clear hS hl hR g1 g2 g3 g4
  go_enter Try.func27, Try.ntmps27
  go_wp2
  go_loopw [3, 4] (fun i s4 w' => ∃ (k : Nat) (last : Int) (w1 : World), k ≤ m ∧ i = .int .i64 (k : Int) ∧ w1 = w' ∧ 0 ≤ last ∧ Hid (RF w w1 ls k last R #[.int .i64 d, .int .i64 f, .slice L m c])) (fun i _ _ => m - (intOf i).toNat)
  case atStart => exact ⟨0, 0, _, Nat.zero_le _, rfl, rfl, Int.le_refl _, Lib.hid ⟨⟨fun _ => rfl, fun j h => by omega⟩, HR.out, alloc_ _ _, Bx.new _ _ _⟩⟩
  case round =>
    obtain ⟨k, last, w1, hk, rfl, rfl, h0, HF⟩ := hrel
    have c2 := HF.out.x.c 2
    have hlw := HF.out.x.lt
    simp at c2
    by_cases hlt : k < m
    · have HS1 := Lib.hid (HS.out.keep (w' := w1) (ok' := (· < w.heap.size)) (fun p hp => HF.out.b.cell hp) fun _ h => h)
      obtain ⟨ad, x, y, rfl, hb, hx, hc0, hc1⟩ := HS1.out.get hlt
      have HD := Lib.hid (drop_get hx)
      have HX := Lib.hid (Ah.next hx)
      have hlt2 : (k : Int) < (m : Int) := by omega
      have hxl : ad.block < w1.heap.size := by omega
      clear hx hb
      have stop : ∀ (P : Prop), (last < x ∧ x ≤ 9 ∧ okA y = true → False) → R = false := fun _ h => by rw [← HF.out.r, HD.out]; exact lnB_no h
      have HST := Lib.hid stop
      clear stop
      by_cases e1 : x < 1
      · have t7 : decide (x < 1) = true := by simpa using e1
        have HZ := Lib.hid (HST.out True (fun h => by omega))
        clear e1
        go_wp2
        go_ret
        exact ⟨by rw [HZ.out]; rfl, HF.out.b.alloc HF.out.b.size _⟩
      have t7 : decide (x < 1) = false := by simpa using e1
      by_cases e2 : 9 < x
      · have t8 : decide (9 < x) = true := by simpa using e2
        have HZ := Lib.hid (HST.out True (fun h => by omega))
        clear e1 e2
        go_wp2
        go_ret
        exact ⟨by rw [HZ.out]; rfl, HF.out.b.alloc HF.out.b.size _⟩
      have t8 : decide (9 < x) = false := by simpa using e2
      by_cases e3 : y = 0
      · have t9 : (y == 0) = true := by simpa using e3
        have HZ := Lib.hid (HST.out True (fun h => ((okA_iff y).1 h.2.2).1 e3))
        clear e1 e2 e3
        go_wp2
        go_ret
        exact ⟨by rw [HZ.out]; rfl, HF.out.b.alloc HF.out.b.size _⟩
      have t9 : (y == 0) = false := by simpa using e3
      by_cases e4 : y < -1000000000000000
      · have ta : decide (y < -1000000000000000) = true := by simpa using e4
        have HZ := Lib.hid (HST.out True (fun h => by have := ((okA_iff y).1 h.2.2); omega))
        clear e1 e2 e3 e4
        go_wp2
        go_ret
        exact ⟨by rw [HZ.out]; rfl, HF.out.b.alloc HF.out.b.size _⟩
      have ta : decide (y < -1000000000000000) = false := by simpa using e4
      by_cases e5 : 1000000000000000 < y
      · have tb : decide (1000000000000000 < y) = true := by simpa using e5
        have HZ := Lib.hid (HST.out True (fun h => by have := ((okA_iff y).1 h.2.2); omega))
        clear e1 e2 e3 e4 e5
        go_wp2
        go_ret
        exact ⟨by rw [HZ.out]; rfl, HF.out.b.alloc HF.out.b.size _⟩
      have tb : decide (1000000000000000 < y) = false := by simpa using e5
      have hok : okA y = true := (okA_iff y).2 ⟨e3, by omega, by omega⟩
      by_cases g0 : k = 0
      · obtain rfl := HF.out.ah.z g0
        have tk : decide (0 < (k : Int)) = false := by simpa using (show ¬ 0 < (k : Int) by omega)
        have tk2 : decide (0 < k) = false := by simpa using (show ¬ 0 < k by omega)
        have HN := Lib.hid (show lnB x (ls.drop (k + 1)) = R by rw [← HF.out.r, HD.out]; exact (lnB_yes (l := (x, y)) (by simp only; omega) (by simp only; omega) hok).symm)
        have hx0 : 0 ≤ x := by omega
        clear e1 e2 e3 e4 e5 hok g0
        go_wp2
        go_quiet (fail)
        go_wp2
        go_roundw
        case rel => exact ⟨k + 1, x, _, by omega, by go_num, rfl, hx0, Lib.hid ⟨HX.out, HN.out, below_drewN (HF.out.b.alloc HF.out.b.size _) _, HF.out.x.alloc _⟩⟩
        case measure => simp [intOf]; omega
      · obtain ⟨j, hj⟩ : ∃ j, k = j + 1 := ⟨k - 1, by omega⟩
        obtain ⟨py, pj⟩ := HF.out.ah.s j hj
        have hjm : j < m := by omega
        have qc : (w1.alloc (.cells #[.int .i64 x, .int .i64 y] 52)).cell? (ad.add (j * 2)) = some (.int .i64 last) := by
          obtain ⟨a', e, _, hcc⟩ := HS1.out.2 (by omega)
          injection e with e; subst e; exact ((alloc_ w1 _).cell (by rw [add_block]; exact hxl)).trans (hcc j _ pj).1
        have tk : decide (0 < (k : Int)) = true := by simpa using (show 0 < (k : Int) by omega)
        have tk2 : decide (0 < k) = true := by simpa using (show 0 < k by omega)
        have e1' : (k : Int) - 1 = (j : Int) := by omega
        have hjm2 : (j : Int) < (m : Int) := by omega
        have hj0 : (0 : Int) ≤ (j : Int) := by omega
        have ew := wrap_small j (by omega)
        clear pj
        by_cases e6 : x ≤ last
        · have tc : decide (x ≤ last) = true := by simpa using e6
          have HZ := Lib.hid (HST.out True (fun h => by omega))
          clear e1 e2 e3 e4 e5 e6 hok hj g0 hk
          go_wp2
          go_quiet (fail)
          go_wp2
          go_ret
          exact ⟨by rw [HZ.out]; rfl, below_drewN (HF.out.b.alloc HF.out.b.size _) _⟩
        · have tc : decide (x ≤ last) = false := by simpa using e6
          have HN := Lib.hid (show lnB x (ls.drop (k + 1)) = R by rw [← HF.out.r, HD.out]; exact (lnB_yes (l := (x, y)) (by simp only; omega) (by simp only; omega) hok).symm)
          have hx0 : 0 ≤ x := by omega
          clear e1 e2 e3 e4 e5 e6 hok hj g0 hk
          go_wp2
          go_quiet (fail)
          go_wp2
          go_roundw
          case rel => exact ⟨k + 1, x, _, by omega, by go_num, rfl, hx0, Lib.hid ⟨HX.out, HN.out, below_drewN (HF.out.b.alloc HF.out.b.size _) _, HF.out.x.alloc _⟩⟩
          case measure => clear e1' ew; simp [intOf]; omega
    · have HZ := Lib.hid (show R = true by rw [← HF.out.r, List.drop_of_length_le (by rw [HL.out]; omega)]; rfl)
      go_wp2
      go_ret
      exact ⟨by rw [HZ.out]; rfl, HF.out.b⟩

theorem rformed (d f : Int) (L : Option Addr) (m c : Nat) (ls : List Pr) (w : World) (hS : Lns w (· < w.heap.size) L m ls) :
    Calls Try.prog 27 #[eg d f L m c] w (Yes w (fm ⟨d, f, ls⟩)) := by
  by_cases hh : 1 ≤ d ∧ d ≤ 292194 ∧ 0 ≤ f ∧ f ≤ 1000000000 ∧ 2 ≤ m ∧ m ≤ 9
  · exact rformed_ln d f L m c ls w hS hh
  · exact rformed_hd d f L m c ls w hS hh

set_option maxRecDepth 100000 in
set_option maxHeartbeats 2000000 in
theorem rright_ (d f : Int) (L : Option Addr) (m c : Nat) (ls : List Pr) (w : World) (hS : Lns w (· < w.heap.size) L m ls) (hm : m ≤ maxLen) :
    Calls Try.prog 12 #[eg d f L m c] w (Yes w (rgt ⟨d, f, ls⟩)) := by
  have CF := fun w' (hb : Below w.heap.size w w') => Lib.hid (rformed d f L m c ls w' (hS.below hb))
  have CS := fun w' (hb : Below w.heap.size w w') => Lib.hid (rsum d f L m c ls w' (hS.below hb) hm)
  cases h1 : fm ⟨d, f, ls⟩
  · have hr : rgt ⟨d, f, ls⟩ = false := by unfold rgt; rw [h1]; rfl
    rw [hr]
    rw [h1] at CF
    clear hS h1 hr CS
    go_enter Try.func12, Try.ntmps12
    go_wp2_with fail
    refine (CF _ (alloc_ _ _)).out.mono ?_
    rintro e w1 ⟨rfl, hb1⟩
    obtain ⟨hX, hB⟩ := bx1 hb1
    have HB := Lib.hid hB
    clear hb1 hB hX CF
    go_wp2
    go_ret
    exact ⟨rfl, HB.out⟩
  · have ht := tot_in h1
    have hr : rgt ⟨d, f, ls⟩ = (tot ls == 0) := by unfold rgt; rw [h1]; rfl
    rw [hr]
    simp only at ht
    rw [h1] at CF
    rw [ht] at CS
    generalize tot ls = T at CS
    obtain ⟨bT, hT⟩ : ∃ b, (T == 0) = b := ⟨_, rfl⟩
    rw [hT]
    clear hS h1 hr ht
    go_enter Try.func12, Try.ntmps12
    go_wp2_with fail
    refine (CF _ (alloc_ _ _)).out.mono ?_
    rintro e w1 ⟨rfl, hb1⟩
    obtain ⟨hX, hB⟩ := bx1 hb1
    have HB := Lib.hid hB
    have c0 := hX.c 0
    have c1 := hX.c 1
    have c2 := hX.c 2
    simp at c0 c1 c2
    clear hb1 hB hX CF
    go_wp2_with fail
    refine (CS _ HB.out).out.mono ?_
    rintro e w2 ⟨rfl, hb2⟩
    have HB2 := Lib.hid (HB.out.trans (hb2.mono HB.out.size))
    clear hb2 CS
    go_wp2
    go_ret
    exact ⟨rfl, HB2.out⟩

end Pst
end Go.Proofs.Ytheamhjgohacdaa
