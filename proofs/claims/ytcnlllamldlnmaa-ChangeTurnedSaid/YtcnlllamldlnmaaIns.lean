/-
  insertionSortCmpFunc of package slices, of a block of places that rise. Conditions: the closure answers by a key.
-/
import Derived.Test.YtcnlllamldlnmaaRow
namespace Go.Proofs.Ytcnlllamldlnmaa
open Go.RowKit Ba Cv Sp Te
namespace Tm
set_option linter.unusedVariables false

/-- The closure answers by a key, in whatever world but for the row. -/
def Clo (w0 : World) (ad : Addr) (key : Int → Int) (V : Int → Prop) (pt : Value) : Prop := ∀ (W : World) (x y : Int), w0.grownBy W (some ad.block) → V x → V y →
  Calls Try.prog 41 #[.int .i64 x, .int .i64 y, pt] W fun e w' => e = .returned (.int .i64 (St.cf (key x) (key y))) ∧ Below W.heap.size W w'
/-- What a step leaves: the block in order, all else as it was. -/
def Puts (w0 : World) (ad : Addr) (key : Int → Int) (P D Q : List Int) (e : Ending) (w' : World) : Prop := e = .returned (.tuple #[]) ∧ ∃ S, St.Good key S D ∧ At w0 ad (P ++ S ++ Q) w'
abbrev clv (pt : Value) : Value := .func (.func 41) #[] #[pt]

/-- Within the inner loop. -/
structure In1 (w0 : World) (ad : Addr) (key : Int → Int) (P T : List Int) (x : Int) (R : List Int) (a j : Nat) (T1 T2 : List Int) (W : World) : Prop where
  at_ : At w0 ad (P ++ T1 ++ x :: (T2 ++ R)) W
  e : T1 ++ T2 = T
  o : ∀ y ∈ T2, St.lt key x y
  j : a + T1.length = j
/-- Within the outer loop. -/
structure Out1 (w0 : World) (ad : Addr) (key : Int → Int) (P D Q : List Int) (k : Nat) (T : List Int) (W : World) : Prop where
  at_ : At w0 ad (P ++ T ++ (D.drop k ++ Q)) W
  g : St.Good key T (D.take k)
theorem Out1.last {w0 W : World} {ad : Addr} {key : Int → Int} {P D Q T : List Int} {k : Nat} (h : Out1 w0 ad key P D Q k T W) (hk : D.length ≤ k) : ∃ S, St.Good key S D ∧ At w0 ad (P ++ S ++ Q) W := by
  refine ⟨T, ?_, ?_⟩
  · have := h.g; rwa [List.take_of_length_le hk] at this
  · have := h.at_; rwa [List.drop_of_length_le hk, List.nil_append] at this
theorem Out1.next {w0 W : World} {ad : Addr} {key : Int → Int} {P D Q T T1 T2 : List Int} {k a j : Nat} {x : Int} (g : St.Good key T (D.take k)) (hx : D[k]? = some x) (h : In1 w0 ad key P T x (D.drop (k + 1) ++ Q) a j T1 T2 W) (hy : ∀ y ∈ T1, St.lt key y x) : ∃ T', Out1 w0 ad key P D Q (k + 1) T' W := by
  obtain ⟨hk, e⟩ := List.getElem?_eq_some_iff.1 hx
  refine ⟨T1 ++ x :: T2, ⟨?_, ?_⟩⟩
  · have := h.at_; simpa using this
  · have e1 : D.take (k + 1) = D.take k ++ [x] := by rw [← List.take_concat_get hk, e]; simp
    rw [e1]
    have hg := g
    rw [← h.e] at hg
    exact St.ins_end hg.2 hg.1 h.o hy

set_option maxRecDepth 100000 in
set_option maxHeartbeats 4000000 in
theorem insertion (w0 : World) (ad : Addr) (n c : Nat) (key : Int → Int) (V : Int → Prop) (pt : Value) (P D Q : List Int) (a b : Nat) (w : World) (h : At w0 ad (P ++ D ++ Q) w) (ha : P.length = a) (hb : a + D.length = b) (hn : (P ++ D ++ Q).length = n) (hn2 : n ≤ 4000000)
    (hD : D.Pairwise (· < ·)) (hV : ∀ x ∈ D, V x) (CL : Clo w0 ad key V pt) :
    Calls Try.prog 72 #[.slice (some ad) n c, .int .i64 (a : Int), .int .i64 (b : Int), clv pt] w (Puts w0 ad key P D Q) := by
  have hl : a + D.length + Q.length = n := by rw [← hn, ← ha]; simp; omega
  have HL := Lib.hid (And.intro ha (And.intro hb hl))
  have HD := Lib.hid hD
  have HV := Lib.hid hV
  have HC := Lib.hid CL
  obtain ⟨i1, hi1⟩ : ∃ i1, a + 1 = i1 := ⟨_, rfl⟩
  have e0 : (a : Int) + 1 = (i1 : Int) := by omega
  have han : a ≤ 4000000 := by omega
  have hbn : b ≤ 4000000 := by omega
  have H0 := Lib.hid (show Out1 w0 ad key P D Q 1 (D.take 1) w from ⟨by
      have e : P ++ D.take 1 ++ (D.drop 1 ++ Q) = P ++ D ++ Q := by rw [List.append_assoc, ← List.append_assoc (D.take 1), List.take_append_drop, List.append_assoc]
      rw [e]; exact h, ⟨List.Perm.refl _, by
      match D with
      | [] => simp
      | [x] => simp
      | x :: y :: l => simp⟩⟩)
  have HI := Lib.hid hi1
  clear h ha hb hn hD hV CL hl hi1
  go_enter Try.func72, Try.ntmps72
  go_wp2
  go_loopw [8] (fun vi w' => ∃ (i k : Nat) (T : List Int) (W : World), a + k = i ∧ 1 ≤ k ∧ (k ≤ D.length ∨ k = 1) ∧ vi = .int .i64 (i : Int) ∧ W = w' ∧ Hid (Out1 w0 ad key P D Q k T W)) (fun vi _ => b - (intOf vi).toNat)
  case atStart => exact ⟨i1, 1, D.take 1, w, HI.out, by omega, .inr rfl, rfl, rfl, H0⟩
  case round =>
    clear e0 H0
    obtain ⟨i, k, T, W, hi, hk1, hk2, rfl, rfl, H⟩ := hrel
    by_cases hlt : i < b
    · have hkD : k < D.length := by have := HL.out.2.1; omega
      obtain ⟨x, hx⟩ : ∃ x, D[k]? = some x := ⟨_, List.getElem?_eq_getElem hkD⟩
      have hlt2 : (i : Int) < (b : Int) := by omega
      have HX := Lib.hid hx
      have H1 := Lib.hid (show In1 w0 ad key P T x (D.drop (k + 1) ++ Q) a i T [] W from ⟨by
        have := H.out.at_
        rw [List.drop_eq_getElem_cons hkD, (List.getElem?_eq_some_iff.1 hx).2] at this
        simpa using this, by simp, (by intro y hy; cases hy), by rw [H.out.g.len, List.length_take, Nat.min_eq_left (by omega)]; exact hi⟩)
      have HLT := Lib.hid (show ∀ u ∈ T, u < x by
        intro u hu
        have hm := H.out.g.mem hu
        obtain ⟨j, hj⟩ := List.mem_iff_getElem?.1 hm
        by_cases hjk : j < k
        · rw [List.getElem?_take_of_lt hjk] at hj
          obtain ⟨h1, e1⟩ := List.getElem?_eq_some_iff.1 hj
          obtain ⟨h2, e2⟩ := List.getElem?_eq_some_iff.1 hx
          have := List.pairwise_iff_getElem.1 HD.out j k h1 h2 hjk
          rwa [e1, e2] at this
        · rw [List.getElem?_take, if_neg hjk] at hj; cases hj)
      have HVT := Lib.hid (show (∀ u ∈ T, V u) ∧ V x from ⟨fun u hu => HV.out u (List.mem_of_mem_take (H.out.g.mem hu)), HV.out x (List.mem_of_getElem? hx)⟩)
      have HG := Lib.hid H.out.g
      have HK := Lib.hid (And.intro hi (And.intro hkD hlt))
      clear hx hi hk1 hk2 hlt hkD H
      go_wp2
      go_loopw [9] (fun vj w' => ∃ (j : Nat) (T1 T2 : List Int) (W : World), vj = .int .i64 (j : Int) ∧ W = w' ∧ Hid (In1 w0 ad key P T x (D.drop (k + 1) ++ Q) a j T1 T2 W)) (fun vj _ => (intOf vj).toNat)
      case atStart => exact ⟨i, T, [], W, rfl, rfl, H1⟩
      case round =>
        clear H1
        obtain ⟨j, T1, T2, W, rfl, rfl, H⟩ := hrel
        rcases List.eq_nil_or_concat T1 with rfl | ⟨T0, u, hT⟩
        · have hj : j = a := by have := H.out.j; simp at this; omega
          subst hj
          have hq : (j : Int) < (j : Int) ↔ False := by simp
          have t1 : decide ((j : Int) < (j : Int)) = false := by simp
          obtain ⟨T', hT'⟩ := Out1.next HG.out HX.out H.out (by intro y hy; cases hy)
          have HT := Lib.hid hT'
          clear hT' H
          go_wp2
          have ne : Nonempty (Ext W) := ⟨⟨W, Below.refl _ _⟩⟩
          refine quietE (by kernel_rfl) (by kernel_rfl) ?_
          repeat (first | go_big_quiet_skip | quiet_step (fail))
          refine wpQuiet_nil ?_
          rintro _ ⟨p, rfl⟩
          have HT2 := Lib.hid (show Out1 w0 ad key P D Q (k + 1) T' p.W from ⟨HT.out.at_.next p.b, HT.out.g⟩)
          generalize p.W = W1 at HT2 ⊢
          clear HT ne
          go_wp2
          go_roundw
          case rel => exact ⟨i + 1, k + 1, T', W1, by have := HK.out; omega, by omega, .inl (by have := HK.out; omega), by go_num, rfl, HT2⟩
          case measure => have := HK.out; simp [intOf]; omega
        · rw [List.concat_eq_append] at hT
          subst hT
          obtain ⟨j1, hj1⟩ : ∃ j1, a + T0.length = j1 := ⟨_, rfl⟩
          have hj : j1 + 1 = j := by have := H.out.j; simp at this; omega
          have hxn : j < n := by
            have h1 := H.out.e
            have h2 := HK.out
            have h3 := HL.out
            have h4 := H.out.j
            have h5 := congrArg List.length h1
            have h6 := HG.out.len
            rw [List.length_take, Nat.min_eq_left (by omega)] at h6
            rw [List.length_append] at h5
            omega
          have er : P ++ (T0 ++ [u]) ++ x :: (T2 ++ (D.drop (k + 1) ++ Q)) = (P ++ T0) ++ u :: ([] ++ x :: (T2 ++ (D.drop (k + 1) ++ Q))) := by simp
          obtain ⟨g1, g2, _, g4⟩ := St.swap_at (p := P ++ T0) (m := []) (q := T2 ++ (D.drop (k + 1) ++ Q)) (x := u) (y := x) (i := j1) (j := j) (by simp; have := HL.out; omega) (by simp; have := HL.out; omega)
          have hA := H.out.at_
          rw [er] at hA
          have huT : u ∈ T := by rw [← H.out.e]; simp
          have hux := HLT.out u huT
          have hVu := HVT.out.1 u huT
          have hVx := HVT.out.2
          obtain ⟨q, hq⟩ : ∃ q, St.cf (key x) (key u) = q := ⟨_, rfl⟩
          have hqk : decide (q < 0) = decide (key x < key u) := by rw [← hq]; exact St.cf_neg _ _
          have CQ : ∀ p : Ext W, Hid (Calls Try.prog 41 #[.int .i64 x, .int .i64 u, pt] p.W fun e w' => e = .returned (.int .i64 q) ∧ Below p.W.heap.size p.W w') := fun p => Lib.hid (by rw [← hq]; exact HC.out p.W x u (hA.next p.b).g hVx hVu)
          have c1 : ∀ p : Ext W, p.W.cell? (ad.add j1) = some (.int .i64 u) := fun p => (hA.next p.b).c j1 u g1
          have c2 : ∀ p : Ext W, p.W.cell? (ad.add j) = some (.int .i64 x) := fun p => (hA.next p.b).c j x g2
          have t0 : decide ((a : Int) < (j : Int)) = true := decide_eq_true (by have := H.out.j; simp at this; omega)
          have t0n : decide (a < j) = true := decide_eq_true (by have := H.out.j; simp at this; omega)
          obtain ⟨v, hv⟩ : ∃ v : Int, (j : Int) - 1 = v := ⟨_, rfl⟩
          have v1 : IntKind.i64.wrap v = v := (IntWalk.i64_left _).trans (IntWalk.wrap64_in _ ⟨by omega, by omega⟩)
          have v2 : 0 ≤ v := by omega
          have v3 : v < (n : Int) := by omega
          have v4 : v.toNat = j1 := by omega
          have b1 : (j : Int) < (n : Int) := by omega
          have b2 : (j1 : Int) < (n : Int) := by omega
          have HS := Lib.hid g4
          have HA := Lib.hid hA
          have HJ := Lib.hid (And.intro hj hj1)
          have HE := Lib.hid (And.intro H.out.e H.out.o)
          have HQ := Lib.hid hqk
          have HG1 := Lib.hid (And.intro (List.getElem?_eq_some_iff.1 g1).1 (List.getElem?_eq_some_iff.1 g2).1)
          have HG2 := Lib.hid (And.intro g1 g2)
          have HU := Lib.hid hux
          have HIN := Lib.hid H.out
          clear hj hj1 hxn er g1 g2 g4 hA huT hux hVu hVx hq hqk H
          have ne : Nonempty (Ext W) := ⟨⟨W, Below.refl _ _⟩⟩
          go_wp2
          refine quietE (by kernel_rfl) (by kernel_rfl) ?_
          repeat (first | go_big_quiet_skip | quiet_step (first
            | (go_at_call 41; with_reducible exact ext_of (CQ _).out)
            | fail))
          refine wpQuiet_nil ?_
          rintro _ ⟨p, rfl⟩
          have HA1 := Lib.hid (HA.out.next p.b)
          have HIN1 := Lib.hid (show In1 w0 ad key P T x (D.drop (k + 1) ++ Q) a j (T0 ++ [u]) T2 p.W from ⟨HIN.out.at_.next p.b, HIN.out.e, HIN.out.o, HIN.out.j⟩)
          generalize p.W = W1 at HA1 HIN1 ⊢
          clear CQ c1 c2 ne HA HIN v1 v2 v3 v4 hv
          have e1 : (j : Int) - 1 = (j1 : Int) := by have := HJ.out; omega
          by_cases hk : key x < key u
          · have t1 : decide (q < 0) = true := HQ.out.trans (decide_eq_true hk)
            have c1 := HA1.out.c j1 u HG2.out.1
            have c2 := HA1.out.c j x HG2.out.2
            have f1 := HA1.out.f j1 HG1.out.1
            have f2 := HA1.out.f j HG1.out.2
            have c3 : (W1.setCell (ad.add j) (.int .i64 u)).cell? (ad.add j1) = some (.int .i64 u) := by rw [World.cell?_setCell_other _ _ _ _ (add_ne ad (by have := HJ.out; omega))]; exact c1
            have HN := Lib.hid (show In1 w0 ad key P T x (D.drop (k + 1) ++ Q) a j1 T0 (u :: T2) ((W1.setCell (ad.add j) (.int .i64 u)).setCell (ad.add j1) (.int .i64 x)) from ⟨by
              have := HA1.out.swap HG2.out.2 HG2.out.1
              rw [HS.out] at this
              simpa using this, by have := HE.out.1; simpa using this, (by
              intro y hy
              rcases List.mem_cons.1 hy with rfl | hy
              · exact .inl hk
              · exact HE.out.2 y hy), HJ.out.2⟩)
            clear hk
            rw [t1]
            go_wp2
            go_region
            go_wp2
            go_roundw
            case rel => exact ⟨j1, T0, u :: T2, _, rfl, rfl, Lib.hid ⟨HN.out.at_.drew _, HN.out.e, HN.out.o, HN.out.j⟩⟩
            case measure => have := HJ.out; simp [intOf]; omega
          · have t1 : decide (q < 0) = false := HQ.out.trans (decide_eq_false hk)
            rw [t1]
            obtain ⟨T', hT'⟩ := Out1.next HG.out HX.out HIN1.out (St.ins_all (by have := HG.out.2; rw [← HE.out.1, List.append_assoc] at this; exact this) ((St.lt_nkey HU.out).2 hk))
            have HT := Lib.hid hT'
            clear hT' hk
            go_wp2
            go_roundw
            case rel => exact ⟨i + 1, k + 1, T', W1, by have := HK.out; omega, by omega, .inl (by have := HK.out; omega), by go_num, rfl, HT⟩
            case measure => have := HK.out; simp [intOf]; omega
    · have HF := Lib.hid (H.out.last (by have := HL.out; omega))
      have hge : ¬ (i : Int) < (b : Int) := by omega
      clear hlt
      go_wp2
      go_end0
      exact ⟨rfl, HF.out⟩

end Tm
end Go.Proofs.Ytcnlllamldlnmaa
