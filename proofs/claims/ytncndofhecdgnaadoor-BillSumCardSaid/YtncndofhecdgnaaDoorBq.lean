/-
  Bills that are written into: rows, raise, deal. Conditions: those of each theorem.
-/
import Derived.Test.YtncndofhecdgnaaDoorBk
namespace Go.Proofs.YtncndofhecdgnaaDoor
open Go.RowKit
namespace Bil
set_option linter.unusedVariables false

/-- Block g reads, from cell o on, as these bills, and may be written into. -/
structure Blk (w : World) (g o : Nat) (L : List Bi) : Prop where
  c : ∀ (j t : Nat) (b : Bi) (u : Value), L[j]? = some b → (cl b)[t]? = some u → w.cell? ⟨g, o + j * 3 + t, none⟩ = some u
  f : ∀ i, w.frozen? ⟨g, i, none⟩ = false
  lt : g < w.heap.size
section
variable {w w' : World} {g o : Nat} {L : List Bi}
theorem Blk.keep (h : Blk w g o L) (hs : w.heap.size ≤ w'.heap.size) (e : w'.heap[g]? = w.heap[g]?) : Blk w' g o L :=
  ⟨fun j t b u hj ht => (World.cell?_of_block (a := ⟨g, o + j * 3 + t, none⟩) e).trans (h.c j t b u hj ht), fun i => (World.frozen?_of_block (a := ⟨g, i, none⟩) e).trans (h.f i), Nat.lt_of_lt_of_le h.lt hs⟩
theorem Blk.below {B : Nat} (h : Blk w g o L) (hb : Below B w w') (hB : g < B) : Blk w' g o L := h.keep hb.size (hb.block g hB)
theorem Blk.put (h : Blk w g o L) {k t : Nat} {b b' : Bi} {u : Value} (hk : L[k]? = some b) (hu : (cl b')[t]? = some u) (he : ∀ s, s ≠ t → (cl b')[s]? = (cl b)[s]?) : Blk (w.setCell ⟨g, o + k * 3 + t, none⟩ u) g o (L.set k b') := by
  have ht : t < 3 := (List.getElem?_eq_some_iff.1 hu).1
  refine ⟨fun j s x v hj hs => ?_, fun i => (World.frozen?_setCell _ _ _ _).trans (h.f i), by simpa using h.lt⟩
  have hs3 : s < 3 := (List.getElem?_eq_some_iff.1 hs).1
  by_cases e : j = k
  · subst e
    rw [List.getElem?_set, if_pos rfl, if_pos (List.getElem?_eq_some_iff.1 hk).1] at hj
    injection hj with hj
    subst hj
    by_cases e2 : s = t
    · subst e2
      have hv : v = u := by rw [hu] at hs; injection hs with hs; exact hs.symm
      subst hv
      obtain ⟨z, hz⟩ : ∃ z, (cl b)[s]? = some z := ⟨_, List.getElem?_eq_getElem (show s < (cl b).length from ht)⟩
      exact World.cell?_setCell_same _ _ _ (h.c j s b z hk hz)
    · rw [World.cell?_setCell_other _ _ _ _ (by simp; try omega)]
      exact h.c j s b v hk (by rw [← he s e2]; exact hs)
  · rw [List.getElem?_set_ne (Ne.symm e)] at hj
    rw [World.cell?_setCell_other _ _ _ _ (by simp; try omega)]
    exact h.c j s x v hj hs
theorem Blk.putA (h : Blk w g o L) {k : Nat} {b : Bi} (hk : L[k]? = some b) (x : Int) : Blk (w.setCell ⟨g, o + k * 3 + 1, none⟩ (.int .i64 x)) g o (L.set k ⟨b.d, x, b.p⟩) :=
  h.put (t := 1) hk rfl fun s hs => by match s, hs with | 0, _ => rfl | 2, _ => rfl | s + 3, _ => rfl
theorem Blk.putD (h : Blk w g o L) {k : Nat} {b : Bi} (hk : L[k]? = some b) (x : Int) : Blk (w.setCell ⟨g, o + k * 3, none⟩ (.int .i64 x)) g o (L.set k ⟨x, b.a, b.p⟩) :=
  h.put (t := 0) hk rfl fun s hs => by match s, hs with | 1, _ => rfl | 2, _ => rfl | s + 3, _ => rfl
theorem Blk.putP (h : Blk w g o L) {k : Nat} {b : Bi} (hk : L[k]? = some b) (x : Int) : Blk (w.setCell ⟨g, o + k * 3 + 2, none⟩ (.int .i64 x)) g o (L.set k ⟨b.d, b.a, x⟩) :=
  h.put (t := 2) hk rfl fun s hs => by match s, hs with | 0, _ => rfl | 1, _ => rfl | s + 3, _ => rfl
theorem Blk.d (h : Blk w g o L) {k : Nat} {b : Bi} (hk : L[k]? = some b) : w.cell? ⟨g, o + k * 3, none⟩ = some (.int .i64 b.d) := h.c k 0 b _ hk rfl
theorem Blk.a (h : Blk w g o L) {k : Nat} {b : Bi} (hk : L[k]? = some b) : w.cell? ⟨g, o + k * 3 + 1, none⟩ = some (.int .i64 b.a) := h.c k 1 b _ hk rfl
theorem Blk.p (h : Blk w g o L) {k : Nat} {b : Bi} (hk : L[k]? = some b) : w.cell? ⟨g, o + k * 3 + 2, none⟩ = some (.int .i64 b.p) := h.c k 2 b _ hk rfl
theorem Blk.raws (h : Blk w g o L) : Raws w (· = g) (some ⟨g, o, none⟩) L.length L :=
  ⟨rfl, fun _ => ⟨_, rfl, rfl, fun j b hj => thr_of fun t u hu => by rw [Addr.add_lit, ← Nat.add_assoc]; exact h.c j t b u hj hu⟩⟩
theorem Blk.drop (h : Blk w g o L) (m : Nat) : Blk w g (o + m * 3) (L.drop m) :=
  ⟨fun j t b u hj ht => by
    rw [List.getElem?_drop] at hj
    have := h.c (m + j) t b u hj ht
    rwa [show o + (m + j) * 3 + t = o + m * 3 + j * 3 + t by omega] at this, h.f, h.lt⟩
theorem Blk.take (h : Blk w g o L) (m : Nat) : Blk w g o (L.take m) :=
  ⟨fun j t b u hj ht => by
    rw [List.getElem?_take] at hj
    split at hj
    · exact h.c j t b u hj ht
    · exact absurd hj (by simp), h.f, h.lt⟩
theorem Own.blk {base n c : Nat} (h : Own w base (some ⟨g, 0, none⟩) n c L) : Blk w g 0 L := by
  have hr := h.raws
  have hl := (h.lt g rfl).2
  refine ⟨fun j t b u hj ht => ?_, fun i => World.ownsRow.frozenAt h i, hl⟩
  have hn : j < n := by rw [← hr.1]; exact (List.getElem?_eq_some_iff.1 hj).1
  obtain ⟨ad, e, _, hc⟩ := hr.2 (by omega)
  injection e with e
  subst e
  have := thr_back (hc j b hj) t u ht
  rw [Addr.add_lit, ← Nat.add_assoc] at this
  exact this
end
/-- The bills from the s-th on are raised, k of them, of m parts. -/
def rz (x m : Int) (s k : Nat) (L : List Bi) : List Bi := L.mapIdx fun i b => if s ≤ i ∧ i < s + k then ⟨b.d, b.a + pt x m ((i - s : Nat) : Int), b.p⟩ else b
theorem rz_len (x m : Int) (s k : Nat) (L : List Bi) : (rz x m s k L).length = L.length := by simp [rz]
theorem rz_get {x m : Int} {s k i : Nat} {L : List Bi} {b : Bi} (h : L[i]? = some b) : (rz x m s k L)[i]? = some (if s ≤ i ∧ i < s + k then ⟨b.d, b.a + pt x m ((i - s : Nat) : Int), b.p⟩ else b) := by
  unfold rz; rw [List.getElem?_mapIdx, h]; rfl
theorem rz_zero (x m : Int) (s : Nat) (L : List Bi) : rz x m s 0 L = L := by
  apply List.ext_getElem?
  intro i
  cases h : L[i]? with
  | none => rw [List.getElem?_eq_none_iff] at h ⊢; rw [rz_len]; exact h
  | some b => rw [rz_get h, if_neg (by omega)]
theorem rz_next {x m : Int} {s k : Nat} {L : List Bi} {b : Bi} (h : L[s + k]? = some b) : (rz x m s k L).set (s + k) ⟨b.d, b.a + pt x m (k : Int), b.p⟩ = rz x m s (k + 1) L := by
  apply List.ext_getElem?
  intro i
  cases hi : L[i]? with
  | none =>
    rw [List.getElem?_eq_none_iff] at hi
    rw [List.getElem?_eq_none (by rw [List.length_set, rz_len]; exact hi), List.getElem?_eq_none (by rw [rz_len]; exact hi)]
  | some c =>
    rw [rz_get hi]
    by_cases e : i = s + k
    · subst e
      rw [h] at hi
      injection hi with hi
      subst hi
      rw [List.getElem?_set, if_pos rfl, if_pos (by rw [rz_len]; exact (List.getElem?_eq_some_iff.1 h).1), if_pos (by omega), show s + k - s = k by omega]
    · rw [List.getElem?_set_ne (fun h => e h.symm), rz_get hi]
      by_cases e2 : s ≤ i ∧ i < s + k
      · rw [if_pos e2, if_pos (by omega)]
      · rw [if_neg e2, if_neg (by omega)]
theorem grown_some {w w' : World} (h : Below w.heap.size w w') (g : Nat) : w.grownBy w' (some g) := ⟨h.os, h.tape, h.output, h.size, fun k hk _ => h.block k hk⟩
theorem grown_set {w w' : World} {g o : Nat} {u : Value} (h : w.grownBy w' (some g)) : w.grownBy (w'.setCell ⟨g, o, none⟩ u) (some g) :=
  ⟨h.os, h.tape, h.output, by simpa using h.size, fun k hk hne => (heap_setCell_other w' ⟨g, o, none⟩ k u (fun e => hne (by rw [e]))).trans (h.block k hk hne)⟩
set_option maxHeartbeats 1000000 in
theorem raise_ (g o s m c i : Nat) (q z : Int) (w : World) (b : Bi) (hi : i < m) (hc : w.cell? ⟨g, o + i * 3 + 1, none⟩ = some (.int .i64 b.a)) (hf : w.frozen? ⟨g, o + i * 3 + 1, none⟩ = false) (hz : b.a + q = z) (hb : -9223372036854775808 ≤ z ∧ z ≤ 9223372036854775807) :
    Calls Tryd.prog 29 #[.slice (some ⟨g, o, none⟩) m c, .int .i64 (i : Int), .int .i64 q] w fun e w' => e = .returned (.tuple #[]) ∧ w' = w.setCell ⟨g, o + i * 3 + 1, none⟩ (.int .i64 z) := by
  have hi2 : (i : Int) < (m : Int) := by omega
  have e1 : wrap64 (b.a + q) = z := by rw [hz]; exact IntWalk.wrap64_in _ hb
  clear hz hb
  go_enter Tryd.func29, Tryd.ntmps29
  go_wp2
  go_end0
  exact ⟨rfl, rfl⟩

/-- What num.Split deals out to so many ones. -/
theorem ones_sum (m : Nat) : Num.sumL (List.replicate m 1) = (m : Int) := by
  induction m with
  | zero => rfl
  | succ m ih => rw [List.replicate_succ, Num.sumL_cons, ih]; omega
theorem ones_nonneg (m : Nat) : Num.nonneg (List.replicate m 1) := fun x hx => by rw [List.mem_replicate] at hx; omega
theorem ones_split {x : Int} {m : Nat} (hx : 0 ≤ x ∧ x ≤ 4000000000000000000) (hm : 1 ≤ m ∧ m ≤ 1000) : Num.splitE x (List.replicate m 1) = 0 := by
  have h := ones_sum m
  unfold Num.splitE
  rw [if_neg (by rw [Num.anyNeg_false.2 (ones_nonneg m), List.length_replicate]; simp; omega), if_neg (by rw [h]; omega), if_neg (by rw [h]; omega)]
theorem ones_share {x : Int} {m i : Nat} (hx : 0 ≤ x ∧ x ≤ 4000000000000000000) (hm : 1 ≤ m ∧ m ≤ 1000) (hi : i < m) : (Num.splitL x (List.replicate m 1))[i]? = some (pt x (m : Int) (i : Int)) := by
  unfold Num.splitL Num.shares
  rw [if_pos (ones_split hx hm), List.length_replicate, List.getElem?_map, List.getElem?_range hi]
  show some (Num.share x (List.replicate m 1) i) = _
  unfold Num.share
  rw [List.take_replicate, List.take_replicate, Nat.min_eq_left (by omega), Nat.min_eq_left (by omega), ones_sum, ones_sum, ones_sum]
  rw [(Num.dn_val hx (by omega) (by omega) (by omega)).1, (Num.dn_val hx (by omega) (by omega) (by omega)).1, pt_eq (by omega)]
  rw [show ((i + 1 : Nat) : Int) = (i : Int) + 1 by omega]
/-- What deal needs and does. -/
structure Dl (w w' : World) (g s k : Nat) (x : Int) (m : Nat) (L : List Bi) : Prop where
  b : Blk w' g 0 (rz x (m : Int) s k L)
  gr : w.grownBy w' (some g)
set_option maxRecDepth 100000 in
set_option maxHeartbeats 4000000 in
theorem deal_ (x : Int) (m g o s c : Nat) (L : List Bi) (w : World) (hx : 0 ≤ x ∧ x ≤ 4000000000000000000) (hm : 1 ≤ m ∧ m ≤ 1000) (ho : o = s * 3) (hL : s + m = L.length) (hB : Blk w g 0 L) (ha : ∀ b ∈ L, 0 ≤ b.a ∧ b.a ≤ 4000000000000000000) :
    Calls Tryd.prog 28 #[.int .i64 x, .int .i64 (m : Int), .func (.func 29) #[.slice (some ⟨g, o, none⟩) m c] #[]] w fun e w' => e = .returned (.tuple #[]) ∧ Dl w w' g s m x m L := by
  have HB := Lib.hid hB
  have HAA := Lib.hid ha
  have HL := Lib.hid hL
  have HO := Lib.hid ho
  have HX := Lib.hid hx
  have HM := Lib.hid hm
  obtain ⟨W1, hW1⟩ : ∃ W1, w.alloc (.cells #[.int .i64 1] 3) = W1 := ⟨_, rfl⟩
  have hb1 : Below w.heap.size w W1 := hW1 ▸ alloc_ _ _
  have hc1 : W1.cell? ⟨w.heap.size, 0, none⟩ = some (.int .i64 1) := by rw [← hW1]; exact cell_of_row _ _ _ _ _ _ (heap_alloc_new w _)
  have HB1 := Lib.hid hb1
  have C := Lib.hid (repeat_ m hm w.heap.size 1 W1 hc1 (by rw [← hW1]; simp))
  have HW1 := Lib.hid hW1
  clear hB ha hL ho hx hm hW1 hb1 hc1
  go_enter Tryd.func28, Tryd.ntmps28
  go_wp2_with fail
  rw [HW1.out]
  refine C.out.mono ?_
  rintro e w2 ⟨A2, c2, rfl, hI, hb⟩
  have HB2 := Lib.hid (HB1.out.trans (hb.mono HB1.out.size))
  have C := Lib.hid (Num.split A2 m c2 (List.replicate m 1) x w2 hI (by have := HM.out; unfold maxLen; omega))
  clear hI hb HW1
  go_wp2_with fail
  refine C.out.mono ?_
  rintro e w3 ⟨A3, n3, c3, rfl, hI, _, hb, hown⟩
  have HB3 := Lib.hid (HB2.out.trans (hb.mono HB2.out.size))
  have HI := Lib.hid hI
  have hn3 : n3 = m := by
    have h := hI.1
    rw [← h, show Num.splitL x (List.replicate m 1) = Num.shares x (List.replicate m 1) by unfold Num.splitL; rw [if_pos (ones_split HX.out HM.out)]]
    simp [Num.shares]
  subst hn3
  have HN := Lib.hid (show ∀ ad : Addr, A3 = some ad → ad.block ≠ g from fun ad e h => by
    have h1 := hown ad e
    have h2 := HB2.out.size
    have h3 := HB.out.lt
    omega)
  clear hI hb C HB1 HB2 hown
  have HS0 := Lib.hid (show Dl w w3 g s 0 x n3 L from ⟨by rw [rz_zero]; exact HB.out.below HB3.out HB.out.lt, grown_some HB3.out g⟩)
  go_wp2
  go_loopw [20] (fun i w' => ∃ (k : Nat) (V : World), k ≤ n3 ∧ i = .int .i64 (k : Int) ∧ V = w' ∧ Hid (w3.grownBy V (some g)) ∧ Hid (Dl w V g s k x n3 L)) (fun i _ => n3 - (intOf i).toNat)
  case atStart => exact ⟨0, w3, Nat.zero_le _, rfl, rfl, Lib.hid (grown_some (Below.refl _ _) g), HS0⟩
  case round =>
    clear HS0
    obtain ⟨k, V, hk, rfl, rfl, HG, HD⟩ := hrel
    by_cases hlt : k < n3
    · have hlt2 : (k : Int) < (n3 : Int) := by omega
      have hn9 : n3 ≤ 1000 := HM.out.2
      obtain ⟨ad, q, rfl, hab, hq, hcq⟩ := HI.out.get hlt
      rw [ones_share HX.out HM.out hlt] at hq
      injection hq with hq
      have hcV : V.cell? (ad.add k) = some (.int .i64 q) := HG.out.cell hcq (by rw [Num.add_block]; intro e; injection e with e; exact HN.out ad rfl e)
      obtain ⟨b, hb⟩ : ∃ b, L[s + k]? = some b := ⟨_, List.getElem?_eq_getElem (by have := HL.out; omega)⟩
      have hrz := rz_get (x := x) (m := (n3 : Int)) (s := s) (k := k) hb
      rw [if_neg (by omega)] at hrz
      have hab := HAA.out b (List.mem_of_getElem? hb)
      have hqb := pt_nonneg (m := (n3 : Int)) (i := (k : Int)) HX.out.1 (by omega) (by omega)
      have hxx := HX.out
      have hca := HD.out.b.a hrz
      have hfa := HD.out.b.f (o + k * 3 + 1)
      rw [show 0 + (s + k) * 3 + 1 = o + k * 3 + 1 by have := HO.out; omega] at hca
      rw [hq] at hqb
      obtain ⟨z, hz⟩ : ∃ z, b.a + q = z := ⟨_, rfl⟩
      have C := Lib.hid (raise_ g o s n3 c k q z V b hlt hca hfa hz (by omega))
      have HS2 := Lib.hid (show Dl w (V.setCell ⟨g, o + k * 3 + 1, none⟩ (.int .i64 z)) g s (k + 1) x n3 L from ⟨by
        have h := HD.out.b.putA hrz z
        rw [← hz, ← hq, rz_next hb] at h
        rw [show o + k * 3 + 1 = 0 + (s + k) * 3 + 1 by have := HO.out; omega, ← hz, ← hq]
        exact h, grown_set HD.out.gr⟩)
      have HG2 := Lib.hid (show w3.grownBy (V.setCell ⟨g, o + k * 3 + 1, none⟩ (.int .i64 z)) (some g) from grown_set HG.out)
      obtain ⟨V2, hV2⟩ : ∃ V2, V.setCell ⟨g, o + k * 3 + 1, none⟩ (.int .i64 z) = V2 := ⟨_, rfl⟩
      rw [hV2] at C HS2 HG2
      clear hab hq hcq hb hrz hqb hxx hca hfa hz hV2
      go_wp2_with fail
      refine C.out.mono ?_
      rintro e w5 ⟨rfl, rfl⟩
      clear C
      go_wp2
      go_roundw
      case rel => exact ⟨k + 1, _, by omega, by go_num, rfl, HG2, HS2⟩
      case measure => simp [intOf]; omega
    · obtain rfl : k = n3 := by omega
      go_wp2
      go_end0
      exact ⟨rfl, HD.out⟩

end Bil
end Go.Proofs.YtncndofhecdgnaaDoor
