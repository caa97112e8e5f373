/-
  Changes of unlike days that are turned round make the same slices: plain mathematics. Conditions: those of each theorem.
-/
import Derived.Test.YtbjnjeidgdmdiaaGreatMFw
namespace Go.Proofs.YtbjnjeidgdmdiaaGreat
open Go.RowKit Ba Cv Sp Te Ag Tf Sl Tm
namespace Slc
set_option linter.unusedVariables false
def bkd (a b : Ch) : Ch := ⟨b.bk, a.dy, a.kd, a.r, a.cs, a.wy⟩
def strip (c : Ch) : Ch := ⟨0, c.dy, c.kd, c.r, c.cs, c.wy⟩
theorem don_strip (s : Hd) (c : Ch) : don s (strip c) = don s c := rfl
theorem hld_strip (i : Hd) (l : List Ch) (d : Int) : hld i (l.map strip) d = hld i l d := by
 unfold hld ups; rw [List.filter_map, List.foldl_map]; rfl
theorem turn_strip : ∀ {A B : List Ch}, A.length = B.length → (List.zipWith bkd A B).map strip = A.map strip
 | [], [], _ => rfl
 | a :: A, b :: B, h => by
  simp only [List.zipWith_cons_cons, List.map_cons]; rw [turn_strip (by simpa using h)]; rfl
theorem ordl_plc (hs : List Ch) : ordl hs (plc hs.length) = hs := by
 refine List.ext_getElem? fun k => ?_
 unfold ordl; rw [List.getElem?_map]; rcases Nat.lt_or_ge k hs.length with h | h
 ·rw [plc_get h]; show some ((hs[((k : Nat) : Int).toNat]?).getD zch) = _
  rw [Int.toNat_natCast, List.getElem?_eq_getElem h]; rfl
 ·rw [List.getElem?_eq_none (by rw [plc_len]; exact h), List.getElem?_eq_none h]; rfl
theorem ordl_perm {hs : List Ch} {o : List Int} (H : Ag.Ord hs o) : List.Perm (ordl hs o) hs := by
 have h := H.1.map fun x : Int => (hs[x.toNat]?).getD zch
 have e := ordl_plc hs; unfold ordl at e; rw [e] at h; exact h
theorem dy_one {hs : List Ch} (hp : hs.Pairwise fun a b => a.dy ≠ b.dy) {a b : Ch} (ha : a ∈ hs) (hb : b ∈ hs) (h : a.dy = b.dy) : a = b := by
 obtain ⟨i, hi, rfl⟩ := List.mem_iff_getElem.1 ha; obtain ⟨j, hj, rfl⟩ := List.mem_iff_getElem.1 hb; have hq := List.pairwise_iff_getElem.1 hp; rcases Nat.lt_trichotomy i j with hij | hij | hij
 ·exact absurd h (hq i j hi hj hij)
 ·subst hij; rfl
 ·exact absurd h.symm (hq j i hj hi hij)
theorem turn_ordl {hs : List Ch} {o o' : List Int} (hp : hs.Pairwise fun a b => a.dy ≠ b.dy) (H : Ag.Ord hs o) (K : Ag.Ord (List.zipWith bkd hs.reverse hs) o') : (ordl (List.zipWith bkd hs.reverse hs) o').map strip = (ordl hs o).map strip := by
 have p1 : List.Perm ((ordl hs o).map strip) (hs.map strip) := (ordl_perm H).map strip
 have p2 : List.Perm ((ordl (List.zipWith bkd hs.reverse hs) o').map strip) (hs.map strip) := by
  have h := (ordl_perm K).map strip; rw [turn_strip (by simp), List.map_reverse] at h; exact h.trans (List.reverse_perm _)
 have q1 : ((ordl hs o).map strip).Pairwise fun a b => a.dy ≤ b.dy := List.pairwise_map.2 (ordl_rise H)
 have q2 : ((ordl (List.zipWith bkd hs.reverse hs) o').map strip).Pairwise fun a b => a.dy ≤ b.dy := List.pairwise_map.2 (ordl_rise K)
 refine List.Perm.eq_of_pairwise (le := fun a b : Ch => a.dy ≤ b.dy) (fun a b ha hb h1 h2 => ?_) q2 q1 (p2.trans p1.symm); obtain ⟨a', ha', rfl⟩ := List.mem_map.1 (p2.mem_iff.1 ha); obtain ⟨b', hb', rfl⟩ := List.mem_map.1 (p1.mem_iff.1 hb)
 have h3 : a'.dy = b'.dy := by
  have h1 : a'.dy ≤ b'.dy := h1; have h2 : b'.dy ≤ a'.dy := h2; omega
 rw [dy_one hp ha' hb' h3]
theorem turn_hrt {h x : Hi} (e1 : x.s = h.s) (e2 : x.r = h.r) (e3 : x.cs = h.cs) (e4 : x.hs = List.zipWith bkd h.hs.reverse h.hs) : hrt x = hrt h := by
 have hl : x.hs.length = h.hs.length := by rw [e4]; simp
 have hk : ∀ a b : Ch, (rch (bkd a b) && inn h.s (bkd a b).dy) = true ↔ (day b.bk = true ∧ (day a.dy = true ∧ fits a (pts a.kd) = true) ∧ inn h.s a.dy = true) := by
  intro a b; unfold rch; rw [Bool.and_eq_true, Bool.and_eq_true, Bool.and_eq_true]; show (day b.bk = true ∧ (day a.dy = true ∧ fits (bkd a b) (pts a.kd) = true)) ∧ inn h.s a.dy = true ↔ _
  rw [show fits (bkd a b) (pts a.kd) = fits a (pts a.kd) by cases pts a.kd with | none => rfl | some p => rfl]; exact and_assoc
 have hr : ∀ a : Ch, (rch a = true ∧ inn h.s a.dy = true) ↔ (day a.bk = true ∧ (day a.dy = true ∧ fits a (pts a.kd) = true) ∧ inn h.s a.dy = true) := by
  intro a; unfold rch; rw [Bool.and_eq_true, Bool.and_eq_true]; exact and_assoc
 have key : (∀ c ∈ x.hs, rch c = true ∧ inn x.s c.dy = true) ↔ (∀ c ∈ h.hs, rch c = true ∧ inn h.s c.dy = true) := by
  rw [e1, e4]
  have hget : ∀ i, i < h.hs.length → ∀ a b, h.hs[h.hs.length - 1 - i]? = some a → h.hs[i]? = some b → (List.zipWith bkd h.hs.reverse h.hs)[i]? = some (bkd a b) := by
   intro i hi a b ha hb; rw [List.getElem?_zipWith, List.getElem?_reverse hi, ha, hb]
  constructor
  ·intro H c hc; obtain ⟨i, hi, rfl⟩ := List.mem_iff_getElem.1 hc; have g1 := hget i hi _ _ (List.getElem?_eq_getElem (by omega)) (List.getElem?_eq_getElem hi); have g2 := hget (h.hs.length - 1 - i) (by omega) h.hs[i] (h.hs[h.hs.length - 1 - i]'(by omega)) (by rw [show h.hs.length - 1 - (h.hs.length - 1 - i) = i by omega]; exact List.getElem?_eq_getElem hi) (List.getElem?_eq_getElem (by omega)); have k1 := H _ (List.mem_of_getElem? g1); have k2 := H _ (List.mem_of_getElem? g2); rw [← Bool.and_eq_true, hk] at k1 k2; exact (hr _).2 ⟨k1.1, k2.2.1, k2.2.2⟩
  ·intro H c hc; obtain ⟨i, hi, rfl⟩ := List.mem_iff_getElem.1 hc; have hi2 : i < h.hs.length := by simpa using hi
   have g1 := hget i hi2 _ _ (List.getElem?_eq_getElem (by omega)) (List.getElem?_eq_getElem hi2); have k1 := (hr _).1 (H _ (List.getElem_mem hi2)); have k2 := (hr _).1 (H (h.hs[h.hs.length - 1 - i]'(by omega)) (List.getElem_mem _))
   have e : (List.zipWith bkd h.hs.reverse h.hs)[i] = bkd (h.hs[h.hs.length - 1 - i]'(by omega)) h.hs[i] := by
    rw [List.getElem?_eq_getElem hi] at g1; exact Option.some.inj g1
   rw [e, ← Bool.and_eq_true, hk]; exact ⟨k1.1, k2.2.1, k2.2.2⟩
 rw [Bool.eq_iff_iff, hrt_iff, hrt_iff, key, hl, e1, e2, e3]
theorem OfIs.turn {h x : Hi} {vs : List Ve} {c1 c2 : Int} {s1 s2 : List Sc} (H : OfIs h vs c1 s1) (K : OfIs x vs c2 s2) (hp : h.hs.Pairwise fun a b => a.dy ≠ b.dy) (e1 : x.s = h.s) (e2 : x.r = h.r) (e3 : x.cs = h.cs) (e4 : x.hs = List.zipWith bkd h.hs.reverse h.hs) : c1 = c2 ∧ s1 = s2 := by
 have hh := turn_hrt e1 e2 e3 e4; refine H.one ?_; cases K with
 | wrong k0 k1 k2 => exact .wrong (by rw [← hh]; exact k0) k1 k2
 | none k0 k1 k2 k3 => rw [e1] at k1 k2; exact .none (by rw [← hh]; exact k0) k1 k2 k3
 | some k0 k1 o' L' k2 k3 k4 k5 =>
  rw [e1] at k1 k3 k4 k5; cases H with
  | wrong h0 h1 h2 => rw [hh, h0] at k0; cases k0
  | none h0 h1 h2 h3 => exact absurd k1 h1
  | some h0 h1 o L h2 h3 h4 h5 =>
   refine .some h0 h1 o L' h2 (k3.congr fun d _ _ => ?_) k4 k5; have e := turn_ordl hp h2 (by rw [← e4]; exact k2); rw [← hld_strip (ini x), ← hld_strip (ini h), e4, e, show ini x = ini h by unfold ini; rw [e2, e3]]
end Slc
end Go.Proofs.YtbjnjeidgdmdiaaGreat
