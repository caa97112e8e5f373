/-
  Two changes of nine cells swapped in a row. Conditions: those of each theorem.
-/
import Derived.Test.YtcnlllamldlnmaaTurn
import Derived.Laws.IdiomCopy
namespace Go.Proofs.Ytcnlllamldlnmaa
open Go.RowKit Ba Cv Sp Te Ag
namespace Tm
set_option linter.unusedVariables false

theorem sets_cells (b : Nat) : ∀ (l : List Value) (o : Nat) (w : World), sets b o l w = w.setCells b o l := by
  intro l
  induction l with
  | nil => intro o w; rfl
  | cons v l ih => intro o w; rw [sets, World.setCells, ih]
theorem put_raws {w : World} {ok : Nat → Prop} {g n i : Nat} {rs : List Rw} (r : Rw) (h : Raws w ok (some ⟨g, 0, none⟩) n rs) (hi : i < n) {ls : List Value} (hls : cl r = ls) : Raws (sets g (i * 9) ls w) ok (some ⟨g, 0, none⟩) n (rs.set i r) := by
  obtain ⟨ad, e, hb, hc⟩ := h.2 (by omega)
  injection e with e
  subst e
  rw [sets_cells]
  have h9 : ls.length = 9 := by rw [← hls]; rfl
  refine ⟨by rw [List.length_set]; exact h.1, fun _ => ⟨_, rfl, hb, fun j x hj => ?_⟩⟩
  refine nin_of fun o u hu => ?_
  rw [Addr.add_lit, Nat.zero_add]
  have ho : o < 9 := (List.getElem?_eq_some_iff.1 hu).1
  have hl := h.1
  by_cases hij : i = j
  · subst hij
    rw [List.getElem?_set_self (by omega)] at hj
    injection hj with hj
    subst hj
    have h0 : rs[i]? = some rs[i] := List.getElem?_eq_getElem (by omega)
    have hin := World.cell?_setCells_in g ls (i * 9) w (fun q hq => by
      have hq9 : q < (cl rs[i]).length := by show q < 9; omega
      have := nin_back (hc i _ h0) q _ (List.getElem?_eq_getElem hq9)
      rw [Addr.add_lit, Nat.zero_add] at this
      rw [this]; rfl) o (by omega)
    rw [hin]
    rw [hls] at hu
    rw [List.getElem?_eq_getElem (by omega)] at hu
    exact hu
  · rw [List.getElem?_set_ne hij] at hj
    rw [World.cell?_setCells_out g _ _ _ _ (fun _ _ => by show j * 9 + o < i * 9 ∨ i * 9 + ls.length ≤ j * 9 + o; omega)]
    have := nin_back (hc j x hj) o u hu
    rwa [Addr.add_lit, Nat.zero_add] at this
theorem swap_raws {w : World} {ok : Nat → Prop} {g n k k1 : Nat} {rs : List Rw} {r1 r2 : Rw} (h : Raws w ok (some ⟨g, 0, none⟩) n rs) (hk : k + 1 = k1) (h1 : k1 < n) : Raws (sets g (k1 * 9) (cl r1) (sets g (k * 9) (cl r2) w)) ok (some ⟨g, 0, none⟩) n (sw rs k r1 r2) := by
  subst hk
  exact put_raws r1 (put_raws r2 h (by omega) rfl) h1 rfl
structure RSw (W6 : World) (p g m c k k1 : Nat) (r1 r2 : Rw) (L : Nat → Bool) (w' : World) (v47 v48 v49 v50 v51 v52 v53 v54 v55 v56 v57 v58 v59 v60 v61 v62 v63 v64 v65 v66 : Value) : Prop where
  w0 : L 19 = false → w' = W6
  w1 : L 19 = true → L 21 = false → w' = sets g (k * 9) (cl r2) W6
  w2 : L 21 = true → w' = sets g (k1 * 9) (cl r1) (sets g (k * 9) (cl r2) W6)
  d : L 21 = true → L 19 = true
  d12 : L 19 = true → L 12 = true
  d17 : L 19 = true → L 17 = true
  f0 : L 0 = true → v47 = .pointer (some ⟨p, 9, none⟩)
  f1 : L 1 = true → v48 = .slice (some ⟨g, 0, none⟩) m c
  f2 : L 2 = true → v49 = .int .i64 (k : Int)
  f3 : L 3 = true → v50 = .pointer (some ⟨p, 9, none⟩)
  f4 : L 4 = true → v51 = .slice (some ⟨g, 0, none⟩) m c
  f5 : L 5 = true → v52 = .int .i64 (k : Int)
  f6 : L 6 = true → v53 = .int .i64 (k1 : Int)
  f7 : L 7 = true → v54 = .pointer (some ⟨p, 9, none⟩)
  f8 : L 8 = true → v55 = .slice (some ⟨g, 0, none⟩) m c
  f9 : L 9 = true → v56 = .int .i64 (k : Int)
  f10 : L 10 = true → v57 = .int .i64 (k1 : Int)
  f11 : L 11 = true → v58 = .pointer (some ⟨g, k1 * 9, none⟩)
  f12 : L 12 = true → v59 = vg r2
  f13 : L 13 = true → v60 = .pointer (some ⟨p, 9, none⟩)
  f14 : L 14 = true → v61 = .slice (some ⟨g, 0, none⟩) m c
  f15 : L 15 = true → v62 = .int .i64 (k : Int)
  f16 : L 16 = true → v63 = .pointer (some ⟨g, k * 9, none⟩)
  f17 : L 17 = true → v64 = vg r1
  f18 : L 18 = true → v65 = .pointer (some ⟨g, k * 9, none⟩)
  f20 : L 20 = true → v66 = .pointer (some ⟨g, k1 * 9, none⟩)
theorem RSw.s0 {W6 : World} {p g m c k k1 : Nat} {r1 r2 : Rw} {L : Nat → Bool} {w' : World} {v47 v48 v49 v50 v51 v52 v53 v54 v55 v56 v57 v58 v59 v60 v61 v62 v63 v64 v65 v66 : Value} (H : RSw W6 p g m c k k1 r1 r2 L w' v47 v48 v49 v50 v51 v52 v53 v54 v55 v56 v57 v58 v59 v60 v61 v62 v63 v64 v65 v66) : RSw W6 p g m c k k1 r1 r2 (fun j => j == 0 || L j) w' (.pointer (some ⟨p, 9, none⟩)) v48 v49 v50 v51 v52 v53 v54 v55 v56 v57 v58 v59 v60 v61 v62 v63 v64 v65 v66 := ⟨H.w0, H.w1, H.w2, H.d, H.d12, H.d17, fun _ => rfl, H.f1, H.f2, H.f3, H.f4, H.f5, H.f6, H.f7, H.f8, H.f9, H.f10, H.f11, H.f12, H.f13, H.f14, H.f15, H.f16, H.f17, H.f18, H.f20⟩
theorem RSw.s1 {W6 : World} {p g m c k k1 : Nat} {r1 r2 : Rw} {L : Nat → Bool} {w' : World} {v47 v48 v49 v50 v51 v52 v53 v54 v55 v56 v57 v58 v59 v60 v61 v62 v63 v64 v65 v66 : Value} (H : RSw W6 p g m c k k1 r1 r2 L w' v47 v48 v49 v50 v51 v52 v53 v54 v55 v56 v57 v58 v59 v60 v61 v62 v63 v64 v65 v66) : RSw W6 p g m c k k1 r1 r2 (fun j => j == 1 || L j) w' v47 (.slice (some ⟨g, 0, none⟩) m c) v49 v50 v51 v52 v53 v54 v55 v56 v57 v58 v59 v60 v61 v62 v63 v64 v65 v66 := ⟨H.w0, H.w1, H.w2, H.d, H.d12, H.d17, H.f0, fun _ => rfl, H.f2, H.f3, H.f4, H.f5, H.f6, H.f7, H.f8, H.f9, H.f10, H.f11, H.f12, H.f13, H.f14, H.f15, H.f16, H.f17, H.f18, H.f20⟩
theorem RSw.s2 {W6 : World} {p g m c k k1 : Nat} {r1 r2 : Rw} {L : Nat → Bool} {w' : World} {v47 v48 v49 v50 v51 v52 v53 v54 v55 v56 v57 v58 v59 v60 v61 v62 v63 v64 v65 v66 : Value} (H : RSw W6 p g m c k k1 r1 r2 L w' v47 v48 v49 v50 v51 v52 v53 v54 v55 v56 v57 v58 v59 v60 v61 v62 v63 v64 v65 v66) : RSw W6 p g m c k k1 r1 r2 (fun j => j == 2 || L j) w' v47 v48 (.int .i64 (k : Int)) v50 v51 v52 v53 v54 v55 v56 v57 v58 v59 v60 v61 v62 v63 v64 v65 v66 := ⟨H.w0, H.w1, H.w2, H.d, H.d12, H.d17, H.f0, H.f1, fun _ => rfl, H.f3, H.f4, H.f5, H.f6, H.f7, H.f8, H.f9, H.f10, H.f11, H.f12, H.f13, H.f14, H.f15, H.f16, H.f17, H.f18, H.f20⟩
theorem RSw.s3 {W6 : World} {p g m c k k1 : Nat} {r1 r2 : Rw} {L : Nat → Bool} {w' : World} {v47 v48 v49 v50 v51 v52 v53 v54 v55 v56 v57 v58 v59 v60 v61 v62 v63 v64 v65 v66 : Value} (H : RSw W6 p g m c k k1 r1 r2 L w' v47 v48 v49 v50 v51 v52 v53 v54 v55 v56 v57 v58 v59 v60 v61 v62 v63 v64 v65 v66) : RSw W6 p g m c k k1 r1 r2 (fun j => j == 3 || L j) w' v47 v48 v49 (.pointer (some ⟨p, 9, none⟩)) v51 v52 v53 v54 v55 v56 v57 v58 v59 v60 v61 v62 v63 v64 v65 v66 := ⟨H.w0, H.w1, H.w2, H.d, H.d12, H.d17, H.f0, H.f1, H.f2, fun _ => rfl, H.f4, H.f5, H.f6, H.f7, H.f8, H.f9, H.f10, H.f11, H.f12, H.f13, H.f14, H.f15, H.f16, H.f17, H.f18, H.f20⟩
theorem RSw.s4 {W6 : World} {p g m c k k1 : Nat} {r1 r2 : Rw} {L : Nat → Bool} {w' : World} {v47 v48 v49 v50 v51 v52 v53 v54 v55 v56 v57 v58 v59 v60 v61 v62 v63 v64 v65 v66 : Value} (H : RSw W6 p g m c k k1 r1 r2 L w' v47 v48 v49 v50 v51 v52 v53 v54 v55 v56 v57 v58 v59 v60 v61 v62 v63 v64 v65 v66) : RSw W6 p g m c k k1 r1 r2 (fun j => j == 4 || L j) w' v47 v48 v49 v50 (.slice (some ⟨g, 0, none⟩) m c) v52 v53 v54 v55 v56 v57 v58 v59 v60 v61 v62 v63 v64 v65 v66 := ⟨H.w0, H.w1, H.w2, H.d, H.d12, H.d17, H.f0, H.f1, H.f2, H.f3, fun _ => rfl, H.f5, H.f6, H.f7, H.f8, H.f9, H.f10, H.f11, H.f12, H.f13, H.f14, H.f15, H.f16, H.f17, H.f18, H.f20⟩
theorem RSw.s5 {W6 : World} {p g m c k k1 : Nat} {r1 r2 : Rw} {L : Nat → Bool} {w' : World} {v47 v48 v49 v50 v51 v52 v53 v54 v55 v56 v57 v58 v59 v60 v61 v62 v63 v64 v65 v66 : Value} (H : RSw W6 p g m c k k1 r1 r2 L w' v47 v48 v49 v50 v51 v52 v53 v54 v55 v56 v57 v58 v59 v60 v61 v62 v63 v64 v65 v66) : RSw W6 p g m c k k1 r1 r2 (fun j => j == 5 || L j) w' v47 v48 v49 v50 v51 (.int .i64 (k : Int)) v53 v54 v55 v56 v57 v58 v59 v60 v61 v62 v63 v64 v65 v66 := ⟨H.w0, H.w1, H.w2, H.d, H.d12, H.d17, H.f0, H.f1, H.f2, H.f3, H.f4, fun _ => rfl, H.f6, H.f7, H.f8, H.f9, H.f10, H.f11, H.f12, H.f13, H.f14, H.f15, H.f16, H.f17, H.f18, H.f20⟩
theorem RSw.s6 {W6 : World} {p g m c k k1 : Nat} {r1 r2 : Rw} {L : Nat → Bool} {w' : World} {v47 v48 v49 v50 v51 v52 v53 v54 v55 v56 v57 v58 v59 v60 v61 v62 v63 v64 v65 v66 : Value} (H : RSw W6 p g m c k k1 r1 r2 L w' v47 v48 v49 v50 v51 v52 v53 v54 v55 v56 v57 v58 v59 v60 v61 v62 v63 v64 v65 v66) : RSw W6 p g m c k k1 r1 r2 (fun j => j == 6 || L j) w' v47 v48 v49 v50 v51 v52 (.int .i64 (k1 : Int)) v54 v55 v56 v57 v58 v59 v60 v61 v62 v63 v64 v65 v66 := ⟨H.w0, H.w1, H.w2, H.d, H.d12, H.d17, H.f0, H.f1, H.f2, H.f3, H.f4, H.f5, fun _ => rfl, H.f7, H.f8, H.f9, H.f10, H.f11, H.f12, H.f13, H.f14, H.f15, H.f16, H.f17, H.f18, H.f20⟩
theorem RSw.s7 {W6 : World} {p g m c k k1 : Nat} {r1 r2 : Rw} {L : Nat → Bool} {w' : World} {v47 v48 v49 v50 v51 v52 v53 v54 v55 v56 v57 v58 v59 v60 v61 v62 v63 v64 v65 v66 : Value} (H : RSw W6 p g m c k k1 r1 r2 L w' v47 v48 v49 v50 v51 v52 v53 v54 v55 v56 v57 v58 v59 v60 v61 v62 v63 v64 v65 v66) : RSw W6 p g m c k k1 r1 r2 (fun j => j == 7 || L j) w' v47 v48 v49 v50 v51 v52 v53 (.pointer (some ⟨p, 9, none⟩)) v55 v56 v57 v58 v59 v60 v61 v62 v63 v64 v65 v66 := ⟨H.w0, H.w1, H.w2, H.d, H.d12, H.d17, H.f0, H.f1, H.f2, H.f3, H.f4, H.f5, H.f6, fun _ => rfl, H.f8, H.f9, H.f10, H.f11, H.f12, H.f13, H.f14, H.f15, H.f16, H.f17, H.f18, H.f20⟩
theorem RSw.s8 {W6 : World} {p g m c k k1 : Nat} {r1 r2 : Rw} {L : Nat → Bool} {w' : World} {v47 v48 v49 v50 v51 v52 v53 v54 v55 v56 v57 v58 v59 v60 v61 v62 v63 v64 v65 v66 : Value} (H : RSw W6 p g m c k k1 r1 r2 L w' v47 v48 v49 v50 v51 v52 v53 v54 v55 v56 v57 v58 v59 v60 v61 v62 v63 v64 v65 v66) : RSw W6 p g m c k k1 r1 r2 (fun j => j == 8 || L j) w' v47 v48 v49 v50 v51 v52 v53 v54 (.slice (some ⟨g, 0, none⟩) m c) v56 v57 v58 v59 v60 v61 v62 v63 v64 v65 v66 := ⟨H.w0, H.w1, H.w2, H.d, H.d12, H.d17, H.f0, H.f1, H.f2, H.f3, H.f4, H.f5, H.f6, H.f7, fun _ => rfl, H.f9, H.f10, H.f11, H.f12, H.f13, H.f14, H.f15, H.f16, H.f17, H.f18, H.f20⟩
theorem RSw.s9 {W6 : World} {p g m c k k1 : Nat} {r1 r2 : Rw} {L : Nat → Bool} {w' : World} {v47 v48 v49 v50 v51 v52 v53 v54 v55 v56 v57 v58 v59 v60 v61 v62 v63 v64 v65 v66 : Value} (H : RSw W6 p g m c k k1 r1 r2 L w' v47 v48 v49 v50 v51 v52 v53 v54 v55 v56 v57 v58 v59 v60 v61 v62 v63 v64 v65 v66) : RSw W6 p g m c k k1 r1 r2 (fun j => j == 9 || L j) w' v47 v48 v49 v50 v51 v52 v53 v54 v55 (.int .i64 (k : Int)) v57 v58 v59 v60 v61 v62 v63 v64 v65 v66 := ⟨H.w0, H.w1, H.w2, H.d, H.d12, H.d17, H.f0, H.f1, H.f2, H.f3, H.f4, H.f5, H.f6, H.f7, H.f8, fun _ => rfl, H.f10, H.f11, H.f12, H.f13, H.f14, H.f15, H.f16, H.f17, H.f18, H.f20⟩
theorem RSw.s10 {W6 : World} {p g m c k k1 : Nat} {r1 r2 : Rw} {L : Nat → Bool} {w' : World} {v47 v48 v49 v50 v51 v52 v53 v54 v55 v56 v57 v58 v59 v60 v61 v62 v63 v64 v65 v66 : Value} (H : RSw W6 p g m c k k1 r1 r2 L w' v47 v48 v49 v50 v51 v52 v53 v54 v55 v56 v57 v58 v59 v60 v61 v62 v63 v64 v65 v66) : RSw W6 p g m c k k1 r1 r2 (fun j => j == 10 || L j) w' v47 v48 v49 v50 v51 v52 v53 v54 v55 v56 (.int .i64 (k1 : Int)) v58 v59 v60 v61 v62 v63 v64 v65 v66 := ⟨H.w0, H.w1, H.w2, H.d, H.d12, H.d17, H.f0, H.f1, H.f2, H.f3, H.f4, H.f5, H.f6, H.f7, H.f8, H.f9, fun _ => rfl, H.f11, H.f12, H.f13, H.f14, H.f15, H.f16, H.f17, H.f18, H.f20⟩
theorem RSw.s11 {W6 : World} {p g m c k k1 : Nat} {r1 r2 : Rw} {L : Nat → Bool} {w' : World} {v47 v48 v49 v50 v51 v52 v53 v54 v55 v56 v57 v58 v59 v60 v61 v62 v63 v64 v65 v66 : Value} (H : RSw W6 p g m c k k1 r1 r2 L w' v47 v48 v49 v50 v51 v52 v53 v54 v55 v56 v57 v58 v59 v60 v61 v62 v63 v64 v65 v66) : RSw W6 p g m c k k1 r1 r2 (fun j => j == 11 || L j) w' v47 v48 v49 v50 v51 v52 v53 v54 v55 v56 v57 (.pointer (some ⟨g, k1 * 9, none⟩)) v59 v60 v61 v62 v63 v64 v65 v66 := ⟨H.w0, H.w1, H.w2, H.d, H.d12, H.d17, H.f0, H.f1, H.f2, H.f3, H.f4, H.f5, H.f6, H.f7, H.f8, H.f9, H.f10, fun _ => rfl, H.f12, H.f13, H.f14, H.f15, H.f16, H.f17, H.f18, H.f20⟩
theorem RSw.s12 {W6 : World} {p g m c k k1 : Nat} {r1 r2 : Rw} {L : Nat → Bool} {w' : World} {v47 v48 v49 v50 v51 v52 v53 v54 v55 v56 v57 v58 v59 v60 v61 v62 v63 v64 v65 v66 : Value} (H : RSw W6 p g m c k k1 r1 r2 L w' v47 v48 v49 v50 v51 v52 v53 v54 v55 v56 v57 v58 v59 v60 v61 v62 v63 v64 v65 v66) : RSw W6 p g m c k k1 r1 r2 (fun j => j == 12 || L j) w' v47 v48 v49 v50 v51 v52 v53 v54 v55 v56 v57 v58 (vg r2) v60 v61 v62 v63 v64 v65 v66 := ⟨H.w0, H.w1, H.w2, H.d, fun _ => rfl, H.d17, H.f0, H.f1, H.f2, H.f3, H.f4, H.f5, H.f6, H.f7, H.f8, H.f9, H.f10, H.f11, fun _ => rfl, H.f13, H.f14, H.f15, H.f16, H.f17, H.f18, H.f20⟩
theorem RSw.s13 {W6 : World} {p g m c k k1 : Nat} {r1 r2 : Rw} {L : Nat → Bool} {w' : World} {v47 v48 v49 v50 v51 v52 v53 v54 v55 v56 v57 v58 v59 v60 v61 v62 v63 v64 v65 v66 : Value} (H : RSw W6 p g m c k k1 r1 r2 L w' v47 v48 v49 v50 v51 v52 v53 v54 v55 v56 v57 v58 v59 v60 v61 v62 v63 v64 v65 v66) : RSw W6 p g m c k k1 r1 r2 (fun j => j == 13 || L j) w' v47 v48 v49 v50 v51 v52 v53 v54 v55 v56 v57 v58 v59 (.pointer (some ⟨p, 9, none⟩)) v61 v62 v63 v64 v65 v66 := ⟨H.w0, H.w1, H.w2, H.d, H.d12, H.d17, H.f0, H.f1, H.f2, H.f3, H.f4, H.f5, H.f6, H.f7, H.f8, H.f9, H.f10, H.f11, H.f12, fun _ => rfl, H.f14, H.f15, H.f16, H.f17, H.f18, H.f20⟩
theorem RSw.s14 {W6 : World} {p g m c k k1 : Nat} {r1 r2 : Rw} {L : Nat → Bool} {w' : World} {v47 v48 v49 v50 v51 v52 v53 v54 v55 v56 v57 v58 v59 v60 v61 v62 v63 v64 v65 v66 : Value} (H : RSw W6 p g m c k k1 r1 r2 L w' v47 v48 v49 v50 v51 v52 v53 v54 v55 v56 v57 v58 v59 v60 v61 v62 v63 v64 v65 v66) : RSw W6 p g m c k k1 r1 r2 (fun j => j == 14 || L j) w' v47 v48 v49 v50 v51 v52 v53 v54 v55 v56 v57 v58 v59 v60 (.slice (some ⟨g, 0, none⟩) m c) v62 v63 v64 v65 v66 := ⟨H.w0, H.w1, H.w2, H.d, H.d12, H.d17, H.f0, H.f1, H.f2, H.f3, H.f4, H.f5, H.f6, H.f7, H.f8, H.f9, H.f10, H.f11, H.f12, H.f13, fun _ => rfl, H.f15, H.f16, H.f17, H.f18, H.f20⟩
theorem RSw.s15 {W6 : World} {p g m c k k1 : Nat} {r1 r2 : Rw} {L : Nat → Bool} {w' : World} {v47 v48 v49 v50 v51 v52 v53 v54 v55 v56 v57 v58 v59 v60 v61 v62 v63 v64 v65 v66 : Value} (H : RSw W6 p g m c k k1 r1 r2 L w' v47 v48 v49 v50 v51 v52 v53 v54 v55 v56 v57 v58 v59 v60 v61 v62 v63 v64 v65 v66) : RSw W6 p g m c k k1 r1 r2 (fun j => j == 15 || L j) w' v47 v48 v49 v50 v51 v52 v53 v54 v55 v56 v57 v58 v59 v60 v61 (.int .i64 (k : Int)) v63 v64 v65 v66 := ⟨H.w0, H.w1, H.w2, H.d, H.d12, H.d17, H.f0, H.f1, H.f2, H.f3, H.f4, H.f5, H.f6, H.f7, H.f8, H.f9, H.f10, H.f11, H.f12, H.f13, H.f14, fun _ => rfl, H.f16, H.f17, H.f18, H.f20⟩
theorem RSw.s16 {W6 : World} {p g m c k k1 : Nat} {r1 r2 : Rw} {L : Nat → Bool} {w' : World} {v47 v48 v49 v50 v51 v52 v53 v54 v55 v56 v57 v58 v59 v60 v61 v62 v63 v64 v65 v66 : Value} (H : RSw W6 p g m c k k1 r1 r2 L w' v47 v48 v49 v50 v51 v52 v53 v54 v55 v56 v57 v58 v59 v60 v61 v62 v63 v64 v65 v66) : RSw W6 p g m c k k1 r1 r2 (fun j => j == 16 || L j) w' v47 v48 v49 v50 v51 v52 v53 v54 v55 v56 v57 v58 v59 v60 v61 v62 (.pointer (some ⟨g, k * 9, none⟩)) v64 v65 v66 := ⟨H.w0, H.w1, H.w2, H.d, H.d12, H.d17, H.f0, H.f1, H.f2, H.f3, H.f4, H.f5, H.f6, H.f7, H.f8, H.f9, H.f10, H.f11, H.f12, H.f13, H.f14, H.f15, fun _ => rfl, H.f17, H.f18, H.f20⟩
theorem RSw.s17 {W6 : World} {p g m c k k1 : Nat} {r1 r2 : Rw} {L : Nat → Bool} {w' : World} {v47 v48 v49 v50 v51 v52 v53 v54 v55 v56 v57 v58 v59 v60 v61 v62 v63 v64 v65 v66 : Value} (H : RSw W6 p g m c k k1 r1 r2 L w' v47 v48 v49 v50 v51 v52 v53 v54 v55 v56 v57 v58 v59 v60 v61 v62 v63 v64 v65 v66) : RSw W6 p g m c k k1 r1 r2 (fun j => j == 17 || L j) w' v47 v48 v49 v50 v51 v52 v53 v54 v55 v56 v57 v58 v59 v60 v61 v62 v63 (vg r1) v65 v66 := ⟨H.w0, H.w1, H.w2, H.d, H.d12, fun _ => rfl, H.f0, H.f1, H.f2, H.f3, H.f4, H.f5, H.f6, H.f7, H.f8, H.f9, H.f10, H.f11, H.f12, H.f13, H.f14, H.f15, H.f16, fun _ => rfl, H.f18, H.f20⟩
theorem RSw.s18 {W6 : World} {p g m c k k1 : Nat} {r1 r2 : Rw} {L : Nat → Bool} {w' : World} {v47 v48 v49 v50 v51 v52 v53 v54 v55 v56 v57 v58 v59 v60 v61 v62 v63 v64 v65 v66 : Value} (H : RSw W6 p g m c k k1 r1 r2 L w' v47 v48 v49 v50 v51 v52 v53 v54 v55 v56 v57 v58 v59 v60 v61 v62 v63 v64 v65 v66) : RSw W6 p g m c k k1 r1 r2 (fun j => j == 18 || L j) w' v47 v48 v49 v50 v51 v52 v53 v54 v55 v56 v57 v58 v59 v60 v61 v62 v63 v64 (.pointer (some ⟨g, k * 9, none⟩)) v66 := ⟨H.w0, H.w1, H.w2, H.d, H.d12, H.d17, H.f0, H.f1, H.f2, H.f3, H.f4, H.f5, H.f6, H.f7, H.f8, H.f9, H.f10, H.f11, H.f12, H.f13, H.f14, H.f15, H.f16, H.f17, fun _ => rfl, H.f20⟩
theorem RSw.s20 {W6 : World} {p g m c k k1 : Nat} {r1 r2 : Rw} {L : Nat → Bool} {w' : World} {v47 v48 v49 v50 v51 v52 v53 v54 v55 v56 v57 v58 v59 v60 v61 v62 v63 v64 v65 v66 : Value} (H : RSw W6 p g m c k k1 r1 r2 L w' v47 v48 v49 v50 v51 v52 v53 v54 v55 v56 v57 v58 v59 v60 v61 v62 v63 v64 v65 v66) : RSw W6 p g m c k k1 r1 r2 (fun j => j == 20 || L j) w' v47 v48 v49 v50 v51 v52 v53 v54 v55 v56 v57 v58 v59 v60 v61 v62 v63 v64 v65 (.pointer (some ⟨g, k1 * 9, none⟩)) := ⟨H.w0, H.w1, H.w2, H.d, H.d12, H.d17, H.f0, H.f1, H.f2, H.f3, H.f4, H.f5, H.f6, H.f7, H.f8, H.f9, H.f10, H.f11, H.f12, H.f13, H.f14, H.f15, H.f16, H.f17, H.f18, fun _ => rfl⟩
section
variable {W6 : World} {p g m c k k1 : Nat} {r1 r2 : Rw} {L : Nat → Bool} {w' : World} {v47 v48 v49 v50 v51 v52 v53 v54 v55 v56 v57 v58 v59 v60 v61 v62 v63 v64 v65 v66 : Value}
theorem RSw.box (H : RSw W6 p g m c k k1 r1 r2 L w' v47 v48 v49 v50 v51 v52 v53 v54 v55 v56 v57 v58 v59 v60 v61 v62 v63 v64 v65 v66) (hp : p ≠ g) (q : Addr) (hq : q.block = p) : w'.cell? q = W6.cell? q := by
  cases h1 : L 19
  · rw [H.w0 h1]
  · cases h2 : L 21
    · rw [H.w1 h1 h2]; exact sets_other _ (by rw [hq]; exact hp) _ _
    · rw [H.w2 h2, sets_other _ (by rw [hq]; exact hp), sets_other _ (by rw [hq]; exact hp)]
theorem RSw.s19 (H : RSw W6 p g m c k k1 r1 r2 L w' v47 v48 v49 v50 v51 v52 v53 v54 v55 v56 v57 v58 v59 v60 v61 v62 v63 v64 v65 v66) (h : L 19 = false) (h12 : L 12 = true) (h17 : L 17 = true) : RSw W6 p g m c k k1 r1 r2 (fun j => j == 19 || L j) (sets g (k * 9) (cl r2) w') v47 v48 v49 v50 v51 v52 v53 v54 v55 v56 v57 v58 v59 v60 v61 v62 v63 v64 v65 v66 := by
  have h21 : L 21 = false := by
    cases h2 : L 21
    · rfl
    · rw [H.d h2] at h; cases h
  have e := H.w0 h
  subst e
  exact ⟨(fun l => by cases l), fun _ _ => rfl, (fun l => by have l' : L 21 = true := l; rw [h21] at l'; cases l'), fun _ => rfl, fun _ => h12, fun _ => h17, H.f0, H.f1, H.f2, H.f3, H.f4, H.f5, H.f6, H.f7, H.f8, H.f9, H.f10, H.f11, H.f12, H.f13, H.f14, H.f15, H.f16, H.f17, H.f18, H.f20⟩
theorem RSw.s21 (H : RSw W6 p g m c k k1 r1 r2 L w' v47 v48 v49 v50 v51 v52 v53 v54 v55 v56 v57 v58 v59 v60 v61 v62 v63 v64 v65 v66) (h : L 21 = false) (h19 : L 19 = true) : RSw W6 p g m c k k1 r1 r2 (fun j => j == 21 || L j) (sets g (k1 * 9) (cl r1) w') v47 v48 v49 v50 v51 v52 v53 v54 v55 v56 v57 v58 v59 v60 v61 v62 v63 v64 v65 v66 := by
  have e := H.w1 h19 h
  subst e
  exact ⟨(fun l => by have l' : L 19 = false := l; rw [h19] at l'; cases l'), (fun _ l => by cases l), fun _ => rfl, fun _ => h19, H.d12, H.d17, H.f0, H.f1, H.f2, H.f3, H.f4, H.f5, H.f6, H.f7, H.f8, H.f9, H.f10, H.f11, H.f12, H.f13, H.f14, H.f15, H.f16, H.f17, H.f18, H.f20⟩
end

end Tm
end Go.Proofs.Ytcnlllamldlnmaa
