/-
  Calls over steps that were made, as the laws' last statements make them. Conditions: those of each theorem.
-/
import Derived.Test.YtngpcabengmoiaaGiven
namespace Go.Proofs.Ytngpcabengmoiaa
open Go.RowKit St
namespace Stp
set_option linter.unusedVariables false

theorem right_q (A : Option Addr) (L c : Nat) (V : Option Addr) (d : Nat) (qs : List Pr) (w : World) {W : World} (h : Mk W A V qs) (hl : qs.length = L) (hr : Right qs) (hL : L ≤ 200) (e : w.heap = W.heap := by rfl) :
    Calls Try.prog 10 #[sg A L c V L d] w fun e w' => e = .returned (.bool true) ∧ Below w.heap.size w w' := by
  subst hl
  have hc : ∀ p, w.cell? p = W.cell? p := fun p => World.cell?_of_block (by rw [e])
  have := right A qs.length c V qs.length d _ _ w ⟨(h.s.a.keep fun p _ => hc p).wide (by rw [e]; exact Nat.le_refl _), (h.s.v.keep fun p _ => hc p).wide (by rw [e]; exact Nat.le_refl _)⟩ (by omega)
  rwa [rg_of hr] at this
theorem at_q (A : Option Addr) (L c : Nat) (V : Option Addr) (d : Nat) (qs : List Pr) (x y : Int) (w : World) (h : Mk w A V qs) (hl : qs.length = L) (hr : Right qs) (hL : L ≤ 200) (hv : val 0 qs x = y) :
    Calls Try.prog 13 #[sg A L c V L d, .int .i64 x] w fun e w' => e = .returned (.int .i64 y) ∧ Below w.heap.size w w' := by
  subst hl hv
  exact at_yes A qs.length c V d qs x w h.s (by omega) hr
theorem set_q (A : Option Addr) (L c : Nat) (V : Option Addr) (d : Nat) (qs : List Pr) (s : Pr) (v : Int) (w : World) (h : Mk w A V qs) (hl : qs.length = L) (hr : Right qs) (hL : L ≤ 200) {rs : List Pr} (hs : setR qs s v = rs) :
    Calls Try.prog 14 #[sg A L c V L d, ag s, .int .i64 v] w (GivesB w rs) := by
  subst hl hs
  exact set_ A qs.length c V d qs s v w h.s (by omega) hr
theorem same_q (A : Option Addr) (c : Nat) (V : Option Addr) (d : Nat) (A2 : Option Addr) (L c2 : Nat) (V2 : Option Addr) (d2 : Nat) (qs : List Pr) (w : World) (h : Mk w A V qs) (h2 : Mk w A2 V2 qs) (hl : qs.length = L) (hL : L ≤ 200) :
    Calls Try.prog 9 #[sg A qs.length c V qs.length d, sg A2 L c2 V2 L d2] w fun e w' => e = .returned (.bool true) ∧ Below w.heap.size w w' := by
  subst hl
  exact same A qs.length c V qs.length d A2 c2 V2 d2 w.heap.size _ _ w (Nat.le_refl _) h.s h2.s (by omega) (by omega)

theorem set_p (A : Option Addr) (n c : Nat) (V : Option Addr) (d : Nat) (ps : List Pr) (s : Pr) (v : Int) (w : World) (hS : Sr w w.heap.size A V n ps) (hn : n ≤ 100) (h : Right ps) {rs : List Pr} (hs : setR ps s v = rs) :
    Calls Try.prog 14 #[sg A n c V n d, ag s, .int .i64 v] w (GivesB w rs) := by
  subst hs
  exact set_ A n c V d ps s v w hS (by omega) h

/-- A step that was made and boxed. -/
structure AP (W w : World) (b : Nat) (A : Option Addr) (c : Nat) (V : Option Addr) (d : Nat) (qs : List Pr) (L : Nat) : Prop where
  x : Bx w b 24 (.slice A L c) (.slice V L d)
  m : Mk w A V qs
  b : Below W.heap.size W w
theorem ap_new {W w : World} {A V : Option Addr} {c d L : Nat} {qs : List Pr} (hb : Below W.heap.size W w) (hm : Mk w A V qs) (hl : qs.length = L) : AP W (w.alloc (.cells #[.slice A qs.length c, .slice V qs.length d] 24)) w.heap.size A c V d qs L := by
  subst hl
  exact ⟨Bx.new _ _ _ _, hm.keep (al1 _ _), hb.alloc hb.size _⟩
theorem ap_set {W w : World} {b : Nat} {A V : Option Addr} {c d L : Nat} {qs : List Pr} {u v : Value} (hb : Below W.heap.size W w) (hm : Mk w A V qs) (hx : Bx w b 24 u v) (hW : W.heap.size ≤ b) (hO : ∃ base, OwnS w base A qs.length c V qs.length d (qs.map (·.1)) (qs.map (·.2))) (hl : qs.length = L) : AP W ((w.setCell ⟨b, 0, none⟩ (.slice A qs.length c)).setCell ⟨b, 1, none⟩ (.slice V qs.length d)) b A c V d qs L := by
  subst hl
  obtain ⟨base, hO⟩ := hO
  have ht : 24 ≠ 3 := by decide
  have O1 := hO.far (p := ⟨b, 0, none⟩) (hO.a.not_box hx ht) (hO.v.not_box hx ht) (.slice A qs.length c)
  have x1 := hx.set0 (.slice A qs.length c)
  have O2 := O1.far (p := ⟨b, 1, none⟩) (O1.a.not_box x1 ht) (O1.v.not_box x1 ht) (.slice V qs.length d)
  exact ⟨x1.set1 _, ⟨O2.sx⟩, (hb.setCell (p := ⟨b, 0, none⟩) hW _).setCell (p := ⟨b, 1, none⟩) hW _⟩

theorem same_r (A : Option Addr) (L1 c : Nat) (V : Option Addr) (d : Nat) (A2 : Option Addr) (L2 c2 : Nat) (V2 : Option Addr) (d2 : Nat) (qs : List Pr) (w : World) {W : World} (h : Mk W A V qs) (h2 : Mk W A2 V2 qs) (hl : qs.length = L1) (hl2 : qs.length = L2) (hL : L1 ≤ 200) (e : w.heap = W.heap) :
    Calls Try.prog 9 #[sg A L1 c V L1 d, sg A2 L2 c2 V2 L2 d2] w fun e w' => e = .returned (.bool true) ∧ Below w.heap.size w w' := by
  subst hl hl2
  have hc : ∀ p, w.cell? p = W.cell? p := fun p => World.cell?_of_block (by rw [e])
  have hw : W.heap.size ≤ w.heap.size := by rw [e]; exact Nat.le_refl _
  exact same A qs.length c V qs.length d A2 c2 V2 d2 W.heap.size _ _ w hw ⟨h.s.a.keep fun p _ => hc p, h.s.v.keep fun p _ => hc p⟩ ⟨h2.s.a.keep fun p _ => hc p, h2.s.v.keep fun p _ => hc p⟩ (by omega) (by omega)

/-- Rows of pieces that were made. -/
structure SpI (w : World) (A : Option Addr) (V : Option Addr) (N : Nat) (zs : List Pr) (vs : List Int) : Prop where
  mk ::
  s : Spans w w.heap.size A N zs
  v : Ints w w.heap.size V N vs
theorem SpI.keep {w w' : World} {A V : Option Addr} {N : Nat} {zs : List Pr} {vs : List Int} (h : SpI w A V N zs vs) (hb : Below w.heap.size w w') : SpI w' A V N zs vs := ⟨h.s.keep_ hb, (h.v.below hb (Nat.le_refl _)).wide hb.size⟩
theorem Ints.cell {w : World} {B n k : Nat} {ad : Addr} {xs : List Int} {x : Int} (h : Ints w B (some ad) n xs) (hx : xs[k]? = some x) : w.cell? (ad.add k) = some (.int .i64 x) := by
  have hl := (List.getElem?_eq_some_iff.1 hx).1
  obtain ⟨a', e, _, hc⟩ := h.2 (by have := h.1; omega)
  injection e with e
  subst e
  exact hc k x hx
def GivesL (w : World) (N : Nat) (zs : List Pr) (vs : List Int) (e : Ending) (w' : World) : Prop := ∃ A c V d, e = .returned (.tuple #[.slice A N c, .slice V N d]) ∧ Spans w' w'.heap.size A N zs ∧ Ints w' w'.heap.size V N vs ∧ Below w.heap.size w w'
theorem pieces_l (A : Option Addr) (n c : Nat) (V : Option Addr) (d : Nat) (ps : List Pr) (s : Pr) (w : World) (hS : Sr w w.heap.size A V n ps) (hn : n ≤ 100) (h : Right ps) (hs : full s = true) {zs : List Pr} {vs : List Int} {N : Nat} (hz : fr (cuts s ps) s.2 = zs) (hv : (cuts s ps).map (val 0 ps) = vs) (hN : (cuts s ps).length = N) :
    Calls Try.prog 24 #[sg A n c V n d, ag s] w (GivesL w N zs vs) := by
  subst hz hv hN
  exact pieces_yes A n c V d ps s w hS (by omega) h hs
theorem sum_l (A : Option Addr) (n c : Nat) (V : Option Addr) (d : Nat) (ps : List Pr) (s : Pr) (w : World) (hS : Sr w w.heap.size A V n ps) (hn : n ≤ 100) (h : Right ps) (hs : full s = true) {x e : Int} (hx : sv (pieces (val 0 ps) (cuts s ps) s.2) = x) (he : se (pieces (val 0 ps) (cuts s ps) s.2) = e) :
    Calls Try.prog 12 #[sg A n c V n d, ag s] w (GivesN w x e) := by
  subst hx he
  exact sum_yes A n c V d ps s w hS (by omega) h hs
theorem at_v (A : Option Addr) (n c : Nat) (V : Option Addr) (d : Nat) (ps : List Pr) (x y : Int) (w : World) (hS : Sr w w.heap.size A V n ps) (hn : n ≤ 100) (h : Right ps) (hv : val 0 ps x = y) :
    Calls Try.prog 13 #[sg A n c V n d, .int .i64 x] w fun e w' => e = .returned (.int .i64 y) ∧ Below w.heap.size w w' := by
  subst hv
  exact at_yes A n c V d ps x w hS (by omega) h

end Stp
end Go.Proofs.Ytngpcabengmoiaa
