/-
  Add of package step and the document's, by letters: what both give. Conditions: the rows read as lists of ints, of at most 400 places.
-/
import Derived.Test.YtngpcabengmoiaaAddY
namespace Go.Proofs.Ytngpcabengmoiaa
open Go.RowKit St
namespace Stp
set_option linter.unusedVariables false

set_option maxRecDepth 100000 in
set_option maxHeartbeats 2000000 in
theorem add_no (A : Option Addr) (n c : Nat) (V : Option Addr) (m d : Nat) (A2 : Option Addr) (n2 c2 : Nat) (V2 : Option Addr) (m2 d2 : Nat) (xs vs ys us : List Int) (w : World) (hS : Sx w w.heap.size A n V m xs vs) (hS2 : Sx w w.heap.size A2 n2 V2 m2 ys us) (hn : n ≤ 1000) (hn2 : n2 ≤ 1000) (b1 b2 : Bool) (h1 : rg xs vs = b1) (h2 : rg ys us = b2) (h : (!b1 || !b2) = true) :
    Calls Try.prog 7 #[sg A n c V m d, sg A2 n2 c2 V2 m2 d2] w (GivesAM w [] 1) := by
  have S0 : AB w (addW w A n c V m d A2 n2 c2 V2 m2 d2) A n c V m d A2 n2 c2 V2 m2 d2 := AB.new
  have C := Lib.hid (right A n c V m d xs vs _ ((hS.below S0.b (Nat.le_refl _)).wide S0.b.size) (by omega))
  rw [h1] at C
  have HS2 := Lib.hid hS2
  have HR2 := Lib.hid h2
  have HS := Lib.hid S0
  clear h1 h2 hS hS2 S0
  cases b1
  · go_enter Try.func7, Try.ntmps7
    go_wp2_with fail
    refine C.out.mono ?_
    rintro e w2 ⟨rfl, hb⟩
    have S2 := HS.out.keep hb
    have r0 := S2.r.c0
    have r1 := S2.r.c1
    have f0 := S2.r.f 0
    have f1 := S2.r.f 1
    have H2 := Lib.hid S2
    clear hb S2 HS C
    go_wp2
    have Z := (H2.out.r.set0 (.slice none 0 0)).set1 (.slice none 0 0)
    exact bodyPost_ret (v := .tuple #[sg none 0 0 none 0 0, .int .i64 1]) (by simp [results, Try.results7, go_sem, Z.c0, Z.c1]) rfl ⟨none, 0, none, 0, rfl, ⟨OwnS.nil.sx (w := _) (base := 0)⟩, (H2.out.b.setCell (p := ⟨w.heap.size + 1 + 1, 0, none⟩) (by simp <;> omega) _).setCell (p := ⟨w.heap.size + 1 + 1, 1, none⟩) (by simp <;> omega) _⟩
  · simp at h
    subst h
    go_enter Try.func7, Try.ntmps7
    go_wp2_with fail
    refine C.out.mono ?_
    rintro e w1 ⟨rfl, hb⟩
    have S1 := HS.out.keep hb
    have g0 := S1.g.c0
    have g1 := S1.g.c1
    have H1 := Lib.hid S1
    clear hb HS S1 C
    go_wp2_with fail
    refine (right A2 n2 c2 V2 m2 d2 ys us w1 ((HS2.out.below H1.out.b (Nat.le_refl _)).wide H1.out.b.size) (by omega)).mono ?_
    rintro e w2 ⟨rfl, hb⟩
    rw [HR2.out]
    have S2 := H1.out.keep hb
    have r0 := S2.r.c0
    have r1 := S2.r.c1
    have f0 := S2.r.f 0
    have f1 := S2.r.f 1
    have H2 := Lib.hid S2
    clear hb S2 g0 g1 H1
    go_wp2
    have Z := (H2.out.r.set0 (.slice none 0 0)).set1 (.slice none 0 0)
    exact bodyPost_ret (v := .tuple #[sg none 0 0 none 0 0, .int .i64 1]) (by simp [results, Try.results7, go_sem, Z.c0, Z.c1]) rfl ⟨none, 0, none, 0, rfl, ⟨OwnS.nil.sx (w := _) (base := 0)⟩, (H2.out.b.setCell (p := ⟨w.heap.size + 1 + 1, 0, none⟩) (by simp <;> omega) _).setCell (p := ⟨w.heap.size + 1 + 1, 1, none⟩) (by simp <;> omega) _⟩

/-- What Add gives, by letters. -/
def GivesAL (w : World) (L : Nat) (rs : List Pr) (er : Int) (e : Ending) (w' : World) : Prop := ∃ A c V d, e = .returned (.tuple #[sg A L c V L d, .int .i64 er]) ∧ Mk w' A V rs ∧ Below w.heap.size w w'
theorem al_of {w : World} {rs : List Pr} {er : Int} {e : Ending} {w' : World} {L : Nat} (hL : rs.length = L) (h : GivesAM w rs er e w') : GivesAL w L rs er e w' := by
  subst hL
  exact h
theorem am_of {w : World} {rs : List Pr} {er : Int} {e : Ending} {w' : World} (h : GivesA w rs er e w') : GivesAM w rs er e w' := by
  obtain ⟨A, c, V, d, h1, h2, h3⟩ := h
  exact ⟨A, c, V, d, h1, GivesB.mk_ h2, h3⟩
theorem addL_len {ps qs : List Pr} : (addL ps qs).length ≤ ps.length + qs.length := by
  have h1 := mks_len (addG ps qs) (chg (1, 292195) (ps.map (·.1)) (qs.map (·.1)))
  have h2 := chg_len (1, 292195) (ps.map (·.1)) (qs.map (·.1))
  unfold addL
  simp at h2
  omega
/-- Two right steps together: the program's Add and the document's. -/
theorem add_fit (A : Option Addr) (n c : Nat) (V : Option Addr) (d : Nat) (A2 : Option Addr) (m c2 : Nat) (V2 : Option Addr) (d2 : Nat) (ps qs : List Pr) (w : World) (hS : Sr w w.heap.size A V n ps) (hS2 : Sr w w.heap.size A2 V2 m qs) (hn : n ≤ 400) (hm : m ≤ 400) (hp : Right ps) (hq : Right qs) (hf : AllFit ps qs) :
    Calls Try.prog 7 #[sg A n c V n d, sg A2 m c2 V2 m d2] w (GivesAM w (addL ps qs) 0) := (add_yes A n c V d A2 m c2 V2 d2 ps qs w hS hS2 hn hm hp hq).mono fun e w' h => by
  rcases h with h | h
  · exact h.2
  · exact absurd hf h.1
theorem add_over (A : Option Addr) (n c : Nat) (V : Option Addr) (d : Nat) (A2 : Option Addr) (m c2 : Nat) (V2 : Option Addr) (d2 : Nat) (ps qs : List Pr) (w : World) (hS : Sr w w.heap.size A V n ps) (hS2 : Sr w w.heap.size A2 V2 m qs) (hn : n ≤ 400) (hm : m ≤ 400) (hp : Right ps) (hq : Right qs) (hf : ¬ AllFit ps qs) :
    Calls Try.prog 7 #[sg A n c V n d, sg A2 m c2 V2 m d2] w (GivesAM w [] 5) := (add_yes A n c V d A2 m c2 V2 d2 ps qs w hS hS2 hn hm hp hq).mono fun e w' h => by
  rcases h with h | h
  · exact absurd h.1 hf
  · exact h.2
theorem radd_fit (A : Option Addr) (n c : Nat) (V : Option Addr) (d : Nat) (A2 : Option Addr) (m c2 : Nat) (V2 : Option Addr) (d2 : Nat) (ps qs : List Pr) (w : World) (hS : Sr w w.heap.size A V n ps) (hS2 : Sr w w.heap.size A2 V2 m qs) (hn : n ≤ 400) (hm : m ≤ 400) (hp : Right ps) (hq : Right qs) (hf : AllFit ps qs) :
    Calls Try.prog 8 #[sg A n c V n d, sg A2 m c2 V2 m d2] w (GivesAM w (addL ps qs) 0) := (radd_yes A n c V d A2 m c2 V2 d2 ps qs w hS hS2 hn hm hp hq).mono fun e w' h => by
  rcases h with h | h
  · exact am_of h.2
  · exact absurd hf h.1
theorem radd_over (A : Option Addr) (n c : Nat) (V : Option Addr) (d : Nat) (A2 : Option Addr) (m c2 : Nat) (V2 : Option Addr) (d2 : Nat) (ps qs : List Pr) (w : World) (hS : Sr w w.heap.size A V n ps) (hS2 : Sr w w.heap.size A2 V2 m qs) (hn : n ≤ 400) (hm : m ≤ 400) (hp : Right ps) (hq : Right qs) (hf : ¬ AllFit ps qs) :
    Calls Try.prog 8 #[sg A n c V n d, sg A2 m c2 V2 m d2] w (GivesAM w [] 5) := (radd_yes A n c V d A2 m c2 V2 d2 ps qs w hS hS2 hn hm hp hq).mono fun e w' h => by
  rcases h with h | h
  · exact absurd h.1 hf
  · exact am_of h.2

end Stp
end Go.Proofs.Ytngpcabengmoiaa
