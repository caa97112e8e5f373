/-
  What the arguments read as. Conditions: those of each theorem.
-/
import Derived.Test.YtaadhageloiiaaaAlive
import Derived.ProofKit
import Derived.OpenShut
import Derived.ChangeOld
import Derived.Below
import Derived.Lib.SmallJoins
import Derived.Deep.SlicePairs
namespace Go.Proofs.Ytaadhageloiiaaa
open Go.ChangeShapes Go.WideShapes Go.ChangeAt Go.RowKit Ba Cv Sp Te
namespace Tm
set_option linter.unusedVariables false

theorem own : ownKnob Try.prog.godebug = none := by kernel_rfl
theorem laidOut : laidOutB Try.prog = true := by kernel_rfl
theorem i64_of {n : Int} (h : (Lit.int .i64 n).wf = true) : -9223372036854775808 ≤ n ∧ n ≤ 9223372036854775807 := by
  simpa [Lit.wf, IntKind.min, IntKind.max, IntKind.signed, IntKind.bits] using h
theorem list_of {α : Type} {P : Nat → α → Prop} : ∀ n : Nat, (∀ i, i < n → ∃ a, P i a) → ∃ l : List α, l.length = n ∧ ∀ j x, l[j]? = some x → P j x
  | 0, _ => ⟨[], rfl, fun j x h => by simp at h⟩
  | n + 1, h => by
    obtain ⟨l, hl, hp⟩ := list_of n fun i hi => h i (by omega)
    obtain ⟨a, ha⟩ := h n (by omega)
    refine ⟨l ++ [a], by simp [hl], fun j x hx => ?_⟩
    rcases Nat.lt_or_ge j n with hj | hj
    · rw [List.getElem?_append_left (by omega)] at hx; exact hp j x hx
    · rw [List.getElem?_append_right (by omega), hl] at hx
      have hj' : j = n := by
        have := (List.getElem?_eq_some_iff.1 hx).1
        simp at this; omega
      subst hj'
      simp at hx
      subst hx
      exact ha
theorem u8_of {n : Int} (h : (Lit.int .u8 n).wf = true) : 0 ≤ n ∧ n ≤ 255 := by
  simpa [Lit.wf, IntKind.min, IntKind.max, IntKind.signed, IntKind.bits] using h
/-- A span's two cells. -/
theorem open_two {H : Type} {enc : TypeId × Value → H} {W : World} {sp : Nat → Bool} {cs : List Value} {fuel : Nat} {x : DataW H × List MemPlace}
    (h : DataW.trod enc Try.prog W 0 sp true fuel 23 cs = some x) : ∃ c : Sp, cs = [.int .i64 c.1, .int .i64 c.2] := by
  obtain ⟨xs, k', hk', rfl, hlen, hxl, hf⟩ := DataW.trod_struct Try.underlying23 h
  have hc : (Try.prog.cellsOf 23) = 2 := by kernel_rfl
  rw [hc] at hlen
  match xs, hxl, cs, hlen with
  | [y0, y1], _, [v0, v1], _ =>
    have g0 := hf 0 _ rfl
    have g1 := hf 1 _ rfl
    have q1 : (Try.prog.cellsOf 3) = 1 := by kernel_rfl
    simp [q1] at g0 g1
    obtain ⟨p0, e0, _, _⟩ := DataW.trod_int Try.underlying3 g0
    obtain ⟨p1, e1, _, _⟩ := DataW.trod_int Try.underlying3 g1
    simp at e0 e1
    subst e0 e1
    exact ⟨(p0, p1), rfl⟩
/-- A risk's four cells. -/
theorem open_four {H : Type} {enc : TypeId × Value → H} {W : World} {sp : Nat → Bool} {cs : List Value} {fuel : Nat} {x : DataW H × List MemPlace}
    (h : DataW.trod enc Try.prog W 0 sp true fuel 25 cs = some x) : ∃ c : Ri, cs = [.int .i64 c.k, .int .i64 c.v, .int .i64 c.a, .int .i64 c.z] := by
  obtain ⟨xs, k', hk', rfl, hlen, hxl, hf⟩ := DataW.trod_struct Try.underlying25 h
  have hc : (Try.prog.cellsOf 25) = 4 := by kernel_rfl
  rw [hc] at hlen
  match xs, hxl, cs, hlen with
  | [y0, y1, y2, y3], _, [v0, v1, v2, v3], _ =>
    have g0 := hf 0 _ rfl
    have g1 := hf 1 _ rfl
    have g2 := hf 2 _ rfl
    have g3 := hf 3 _ rfl
    have q1 : (Try.prog.cellsOf 3) = 1 := by kernel_rfl
    simp [q1] at g0 g1 g2 g3
    obtain ⟨p0, e0, _, _⟩ := DataW.trod_int Try.underlying3 g0
    obtain ⟨p1, e1, _, _⟩ := DataW.trod_int Try.underlying3 g1
    obtain ⟨p2, e2, _, _⟩ := DataW.trod_int Try.underlying3 g2
    obtain ⟨p3, e3, _, _⟩ := DataW.trod_int Try.underlying3 g3
    simp at e0 e1 e2 e3
    subst e0 e1 e2 e3
    exact ⟨⟨p0, p1, p2, p3⟩, rfl⟩
theorem open_span {H : Type} {enc : TypeId × Value → H} {W : World} {base : Nat} {sp : Nat → Bool} {v : Value} {d : DataW H} {p : List MemPlace}
    (hv : Value.okWide Try.prog W .any base 23 v) (h : DataW.Trod enc Try.prog W 0 sp true 23 v d p) : ∃ c : Sp, v = sg c := by
  obtain ⟨cs, rfl, hsz⟩ := okWide_struct Try.underlying23 hv
  obtain ⟨fuel, hf⟩ := h
  obtain ⟨c, e⟩ := open_two hf
  obtain ⟨l⟩ := cs
  simp [Value.cells] at e
  subst e
  exact ⟨c, rfl⟩
theorem open_risk {H : Type} {enc : TypeId × Value → H} {W : World} {base : Nat} {sp : Nat → Bool} {v : Value} {d : DataW H} {p : List MemPlace}
    (hv : Value.okWide Try.prog W .any base 25 v) (h : DataW.Trod enc Try.prog W 0 sp true 25 v d p) : ∃ c : Ri, v = rg c := by
  obtain ⟨cs, rfl, hsz⟩ := okWide_struct Try.underlying25 hv
  obtain ⟨fuel, hf⟩ := h
  obtain ⟨c, e⟩ := open_four hf
  obtain ⟨l⟩ := cs
  simp [Value.cells] at e
  subst e
  exact ⟨c, rfl⟩
/-- A cover's five cells. -/
theorem open_five {H : Type} {enc : TypeId × Value → H} {W : World} {sp : Nat → Bool} {cs : List Value} {fuel : Nat} {x : DataW H × List MemPlace}
    (h : DataW.trod enc Try.prog W 0 sp true fuel 31 cs = some x) : ∃ c : Co, cs = cl5 c := by
  obtain ⟨xs, k', hk', rfl, hlen, hxl, hf⟩ := DataW.trod_struct Try.underlying31 h
  have hc5 : (Try.prog.cellsOf 31) = 5 := by kernel_rfl
  rw [hc5] at hlen
  match xs, hxl, cs, hlen with
  | [y0, y1, y2, y3, y4], _, [v0, v1, v2, v3, v4], _ =>
    have g0 := hf 0 _ rfl
    have g1 := hf 1 _ rfl
    have g2 := hf 2 _ rfl
    have g3 := hf 3 _ rfl
    have g4 := hf 4 _ rfl
    have q1 : (Try.prog.cellsOf 3) = 1 := by kernel_rfl
    simp [q1] at g0 g1 g2 g3 g4
    obtain ⟨p0, e0, _, _⟩ := DataW.trod_int Try.underlying3 g0
    obtain ⟨p1, e1, _, _⟩ := DataW.trod_int Try.underlying3 g1
    obtain ⟨p2, e2, _, _⟩ := DataW.trod_int Try.underlying3 g2
    obtain ⟨p3, e3, _, _⟩ := DataW.trod_int Try.underlying3 g3
    obtain ⟨p4, e4, _, _⟩ := DataW.trod_int Try.underlying3 g4
    simp at e0 e1 e2 e3 e4
    subst e0 e1 e2 e3 e4
    exact ⟨⟨p0, p1, p2, p3, p4⟩, rfl⟩
/-- A row of covers that came in. -/
structure GivenC (w : World) (A : Option Addr) (n c : Nat) (cs : List Co) : Prop where
  r : Cvs w (· < w.heap.size) A n cs
  m : n ≤ maxLen
  cap : n ≤ c
  nil : A = none → n = 0 ∧ c = 0
theorem covers_of {H : Type} {enc : TypeId × Value → H} {W : World} {sp : Nat → Bool} {v : Value} {fuel : Nat} {x : DataW H × List MemPlace}
    (hf : DataW.trod enc Try.prog W 0 sp true fuel 26 [v] = some x) : ∃ A n c cs, v = .slice A n c ∧ GivenC W A n c cs := by
  rcases Go.Deep.open_slice Try.underlying26 hf with ⟨hcs, _⟩ | ⟨a, n, cap, m, k, D, Pl, hcs, _, hl, hm, hmm, rfl, hx⟩
  · simp at hcs
    subst hcs
    exact ⟨none, 0, 0, [], rfl, Cvs.nil, by unfold maxLen; omega, Nat.le_refl _, fun _ => ⟨rfl, rfl⟩⟩
  · simp at hcs
    subst hcs
    have hnm : n ≤ m := by rw [hmm]; split <;> omega
    have hc5 : (Try.prog.cellsOf 31) = 5 := by kernel_rfl
    have each : ∀ i, i < n → ∃ c : Co, Fiv W (a.add (i * 5)) c := by
      intro i hi
      obtain ⟨cs', h1, h2⟩ := hx i (by omega)
      rw [hc5] at h1
      obtain ⟨_, hlen, hcell⟩ := World.cells?_some h1
      obtain ⟨c, rfl⟩ := open_five h2
      refine ⟨c, fiv_of fun o u hu => ?_⟩
      have ho : o < 5 := (List.getElem?_eq_some_iff.1 hu).1
      have := hcell o ho
      rw [Go.Deep.add_add] at this
      rw [this, ← hu]
    obtain ⟨xs, hlx, hc⟩ := list_of n each
    refine ⟨some a, n, cap, xs, rfl, ⟨hlx, fun hn => ⟨a, rfl, ?_, hc⟩⟩, by omega, hl, fun e => by cases e⟩
    obtain ⟨z, hz⟩ := each 0 hn
    have := World.block_lt_of_cell? _ _ hz.c0
    rwa [add_block] at this

theorem open_covers {H : Type} {enc : TypeId × Value → H} {W : World} {base : Nat} {sp : Nat → Bool} {v : Value} {d : DataW H} {p : List MemPlace}
    (hv : Value.okWide Try.prog W .any base 26 v) (h : DataW.Trod enc Try.prog W 0 sp true 26 v d p) : ∃ A n c cs, v = .slice A n c ∧ GivenC W A n c cs := by
  obtain ⟨A, n, c, rfl⟩ := okWide_slice Try.underlying26 hv
  obtain ⟨fuel, hf⟩ := h
  exact covers_of hf

/-- Terms that came in. -/
theorem open_seven {H : Type} {enc : TypeId × Value → H} {W : World} {sp : Nat → Bool} {cs : List Value} {fuel : Nat} {x : DataW H × List MemPlace}
    (h : DataW.trod enc Try.prog W 0 sp true fuel 28 cs = some x) : ∃ (s : Sp) (r : Ri) (A : Option Addr) (n c : Nat) (ls : List Co), cs = [.int .i64 s.1, .int .i64 s.2, .int .i64 r.k, .int .i64 r.v, .int .i64 r.a, .int .i64 r.z, .slice A n c] ∧ GivenC W A n c ls := by
  obtain ⟨xs, k', hk', rfl, hlen, hxl, hf⟩ := DataW.trod_struct Try.underlying28 h
  have hc : (Try.prog.cellsOf 28) = 7 := by kernel_rfl
  rw [hc] at hlen
  match xs, hxl, cs, hlen with
  | [y0, y1, y2], _, [v0, v1, v2, v3, v4, v5, v6], _ =>
    have g0 := hf 0 _ rfl
    have g1 := hf 1 _ rfl
    have g2 := hf 2 _ rfl
    have q1 : (Try.prog.cellsOf 23) = 2 := by kernel_rfl
    have q2 : (Try.prog.cellsOf 25) = 4 := by kernel_rfl
    have q3 : (Try.prog.cellsOf 26) = 1 := by kernel_rfl
    simp [q1, q2, q3] at g0 g1 g2
    obtain ⟨s, e0⟩ := open_two g0
    obtain ⟨r, e1⟩ := open_four g1
    obtain ⟨A, n, c, ls, e2, hg⟩ := covers_of g2
    simp at e0 e1
    obtain ⟨rfl, rfl⟩ := e0
    obtain ⟨rfl, rfl, rfl, rfl⟩ := e1
    subst e2
    exact ⟨s, r, A, n, c, ls, rfl, hg⟩
theorem open_terms {H : Type} {enc : TypeId × Value → H} {W : World} {base : Nat} {sp : Nat → Bool} {v : Value} {d : DataW H} {p : List MemPlace}
    (hv : Value.okWide Try.prog W .any base 28 v) (h : DataW.Trod enc Try.prog W 0 sp true 28 v d p) : ∃ (s : Sp) (r : Ri) (A : Option Addr) (n c : Nat) (ls : List Co), v = tg s r A n c ∧ GivenC W A n c ls := by
  obtain ⟨cs, rfl, hsz⟩ := okWide_struct Try.underlying28 hv
  obtain ⟨fuel, hf⟩ := h
  obtain ⟨s, r, A, n, c, ls, e, hg⟩ := open_seven hf
  obtain ⟨l⟩ := cs
  simp [Value.cells] at e
  subst e
  exact ⟨s, r, A, n, c, ls, rfl, hg⟩
end Tm
end Go.Proofs.Ytaadhageloiiaaa
