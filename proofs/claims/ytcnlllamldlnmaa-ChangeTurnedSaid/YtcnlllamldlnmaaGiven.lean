/-
  What the arguments read as. Conditions: those of each theorem.
-/
import Derived.Test.YtcnlllamldlnmaaAlive11
import Derived.ProofKit
import Derived.OpenShut
import Derived.ChangeOld
import Derived.Below
import Derived.Lib.SmallJoins
import Derived.Deep.SlicePairs
import Derived.SizedLaws
namespace Go.Proofs.Ytcnlllamldlnmaa
open Go.ChangeShapes Go.WideShapes Go.ChangeAt Go.RowKit Ba Cv Sp Te Ag
namespace Tm
set_option linter.unusedVariables false

theorem own : ownKnob Try.prog.godebug = none := by kernel_rfl
theorem laidOut : laidOutB Try.prog = true := by kernel_rfl
theorem i64_of {n : Int} (h : (Lit.int .i64 n).wf = true) : -9223372036854775808 ≤ n ∧ n ≤ 9223372036854775807 := by
  simpa [Lit.wf, IntKind.min, IntKind.max, IntKind.signed, IntKind.bits] using h
theorem list_of {α : Type} {P : Nat → α → Prop} : ∀ n : Nat, (∀ i, i < n → ∃ a, P i a) → ∃ l : List α, l.length = n ∧ ∀ j x, l[j]? = some x → P j x
  | 0, _ => ⟨[], rfl, fun j x h => by simp at h⟩
  | n + 1, h => by
    obtain ⟨l, hl, hp⟩ := list_of n fun i hi => h i (by omega)
    obtain ⟨a, ha⟩ := h n (by omega)
    refine ⟨l ++ [a], by simp [hl], fun j x hx => ?_⟩
    rcases Nat.lt_or_ge j n with hj | hj
    · rw [List.getElem?_append_left (by omega)] at hx; exact hp j x hx
    · rw [List.getElem?_append_right (by omega), hl] at hx
      have hj' : j = n := by
        have := (List.getElem?_eq_some_iff.1 hx).1
        simp at this; omega
      subst hj'
      simp at hx
      subst hx
      exact ha
/-- A span's two cells. -/
theorem open_two {H : Type} {enc : TypeId × Value → H} {W : World} {sp : Nat → Bool} {cs : List Value} {fuel : Nat} {x : DataW H × List MemPlace}
    (h : DataW.trod enc Try.prog W 0 sp true fuel 28 cs = some x) : ∃ c : Sp, cs = [.int .i64 c.1, .int .i64 c.2] := by
  obtain ⟨xs, k', hk', rfl, hlen, hxl, hf⟩ := DataW.trod_struct Try.underlying28 h
  have hc : (Try.prog.cellsOf 28) = 2 := by kernel_rfl
  rw [hc] at hlen
  match xs, hxl, cs, hlen with
  | [y0, y1], _, [v0, v1], _ =>
    have g0 := hf 0 _ rfl
    have g1 := hf 1 _ rfl
    have q1 : (Try.prog.cellsOf 3) = 1 := by kernel_rfl
    simp [q1] at g0 g1
    obtain ⟨p0, e0, _, _⟩ := DataW.trod_int Try.underlying3 g0
    obtain ⟨p1, e1, _, _⟩ := DataW.trod_int Try.underlying3 g1
    simp at e0 e1
    subst e0 e1
    exact ⟨(p0, p1), rfl⟩
/-- A risk's four cells. -/
theorem open_four {H : Type} {enc : TypeId × Value → H} {W : World} {sp : Nat → Bool} {cs : List Value} {fuel : Nat} {x : DataW H × List MemPlace}
    (h : DataW.trod enc Try.prog W 0 sp true fuel 23 cs = some x) : ∃ c : Ri, cs = [.int .i64 c.k, .int .i64 c.v, .int .i64 c.a, .int .i64 c.z] := by
  obtain ⟨xs, k', hk', rfl, hlen, hxl, hf⟩ := DataW.trod_struct Try.underlying23 h
  have hc : (Try.prog.cellsOf 23) = 4 := by kernel_rfl
  rw [hc] at hlen
  match xs, hxl, cs, hlen with
  | [y0, y1, y2, y3], _, [v0, v1, v2, v3], _ =>
    have g0 := hf 0 _ rfl
    have g1 := hf 1 _ rfl
    have g2 := hf 2 _ rfl
    have g3 := hf 3 _ rfl
    have q1 : (Try.prog.cellsOf 3) = 1 := by kernel_rfl
    simp [q1] at g0 g1 g2 g3
    obtain ⟨p0, e0, _, _⟩ := DataW.trod_int Try.underlying3 g0
    obtain ⟨p1, e1, _, _⟩ := DataW.trod_int Try.underlying3 g1
    obtain ⟨p2, e2, _, _⟩ := DataW.trod_int Try.underlying3 g2
    obtain ⟨p3, e3, _, _⟩ := DataW.trod_int Try.underlying3 g3
    simp at e0 e1 e2 e3
    subst e0 e1 e2 e3
    exact ⟨⟨p0, p1, p2, p3⟩, rfl⟩
/-- A cover's five cells. -/
theorem open_five {H : Type} {enc : TypeId × Value → H} {W : World} {sp : Nat → Bool} {cs : List Value} {fuel : Nat} {x : DataW H × List MemPlace}
    (h : DataW.trod enc Try.prog W 0 sp true fuel 68 cs = some x) : ∃ c : Co, cs = cl5 c := by
  obtain ⟨xs, k', hk', rfl, hlen, hxl, hf⟩ := DataW.trod_struct Try.underlying68 h
  have hc5 : (Try.prog.cellsOf 68) = 5 := by kernel_rfl
  rw [hc5] at hlen
  match xs, hxl, cs, hlen with
  | [y0, y1, y2, y3, y4], _, [v0, v1, v2, v3, v4], _ =>
    have g0 := hf 0 _ rfl
    have g1 := hf 1 _ rfl
    have g2 := hf 2 _ rfl
    have g3 := hf 3 _ rfl
    have g4 := hf 4 _ rfl
    have q1 : (Try.prog.cellsOf 3) = 1 := by kernel_rfl
    simp [q1] at g0 g1 g2 g3 g4
    obtain ⟨p0, e0, _, _⟩ := DataW.trod_int Try.underlying3 g0
    obtain ⟨p1, e1, _, _⟩ := DataW.trod_int Try.underlying3 g1
    obtain ⟨p2, e2, _, _⟩ := DataW.trod_int Try.underlying3 g2
    obtain ⟨p3, e3, _, _⟩ := DataW.trod_int Try.underlying3 g3
    obtain ⟨p4, e4, _, _⟩ := DataW.trod_int Try.underlying3 g4
    simp at e0 e1 e2 e3 e4
    subst e0 e1 e2 e3 e4
    exact ⟨⟨p0, p1, p2, p3, p4⟩, rfl⟩

theorem reach : reachBytes = 140737488351232 := rfl
theorem by_cover : Try.prog.bytesOf 68 = 40 := by kernel_rfl
theorem by_change : Try.prog.bytesOf 26 = 88 := by kernel_rfl
theorem weights_all {H : Type} {P : Program} {e : TypeId} {d : DataW H} {l : List (DataW H)} (hd : d ∈ l) {k : Nat} (hk : k ∈ d.weights P e) : k ∈ DataW.weightsAll P e l := by
  induction l with
  | nil => cases hd
  | cons x xs ih =>
    simp only [DataW.weightsAll, List.mem_append]
    rcases List.mem_cons.1 hd with rfl | hd
    · exact .inl hk
    · exact .inr (ih hd)
/-- A row of covers that came in. -/
structure GivenC (w : World) (A : Option Addr) (n c : Nat) (cs : List Co) : Prop where
  r : Cvs w (· < w.heap.size) A n cs
  m : n ≤ 140737488355328
theorem covers_of {H : Type} {enc : TypeId × Value → H} {W : World} {sp : Nat → Bool} {v : Value} {fuel : Nat} {x : DataW H × List MemPlace}
    (hf : DataW.trod enc Try.prog W 0 sp true fuel 24 [v] = some x) (hw : ∀ k ∈ x.1.weights Try.prog 24, k ≤ reachBytes) : ∃ A n c cs, v = .slice A n c ∧ GivenC W A n c cs := by
  rcases Go.Deep.open_slice Try.underlying24 hf with ⟨hcs, _⟩ | ⟨a, n, cap, m, k, D, Pl, hcs, _, hl, hm, hmm, rfl, hx⟩
  · simp at hcs
    subst hcs
    exact ⟨none, 0, 0, [], rfl, Cvs.nil, by omega⟩
  · simp at hcs
    subst hcs
    have hnm : n ≤ m := by rw [hmm]; split <;> omega
    have hc5 : (Try.prog.cellsOf 68) = 5 := by kernel_rfl
    have each : ∀ i, i < n → ∃ c : Co, Fiv W (a.add (i * 5)) c := by
      intro i hi
      obtain ⟨cs', h1, h2⟩ := hx i (by omega)
      rw [hc5] at h1
      obtain ⟨_, hlen, hcell⟩ := World.cells?_some h1
      obtain ⟨c, rfl⟩ := open_five h2
      refine ⟨c, fiv_of fun o u hu => ?_⟩
      have ho : o < 5 := (List.getElem?_eq_some_iff.1 hu).1
      have := hcell o ho
      rw [Go.Deep.add_add] at this
      rw [this, ← hu]
    obtain ⟨xs, hlx, hc⟩ := list_of n each
    have hb := hw ((((List.range n).map D).length + ((List.range (m - n)).map fun j => D (n + j)).length) * Try.prog.bytesOf 68) (by simp [DataW.weights, Try.underlying24])
    rw [by_cover, reach] at hb
    simp only [List.length_map, List.length_range] at hb
    refine ⟨some a, n, cap, xs, rfl, ⟨hlx, fun hn => ⟨a, rfl, ?_, hc⟩⟩, by omega⟩
    obtain ⟨z, hz⟩ := each 0 hn
    have := World.block_lt_of_cell? _ _ hz.c0
    rwa [add_block] at this
/-- Terms that came in. -/
theorem open_seven {H : Type} {enc : TypeId × Value → H} {W : World} {sp : Nat → Bool} {cs : List Value} {fuel : Nat} {x : DataW H × List MemPlace}
    (h : DataW.trod enc Try.prog W 0 sp true fuel 30 cs = some x) (hw : ∀ k ∈ x.1.weights Try.prog 30, k ≤ reachBytes) : ∃ (s : Sp) (r : Ri) (A : Option Addr) (n c : Nat) (ls : List Co), cs = [.int .i64 s.1, .int .i64 s.2, .int .i64 r.k, .int .i64 r.v, .int .i64 r.a, .int .i64 r.z, .slice A n c] ∧ GivenC W A n c ls := by
  obtain ⟨xs, k', hk', rfl, hlen, hxl, hf⟩ := DataW.trod_struct Try.underlying30 h
  have hc : (Try.prog.cellsOf 30) = 7 := by kernel_rfl
  rw [hc] at hlen
  match xs, hxl, cs, hlen with
  | [y0, y1, y2], _, [v0, v1, v2, v3, v4, v5, v6], _ =>
    have g0 := hf 0 _ rfl
    have g1 := hf 1 _ rfl
    have g2 := hf 2 _ rfl
    have q1 : (Try.prog.cellsOf 28) = 2 := by kernel_rfl
    have q2 : (Try.prog.cellsOf 23) = 4 := by kernel_rfl
    have q3 : (Try.prog.cellsOf 24) = 1 := by kernel_rfl
    simp [q1, q2, q3] at g0 g1 g2
    have hU : Try.prog.underlying 30 = some (.struct _) := Try.underlying30
    have w2 : ∀ k ∈ y2.1.weights Try.prog 24, k ≤ reachBytes := fun k hk => hw k (by simp only [DataW.weights, hU]; exact DataW.weights_mem_each (j := 2) rfl rfl k hk)
    obtain ⟨s, e0⟩ := open_two g0
    obtain ⟨r, e1⟩ := open_four g1
    obtain ⟨A, n, c, ls, e2, hg⟩ := covers_of g2 w2
    simp at e0 e1
    obtain ⟨rfl, rfl⟩ := e0
    obtain ⟨rfl, rfl, rfl, rfl⟩ := e1
    subst e2
    exact ⟨s, r, A, n, c, ls, rfl, hg⟩
theorem open_terms {H : Type} {enc : TypeId × Value → H} {W : World} {base : Nat} {sp : Nat → Bool} {v : Value} {d : DataW H} {p : List MemPlace}
    (hv : Value.okWide Try.prog W .any base 30 v) (h : DataW.Trod enc Try.prog W 0 sp true 30 v d p) (hw : ∀ k ∈ d.weights Try.prog 30, k ≤ reachBytes) : ∃ (s : Sp) (r : Ri) (A : Option Addr) (n c : Nat) (ls : List Co), v = tg s r A n c ∧ GivenC W A n c ls := by
  obtain ⟨cs, rfl, hsz⟩ := okWide_struct Try.underlying30 hv
  obtain ⟨fuel, hf⟩ := h
  obtain ⟨s, r, A, n, c, ls, e, hg⟩ := open_seven hf hw
  obtain ⟨l⟩ := cs
  simp [Value.cells] at e
  subst e
  exact ⟨s, r, A, n, c, ls, rfl, hg⟩
/-- A change that came in. -/
structure GivenR (w : World) (r : Rw) : Prop where
  c : Cvs w (· < w.heap.size) r.A r.n r.v.cs
  m : r.n ≤ 140737488355328
theorem open_nine {H : Type} {enc : TypeId × Value → H} {W : World} {sp : Nat → Bool} {cs : List Value} {fuel : Nat} {x : DataW H × List MemPlace}
    (h : DataW.trod enc Try.prog W 0 sp true fuel 26 cs = some x) (hw : ∀ k ∈ x.1.weights Try.prog 26, k ≤ reachBytes) : ∃ r : Rw, cs = cl r ∧ GivenR W r := by
  obtain ⟨xs, k', hk', rfl, hlen, hxl, hf⟩ := DataW.trod_struct Try.underlying26 h
  have hc9 : (Try.prog.cellsOf 26) = 9 := by kernel_rfl
  rw [hc9] at hlen
  match xs, hxl, cs, hlen with
  | [y0, y1, y2, y3, y4, y5], _, [v0, v1, v2, v3, v4, v5, v6, v7, v8], _ =>
    have g0 := hf 0 _ rfl
    have g1 := hf 1 _ rfl
    have g2 := hf 2 _ rfl
    have g3 := hf 3 _ rfl
    have g4 := hf 4 _ rfl
    have g5 := hf 5 _ rfl
    have q1 : (Try.prog.cellsOf 3) = 1 := by kernel_rfl
    have q2 : (Try.prog.cellsOf 23) = 4 := by kernel_rfl
    have q3 : (Try.prog.cellsOf 24) = 1 := by kernel_rfl
    simp [q1, q2, q3] at g0 g1 g2 g3 g4 g5
    obtain ⟨p0, e0, _, _⟩ := DataW.trod_int Try.underlying3 g0
    obtain ⟨p1, e1, _, _⟩ := DataW.trod_int Try.underlying3 g1
    obtain ⟨p2, e2, _, _⟩ := DataW.trod_int Try.underlying3 g2
    obtain ⟨p8, e8, _, _⟩ := DataW.trod_int Try.underlying3 g5
    have hU : Try.prog.underlying 26 = some (.struct _) := Try.underlying26
    have w4 : ∀ k ∈ y4.1.weights Try.prog 24, k ≤ reachBytes := fun k hk => hw k (by simp only [DataW.weights, hU]; exact DataW.weights_mem_each (j := 4) rfl rfl k hk)
    obtain ⟨r, e3⟩ := open_four g3
    obtain ⟨A, n, c, ls, e4, hg⟩ := covers_of g4 w4
    simp at e0 e1 e2 e3 e8
    obtain ⟨rfl, rfl, rfl, rfl⟩ := e3
    subst e0 e1 e2 e4 e8
    exact ⟨⟨⟨p0, p1, p2, r, ls, p8⟩, A, n, c⟩, rfl, hg.r, hg.m⟩
theorem open_change {H : Type} {enc : TypeId × Value → H} {W : World} {base : Nat} {sp : Nat → Bool} {v : Value} {d : DataW H} {p : List MemPlace}
    (hv : Value.okWide Try.prog W .any base 26 v) (h : DataW.Trod enc Try.prog W 0 sp true 26 v d p) (hw : ∀ k ∈ d.weights Try.prog 26, k ≤ reachBytes) : ∃ r, v = vg r ∧ GivenR W r := by
  obtain ⟨cs, rfl, hsz⟩ := okWide_struct Try.underlying26 hv
  obtain ⟨fuel, hf⟩ := h
  obtain ⟨r, e, hg⟩ := open_nine hf hw
  obtain ⟨l⟩ := cs
  simp [Value.cells, cl] at e
  subst e
  exact ⟨r, rfl, hg⟩
/-- A row of changes that came in. -/
structure GivenS (w : World) (B : Option Addr) (m d : Nat) (rs : List Rw) : Prop where
  r : Raws w (· < w.heap.size) B m rs
  k : ∀ r ∈ rs, GivenR w r
  hm : m ≤ 140737488355328
  f : m ≤ d
  z : B = none → m = 0 ∧ d = 0
theorem open_changes {H : Type} {enc : TypeId × Value → H} {W : World} {sp : Nat → Bool} {v : Value} {fuel : Nat} {x : DataW H × List MemPlace}
    (h : DataW.trod enc Try.prog W 0 sp true fuel 31 [v] = some x) (hw : ∀ k ∈ x.1.weights Try.prog 31, k ≤ reachBytes) : ∃ A n c rs, v = .slice A n c ∧ GivenS W A n c rs := by
  rcases Go.Deep.open_slice Try.underlying31 h with ⟨hcs, _⟩ | ⟨a, len, cap, m, k, D, Pl, hcs, _, hl, hm, hmm, rfl, hx⟩
  · simp at hcs
    subst hcs
    exact ⟨none, 0, 0, [], rfl, Raws.nil, (fun r h => by cases h), by omega, Nat.le_refl _, fun _ => ⟨rfl, rfl⟩⟩
  · simp at hcs
    subst hcs
    have hnm : len ≤ m := by rw [hmm]; split <;> omega
    have hc9 : (Try.prog.cellsOf 26) = 9 := by kernel_rfl
    have each : ∀ i, i < len → ∃ r : Rw, Nin W (a.add (i * 9)) r ∧ GivenR W r := by
      intro i hi
      obtain ⟨cs', h1, h2⟩ := hx i (by omega)
      rw [hc9] at h1
      obtain ⟨_, hlen, hcell⟩ := World.cells?_some h1
      obtain ⟨r, rfl, hM⟩ := open_nine h2 fun k hk => hw k (by
        simp only [DataW.weights, Try.underlying31, List.mem_cons, List.mem_append]
        exact .inr (.inl (weights_all (List.mem_map.2 ⟨i, List.mem_range.2 hi, rfl⟩) hk)))
      refine ⟨r, nin_of fun o u hu => ?_, hM⟩
      have ho : o < 9 := (List.getElem?_eq_some_iff.1 hu).1
      have := hcell o ho
      rw [Go.Deep.add_add] at this
      rw [this, ← hu]
    obtain ⟨rs, hlr, hc⟩ := list_of len each
    have hb := hw ((((List.range len).map D).length + ((List.range (m - len)).map fun j => D (len + j)).length) * Try.prog.bytesOf 26) (by simp [DataW.weights, Try.underlying31])
    rw [by_change, reach] at hb
    simp only [List.length_map, List.length_range] at hb
    have mem : ∀ r ∈ rs, ∃ i, rs[i]? = some r := fun r hr => List.mem_iff_getElem?.1 hr
    refine ⟨some a, len, cap, rs, rfl, ⟨hlr, fun hn => ⟨a, rfl, ?_, fun j r hr => (hc j r hr).1⟩⟩, fun r hr => by obtain ⟨i, hi⟩ := mem r hr; exact (hc i r hi).2, by omega, hl, fun e => by cases e⟩
    obtain ⟨r0, z0, _⟩ := each 0 hn
    have := World.block_lt_of_cell? _ _ z0.c0
    rwa [add_block] at this
/-- A history that came in. -/
structure GivenH (w : World) (h : Hr) : Prop where
  M : HM w (· < w.heap.size) h
  n : h.n ≤ 140737488355328
  k : ∀ r ∈ h.rs, r.n ≤ 140737488355328
  m : h.m ≤ 140737488355328
  f : h.m ≤ h.d
  z : h.B = none → h.m = 0 ∧ h.d = 0
theorem open_history {H : Type} {enc : TypeId × Value → H} {W : World} {base : Nat} {sp : Nat → Bool} {v : Value} {d : DataW H} {p : List MemPlace}
    (hv : Value.okWide Try.prog W .any base 33 v) (h : DataW.Trod enc Try.prog W 0 sp true 33 v d p) (hw : ∀ k ∈ d.weights Try.prog 33, k ≤ reachBytes) : ∃ h, v = hg h ∧ GivenH W h := by
  obtain ⟨cs, rfl, hsz⟩ := okWide_struct Try.underlying33 hv
  have hc10 : (Try.prog.cellsOf 33) = 10 := by kernel_rfl
  rw [hc10] at hsz
  obtain ⟨l⟩ := cs
  match l, hsz with
  | [v0, v1, v2, v3, v4, v5, v6, v7, v8, v9], _ =>
    obtain ⟨fuel, hf⟩ := h
    obtain ⟨xs, k', hk', hxy, _, hxl, hff⟩ := DataW.trod_struct Try.underlying33 hf
    match xs, hxl with
    | [y0, y1, y2, y3], _ =>
      have g0 := hff 0 _ rfl
      have g1 := hff 1 _ rfl
      have g2 := hff 2 _ rfl
      have g3 := hff 3 _ rfl
      have q1 : (Try.prog.cellsOf 3) = 1 := by kernel_rfl
      have q2 : (Try.prog.cellsOf 30) = 7 := by kernel_rfl
      have q3 : (Try.prog.cellsOf 31) = 1 := by kernel_rfl
      simp [q1, q2, q3, Value.cells] at g0 g1 g2 g3
      obtain ⟨p0, e0, _, _⟩ := DataW.trod_int Try.underlying3 g0
      obtain ⟨p1, e1, _, _⟩ := DataW.trod_int Try.underlying3 g1
      have hU : Try.prog.underlying 33 = some (.struct _) := Try.underlying33
      injection hxy with hd _
      subst hd
      have w2 : ∀ k ∈ y2.1.weights Try.prog 30, k ≤ reachBytes := fun k hk => hw k (by simp only [DataW.weights, hU]; exact DataW.weights_mem_each (j := 2) rfl rfl k hk)
      have w3 : ∀ k ∈ y3.1.weights Try.prog 31, k ≤ reachBytes := fun k hk => hw k (by simp only [DataW.weights, hU]; exact DataW.weights_mem_each (j := 3) rfl rfl k hk)
      obtain ⟨s, r, A, n, c, ls, e2, hg⟩ := open_seven g2 w2
      obtain ⟨B, m, d, rs, e3, hs⟩ := open_changes g3 w3
      simp at e0 e1 e2
      obtain ⟨rfl, rfl, rfl, rfl, rfl, rfl, rfl⟩ := e2
      subst e0 e1 e3
      exact ⟨⟨p0, p1, s, r, A, n, c, ls, B, m, d, rs⟩, rfl, ⟨hg.r, hs.r, fun r hr => (hs.k r hr).c⟩, hg.m, fun r hr => (hs.k r hr).m, hs.hm, hs.f, hs.z⟩
theorem GivenH.small {w : World} {h : Hr} (g : GivenH w h) (hn : h.n ≤ 3000) (hm : h.m ≤ 2000) (hk : ∀ r ∈ h.rs, r.n ≤ 3000) : HS h := ⟨hn, hm, hk, g.z, g.f⟩

end Tm
end Go.Proofs.Ytcnlllamldlnmaa
