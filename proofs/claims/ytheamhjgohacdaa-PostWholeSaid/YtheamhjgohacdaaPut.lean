/-
  Put of package post. Conditions: the book reads as a list of entries of at most a thousand lines each, the entry's lines as a list.
-/
import Derived.Test.YtheamhjgohacdaaGrow
namespace Go.Proofs.Ytheamhjgohacdaa
open Go.RowKit Bk
namespace Pst
set_option linter.unusedVariables false

/-- Is an entry ahead of the last one? -/
def ahd (es : List En) (d : Int) : Bool := match es.getLast? with
  | some l => decide (d < l.day)
  | none => false
def cde (es : List En) (e : En) : Int := if fm e = true then (if tot e.ls = 0 then (if es.length < 2000 then (if ahd es e.day = true then 4 else 0) else 2) else 13) else 1
def ptL (es : List En) (e : En) : List En := if cde es e = 0 then es ++ [e] else []
/-- What Put gives. -/
def PutTo (w : World) (es : List En) (e : En) (x : Ending) (w' : World) : Prop := ∃ A n c, x = .returned (.tuple #[bg A n c, .int .i64 (cde es e)]) ∧ EntsP w' (fun b => w.heap.size ≤ b ∧ b < w'.heap.size) A n (ptL es e) ∧ n ≤ c ∧ Below w.heap.size w w'

/-- The three boxes. -/
structure P0 (w w1 : World) (A : Option Addr) (n c : Nat) (d f : Int) (L : Option Addr) (m k : Nat) : Prop where
  b : Below w.heap.size w w1
  x0 : Bx w1 w.heap.size 29 #[.slice A n c]
  x1 : Bx w1 (w.heap.size + 1) 24 #[.int .i64 d, .int .i64 f, .slice L m k]
  x2 : Bx w1 (w.heap.size + 2) 29 #[.slice none 0 0]
section
variable {w w1 w2 : World} {A : Option Addr} {n c : Nat} {d f : Int} {L : Option Addr} {m k : Nat}
theorem P0.start : P0 w (((w.alloc (.cells #[.slice A n c] 29)).alloc (.cells #[.int .i64 d, .int .i64 f, .slice L m k] 24)).alloc (.cells #[.slice none 0 0] 29)) A n c d f L m k := by
  refine ⟨((alloc_ _ _).alloc (by simp) _).alloc (by simp; omega) _, ((Bx.new _ _ _).alloc _).alloc _, ?_, ?_⟩
  · have := (Bx.new (w.alloc (.cells #[.slice A n c] 29)) 24 #[.int .i64 d, .int .i64 f, .slice L m k]).alloc (.cells #[.slice none 0 0] 29)
    rw [World.size_alloc] at this
    exact this
  · have := Bx.new ((w.alloc (.cells #[.slice A n c] 29)).alloc (.cells #[.int .i64 d, .int .i64 f, .slice L m k] 24)) 29 #[.slice none 0 0]
    rw [World.size_alloc, World.size_alloc] at this
    exact this
theorem P0.next (h : P0 w w1 A n c d f L m k) (hb : Below w1.heap.size w1 w2) : P0 w w2 A n c d f L m k := ⟨h.b.trans (hb.mono h.b.size), h.x0.keep hb, h.x1.keep hb, h.x2.keep hb⟩
end
theorem put_out {w w1 : World} {es : List En} {e : En} (hb : Below w.heap.size w w1) {x : Int} (hx : cde es e = x) (h0 : x ≠ 0) : PutTo w es e (.returned (.tuple #[bg none 0 0, .int .i64 x])) w1 := by
  subst hx
  refine ⟨none, 0, 0, rfl, ?_, Nat.le_refl _, hb⟩
  unfold ptL
  rw [if_neg h0]
  exact EntsP.nil

set_option maxRecDepth 100000 in
set_option maxHeartbeats 2000000 in
theorem put_arg (A : Option Addr) (n c : Nat) (es : List En) (d f : Int) (L : Option Addr) (m k : Nat) (ls : List Pr) (w : World) (hl : Lns w (· < w.heap.size) L m ls) (h : fm ⟨d, f, ls⟩ = false) :
    Calls Try.prog 21 #[bg A n c, eg d f L m k] w (PutTo w es ⟨d, f, ls⟩) := by
  have CF := fun w' (hb : Below w.heap.size w w') => Lib.hid (formed d f L m k ls w' (hl.below hb))
  have HC := Lib.hid (show cde es ⟨d, f, ls⟩ = 1 by unfold cde; rw [h]; rfl)
  rw [h] at CF
  clear hl h
  go_enter Try.func21, Try.ntmps21
  go_wp2_with fail
  have HP := Lib.hid (P0.start (w := w) (A := A) (n := n) (c := c) (d := d) (f := f) (L := L) (m := m) (k := k))
  refine (CF _ HP.out.b).out.mono ?_
  rintro e w1 ⟨rfl, hb1⟩
  have HP1 := Lib.hid (HP.out.next hb1)
  have z0 := HP1.out.x2.c 0
  have zf := HP1.out.x2.f 0
  have zl := HP1.out.x2.lt
  simp at z0
  clear hb1 HP CF
  go_wp2
  exact bodyPost_ret (v := .tuple #[bg none 0 0, .int .i64 1]) (by simp [results, Try.results21, go_sem, z0]) rfl (put_out (HP1.out.b.setCell (by simp <;> omega) _) HC.out (by decide))

set_option maxRecDepth 100000 in
set_option maxHeartbeats 2000000 in
theorem put_sum (A : Option Addr) (n c : Nat) (es : List En) (d f : Int) (L : Option Addr) (m k : Nat) (ls : List Pr) (w : World) (hl : Lns w (· < w.heap.size) L m ls) (h : fm ⟨d, f, ls⟩ = true) (ht : tot ls ≠ 0) :
    Calls Try.prog 21 #[bg A n c, eg d f L m k] w (PutTo w es ⟨d, f, ls⟩) := by
  have hm : m ≤ maxLen := by have := (fm_len h).2; have e := hl.1; simp only at this; unfold maxLen; omega
  have CF := fun w' (hb : Below w.heap.size w w') => Lib.hid (formed d f L m k ls w' (hl.below hb))
  have CS := fun w' (hb : Below w.heap.size w w') => Lib.hid (sum_ d f L m k ls w' (hl.below hb) hm)
  have HC := Lib.hid (show cde es ⟨d, f, ls⟩ = 13 by unfold cde; rw [h, if_pos rfl, if_neg ht])
  have hw := tot_in h
  simp only at hw
  rw [hw] at CS
  rw [h] at CF
  have t1 : (tot ls == 0) = false := by simpa using ht
  have t2 : (tot ls != 0) = true := by simpa using ht
  generalize tot ls = T at CS t1 t2
  clear hl h ht hw
  go_enter Try.func21, Try.ntmps21
  go_wp2_with fail
  have HP := Lib.hid (P0.start (w := w) (A := A) (n := n) (c := c) (d := d) (f := f) (L := L) (m := m) (k := k))
  refine (CF _ HP.out.b).out.mono ?_
  rintro e w1 ⟨rfl, hb1⟩
  have HP1 := Lib.hid (HP.out.next hb1)
  have y0 := HP1.out.x1.c 0
  have y1 := HP1.out.x1.c 1
  have y2 := HP1.out.x1.c 2
  simp at y0 y1 y2
  clear hb1 HP CF
  go_wp2_with fail
  refine (CS _ HP1.out.b).out.mono ?_
  rintro e w2 ⟨rfl, hb2⟩
  have HP2 := Lib.hid (HP1.out.next hb2)
  have z0 := HP2.out.x2.c 0
  have zf := HP2.out.x2.f 0
  have zl := HP2.out.x2.lt
  simp at z0
  clear hb2 CS y0 y1 y2
  go_wp2
  exact bodyPost_ret (v := .tuple #[bg none 0 0, .int .i64 13]) (by simp [results, Try.results21, go_sem, z0]) rfl (put_out (HP2.out.b.setCell (by simp <;> omega) _) HC.out (by decide))

set_option maxRecDepth 100000 in
set_option maxHeartbeats 2000000 in
theorem put_bound (A : Option Addr) (n c : Nat) (es : List En) (d f : Int) (L : Option Addr) (m k : Nat) (ls : List Pr) (w : World) (hS : es.length = n) (hl : Lns w (· < w.heap.size) L m ls) (h : fm ⟨d, f, ls⟩ = true) (ht : tot ls = 0) (hn : 2000 ≤ n) :
    Calls Try.prog 21 #[bg A n c, eg d f L m k] w (PutTo w es ⟨d, f, ls⟩) := by
  have hm : m ≤ maxLen := by have := (fm_len h).2; have e := hl.1; simp only at this; unfold maxLen; omega
  have CF := fun w' (hb : Below w.heap.size w w') => Lib.hid (formed d f L m k ls w' (hl.below hb))
  have CS := fun w' (hb : Below w.heap.size w w') => Lib.hid (sum_ d f L m k ls w' (hl.below hb) hm)
  have HC := Lib.hid (show cde es ⟨d, f, ls⟩ = 2 by unfold cde; rw [h, if_pos rfl, if_pos ht, if_neg (by omega)])
  rw [ht, wr0] at CS
  rw [h] at CF
  have t1 : decide (2000 ≤ (n : Int)) = true := by simpa using (show 2000 ≤ (n : Int) by omega)
  have t2 : decide (2000 ≤ n) = true := by simpa using hn
  clear hl h ht hS hn
  go_enter Try.func21, Try.ntmps21
  go_wp2_with fail
  have HP := Lib.hid (P0.start (w := w) (A := A) (n := n) (c := c) (d := d) (f := f) (L := L) (m := m) (k := k))
  refine (CF _ HP.out.b).out.mono ?_
  rintro e w1 ⟨rfl, hb1⟩
  have HP1 := Lib.hid (HP.out.next hb1)
  have y0 := HP1.out.x1.c 0
  have y1 := HP1.out.x1.c 1
  have y2 := HP1.out.x1.c 2
  simp at y0 y1 y2
  clear hb1 HP CF
  go_wp2_with fail
  refine (CS _ HP1.out.b).out.mono ?_
  rintro e w2 ⟨rfl, hb2⟩
  have HP2 := Lib.hid (HP1.out.next hb2)
  have z0 := HP2.out.x2.c 0
  have zf := HP2.out.x2.f 0
  have zl := HP2.out.x2.lt
  simp at z0
  clear hb2 CS y0 y1 y2
  go_wp2
  exact bodyPost_ret (v := .tuple #[bg none 0 0, .int .i64 2]) (by simp [results, Try.results21, go_sem, z0]) rfl (put_out (HP2.out.b.setCell (by simp <;> omega) _) HC.out (by decide))

theorem ahd_get {es : List En} {j : Nat} {e : En} (h : es[j]? = some e) (hl : es.length = j + 1) (d : Int) : ahd es d = decide (d < e.day) := by
  unfold ahd
  rw [List.getLast?_eq_getElem?, hl]
  simp only [Nat.add_sub_cancel, h]

set_option maxRecDepth 100000 in
set_option maxHeartbeats 2000000 in
theorem put_order (A : Option Addr) (j c : Nat) (es : List En) (d f : Int) (L : Option Addr) (m k : Nat) (ls : List Pr) (w : World) (hS : Ents w A (j + 1) es) (hl : Lns w (· < w.heap.size) L m ls) (h : fm ⟨d, f, ls⟩ = true) (ht : tot ls = 0) (hn : j + 1 < 2000) (ha : ahd es d = true) :
    Calls Try.prog 21 #[bg A (j + 1) c, eg d f L m k] w (PutTo w es ⟨d, f, ls⟩) := by
  have hm : m ≤ maxLen := by have := (fm_len h).2; have e := hl.1; simp only at this; unfold maxLen; omega
  have CF := fun w' (hb : Below w.heap.size w w') => Lib.hid (formed d f L m k ls w' (hl.below hb))
  have CS := fun w' (hb : Below w.heap.size w w') => Lib.hid (sum_ d f L m k ls w' (hl.below hb) hm)
  have HC := Lib.hid (show cde es ⟨d, f, ls⟩ = 4 by unfold cde; rw [h, if_pos rfl, if_pos ht, if_pos (by rw [hS.len]; omega), if_pos ha])
  rw [ht, wr0] at CS
  rw [h] at CF
  obtain ⟨n, hnj⟩ : ∃ n, j + 1 = n := ⟨_, rfl⟩
  have HS := Lib.hid hS
  have HA := Lib.hid ha
  clear hl h ht hS ha
  rw [hnj] at HS ⊢
  have HN := Lib.hid hnj
  have t1 : decide (2000 ≤ (n : Int)) = false := by simpa using (show ¬ 2000 ≤ (n : Int) by omega)
  have t2 : decide (2000 ≤ n) = false := by simpa using (show ¬ 2000 ≤ n by omega)
  have tk : decide (0 < (n : Int)) = true := by simpa using (show 0 < (n : Int) by omega)
  have tk2 : decide (0 < n) = true := by simpa using (show 0 < n by omega)
  clear hnj
  go_enter Try.func21, Try.ntmps21
  go_wp2_with fail
  have HP := Lib.hid (P0.start (w := w) (A := A) (n := n) (c := c) (d := d) (f := f) (L := L) (m := m) (k := k))
  refine (CF _ HP.out.b).out.mono ?_
  rintro e w1 ⟨rfl, hb1⟩
  have HP1 := Lib.hid (HP.out.next hb1)
  have y0 := HP1.out.x1.c 0
  have y1 := HP1.out.x1.c 1
  have y2 := HP1.out.x1.c 2
  simp at y0 y1 y2
  clear hb1 HP CF
  go_wp2_with fail
  refine (CS _ HP1.out.b).out.mono ?_
  rintro e w2 ⟨rfl, hb2⟩
  have HP2 := Lib.hid (HP1.out.next hb2)
  have v0 := HP2.out.x0.c 0
  have u0 := HP2.out.x1.c 0
  have z0 := HP2.out.x2.c 0
  have zf := HP2.out.x2.f 0
  have zl := HP2.out.x2.lt
  simp at z0 v0 u0
  clear hb2 CS y0 y1 y2
  obtain ⟨ad, d', f', ls', L', m', c', rfl, hb, hx, hc0, hc1, hc2, hl'⟩ := (HS.out.below HP2.out.b).get (k := j) (by have := HN.out; omega)
  have td : decide (d < d') = true := by have := HA.out; rwa [ahd_get hx (by rw [HS.out.len, HN.out])] at this
  have e1 : (n : Int) - 1 = (j : Int) := by have := HN.out; omega
  have hjn : (j : Int) < (n : Int) := by have := HN.out; omega
  have hjn2 : j < n := by have := HN.out; omega
  have hj0 : (0 : Int) ≤ (j : Int) := by omega
  have ew := wrap_small j (by omega)
  clear hx hl' hb
  go_wp2
  go_quiet (fail)
  go_wp2
  exact bodyPost_ret (v := .tuple #[bg none 0 0, .int .i64 4]) (by simp [results, Try.results21, go_sem, z0]) rfl (put_out ((below_drewN HP2.out.b _).setCell (by simp <;> omega) _) HC.out (by decide))

end Pst
end Go.Proofs.Ytheamhjgohacdaa
