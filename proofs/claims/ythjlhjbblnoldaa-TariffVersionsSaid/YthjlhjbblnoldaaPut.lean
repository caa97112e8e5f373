/-
  Put of package tariff. Conditions: the version's lists read as lists, and are short.
-/
import Derived.Test.YthjlhjbblnoldaaPutL
import Derived.Test.YthjlhjbblnoldaaSearch
import Derived.Test.YthjlhjbblnoldaaRight
namespace Go.Proofs.Ythjlhjbblnoldaa
open Go.RowKit Ba Tf
namespace Trf
set_option linter.unusedVariables false

/-- What Put gives. -/
def PutTo (w : World) (vs : List Ve) (v : Ve) (e : Ending) (w' : World) : Prop := ∃ A n c rs, e = .returned (.tuple #[tg A n c, .int .i64 (cd vs v)]) ∧ Vers w' A n rs ∧ rs.map Rw.v = pt vs v ∧ n ≤ c ∧ (A = none → n = 0 ∧ c = 0) ∧ Below w.heap.size w w'

/-- The three boxes. -/
structure P0 (w w1 : World) (A : Option Addr) (n c : Nat) (r : Rw) : Prop where
  b : Below w.heap.size w w1
  x0 : Bx w1 w.heap.size 29 #[.slice A n c]
  x1 : Bx w1 (w.heap.size + 1) 26 (vc r)
  x2 : Bx w1 (w.heap.size + 2) 29 #[.slice none 0 0]
section
variable {w w1 w2 : World} {A : Option Addr} {n c : Nat} {r : Rw}
theorem P0.start : P0 w (((w.alloc (.cells #[.slice A n c] 29)).alloc (.cells (vc r) 26)).alloc (.cells #[.slice none 0 0] 29)) A n c r := by
  refine ⟨((alloc_ _ _).alloc (by simp) _).alloc (by simp; omega) _, ((Bx.new _ _ _).alloc _).alloc _, ?_, ?_⟩
  · have := (Bx.new (w.alloc (.cells #[.slice A n c] 29)) 26 (vc r)).alloc (.cells #[.slice none 0 0] 29)
    rw [World.size_alloc] at this
    exact this
  · have := Bx.new ((w.alloc (.cells #[.slice A n c] 29)).alloc (.cells (vc r) 26)) 29 #[.slice none 0 0]
    rw [World.size_alloc, World.size_alloc] at this
    exact this
theorem P0.next (h : P0 w w1 A n c r) (hb : Below w1.heap.size w1 w2) : P0 w w2 A n c r := ⟨h.b.trans (hb.mono h.b.size), h.x0.keep hb, h.x1.keep hb, h.x2.keep hb⟩
end
theorem put_out {w w1 : World} {vs : List Ve} {v : Ve} (hb : Below w.heap.size w w1) {x : Int} (hx : cd vs v = x) (h0 : x ≠ 0) : PutTo w vs v (.returned (.tuple #[tg none 0 0, .int .i64 x])) w1 := by
  subst hx
  exact ⟨none, 0, 0, [], rfl, Vers.nil, (pt_no h0).symm, Nat.le_refl _, fun _ => ⟨rfl, rfl⟩, hb⟩

set_option maxRecDepth 100000 in
set_option maxHeartbeats 4000000 in
theorem put_arg (A : Option Addr) (n c : Nat) (rs : List Rw) (r : Rw) (w : World) (hS : Vers w A n rs) (hn : n ≤ 1000) (hM : Mean w (· < w.heap.size) r) (hSm : Sm r) (h : ¬ (rgt (rs.map Rw.v) = true ∧ ver r.v = true)) :
    Calls Try.prog 17 #[tg A n c, vg r] w (PutTo w (rs.map Rw.v) r.v) := by
  have HC := Lib.hid (cd_arg h)
  have CR := fun w' (hb : Below w.heap.size w w') => Lib.hid (right_ A n c rs w' (hS.below hb) hn)
  have CV := fun w' (hb : Below w.heap.size w w') => Lib.hid (version_ r w' (hM.below hb) hSm)
  have HP := Lib.hid (P0.start (w := w) (A := A) (n := n) (c := c) (r := r))
  clear hS hM
  cases h1 : rgt (rs.map Rw.v)
  · rw [h1] at CR
    clear h h1 CV
    go_enter Try.func17, Try.ntmps17
    go_wp2_with fail
    refine (CR _ HP.out.b).out.mono ?_
    rintro e w1 ⟨rfl, hb1⟩
    have HPZ := Lib.hid (HP.out.next hb1)
    have z0 := HPZ.out.x2.c 0
    have zf := HPZ.out.x2.f 0
    simp at z0
    clear hb1 HP CR
    go_wp2
    refine bodyPost_ret (v := .tuple #[tg none 0 0, .int .i64 1]) (by simp [results, Try.results17, go_sem, z0]) rfl (put_out (HPZ.out.b.setCell (p := ⟨w.heap.size + 2, 0, none⟩) (by simp) _) HC.out (by omega))
  · have h2 : ver r.v = false := by
      cases e : ver r.v
      · rfl
      · exact absurd ⟨h1, e⟩ h
    rw [h1] at CR
    rw [h2] at CV
    clear h h1 h2
    go_enter Try.func17, Try.ntmps17
    go_wp2_with fail
    refine (CR _ HP.out.b).out.mono ?_
    rintro e w1 ⟨rfl, hb1⟩
    have HP1 := Lib.hid (HP.out.next hb1)
    have y0 := HP1.out.x1.c 0
    have y1 := HP1.out.x1.c 1
    have y2 := HP1.out.x1.c 2
    have y3 := HP1.out.x1.c 3
    have y4 := HP1.out.x1.c 4
    have y5 := HP1.out.x1.c 5
    have y6 := HP1.out.x1.c 6
    have y7 := HP1.out.x1.c 7
    have y8 := HP1.out.x1.c 8
    simp at y0 y1 y2 y3 y4 y5 y6 y7 y8
    clear hb1 HP CR
    go_wp2_with fail
    refine (CV _ HP1.out.b).out.mono ?_
    rintro e w2 ⟨rfl, hb2⟩
    have HPZ := Lib.hid (HP1.out.next hb2)
    have z0 := HPZ.out.x2.c 0
    have zf := HPZ.out.x2.f 0
    simp at z0
    clear hb2 HP1 CV y0 y1 y2 y3 y4 y5 y6 y7 y8
    go_wp2
    refine bodyPost_ret (v := .tuple #[tg none 0 0, .int .i64 1]) (by simp [results, Try.results17, go_sem, z0]) rfl (put_out (HPZ.out.b.setCell (p := ⟨w.heap.size + 2, 0, none⟩) (by simp) _) HC.out (by omega))

theorem put_search (A : Option Addr) (n c : Nat) (rs : List Rw) (r : Rw) (w w2 : World) (hS : Vers w A n rs) (hn : n ≤ 1000) (hP : P0 w w2 A n c r) (hR : rgt (rs.map Rw.v) = true) :
    Calls Try.prog 29 #[.int .i64 (n : Int), .func (.func 30) #[] #[.pointer (some ⟨w.heap.size, 0, none⟩), .pointer (some ⟨w.heap.size + 1, 0, none⟩)]] w2 fun e w' => ∃ p : Nat, e = .returned (.int .i64 (p : Int)) ∧ Place rs r.v.fr n p ∧ Below w2.heap.size w2 w' := by
  refine search w.heap.size (w.heap.size + 1) n rs r.v.fr w2 hS.r.1 hn (fun i j x y hij hx hy => rise_lt (rgt_rise hR).2 hij (map_get hx) (map_get hy)) fun w' hb k x hx => ?_
  have hk : k < n := by rw [← hS.r.1]; exact (List.getElem?_eq_some_iff.1 hx).1
  have hP' := hP.next hb
  obtain ⟨ad, x', rfl, _, hx', hN, _⟩ := (hS.below hP'.b).get hk
  rw [hx] at hx'
  injection hx' with hx'
  subst hx'
  exact reached _ _ ad n c k x r.v.fr w' (by have := hP'.x0.c 0; simpa using this) (by have := hP'.x1.c 0; simpa using this) hN hk hn

set_option maxRecDepth 100000 in
set_option maxHeartbeats 4000000 in
theorem put_there (A : Option Addr) (n c : Nat) (rs : List Rw) (r : Rw) (w : World) (hS : Vers w A n rs) (hn : n ≤ 1000) (hM : Mean w (· < w.heap.size) r) (hSm : Sm r) (h : rgt (rs.map Rw.v) = true) (h2 : ver r.v = true) (h3 : has r.v.fr (rs.map Rw.v) = true) :
    Calls Try.prog 17 #[tg A n c, vg r] w (PutTo w (rs.map Rw.v) r.v) := by
  have HC := Lib.hid (cd_there h h2 h3)
  have H3 := Lib.hid h3
  clear h3
  have CR := fun w' (hb : Below w.heap.size w w') => Lib.hid (right_ A n c rs w' (hS.below hb) hn)
  have CV := fun w' (hb : Below w.heap.size w w') => Lib.hid (version_ r w' (hM.below hb) hSm)
  rw [h] at CR
  rw [h2] at CV
  have HP := Lib.hid (P0.start (w := w) (A := A) (n := n) (c := c) (r := r))
  have HS := Lib.hid hS
  have HM := Lib.hid hM
  have HR := Lib.hid h
  have HV := Lib.hid h2
  clear hS hM h h2
  go_enter Try.func17, Try.ntmps17
  go_wp2_with fail
  refine (CR _ HP.out.b).out.mono ?_
  rintro e w1 ⟨rfl, hb1⟩
  have HP1 := Lib.hid (HP.out.next hb1)
  have y0 := HP1.out.x1.c 0
  have y1 := HP1.out.x1.c 1
  have y2 := HP1.out.x1.c 2
  have y3 := HP1.out.x1.c 3
  have y4 := HP1.out.x1.c 4
  have y5 := HP1.out.x1.c 5
  have y6 := HP1.out.x1.c 6
  have y7 := HP1.out.x1.c 7
  have y8 := HP1.out.x1.c 8
  simp at y0 y1 y2 y3 y4 y5 y6 y7 y8
  clear hb1 HP CR
  go_wp2_with fail
  refine (CV _ HP1.out.b).out.mono ?_
  rintro e w2 ⟨rfl, hb2⟩
  have HP2 := Lib.hid (HP1.out.next hb2)
  have x0 := HP2.out.x0.c 0
  simp at x0
  clear hb2 HP1 CV y0 y1 y2 y3 y4 y5 y6 y7 y8
  go_wp2_with fail
  refine (put_search A n c rs r w w2 HS.out hn HP2.out HR.out).mono ?_
  rintro e w3 ⟨p, rfl, hPl, hb3⟩
  have HP3 := Lib.hid (HP2.out.next hb3)
  have HPl := Lib.hid hPl
  have hpn := hPl.le
  clear hb3 hPl x0 HP2
  have x0 := HP3.out.x0.c 0
  have x1 := HP3.out.x1.c 0
  simp at x0 x1
  have hplt : p < n := by
    rcases Nat.lt_or_ge p n with h | h
    · exact h
    · exfalso
      have := H3.out
      rw [has_not fun x hx => ?_] at this
      · cases this
      · obtain ⟨y, hy, rfl⟩ := List.mem_map.1 hx
        obtain ⟨i, hi, e⟩ := List.mem_iff_getElem.1 hy
        have := HPl.out.lo i y (by have := HS.out.r.1; omega) (by rw [List.getElem?_eq_getElem hi, e])
        omega
  obtain ⟨ad, rp, rfl, hb, hx, hN, _⟩ := (HS.out.below HP3.out.b).get hplt
  have c0 := hN.c0
  have he : rp.v.fr = r.v.fr := by
    have h1 := HPl.out.hi p rp (Nat.le_refl _) hx
    rcases Int.lt_or_eq_of_le h1 with h4 | h4
    · exfalso
      have := H3.out
      rw [has_not fun x hx => ?_] at this
      · cases this
      · obtain ⟨y, hy, rfl⟩ := List.mem_map.1 hx
        obtain ⟨i, hi, e⟩ := List.mem_iff_getElem.1 hy
        have hy2 : rs[i]? = some y := by rw [List.getElem?_eq_getElem hi, e]
        rcases Nat.lt_or_ge i p with h5 | h5
        · have := HPl.out.lo i y h5 hy2; omega
        · rcases Nat.eq_or_lt_of_le h5 with h6 | h6
          · subst h6; rw [‹rs[p]? = some rp›] at hy2; injection hy2 with hy2; subst hy2; omega
          · have := rise_lt (rgt_rise HR.out).2 h6 (map_get ‹rs[p]? = some rp›) (map_get hy2); omega
    · exact h4.symm
  have hplt2 : (p : Int) < (n : Int) := by omega
  have q1 : decide ((p : Int) < (n : Int)) = true := decide_eq_true hplt2
  have q1' : decide (p < n) = true := decide_eq_true hplt
  rw [he] at c0
  have z0 := HP3.out.x2.c 0
  have zf := HP3.out.x2.f 0
  simp at z0
  clear hN hb hx he
  go_wp2
  go_quiet (fail)
  have HPZ := Lib.hid (show P0 w (w3.drewN nq) (some ad) n c r from ⟨below_drewN HP3.out.b _, HP3.out.x0, HP3.out.x1, HP3.out.x2⟩)
  go_wp2
  refine bodyPost_ret (v := .tuple #[tg none 0 0, .int .i64 8]) (by simp [results, Try.results17, go_sem, z0]) rfl (put_out (HPZ.out.b.setCell (p := ⟨w.heap.size + 2, 0, none⟩) (by simp) _) HC.out (by omega))

set_option maxRecDepth 100000 in
set_option maxHeartbeats 4000000 in
theorem put_bound (A : Option Addr) (n c : Nat) (rs : List Rw) (r : Rw) (w : World) (hS : Vers w A n rs) (hn : n ≤ 1000) (hM : Mean w (· < w.heap.size) r) (hSm : Sm r) (h : rgt (rs.map Rw.v) = true) (h2 : ver r.v = true) (h3 : has r.v.fr (rs.map Rw.v) = false) (h4 : n = 100) :
    Calls Try.prog 17 #[tg A n c, vg r] w (PutTo w (rs.map Rw.v) r.v) := by
  have HC := Lib.hid (cd_bound h h2 h3 (hS.len.trans h4))
  have H3 := Lib.hid h3
  subst h4
  clear h3
  have CR := fun w' (hb : Below w.heap.size w w') => Lib.hid (right_ A 100 c rs w' (hS.below hb) hn)
  have CV := fun w' (hb : Below w.heap.size w w') => Lib.hid (version_ r w' (hM.below hb) hSm)
  rw [h] at CR
  rw [h2] at CV
  have HP := Lib.hid (P0.start (w := w) (A := A) (n := 100) (c := c) (r := r))
  have HS := Lib.hid hS
  have HM := Lib.hid hM
  have HR := Lib.hid h
  have HV := Lib.hid h2
  clear hS hM h h2
  go_enter Try.func17, Try.ntmps17
  go_wp2_with fail
  refine (CR _ HP.out.b).out.mono ?_
  rintro e w1 ⟨rfl, hb1⟩
  have HP1 := Lib.hid (HP.out.next hb1)
  have y0 := HP1.out.x1.c 0
  have y1 := HP1.out.x1.c 1
  have y2 := HP1.out.x1.c 2
  have y3 := HP1.out.x1.c 3
  have y4 := HP1.out.x1.c 4
  have y5 := HP1.out.x1.c 5
  have y6 := HP1.out.x1.c 6
  have y7 := HP1.out.x1.c 7
  have y8 := HP1.out.x1.c 8
  simp at y0 y1 y2 y3 y4 y5 y6 y7 y8
  clear hb1 HP CR
  go_wp2_with fail
  refine (CV _ HP1.out.b).out.mono ?_
  rintro e w2 ⟨rfl, hb2⟩
  have HP2 := Lib.hid (HP1.out.next hb2)
  have x0 := HP2.out.x0.c 0
  simp at x0
  clear hb2 HP1 CV y0 y1 y2 y3 y4 y5 y6 y7 y8
  go_wp2_with fail
  refine (put_search A 100 c rs r w w2 HS.out hn HP2.out HR.out).mono ?_
  rintro e w3 ⟨p, rfl, hPl, hb3⟩
  have HP3 := Lib.hid (HP2.out.next hb3)
  have HPl := Lib.hid hPl
  have hpn := hPl.le
  clear hb3 hPl x0 HP2
  have x0 := HP3.out.x0.c 0
  have x1 := HP3.out.x1.c 0
  simp at x0 x1
  rcases Nat.lt_or_ge p 100 with hplt | hplt
  · obtain ⟨ad, rp, rfl, hb, hx, hN, _⟩ := (HS.out.below HP3.out.b).get hplt
    have c0 := hN.c0
    have hne : rp.v.fr ≠ r.v.fr := has_false H3.out rp.v (List.mem_of_getElem? (map_get hx))
    have hplt2 : (p : Int) < 100 := by omega
    have q1 : decide ((p : Int) < 100) = true := decide_eq_true hplt2
    have q1' : decide (p < 100) = true := decide_eq_true hplt
    have q2 : (rp.v.fr == r.v.fr) = false := by simpa using hne
    have q2' : decide (rp.v.fr = r.v.fr) = false := decide_eq_false hne
    clear hN hb hx hne
    go_wp2
    go_quiet (fail)
    have HPZ := Lib.hid (show P0 w (w3.drewN nq) (some ad) 100 c r from ⟨below_drewN HP3.out.b _, HP3.out.x0, HP3.out.x1, HP3.out.x2⟩)
    clear c0 q2 q2' x0 x1
    have z0 := HPZ.out.x2.c 0
    have zf := HPZ.out.x2.f 0
    simp at z0
    go_wp2
    refine bodyPost_ret (v := .tuple #[tg none 0 0, .int .i64 2]) (by simp [results, Try.results17, go_sem, z0]) rfl (put_out (HPZ.out.b.setCell (p := ⟨w.heap.size + 2, 0, none⟩) (by simp) _) HC.out (by omega))
  · have q1 : decide ((p : Int) < 100) = false := decide_eq_false (by omega)
    have q1' : decide (p < 100) = false := decide_eq_false (by omega)
    go_wp2
    go_quiet (fail)
    have HPZ := Lib.hid (show P0 w (w3.drewN nq) A 100 c r from ⟨below_drewN HP3.out.b _, HP3.out.x0, HP3.out.x1, HP3.out.x2⟩)
    clear x0 x1
    have z0 := HPZ.out.x2.c 0
    have zf := HPZ.out.x2.f 0
    simp at z0
    go_wp2
    refine bodyPost_ret (v := .tuple #[tg none 0 0, .int .i64 2]) (by simp [results, Try.results17, go_sem, z0]) rfl (put_out (HPZ.out.b.setCell (p := ⟨w.heap.size + 2, 0, none⟩) (by simp) _) HC.out (by omega))

end Trf
end Go.Proofs.Ythjlhjbblnoldaa
