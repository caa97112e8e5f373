/-
  The document's Turn; Trial of package post and the document's. Conditions: the book reads as a list of at most a million entries (a slice's length bounds its lines).
-/
import Derived.Test.YtheamhjgohacdaaBal
import Derived.StillTailTactics
namespace Go.Proofs.Ytheamhjgohacdaa
open Go.RowKit Bk
namespace Pst
set_option linter.unusedVariables false

theorem undrew {w w' : World} (h : Below w.drew.heap.size w.drew w') : Below w.heap.size w w' := ⟨h.os, h.tape, h.output, h.size, h.block⟩

set_option maxRecDepth 100000 in
set_option maxHeartbeats 2000000 in
theorem rturn (A : Option Addr) (n c : Nat) (es : List En) (acc : Int) (s : Pr) (w : World) (hS : Ents w A n es) (hn : n ≤ 1000000) (hf : Few es) :
    Calls Try.prog 17 #[bg A n c, .int .i64 acc, Spn.ag s] w (Num w (wrap64 (bal (Sp.inn s) acc es))) := by
  have HL := Lib.hid hS.len
  have HS := Lib.hid hS
  have HE := Lib.hid hf
  clear hS hf
  obtain ⟨R, hR⟩ : ∃ R, wrap64 (bal (Sp.inn s) acc es) = R := ⟨_, rfl⟩
  rw [hR]
  have HR := Lib.hid hR
  clear hR
  obtain ⟨s1, s2⟩ := s
  have CI := fun d w => Lib.hid (Spn.rinn (s1, s2) d w)
  go_enter Try.func17, Try.ntmps17
  go_wp2
  go_loopw [7, 8] (fun sa i w' => ∃ (k : Nat) (a : Int) (w1 : World), k ≤ n ∧ i = .int .i64 (k : Int) ∧ sa = .int .i64 a ∧ w1 = w' ∧ Hid (wrap64 (bal (Sp.inn (s1, s2)) acc (es.take k)) = a) ∧ Hid (Below w.heap.size w w1 ∧ Bx w1 w.heap.size 29 #[.slice A n c] ∧ Bx w1 (w.heap.size + 1) 32 #[.int .i64 s1, .int .i64 s2])) (fun _ i _ => n - (intOf i).toNat)
  case atStart => exact ⟨0, 0, _, Nat.zero_le _, rfl, rfl, rfl, Lib.hid wr0, Lib.hid ⟨(alloc_ _ _).alloc (by simp) _, (Bx.new _ _ _).alloc _, by have := Bx.new (w.alloc (.cells #[.slice A n c] 29)) 32 #[.int .i64 s1, .int .i64 s2]; rwa [World.size_alloc] at this⟩⟩
  case round =>
    obtain ⟨k, a, w1, hk, rfl, rfl, rfl, HA, HW⟩ := hrel
    have b0 := HW.out.2.1.c 0
    have x0 := HW.out.2.2.c 0
    have x1 := HW.out.2.2.c 1
    have xl := HW.out.2.2.lt
    simp at b0 x0 x1
    by_cases hlt : k < n
    · obtain ⟨ad, d, f, ls, L, m, cl, rfl, hb, hx, hc0, hc1, hc2, hl⟩ := (HS.out.below HW.out.1).get hlt
      have hlt2 : (k : Int) < (n : Int) := by omega
      have hxl : ad.block < w1.heap.size := hb
      have hm := few_len HE.out hx hl
      have HLN := Lib.hid hl
      have CD := fun w => CI d w
      cases hd : Sp.inn (s1, s2) d
      · rw [hd] at CD
        have HN := Lib.hid (show wrap64 (bal (Sp.inn (s1, s2)) acc (es.take (k + 1))) = a by rw [bal_no hx hd, HA.out])
        clear hx hb hl hd hm CI
        go_wp2
        go_still_tail 7, (by kernel_rfl)
        go_wp2_with fail
        refine (CD w1.drew).out.mono ?_
        rintro e w2 ⟨rfl, hb1⟩
        have hb1' := undrew hb1
        have HB := Lib.hid (show Below w.heap.size w w2 ∧ Bx w2 w.heap.size 29 #[.slice (some ad) n c] ∧ Bx w2 (w.heap.size + 1) 32 #[.int .i64 s1, .int .i64 s2] from ⟨HW.out.1.trans (hb1'.mono HW.out.1.size), HW.out.2.1.keep hb1', HW.out.2.2.keep hb1'⟩)
        clear hb1 hb1' CD
        go_wp2
        go_roundw
        case rel => exact ⟨k + 1, a, _, by omega, by go_num, rfl, rfl, HN, HB⟩
        case measure => simp [intOf]; omega
      · rw [hd] at CD
        have C := fun w' (hb : Below w1.heap.size w1 w') => Lib.hid (rof d f L m cl ls acc w' (HLN.out.below hb) hm)
        have HN := Lib.hid (show wrap64 (bal (Sp.inn (s1, s2)) acc (es.take (k + 1))) = wrap64 (a + wrap64 (ofA acc ls)) by rw [bal_yes hx hd, ← HA.out, wr_add, wr_add'])
        generalize wrap64 (ofA acc ls) = y at C HN
        obtain ⟨b, hb2⟩ : ∃ b, wrap64 (a + y) = b := ⟨_, rfl⟩
        have hb3 : IntKind.i64.wrap (a + y) = b := by rw [IntWalk.i64_left]; exact hb2
        have HNb := Lib.hid (HN.out.trans hb2)
        have HC := Lib.hid (show w1.cell? (ad.add (k * 3)) = some (.int .i64 d) ∧ w1.cell? ⟨(ad.add (k * 3)).block, (ad.add (k * 3)).off + 1, none⟩ = some (.int .i64 f) ∧ w1.cell? ⟨(ad.add (k * 3)).block, (ad.add (k * 3)).off + 2, none⟩ = some (.slice L m cl) from ⟨hc0, hc1, hc2⟩)
        clear hx hl hd hm CI HN
        go_wp2
        go_still_tail 7, (by kernel_rfl)
        go_wp2_with fail
        refine (CD w1.drew).out.mono ?_
        rintro e w2 ⟨rfl, hb1⟩
        have hb1' := undrew hb1
        have HB := Lib.hid hb1'
        have hbl : (ad.add (k * 3)).block < w1.heap.size := by rw [add_block]; exact hb
        have z0 := (hb1'.cell hbl).trans hc0
        have z1 := (hb1'.cell (p := ⟨(ad.add (k * 3)).block, (ad.add (k * 3)).off + 1, none⟩) hbl).trans hc1
        have z2 := (hb1'.cell (p := ⟨(ad.add (k * 3)).block, (ad.add (k * 3)).off + 2, none⟩) hbl).trans hc2
        have v0 := (HW.out.2.1.keep hb1').c 0
        simp at v0
        clear hb1 hb1' CD b0 x0 x1 hc0 hc1 hc2 hbl hb
        go_wp2_with fail
        refine (C _ HB.out).out.mono ?_
        rintro e w3 ⟨rfl, hb2'⟩
        have h13 := HB.out.trans (hb2'.mono HB.out.size)
        have HB3 := Lib.hid (show Below w.heap.size w w3 ∧ Bx w3 w.heap.size 29 #[.slice (some ad) n c] ∧ Bx w3 (w.heap.size + 1) 32 #[.int .i64 s1, .int .i64 s2] from ⟨HW.out.1.trans (h13.mono HW.out.1.size), HW.out.2.1.keep h13, HW.out.2.2.keep h13⟩)
        clear hb2' C h13
        go_wp2
        go_roundw
        case rel => exact ⟨k + 1, b, _, by omega, by go_num, rfl, rfl, HNb, HB3⟩
        case measure => clear hb2 hb3; simp [intOf]; omega
    · have HF := Lib.hid (show a = R by rw [← HA.out, List.take_of_length_le (by rw [HL.out]; omega)]; exact HR.out)
      go_wp2
      go_ret
      exact ⟨ret_int HF.out, HW.out.1⟩

/-- Ten numbers as cells. -/
abbrev ar (g : Nat → Int) : Array Value := #[.int .i64 (g 0), .int .i64 (g 1), .int .i64 (g 2), .int .i64 (g 3), .int .i64 (g 4), .int .i64 (g 5), .int .i64 (g 6), .int .i64 (g 7), .int .i64 (g 8), .int .i64 (g 9)]
/-- The trial of the first k accounts. -/
def trk (p : Int → Bool) (es : List En) (k i : Nat) : Int := if 1 ≤ i ∧ i ≤ k then wrap64 (bal p (i : Int) es) else 0
theorem ar_set (p : Int → Bool) (es : List En) (k : Nat) (hk : k < 9) : (ar (trk p es k)).setIfInBounds (k + 1) (.int .i64 (wrap64 (bal p ((k : Int) + 1) es))) = ar (trk p es (k + 1)) := by
  have : k = 0 ∨ k = 1 ∨ k = 2 ∨ k = 3 ∨ k = 4 ∨ k = 5 ∨ k = 6 ∨ k = 7 ∨ k = 8 := by omega
  rcases this with rfl | rfl | rfl | rfl | rfl | rfl | rfl | rfl | rfl <;> simp [ar, trk]
/-- The whole trial. -/
def tri (p : Int → Bool) (es : List En) (i : Nat) : Int := trk p es 9 i
theorem tri_eq (p : Int → Bool) (es : List En) : trk p es 9 = tri p es := rfl

/-- What holds at the head of each round. -/
structure TR (w w1 : World) (A : Option Addr) (n c : Nat) (g : Nat → Int) : Prop where
  b : Below w.heap.size w w1
  bx : Bx w1 w.heap.size 29 #[.slice A n c]
  r : Bx w1 (w.heap.size + 1) 36 (ar fun _ => 0)
  t : Bx w1 (w.heap.size + 2) 36 (ar g)

/-- Ten numbers stored one by one. -/
def ten (w1 : World) (b : Nat) (g : Nat → Int) : World := (((((((((w1.setCell ⟨b, 0, none⟩ (.int .i64 (g 0))).setCell ⟨b, 1, none⟩ (.int .i64 (g 1))).setCell ⟨b, 2, none⟩ (.int .i64 (g 2))).setCell ⟨b, 3, none⟩ (.int .i64 (g 3))).setCell ⟨b, 4, none⟩ (.int .i64 (g 4))).setCell ⟨b, 5, none⟩ (.int .i64 (g 5))).setCell ⟨b, 6, none⟩ (.int .i64 (g 6))).setCell ⟨b, 7, none⟩ (.int .i64 (g 7))).setCell ⟨b, 8, none⟩ (.int .i64 (g 8))).setCell ⟨b, 9, none⟩ (.int .i64 (g 9))
theorem ten_bx {w1 : World} {b : Nat} {t : TypeId} {g h : Nat → Int} (hb : Bx w1 b t (ar h)) : Bx (ten w1 b g) b t (ar g) := by
  have := ((((((((((hb.set 0 (.int .i64 (g 0))).set 1 (.int .i64 (g 1))).set 2 (.int .i64 (g 2))).set 3 (.int .i64 (g 3))).set 4 (.int .i64 (g 4))).set 5 (.int .i64 (g 5))).set 6 (.int .i64 (g 6))).set 7 (.int .i64 (g 7))).set 8 (.int .i64 (g 8))).set 9 (.int .i64 (g 9)))
  unfold ten
  simpa [ar] using this
theorem ten_below {w w1 : World} {b B : Nat} {g : Nat → Int} (h : Below B w w1) (hb : B ≤ b) : Below B w (ten w1 b g) := by
  unfold ten
  exact ((((((((((h.setCell (p := ⟨b, 0, none⟩) hb _).setCell (p := ⟨b, 1, none⟩) hb _).setCell (p := ⟨b, 2, none⟩) hb _).setCell (p := ⟨b, 3, none⟩) hb _).setCell (p := ⟨b, 4, none⟩) hb _).setCell (p := ⟨b, 5, none⟩) hb _).setCell (p := ⟨b, 6, none⟩) hb _).setCell (p := ⟨b, 7, none⟩) hb _).setCell (p := ⟨b, 8, none⟩) hb _).setCell (p := ⟨b, 9, none⟩) hb _)

def GivesT (w : World) (g : Nat → Int) (e : Ending) (w' : World) : Prop := e = .returned (.agg (ar g)) ∧ Below w.heap.size w w'

set_option maxRecDepth 100000 in
set_option maxHeartbeats 4000000 in
theorem trial (A : Option Addr) (n c : Nat) (es : List En) (day : Int) (w : World) (hS : Ents w A n es) (hn : n ≤ 1000000) (hf : Few es) :
    Calls Try.prog 18 #[bg A n c, .int .i64 day] w (GivesT w (tri (upto day) es)) := by
  have CB := fun acc w' (hb : Below w.heap.size w w') => Lib.hid (balance A n c es acc day w' (hS.below hb) hn hf)
  clear hS hf
  go_enter Try.func18, Try.ntmps18
  go_wp2
  go_loopw [6, 7] (fun s6 i w' => ∃ (k : Nat) (w1 : World), k ≤ 9 ∧ i = .int .i64 (k : Int) ∧ w1 = w' ∧ Hid (TR w w1 A n c (trk (upto day) es k))) (fun _ i _ => 9 - (intOf i).toNat)
  case atStart =>
    refine ⟨0, _, Nat.zero_le _, rfl, rfl, Lib.hid ⟨((alloc_ _ _).alloc (by simp) _).alloc (by simp; omega) _, ((Bx.new _ _ _).alloc _).alloc _, ?_, ?_⟩⟩
    · have := (Bx.new (w.alloc (.cells #[.slice A n c] 29)) 36 (ar fun _ => 0)).alloc (.cells (ar fun _ => 0) 36)
      rw [World.size_alloc] at this
      exact this
    · have := Bx.new ((w.alloc (.cells #[.slice A n c] 29)).alloc (.cells (ar fun _ => 0) 36)) 36 (ar fun _ => 0)
      rw [World.size_alloc, World.size_alloc] at this
      exact this
  case round =>
    obtain ⟨k, w1, hk, rfl, rfl, HR⟩ := hrel
    have b0 := HR.out.bx.c 0
    simp at b0
    by_cases hlt : k < 9
    · have C := fun w' (hb : Below w.heap.size w w') => CB ((k : Int) + 1) w' hb
      have HE := Lib.hid (ar_set (upto day) es k hlt)
      generalize wrap64 (bal (upto day) ((k : Int) + 1) es) = y at C HE
      have hlt2 : (k : Int) < 9 := by omega
      clear CB
      go_wp2_with fail
      refine (C _ HR.out.b).out.mono ?_
      rintro e w2 ⟨rfl, hb1⟩
      have HT := Lib.hid (HR.out.t.keep hb1)
      have HB := Lib.hid hb1
      have hz : w.heap.size + 2 < w2.heap.size := HT.out.lt
      have hfz := HT.out.f (k + 1)
      have hcl : ∃ u, w2.cell? ⟨w.heap.size + 2, k + 1, none⟩ = some u := by
        rw [HT.out.c (k + 1)]
        exact ⟨_, Array.getElem?_eq_getElem (by simp; omega)⟩
      obtain ⟨u, hcl⟩ := hcl
      clear hb1 C
      go_wp2
      go_roundw
      case rel =>
        refine ⟨k + 1, _, by omega, by go_num, rfl, Lib.hid ⟨(HR.out.b.trans (HB.out.mono HR.out.b.size)).setCell (by simp <;> omega) _, (HR.out.bx.keep HB.out).far (by simp <;> omega) _, (HR.out.r.keep HB.out).far (by simp <;> omega) _, ?_⟩⟩
        have := HT.out.set (k + 1) (.int .i64 y)
        rw [HE.out] at this
        exact this
      case measure => simp [intOf]; omega
    · obtain rfl : k = 9 := by omega
      rw [tri_eq] at HR
      have HT := Lib.hid (fun i => HR.out.t.c i)
      have HX := Lib.hid (fun i => HR.out.r.c i)
      obtain ⟨g, hg⟩ : ∃ g, tri (upto day) es = g := ⟨_, rfl⟩
      rw [hg] at HR HT
      have HG := Lib.hid hg
      clear hg
      have z0 := HT.out 0
      have z1 := HT.out 1
      have z2 := HT.out 2
      have z3 := HT.out 3
      have z4 := HT.out 4
      have z5 := HT.out 5
      have z6 := HT.out 6
      have z7 := HT.out 7
      have z8 := HT.out 8
      have z9 := HT.out 9
      have v0 := HX.out 0
      have v1 := HX.out 1
      have v2 := HX.out 2
      have v3 := HX.out 3
      have v4 := HX.out 4
      have v5 := HX.out 5
      have v6 := HX.out 6
      have v7 := HX.out 7
      have v8 := HX.out 8
      have v9 := HX.out 9
      have hfz := fun o => HR.out.r.f o
      have hlr := HR.out.r.lt
      simp at z0 z1 z2 z3 z4 z5 z6 z7 z8 z9 v0 v1 v2 v3 v4 v5 v6 v7 v8 v9
      clear CB
      go_wp2
      have HX2 := Lib.hid (ten_bx (g := g) HR.out.r)
      have HB2 := Lib.hid (ten_below (b := w.heap.size + 1) (g := g) HR.out.b (Nat.le_succ _))
      change bodyPost _ _ _ _ _ (ten w1 (w.heap.size + 1) g)
      generalize ten w1 (w.heap.size + 1) g = WF at HX2 HB2
      have hX := HX2.out
      clear z0 z1 z2 z3 z4 z5 z6 z7 z8 z9 v0 v1 v2 v3 v4 v5 v6 v7 v8 v9 hfz hlr HT HX
      have y0 := hX.c 0
      have y1 := hX.c 1
      have y2 := hX.c 2
      have y3 := hX.c 3
      have y4 := hX.c 4
      have y5 := hX.c 5
      have y6 := hX.c 6
      have y7 := hX.c 7
      have y8 := hX.c 8
      have y9 := hX.c 9
      simp at y0 y1 y2 y3 y4 y5 y6 y7 y8 y9
      exact bodyPost_ret (v := .agg (ar g)) (by simp [results, Try.results18, go_sem, y0, y1, y2, y3, y4, y5, y6, y7, y8, y9]) rfl ⟨by rw [HG.out], HB2.out⟩

set_option maxRecDepth 100000 in
set_option maxHeartbeats 4000000 in
theorem rtrial (A : Option Addr) (n c : Nat) (es : List En) (day : Int) (w : World) (hS : Ents w A n es) (hn : n ≤ 1000000) (hf : Few es) :
    Calls Try.prog 19 #[bg A n c, .int .i64 day] w (GivesT w (tri (upto day) es)) := by
  have CB := fun acc w' (hb : Below w.heap.size w w') => Lib.hid (rbalance A n c es acc day w' (hS.below hb) hn hf)
  clear hS hf
  go_enter Try.func19, Try.ntmps19
  go_wp2
  go_loopw [6] (fun i w' => ∃ (k : Nat) (w1 : World), k ≤ 9 ∧ i = .int .i64 ((k : Int) + 1) ∧ w1 = w' ∧ Hid (TR w w1 A n c (trk (upto day) es k))) (fun i _ => 10 - (intOf i).toNat)
  case atStart =>
    refine ⟨0, _, Nat.zero_le _, rfl, rfl, Lib.hid ⟨((alloc_ _ _).alloc (by simp) _).alloc (by simp; omega) _, ((Bx.new _ _ _).alloc _).alloc _, ?_, ?_⟩⟩
    · have := (Bx.new (w.alloc (.cells #[.slice A n c] 29)) 36 (ar fun _ => 0)).alloc (.cells (ar fun _ => 0) 36)
      rw [World.size_alloc] at this
      exact this
    · have := Bx.new ((w.alloc (.cells #[.slice A n c] 29)).alloc (.cells (ar fun _ => 0) 36)) 36 (ar fun _ => 0)
      rw [World.size_alloc, World.size_alloc] at this
      exact this
  case round =>
    obtain ⟨k, w1, hk, rfl, rfl, HR⟩ := hrel
    have b0 := HR.out.bx.c 0
    simp at b0
    by_cases hlt : k < 9
    · have C := fun w' (hb : Below w.heap.size w w') => CB ((k : Int) + 1) w' hb
      have HE := Lib.hid (ar_set (upto day) es k hlt)
      generalize wrap64 (bal (upto day) ((k : Int) + 1) es) = y at C HE
      have hlt2 : (k : Int) < 9 := by omega
      clear CB
      go_wp2_with fail
      refine (C _ HR.out.b).out.mono ?_
      rintro e w2 ⟨rfl, hb1⟩
      have HT := Lib.hid (HR.out.t.keep hb1)
      have HB := Lib.hid hb1
      have hz : w.heap.size + 2 < w2.heap.size := HT.out.lt
      have hfz := HT.out.f (k + 1)
      have hcl : ∃ u, w2.cell? ⟨w.heap.size + 2, k + 1, none⟩ = some u := by
        rw [HT.out.c (k + 1)]
        exact ⟨_, Array.getElem?_eq_getElem (by simp; omega)⟩
      obtain ⟨u, hcl⟩ := hcl
      clear hb1 C
      go_wp2
      go_roundw
      case rel =>
        refine ⟨k + 1, _, by omega, by go_num, rfl, Lib.hid ⟨(HR.out.b.trans (HB.out.mono HR.out.b.size)).setCell (by simp <;> omega) _, (HR.out.bx.keep HB.out).far (by simp <;> omega) _, (HR.out.r.keep HB.out).far (by simp <;> omega) _, ?_⟩⟩
        have := HT.out.set (k + 1) (.int .i64 y)
        rw [HE.out] at this
        exact this
      case measure => simp [intOf]; omega
    · obtain rfl : k = 9 := by omega
      rw [tri_eq] at HR
      have HT := Lib.hid (fun i => HR.out.t.c i)
      have HX := Lib.hid (fun i => HR.out.r.c i)
      obtain ⟨g, hg⟩ : ∃ g, tri (upto day) es = g := ⟨_, rfl⟩
      rw [hg] at HR HT
      have HG := Lib.hid hg
      clear hg
      have z0 := HT.out 0
      have z1 := HT.out 1
      have z2 := HT.out 2
      have z3 := HT.out 3
      have z4 := HT.out 4
      have z5 := HT.out 5
      have z6 := HT.out 6
      have z7 := HT.out 7
      have z8 := HT.out 8
      have z9 := HT.out 9
      have v0 := HX.out 0
      have v1 := HX.out 1
      have v2 := HX.out 2
      have v3 := HX.out 3
      have v4 := HX.out 4
      have v5 := HX.out 5
      have v6 := HX.out 6
      have v7 := HX.out 7
      have v8 := HX.out 8
      have v9 := HX.out 9
      have hfz := fun o => HR.out.r.f o
      have hlr := HR.out.r.lt
      simp at z0 z1 z2 z3 z4 z5 z6 z7 z8 z9 v0 v1 v2 v3 v4 v5 v6 v7 v8 v9
      clear CB
      go_wp2
      have HX2 := Lib.hid (ten_bx (g := g) HR.out.r)
      have HB2 := Lib.hid (ten_below (b := w.heap.size + 1) (g := g) HR.out.b (Nat.le_succ _))
      change bodyPost _ _ _ _ _ (ten w1 (w.heap.size + 1) g)
      generalize ten w1 (w.heap.size + 1) g = WF at HX2 HB2
      have hX := HX2.out
      clear z0 z1 z2 z3 z4 z5 z6 z7 z8 z9 v0 v1 v2 v3 v4 v5 v6 v7 v8 v9 hfz hlr HT HX
      have y0 := hX.c 0
      have y1 := hX.c 1
      have y2 := hX.c 2
      have y3 := hX.c 3
      have y4 := hX.c 4
      have y5 := hX.c 5
      have y6 := hX.c 6
      have y7 := hX.c 7
      have y8 := hX.c 8
      have y9 := hX.c 9
      simp at y0 y1 y2 y3 y4 y5 y6 y7 y8 y9
      exact bodyPost_ret (v := .agg (ar g)) (by simp [results, Try.results19, go_sem, y0, y1, y2, y3, y4, y5, y6, y7, y8, y9]) rfl ⟨by rw [HG.out], HB2.out⟩

end Pst
end Go.Proofs.Ytheamhjgohacdaa
