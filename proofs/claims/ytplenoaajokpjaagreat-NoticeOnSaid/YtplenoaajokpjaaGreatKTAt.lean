/-
  At of package tariff. Conditions: those of each theorem.
-/
import Derived.Test.YtplenoaajokpjaaGreatKTOne
namespace Go.Proofs.YtplenoaajokpjaaGreat
open Go.RowKit Ba Tf
namespace Trf
set_option linter.unusedVariables false
def CopiesA (w : World) (m : Nat) (xs : List Pr) (e : Ending) (w' : World) : Prop := ∃ A c, e = .returned (.slice A m c) ∧ Lns w' (fun b => w.heap.size ≤ b ∧ b < w'.heap.size) A m xs ∧ Below w.heap.size w w'
set_option maxHeartbeats 1000000 in
theorem clone_bands (L : Option Addr) (m c : Nat) (xs : List Pr) (ok : Nat → Prop) (w : World) (hS : Lns w ok L m xs) (hok : ∀ b, ok b → b < w.heap.size) (hn : m ≤ 3000) :
  Calls Tryz.prog 88 #[.slice L m c] w (CopiesA w m xs) := by
 cases L with
 | none =>
  obtain rfl : m = 0 := hS.noroom; have hx : xs = [] := List.eq_nil_of_length_eq_zero hS.1; subst hx; clear hS; have q : ∀ (w : World) (a : Option Addr) (n c n' c' : Nat), (binOp .eql 67 (.slice a n c) (.slice none n' c')).run Tryz.prog w = .ok (.bool a.isNone) w := fun w a n c n' c' => Lib.run_eql_slice_nil w _ _ a n c n' c' Tryz.underlying67
  go_enter Tryz.func88, Tryz.ntmps88; go_wp2; go_ret; exact ⟨none, 0, rfl, Lns.nil, Below.refl _ _⟩
 | some ad =>
  have HS := Lib.hid hS; have HK := Lib.hid hok; obtain ⟨i, hi, hz, h1, h2⟩ := info_parts info_band; have HI := Lib.hid hi; have HZ := Lib.hid hz; have H1 := Lib.hid h1; have H2 := Lib.hid h2; clear hS hok hi hz h1 h2; have q : ∀ (w : World) (a : Option Addr) (n c n' c' : Nat), (binOp .eql 67 (.slice a n c) (.slice none n' c')).run Tryz.prog w = .ok (.bool a.isNone) w := fun w a n c n' c' => Lib.run_eql_slice_nil w _ _ a n c n' c' Tryz.underlying67
  go_enter Tryz.func88, Tryz.ntmps88
  go_wp2_with (at_builtin; refine wpList_append_own _ rfl (.tmp 5) (.tmp 6) _ rfl w.heap.size 127 i _ 2 16 Tryz.underlying67 HI.out HZ.out H1.out H2.out rfl (by omega) (.slice (some ⟨w.heap.size, 0, none⟩) 0 0) 0 [] rfl (World.ownsRow_made w #[] 0 (Nat.le_refl _) (Nat.zero_le _) (by simp)) ad m c (cel2 xs) rfl (by rw [cel2_length, HS.out.1]) (lns_cells (HS.out.keep (ok' := ok) (fun p hp => (alloc_ w _).cell (HK.out _ hp)) fun _ h => h)) (cel2_cell xs) (by unfold maxLen; omega) (by omega) (by simp) ?_; intro v2 w2 hO2 hg2 _; have HO2 := Lib.hid hO2; have HG2 := Lib.hid hg2; clear hO2 hg2)
  obtain ⟨A2, c2, rfl, hL⟩ := lns_own (xs := xs) (by have := HO2.out; rwa [List.nil_append] at this); have HL := Lib.hid hL; clear hL; go_wp2; go_ret; refine ⟨A2, c2, by rw [Nat.zero_add]; rfl, by have := HL.out; rwa [Nat.zero_add] at this, ((Below.refl _ _).alloc (Nat.le_refl _) _).grown HG2.out (by simp) (fun j hj => ?_)⟩; simp [Value.ownBlock] at hj; omega
theorem ins_own {w : World} {base n : Nat} {v : Value} {xs : List Int} (h : w.ownsRow base 3 1 v n (xs.map (Value.int .i64))) : ∃ A c, v = .slice A n c ∧ Ins w (fun b => base ≤ b ∧ b < w.heap.size) A n xs := by
 have hl : xs.length = n := by have := h.1; rw [List.length_map] at this; omega
 rcases h.2 with ⟨rfl, hn⟩ | ⟨g, cap, cur, rfl, hb, hh, hnc, hm, hs, ht⟩
 ·subst hn; exact ⟨_, _, rfl, hl, fun h => absurd h (by omega)⟩
 ·refine ⟨_, _, rfl, hl, fun _ => ⟨_, rfl, ⟨hb, ?_⟩, fun j x hx => ?_⟩⟩
  ·rcases Nat.lt_or_ge g w.heap.size with hlt | hge
   ·exact hlt
   ·rw [Array.getElem?_eq_none hge] at hh; cases hh
  ·exact World.ownsRow.cells (g := g) h rfl j _ (by rw [List.getElem?_map, hx]; rfl)
def CopiesI (w : World) (m : Nat) (xs : List Int) (e : Ending) (w' : World) : Prop := ∃ A c, e = .returned (.slice A m c) ∧ Ins w' (fun b => w.heap.size ≤ b ∧ b < w'.heap.size) A m xs ∧ Below w.heap.size w w'
set_option maxHeartbeats 1000000 in
theorem clone_ints (L : Option Addr) (m c : Nat) (xs : List Int) (ok : Nat → Prop) (w : World) (hS : Ins w ok L m xs) (hok : ∀ b, ok b → b < w.heap.size) (hn : m ≤ 3000) :
  Calls Tryz.prog 89 #[.slice L m c] w (CopiesI w m xs) := by
 cases L with
 | none =>
  obtain rfl : m = 0 := hS.noroom; have hx : xs = [] := List.eq_nil_of_length_eq_zero hS.1; subst hx; clear hS; have q : ∀ (w : World) (a : Option Addr) (n c n' c' : Nat), (binOp .eql 68 (.slice a n c) (.slice none n' c')).run Tryz.prog w = .ok (.bool a.isNone) w := fun w a n c n' c' => Lib.run_eql_slice_nil w _ _ a n c n' c' Tryz.underlying68
  go_enter Tryz.func89, Tryz.ntmps89; go_wp2; go_ret; exact ⟨none, 0, rfl, Ins.nil, Below.refl _ _⟩
 | some ad =>
  have HS := Lib.hid hS; have HK := Lib.hid hok; obtain ⟨i, hi, hz, h1, h2⟩ := info_parts info_int; have HI := Lib.hid hi; have HZ := Lib.hid hz; have H1 := Lib.hid h1; have H2 := Lib.hid h2; clear hS hok hi hz h1 h2; have q : ∀ (w : World) (a : Option Addr) (n c n' c' : Nat), (binOp .eql 68 (.slice a n c) (.slice none n' c')).run Tryz.prog w = .ok (.bool a.isNone) w := fun w a n c n' c' => Lib.run_eql_slice_nil w _ _ a n c n' c' Tryz.underlying68
  go_enter Tryz.func89, Tryz.ntmps89
  go_wp2_with (at_builtin; refine wpList_append_own _ rfl (.tmp 5) (.tmp 6) _ rfl w.heap.size 3 i _ 1 8 Tryz.underlying68 HI.out HZ.out H1.out H2.out rfl (by omega) (.slice (some ⟨w.heap.size, 0, none⟩) 0 0) 0 [] rfl (World.ownsRow_made w #[] 0 (Nat.le_refl _) (Nat.zero_le _) (by simp)) ad m c (xs.map (Value.int .i64)) rfl (by rw [List.length_map, HS.out.1, Nat.mul_one]) (Ins.cells (HS.out.keep (ok' := ok) (fun p hp => (alloc_ w _).cell (HK.out _ hp)) fun _ h => h)) (by intro u hu; obtain ⟨x, _, rfl⟩ := List.mem_map.1 hu; rfl) (by unfold maxLen; omega) (by omega) (by simp) ?_; intro v2 w2 hO2 hg2 _; have HO2 := Lib.hid hO2; have HG2 := Lib.hid hg2; clear hO2 hg2)
  obtain ⟨A2, c2, rfl, hL⟩ := ins_own (xs := xs) (by have := HO2.out; rwa [List.nil_append] at this); have HL := Lib.hid hL; clear hL; go_wp2; go_ret; refine ⟨A2, c2, by rw [Nat.zero_add]; rfl, by have := HL.out; rwa [Nat.zero_add] at this, ((Below.refl _ _).alloc (Nat.le_refl _) _).grown HG2.out (by simp) (fun j hj => ?_)⟩; simp [Value.ownBlock] at hj; omega
def Rw.setA (r : Rw) (A : Option Addr) (c : Nat) : Rw := ⟨r.v, A, r.la, c, r.Z, r.lz, r.cz, r.P, r.lp, r.cp⟩
def Rw.setZ (r : Rw) (A : Option Addr) (c : Nat) : Rw := ⟨r.v, r.A, r.la, r.ca, A, r.lz, c, r.P, r.lp, r.cp⟩
def Rw.setP (r : Rw) (A : Option Addr) (c : Nat) : Rw := ⟨r.v, r.A, r.la, r.ca, r.Z, r.lz, r.cz, A, r.lp, c⟩
structure Ow (w : World) (ok : Nat → Prop) (W : World) (r : Rw) : Prop where
 b : Below w.heap.size w W
 x : Bx W w.heap.size 70 (vc r)
 y : Bx W (w.heap.size + 1) 70 zc
 m : Mean W (fun b => (ok b ∨ w.heap.size + 2 ≤ b) ∧ b < W.heap.size) r
 ok : ∀ b, ok b → b < w.heap.size
section
variable {w W w1 : World} {ok : Nat → Prop} {r : Rw}
theorem Ow.start (M : Mean w ok r) (h : ∀ b, ok b → b < w.heap.size) : Ow w ok ((w.alloc (.cells (vc r) 70)).alloc (.cells zc 70)) r := by
 have hb : Below w.heap.size w ((w.alloc (.cells (vc r) 70)).alloc (.cells zc 70)) := (alloc_ _ _).alloc (by simp) _; refine ⟨hb, (Bx.new _ _ _).alloc _, ?_, M.keep (fun p hp => hb.cell (h _ hp)) fun b hb => ⟨.inl hb, by have := h b hb; simp; omega⟩, h⟩; have := Bx.new (w.alloc (.cells (vc r) 70)) 70 zc; rw [World.size_alloc] at this; exact this
theorem Ow.lt (h : Ow w ok W r) : w.heap.size + 2 ≤ W.heap.size := by have := h.y.lt; omega
theorem Ow.keepM {r : Rw} (h : Ow w ok W r) (hb : Below W.heap.size W w1) (u : Value) (o : Nat) : Mean (w1.setCell ⟨w.heap.size, o, none⟩ u) (fun b => (ok b ∨ w.heap.size + 2 ≤ b) ∧ b < (w1.setCell ⟨w.heap.size, o, none⟩ u).heap.size) r := by
 have h1 := h.lt; have h2 := hb.size; have h3 := h.ok; refine h.m.keep (fun p hp => ?_) fun b hb => ⟨hb.1, by have := hb.2; simp; omega⟩
 rw [World.cell?_setCell_other _ _ _ _ (fun e => by have := hp.1; rw [← e] at this; simp only at this; rcases this with this | this; have := h3 _ this; omega; omega)]; exact hb.cell hp.2
theorem Ow.newI (h : Ow w ok W r) (hb : Below W.heap.size W w1) {A : Option Addr} {m : Nat} {xs : List Int} (hl : Ins w1 (fun b => W.heap.size ≤ b ∧ b < w1.heap.size) A m xs) (u : Value) (o : Nat) : Ins (w1.setCell ⟨w.heap.size, o, none⟩ u) (fun b => (ok b ∨ w.heap.size + 2 ≤ b) ∧ b < (w1.setCell ⟨w.heap.size, o, none⟩ u).heap.size) A m xs := by
 have h1 := h.lt; refine hl.keep (fun p hp => World.cell?_setCell_other _ _ _ _ (fun e => by have := hp.1; rw [← e] at this; simp only at this; omega)) fun b hb => ⟨.inr (by omega), by have := hb.2; simp; omega⟩
theorem Ow.newA (h : Ow w ok W r) (hb : Below W.heap.size W w1) {A : Option Addr} {m : Nat} {xs : List Pr} (hl : Lns w1 (fun b => W.heap.size ≤ b ∧ b < w1.heap.size) A m xs) (u : Value) (o : Nat) : Lns (w1.setCell ⟨w.heap.size, o, none⟩ u) (fun b => (ok b ∨ w.heap.size + 2 ≤ b) ∧ b < (w1.setCell ⟨w.heap.size, o, none⟩ u).heap.size) A m xs := by
 have h1 := h.lt; refine hl.keep (fun p hp => World.cell?_setCell_other _ _ _ _ (fun e => by have := hp.1; rw [← e] at this; simp only at this; omega)) fun b hb => ⟨.inr (by omega), by have := hb.2; simp; omega⟩
theorem Ow.a (h : Ow w ok W r) (hb : Below W.heap.size W w1) {A : Option Addr} {c : Nat} (hl : Lns w1 (fun b => W.heap.size ≤ b ∧ b < w1.heap.size) A r.la r.v.ag) : Ow w ok (w1.setCell ⟨w.heap.size, 5, none⟩ (.slice A r.la c)) (r.setA A c) :=
 ⟨(h.b.trans (hb.mono h.b.size)).setCell (p := ⟨w.heap.size, 5, none⟩) (Nat.le_refl _) _, (h.x.keep hb).set 5 _, (h.y.keep hb).far (by show w.heap.size + 1 ≠ w.heap.size; omega) _, ⟨h.newA hb hl _ _, (h.keepM hb _ _).z, (h.keepM hb _ _).p⟩, h.ok⟩
theorem Ow.z (h : Ow w ok W r) (hb : Below W.heap.size W w1) {A : Option Addr} {c : Nat} (hl : Ins w1 (fun b => W.heap.size ≤ b ∧ b < w1.heap.size) A r.lz r.v.zn) : Ow w ok (w1.setCell ⟨w.heap.size, 6, none⟩ (.slice A r.lz c)) (r.setZ A c) :=
 ⟨(h.b.trans (hb.mono h.b.size)).setCell (p := ⟨w.heap.size, 6, none⟩) (Nat.le_refl _) _, (h.x.keep hb).set 6 _, (h.y.keep hb).far (by show w.heap.size + 1 ≠ w.heap.size; omega) _, ⟨(h.keepM hb _ _).a, h.newI hb hl _ _, (h.keepM hb _ _).p⟩, h.ok⟩
theorem Ow.p (h : Ow w ok W r) (hb : Below W.heap.size W w1) {A : Option Addr} {c : Nat} (hl : Ins w1 (fun b => W.heap.size ≤ b ∧ b < w1.heap.size) A r.lp r.v.pe) : Ow w ok (w1.setCell ⟨w.heap.size, 7, none⟩ (.slice A r.lp c)) (r.setP A c) :=
 ⟨(h.b.trans (hb.mono h.b.size)).setCell (p := ⟨w.heap.size, 7, none⟩) (Nat.le_refl _) _, (h.x.keep hb).set 7 _, (h.y.keep hb).far (by show w.heap.size + 1 ≠ w.heap.size; omega) _, ⟨(h.keepM hb _ _).a, (h.keepM hb _ _).z, h.newI hb hl _ _⟩, h.ok⟩
theorem Ow.cell (h : Ow w ok W r) (hb : Below W.heap.size W w1) (o : Nat) : w1.cell? ⟨w.heap.size, o, none⟩ = (vc r)[o]? ∧ w1.frozen? ⟨w.heap.size, o, none⟩ = false := ⟨(h.x.keep hb).c o, (h.x.keep hb).f o⟩
end
def nine (w : World) (b o : Nat) (r : Rw) : World := ((((((((w.setCell ⟨b, o, none⟩ (.int .i64 r.v.fr)).setCell ⟨b, o + 1, none⟩ (.int .i64 r.v.b0)).setCell ⟨b, o + 2, none⟩ (.int .i64 r.v.b1)).setCell ⟨b, o + 3, none⟩ (.int .i64 r.v.b2)).setCell ⟨b, o + 4, none⟩ (.int .i64 r.v.b3)).setCell ⟨b, o + 5, none⟩ (.slice r.A r.la r.ca)).setCell ⟨b, o + 6, none⟩ (.slice r.Z r.lz r.cz)).setCell ⟨b, o + 7, none⟩ (.slice r.P r.lp r.cp)).setCell ⟨b, o + 8, none⟩ (.int .i64 r.v.mn)
theorem nine_size (w : World) (b o : Nat) (r : Rw) : (nine w b o r).heap.size = w.heap.size := by simp [nine]
theorem nine_below {B : Nat} {w0 w : World} (h : Below B w0 w) {b : Nat} (hb : B ≤ b) (o : Nat) (r : Rw) : Below B w0 (nine w b o r) := by
 unfold nine; exact ((((((((h.setCell (p := ⟨b, _, none⟩) hb _).setCell (p := ⟨b, _, none⟩) hb _).setCell (p := ⟨b, _, none⟩) hb _).setCell (p := ⟨b, _, none⟩) hb _).setCell (p := ⟨b, _, none⟩) hb _).setCell (p := ⟨b, _, none⟩) hb _).setCell (p := ⟨b, _, none⟩) hb _).setCell (p := ⟨b, _, none⟩) hb _).setCell (p := ⟨b, _, none⟩) hb _
theorem nine_other (w : World) (b o : Nat) (r : Rw) (p : Addr) (hp : ∀ k, k < 9 → p ≠ ⟨b, o + k, none⟩) : (nine w b o r).cell? p = w.cell? p := by
 unfold nine; have h0 := hp 0 (by omega); rw [Nat.add_zero] at h0; rw [World.cell?_setCell_other _ _ _ _ (Ne.symm (hp 8 (by omega))), World.cell?_setCell_other _ _ _ _ (Ne.symm (hp 7 (by omega))), World.cell?_setCell_other _ _ _ _ (Ne.symm (hp 6 (by omega))), World.cell?_setCell_other _ _ _ _ (Ne.symm (hp 5 (by omega))), World.cell?_setCell_other _ _ _ _ (Ne.symm (hp 4 (by omega))), World.cell?_setCell_other _ _ _ _ (Ne.symm (hp 3 (by omega))), World.cell?_setCell_other _ _ _ _ (Ne.symm (hp 2 (by omega))), World.cell?_setCell_other _ _ _ _ (Ne.symm (hp 1 (by omega))), World.cell?_setCell_other _ _ _ _ (Ne.symm h0)]
theorem nine_arr (x0 x1 x2 x3 x4 x5 x6 x7 x8 a0 a1 a2 a3 a4 a5 a6 a7 a8 : Value) : ((((((((((#[x0, x1, x2, x3, x4, x5, x6, x7, x8] : Array Value).setIfInBounds 0 a0).setIfInBounds 1 a1).setIfInBounds 2 a2).setIfInBounds 3 a3).setIfInBounds 4 a4).setIfInBounds 5 a5).setIfInBounds 6 a6).setIfInBounds 7 a7).setIfInBounds 8 a8) = #[a0, a1, a2, a3, a4, a5, a6, a7, a8] := by simp
theorem nine_bx {w : World} {b : Nat} {x0 x1 x2 x3 x4 x5 x6 x7 x8 : Value} (h : Bx w b 70 #[x0, x1, x2, x3, x4, x5, x6, x7, x8]) (r : Rw) : Bx (nine w b 0 r) b 70 (vc r) := by
 have := ((((((((h.set 0 (.int .i64 r.v.fr)).set 1 (.int .i64 r.v.b0)).set 2 (.int .i64 r.v.b1)).set 3 (.int .i64 r.v.b2)).set 4 (.int .i64 r.v.b3)).set 5 (.slice r.A r.la r.ca)).set 6 (.slice r.Z r.lz r.cz)).set 7 (.slice r.P r.lp r.cp)).set 8 (.int .i64 r.v.mn); rw [nine_arr] at this; exact this
def Owns (w : World) (ok : Nat → Prop) (r : Rw) (e : Ending) (w' : World) : Prop := ∃ r' : Rw, e = .returned (vg r') ∧ r'.v = r.v ∧ Sm r' ∧ Mean w' (fun b => (ok b ∨ w.heap.size ≤ b) ∧ b < w'.heap.size) r' ∧ Below w.heap.size w w'
set_option maxRecDepth 100000 in
set_option maxHeartbeats 4000000 in
theorem own_ (r : Rw) (w : World) (ok : Nat → Prop) (M : Mean w ok r) (hok : ∀ b, ok b → b < w.heap.size) (S : Sm r) :
  Calls Tryz.prog 66 #[vg r] w (Owns w ok r) := by
 have sa := S.a; have sz := S.z; have sp := S.p; have HO := Lib.hid (Ow.start M hok); clear M hok; go_enter Tryz.func66, Tryz.ntmps66
 go_wp2_with fail
 refine (clone_bands r.A r.la r.ca r.v.ag _ _ HO.out.m.a (fun b hb => hb.2) sa).mono ?_; rintro e w1 ⟨A1, d1, rfl, hl1, hb1⟩; have HO1 := Lib.hid (HO.out.a (c := d1) hb1 hl1); have x5 := (HO.out.cell hb1 5).1; have f5 := (HO.out.cell hb1 5).2; have x6 := (HO.out.cell hb1 6).1; simp at x5 x6; clear hl1 hb1 HO
 go_wp2_with fail
 refine (clone_ints r.Z r.lz r.cz r.v.zn _ _ HO1.out.m.z (fun b hb => hb.2) sz).mono ?_; rintro e w2 ⟨A2, d2, rfl, hl2, hb2⟩; have HO2 := Lib.hid (HO1.out.z (c := d2) hb2 hl2); have y6 := (HO1.out.cell hb2 6).1; have f6 := (HO1.out.cell hb2 6).2; have y7 := (HO1.out.cell hb2 7).1; simp [Rw.setA] at y6 y7; clear hl2 hb2 HO1 x5 f5 x6
 go_wp2_with fail
 refine (clone_ints r.P r.lp r.cp r.v.pe _ _ HO2.out.m.p (fun b hb => hb.2) sp).mono ?_; rintro e w3 ⟨A3, d3, rfl, hl3, hb3⟩; have HO3 := Lib.hid (HO2.out.p (c := d3) hb3 hl3); have u0 := (HO2.out.cell hb3 0).1; have u1 := (HO2.out.cell hb3 1).1; have u2 := (HO2.out.cell hb3 2).1; have u3 := (HO2.out.cell hb3 3).1; have u4 := (HO2.out.cell hb3 4).1; have u5 := (HO2.out.cell hb3 5).1; have u6 := (HO2.out.cell hb3 6).1; have u7 := (HO2.out.cell hb3 7).1; have u8 := (HO2.out.cell hb3 8).1; have f7 := (HO2.out.cell hb3 7).2; have v0 := (HO2.out.y.keep hb3).c 0; have g0 := (HO2.out.y.keep hb3).f 0; have v1 := (HO2.out.y.keep hb3).c 1; have g1 := (HO2.out.y.keep hb3).f 1; have v2 := (HO2.out.y.keep hb3).c 2; have g2 := (HO2.out.y.keep hb3).f 2; have v3 := (HO2.out.y.keep hb3).c 3; have g3 := (HO2.out.y.keep hb3).f 3; have v4 := (HO2.out.y.keep hb3).c 4; have g4 := (HO2.out.y.keep hb3).f 4; have v5 := (HO2.out.y.keep hb3).c 5; have g5 := (HO2.out.y.keep hb3).f 5; have v6 := (HO2.out.y.keep hb3).c 6; have g6 := (HO2.out.y.keep hb3).f 6; have v7 := (HO2.out.y.keep hb3).c 7; have g7 := (HO2.out.y.keep hb3).f 7; have v8 := (HO2.out.y.keep hb3).c 8; have g8 := (HO2.out.y.keep hb3).f 8; simp [Rw.setA, Rw.setZ] at u0 u1 u2 u3 u4 u5 u6 u7 u8 v0 v1 v2 v3 v4 v5 v6 v7 v8; clear hl3 hb3 HO2 y6 f6 y7; go_wp2; obtain ⟨R, hR⟩ : ∃ R, ((r.setA A1 d1).setZ A2 d2).setP A3 d3 = R := ⟨_, rfl⟩; obtain ⟨W, hW⟩ : ∃ W, w3.setCell ⟨w.heap.size, 7, none⟩ (.slice A3 r.lp d3) = W := ⟨_, rfl⟩; have HOW : Ow w ok W R := by rw [← hW, ← hR]; exact HO3.out
 have hE : R.v = r.v ∧ Sm R := by rw [← hR]; exact ⟨rfl, sa, sz, sp⟩
 change bodyPost _ _ _ _ _ (nine (w3.setCell ⟨w.heap.size, 7, none⟩ (.slice A3 r.lp d3)) (w.heap.size + 1) 0 (((r.setA A1 d1).setZ A2 d2).setP A3 d3)); rw [hW, hR]; clear hW hR HO3; have hx := nine_bx HOW.y R; refine bodyPost_ret (v := vg R) ?res rfl ⟨R, rfl, hE.1, hE.2, HOW.m.keep (fun p hp => nine_other _ _ _ _ _ fun k _ e => ?_) fun b hb => ⟨hb.1.elim .inl fun h => .inr (by omega), by rw [nine_size]; exact hb.2⟩, nine_below HOW.b (by omega) _ _⟩
 case res =>
  have x0 := hx.c 0; have x1 := hx.c 1; have x2 := hx.c 2; have x3 := hx.c 3; have x4 := hx.c 4; have x5 := hx.c 5; have x6 := hx.c 6; have x7 := hx.c 7; have x8 := hx.c 8; simp at x0 x1 x2 x3 x4 x5 x6 x7 x8; simp [results, Tryz.results66, go_sem, x0, x1, x2, x3, x4, x5, x6, x7, x8]
 ·have := hp.1; rw [e] at this; simp only at this; rcases this with this | this
  ·have := HOW.ok _ this; omega
  ·omega
end Trf
end Go.Proofs.YtplenoaajokpjaaGreat
namespace Go.Proofs.YtplenoaajokpjaaGreat
open Go.RowKit Ba Tf
namespace Trf
set_option linter.unusedVariables false
def tol (day : Int) (vs : List Ve) : Ve := (lst day vs).getD zeroV
def cod (day : Int) (vs : List Ve) : Int := if (lst day vs).isSome = true then 0 else 7
theorem tol_some {day : Int} {vs : List Ve} {x : Ve} (h : lst day vs = some x) : tol day vs = x ∧ cod day vs = 0 := by unfold tol cod; rw [h]; exact ⟨rfl, rfl⟩
theorem tol_none {day : Int} {vs : List Ve} (h : lst day vs = none) : tol day vs = zeroV ∧ cod day vs = 7 := by unfold tol cod; rw [h]; exact ⟨rfl, rfl⟩
def AtTo (w : World) (day : Int) (vs : List Ve) (e : Ending) (w' : World) : Prop := ∃ r : Rw, e = .returned (.tuple #[vg r, .int .i64 (cod day vs)]) ∧ r.v = tol day vs ∧ Mean w' (· < w'.heap.size) r ∧ Sm r ∧ Below w.heap.size w w'
set_option maxRecDepth 100000 in
set_option maxHeartbeats 2000000 in
theorem held (b2 b3 : Nat) (ad : Addr) (n c k : Nat) (r : Rw) (day : Int) (W : World) (h2 : W.cell? ⟨b2, 0, none⟩ = some (.slice (some ad) n c)) (h3 : W.cell? ⟨b3, 0, none⟩ = some (.int .i64 day)) (hN : Nin W (ad.add (k * 9)) r) (hk : k < n) (hn : n ≤ 1000) :
  Calls Tryz.prog 65 #[.int .i64 (k : Int), .pointer (some ⟨b2, 0, none⟩), .pointer (some ⟨b3, 0, none⟩)] W (Yes W (decide (r.v.fr ≤ day))) := by
 have c0 := hN.c0; have hk2 : (k : Int) < (n : Int) := by omega
 obtain ⟨q, hq⟩ : ∃ q, decide (r.v.fr ≤ day) = q := ⟨_, rfl⟩; rw [hq]; clear hN; go_enter Tryz.func65, Tryz.ntmps65; go_wp2
 go_quiet (fail)
 go_wp2; go_ret; exact ⟨rfl, below_drewN (Below.refl _ _) _⟩
structure A0 (w w1 : World) (A : Option Addr) (n c : Nat) (day : Int) : Prop where
 b : Below w.heap.size w w1
 x : Bx w1 w.heap.size 38 #[.slice A n c]
 y : Bx w1 (w.heap.size + 1) 3 #[.int .i64 day]
 z : Bx w1 (w.heap.size + 2) 70 zc
section
variable {w w1 w2 : World} {A : Option Addr} {n c : Nat} {day : Int}
theorem A0.start : A0 w (((w.alloc (.cells #[.slice A n c] 38)).alloc (.cells #[.int .i64 day] 3)).alloc (.cells zc 70)) A n c day := by
 refine ⟨((alloc_ _ _).alloc (by simp) _).alloc (by simp; omega) _, ((Bx.new _ _ _).alloc _).alloc _, ?_, ?_⟩
 ·have := (Bx.new (w.alloc (.cells #[.slice A n c] 38)) 3 #[.int .i64 day]).alloc (.cells zc 70); rw [World.size_alloc] at this; exact this
 ·have := Bx.new ((w.alloc (.cells #[.slice A n c] 38)).alloc (.cells #[.int .i64 day] 3)) 70 zc; rw [World.size_alloc, World.size_alloc] at this; exact this
theorem A0.next (h : A0 w w1 A n c day) (hb : Below w1.heap.size w1 w2) : A0 w w2 A n c day := ⟨h.b.trans (hb.mono h.b.size), h.x.keep hb, h.y.keep hb, h.z.keep hb⟩
end
set_option maxRecDepth 100000 in
set_option maxHeartbeats 4000000 in
theorem at_ (A : Option Addr) (n c : Nat) (rs : List Rw) (day : Int) (w : World) (hS : Vers w A n rs) (hn : n ≤ 1000) :
  Calls Tryz.prog 47 #[tg A n c, .int .i64 day] w (AtTo w day (rs.map Rw.v)) := by
 have hl := hS.len; have HS := Lib.hid hS; have HL := Lib.hid hl; have H0 := Lib.hid (A0.start (w := w) (A := A) (n := n) (c := c) (day := day)); clear hS hl; go_enter Tryz.func47, Tryz.ntmps47; go_wp2
 go_loopw [7] (fun i w' => ∃ (k : Nat) (w1 : World), k ≤ n ∧ i = .int .i64 ((k : Int) - 1) ∧ w1 = w' ∧ Hid (lst day ((rs.map Rw.v).drop k) = none) ∧ Hid (A0 w w1 A n c day)) (fun i _ => ((intOf i) + 1).toNat)
 case atStart => exact ⟨n, _, Nat.le_refl _, rfl, rfl, Lib.hid (by rw [List.drop_of_length_le (by rw [HL.out]; omega)]; rfl), H0⟩
 case round =>
  obtain ⟨k, w1, hk, rfl, rfl, HB, HW⟩ := hrel; cases k with
  | zero =>
   have HT := Lib.hid (tol_none (show lst day (rs.map Rw.v) = none from HB.out)); have HZ := Lib.hid (nine_bx HW.out.z zr); have HK := Lib.hid (nine_below HW.out.b (b := w.heap.size + 2) (by omega) 0 zr); have v0 := HW.out.z.c 0; have g0 := HW.out.z.f 0; have v1 := HW.out.z.c 1; have g1 := HW.out.z.f 1; have v2 := HW.out.z.c 2; have g2 := HW.out.z.f 2; have v3 := HW.out.z.c 3; have g3 := HW.out.z.f 3; have v4 := HW.out.z.c 4; have g4 := HW.out.z.f 4; have v5 := HW.out.z.c 5; have g5 := HW.out.z.f 5; have v6 := HW.out.z.c 6; have g6 := HW.out.z.f 6; have v7 := HW.out.z.c 7; have g7 := HW.out.z.f 7; have v8 := HW.out.z.c 8; have g8 := HW.out.z.f 8; simp at v0 v1 v2 v3 v4 v5 v6 v7 v8; rw [show ((0 : Nat) : Int) - 1 = -1 from rfl]; go_wp2; change bodyPost _ _ _ _ _ (nine w1 (w.heap.size + 2) 0 zr); refine bodyPost_ret (v := .tuple #[vg zr, .int .i64 7]) ?_ rfl ⟨zr, by rw [HT.out.2], HT.out.1.symm, zr_mean _ _, zr_sm, HK.out⟩; have hx : Bx (nine w1 (w.heap.size + 2) 0 zr) (w.heap.size + 2) 70 zc := HZ.out; have x0 := hx.c 0; have x1 := hx.c 1; have x2 := hx.c 2; have x3 := hx.c 3; have x4 := hx.c 4; have x5 := hx.c 5; have x6 := hx.c 6; have x7 := hx.c 7; have x8 := hx.c 8; simp at x0 x1 x2 x3 x4 x5 x6 x7 x8; simp [results, Tryz.results47, go_sem, x0, x1, x2, x3, x4, x5, x6, x7, x8]; exact ⟨rfl, rfl, rfl, rfl, rfl, ⟨rfl, rfl, rfl⟩, ⟨rfl, rfl, rfl⟩, ⟨rfl, rfl, rfl⟩, rfl⟩
  | succ j =>
   have hj : j < n := by omega
   obtain ⟨ad, r, rfl, hb, hx, hN0, hM, hSm⟩ := HS.out.get hj; have hN : Nin w1 (ad.add (j * 9)) r := hN0.keep fun p hp => HW.out.b.cell (by rw [hp, add_block]; exact hb)
   clear hN0; have hj2 : (j : Int) < (n : Int) := by omega
   have e1 : ((j + 1 : Nat) : Int) - 1 = (j : Int) := by omega
   rw [e1]; have x0 := HW.out.x.c 0; have y0 := HW.out.y.c 0; simp at x0 y0; have C := Lib.hid (held w.heap.size (w.heap.size + 1) ad n c j r day w1 x0 y0 hN hj hn); clear e1; by_cases h1 : r.v.fr ≤ day
   ·have HT := Lib.hid (tol_some (lst_at (map_get hx) HB.out h1)); rw [decide_eq_true h1] at C; have HM := Lib.hid hM; have HN := Lib.hid hN; have hbl := hb; clear hx h1 hN hM
    go_wp2_with fail
    refine C.out.mono ?_; rintro e w2 ⟨rfl, hb2⟩; have HW2 := Lib.hid (HW.out.next hb2); have x1 := HW2.out.x.c 0; simp at x1; obtain ⟨c0, c1, c2, c3, c4, c5, c6, c7, c8⟩ := HN.out.keep (w' := w2) (fun p hp => hb2.cell (by rw [hp, add_block]; exact Nat.lt_of_lt_of_le hbl HW.out.b.size)); have CO := Lib.hid (own_ r w2 (· < w.heap.size) (HM.out.keep (fun p hp => HW2.out.b.cell hp) fun _ h => h) (fun _ h => Nat.lt_of_lt_of_le h HW2.out.b.size) hSm); clear hb2 C x0 y0 hb hbl
    go_wp2_with fail
    refine CO.out.mono ?_; rintro e w3 ⟨r3, rfl, e3, s3, m3, hb3⟩; have HW3 := Lib.hid (HW2.out.next hb3); have HM3 := Lib.hid m3; have HE3 := Lib.hid e3; have v0 := HW3.out.z.c 0; have g0 := HW3.out.z.f 0; have v1 := HW3.out.z.c 1; have g1 := HW3.out.z.f 1; have v2 := HW3.out.z.c 2; have g2 := HW3.out.z.f 2; have v3 := HW3.out.z.c 3; have g3 := HW3.out.z.f 3; have v4 := HW3.out.z.c 4; have g4 := HW3.out.z.f 4; have v5 := HW3.out.z.c 5; have g5 := HW3.out.z.f 5; have v6 := HW3.out.z.c 6; have g6 := HW3.out.z.f 6; have v7 := HW3.out.z.c 7; have g7 := HW3.out.z.f 7; have v8 := HW3.out.z.c 8; have g8 := HW3.out.z.f 8; simp at v0 v1 v2 v3 v4 v5 v6 v7 v8; have HZ := Lib.hid (nine_bx HW3.out.z r3); have HK := Lib.hid (nine_below HW3.out.b (b := w.heap.size + 2) (by omega) 0 r3)
    have HF := Lib.hid (show Mean (nine w3 (w.heap.size + 2) 0 r3) (· < (nine w3 (w.heap.size + 2) 0 r3).heap.size) r3 by
     have h2 := HW2.out.z.lt; refine m3.keep (fun p hp => nine_other _ _ _ _ _ fun k _ e => ?_) fun b hb => by rw [nine_size]; exact hb.2
     have := hp.1; rw [e] at this; simp only at this; omega)
    clear hb3 m3 e3 CO x1 c0 c1 c2 c3 c4 c5 c6 c7 c8; go_wp2; change bodyPost _ _ _ _ _ (nine w3 (w.heap.size + 2) 0 r3); refine bodyPost_ret (v := .tuple #[vg r3, .int .i64 0]) ?_ rfl ⟨r3, by rw [HT.out.2], by rw [HT.out.1, HE3.out], HF.out, s3, HK.out⟩; have hx := HZ.out; have x0 := hx.c 0; have x1 := hx.c 1; have x2 := hx.c 2; have x3 := hx.c 3; have x4 := hx.c 4; have x5 := hx.c 5; have x6 := hx.c 6; have x7 := hx.c 7; have x8 := hx.c 8; simp at x0 x1 x2 x3 x4 x5 x6 x7 x8; simp [results, Tryz.results47, go_sem, x0, x1, x2, x3, x4, x5, x6, x7, x8]
   ·have HN := Lib.hid (lst_not (map_get hx) HB.out h1); rw [decide_eq_false h1] at C; clear hx h1 hN hM
    go_wp2_with fail
    refine C.out.mono ?_; rintro e w2 ⟨rfl, hb2⟩; have HW2 := Lib.hid (HW.out.next hb2); clear hb2 C; go_wp2; go_roundw
    case rel => exact ⟨j, _, by omega, rfl, rfl, HN, HW2⟩
    case measure => simp [intOf]
end Trf
end Go.Proofs.YtplenoaajokpjaaGreat
