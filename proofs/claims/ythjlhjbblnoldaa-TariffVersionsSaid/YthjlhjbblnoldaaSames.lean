/-
  Same of two tariffs that mean the same. Conditions: the version's lists read as lists, and are short.
-/
import Derived.Test.YthjlhjbblnoldaaLaws
namespace Go.Proofs.Ythjlhjbblnoldaa
open Go.RowKit Ba Tf
namespace Trf
set_option linter.unusedVariables false

theorem Nin.ext {w : World} {a : Addr} {r : Rw} (h : Nin w a r) (hb : a.block < w.heap.size) (p : Ext w) : Nin p.W a r := h.keep fun q hq => p.b.cell (by rw [hq]; exact hb)

set_option maxRecDepth 100000 in
set_option maxHeartbeats 4000000 in
theorem same_ (A A2 : Option Addr) (n c c2 : Nat) (rs rs2 : List Rw) (w : World) (hS : Vers w A n rs) (hS2 : Vers w A2 n rs2) (he : rs2.map Rw.v = rs.map Rw.v) (hn : n ≤ 1000) :
    Calls Try.prog 18 #[tg A n c, tg A2 n c2] w (Yes w true) := by
  have HS := Lib.hid hS
  have HS2 := Lib.hid hS2
  have HE := Lib.hid he
  have hX0 : Bx ((w.alloc (.cells #[.slice A n c] 29)).alloc (.cells #[.slice A2 n c2] 29)) w.heap.size 29 #[.slice A n c] := (Bx.new _ _ _).alloc _
  have hY0 : Bx ((w.alloc (.cells #[.slice A n c] 29)).alloc (.cells #[.slice A2 n c2] 29)) (w.heap.size + 1) 29 #[.slice A2 n c2] := by
    have := Bx.new (w.alloc (.cells #[.slice A n c] 29)) 29 #[.slice A2 n c2]
    rw [World.size_alloc] at this
    exact this
  have hB0 : Below w.heap.size w ((w.alloc (.cells #[.slice A n c] 29)).alloc (.cells #[.slice A2 n c2] 29)) := (alloc_ _ _).alloc (by simp) _
  have HX0 := Lib.hid hX0
  have HY0 := Lib.hid hY0
  have HB0 := Lib.hid hB0
  clear hS hS2 he hX0 hY0 hB0
  go_enter Try.func18, Try.ntmps18
  go_wp2
  go_loopw [5] (fun i w' => ∃ (k : Nat) (w1 : World), k ≤ n ∧ i = .int .i64 (k : Int) ∧ w1 = w' ∧ Hid (Below w.heap.size w w1) ∧ Hid (Bx w1 w.heap.size 29 #[.slice A n c] ∧ Bx w1 (w.heap.size + 1) 29 #[.slice A2 n c2])) (fun i _ => n - (intOf i).toNat)
  case atStart => exact ⟨0, _, Nat.zero_le _, rfl, rfl, HB0, Lib.hid ⟨HX0.out, HY0.out⟩⟩
  case round =>
    obtain ⟨k, w1, hk, rfl, rfl, HB, HQ⟩ := hrel
    have z0 := HQ.out.1.c 0
    simp at z0
    clear HX0 HY0 HB0
    by_cases hlt : k < n
    · obtain ⟨ad, r, rfl, hb, hx, hN, hM, hSm⟩ := (HS.out.below HB.out).get hlt
      obtain ⟨ad2, r2, rfl, hb2, hx2, hN2, hM2, hSm2⟩ := (HS2.out.below HB.out).get hlt
      have hlt2 : (k : Int) < (n : Int) := by omega
      have hv : r2.v = r.v := by
        have h1 := map_get hx
        have h2 := map_get hx2
        rw [HE.out, h1] at h2
        injection h2 with h2
        exact h2.symm
      have C := fun p : Ext w1 => Lib.hid (same_version r r2 hv p.W (hM.below p.b) (hM2.below p.b) hSm)
      have X0 : ∀ p : Ext w1, p.W.cell? ⟨w.heap.size, 0, none⟩ = some (.slice (some ad) n c) := fun p => HQ.out.1.ext p 0
      have Y0 : ∀ p : Ext w1, p.W.cell? ⟨w.heap.size + 1, 0, none⟩ = some (.slice (some ad2) n c2) := fun p => HQ.out.2.ext p 0
      have c0 : ∀ p : Ext w1, p.W.cell? (ad.add (k * 9)) = some (.int .i64 r.v.fr) := fun p => (hN.ext (by rw [add_block]; exact hb) p).c0
      have c1 : ∀ p : Ext w1, p.W.cell? ⟨(ad.add (k * 9)).block, (ad.add (k * 9)).off + 1, none⟩ = some (.int .i64 r.v.b0) := fun p => (hN.ext (by rw [add_block]; exact hb) p).c1
      have c2 : ∀ p : Ext w1, p.W.cell? ⟨(ad.add (k * 9)).block, (ad.add (k * 9)).off + 2, none⟩ = some (.int .i64 r.v.b1) := fun p => (hN.ext (by rw [add_block]; exact hb) p).c2
      have c3 : ∀ p : Ext w1, p.W.cell? ⟨(ad.add (k * 9)).block, (ad.add (k * 9)).off + 3, none⟩ = some (.int .i64 r.v.b2) := fun p => (hN.ext (by rw [add_block]; exact hb) p).c3
      have c4 : ∀ p : Ext w1, p.W.cell? ⟨(ad.add (k * 9)).block, (ad.add (k * 9)).off + 4, none⟩ = some (.int .i64 r.v.b3) := fun p => (hN.ext (by rw [add_block]; exact hb) p).c4
      have c5 : ∀ p : Ext w1, p.W.cell? ⟨(ad.add (k * 9)).block, (ad.add (k * 9)).off + 5, none⟩ = some (.slice r.A r.la r.ca) := fun p => (hN.ext (by rw [add_block]; exact hb) p).c5
      have c6 : ∀ p : Ext w1, p.W.cell? ⟨(ad.add (k * 9)).block, (ad.add (k * 9)).off + 6, none⟩ = some (.slice r.Z r.lz r.cz) := fun p => (hN.ext (by rw [add_block]; exact hb) p).c6
      have c7 : ∀ p : Ext w1, p.W.cell? ⟨(ad.add (k * 9)).block, (ad.add (k * 9)).off + 7, none⟩ = some (.slice r.P r.lp r.cp) := fun p => (hN.ext (by rw [add_block]; exact hb) p).c7
      have c8 : ∀ p : Ext w1, p.W.cell? ⟨(ad.add (k * 9)).block, (ad.add (k * 9)).off + 8, none⟩ = some (.int .i64 r.v.mn) := fun p => (hN.ext (by rw [add_block]; exact hb) p).c8
      have d0 : ∀ p : Ext w1, p.W.cell? (ad2.add (k * 9)) = some (.int .i64 r2.v.fr) := fun p => (hN2.ext (by rw [add_block]; exact hb2) p).c0
      have d1 : ∀ p : Ext w1, p.W.cell? ⟨(ad2.add (k * 9)).block, (ad2.add (k * 9)).off + 1, none⟩ = some (.int .i64 r2.v.b0) := fun p => (hN2.ext (by rw [add_block]; exact hb2) p).c1
      have d2 : ∀ p : Ext w1, p.W.cell? ⟨(ad2.add (k * 9)).block, (ad2.add (k * 9)).off + 2, none⟩ = some (.int .i64 r2.v.b1) := fun p => (hN2.ext (by rw [add_block]; exact hb2) p).c2
      have d3 : ∀ p : Ext w1, p.W.cell? ⟨(ad2.add (k * 9)).block, (ad2.add (k * 9)).off + 3, none⟩ = some (.int .i64 r2.v.b2) := fun p => (hN2.ext (by rw [add_block]; exact hb2) p).c3
      have d4 : ∀ p : Ext w1, p.W.cell? ⟨(ad2.add (k * 9)).block, (ad2.add (k * 9)).off + 4, none⟩ = some (.int .i64 r2.v.b3) := fun p => (hN2.ext (by rw [add_block]; exact hb2) p).c4
      have d5 : ∀ p : Ext w1, p.W.cell? ⟨(ad2.add (k * 9)).block, (ad2.add (k * 9)).off + 5, none⟩ = some (.slice r2.A r2.la r2.ca) := fun p => (hN2.ext (by rw [add_block]; exact hb2) p).c5
      have d6 : ∀ p : Ext w1, p.W.cell? ⟨(ad2.add (k * 9)).block, (ad2.add (k * 9)).off + 6, none⟩ = some (.slice r2.Z r2.lz r2.cz) := fun p => (hN2.ext (by rw [add_block]; exact hb2) p).c6
      have d7 : ∀ p : Ext w1, p.W.cell? ⟨(ad2.add (k * 9)).block, (ad2.add (k * 9)).off + 7, none⟩ = some (.slice r2.P r2.lp r2.cp) := fun p => (hN2.ext (by rw [add_block]; exact hb2) p).c7
      have d8 : ∀ p : Ext w1, p.W.cell? ⟨(ad2.add (k * 9)).block, (ad2.add (k * 9)).off + 8, none⟩ = some (.int .i64 r2.v.mn) := fun p => (hN2.ext (by rw [add_block]; exact hb2) p).c8
      have ne : Nonempty (Ext w1) := ⟨⟨w1, Below.refl _ _⟩⟩
      clear hx hx2 hN hN2 hM hM2 hb hb2 hv
      go_wp2
      refine quietE (by kernel_rfl) (by kernel_rfl) ?_
      repeat (quiet_step (first
        | (go_at_call 16; with_reducible exact ext_of (C _).out)
        | fail))
      refine wpQuiet_nil ?_
      rintro _ ⟨p, rfl⟩
      go_wp2
      go_roundw
      case rel => exact ⟨k + 1, _, by omega, by go_num, rfl, Lib.hid (HB.out.trans (p.b.mono HB.out.size)), Lib.hid ⟨HQ.out.1.keep p.b, HQ.out.2.keep p.b⟩⟩
      case measure => simp [intOf]; omega
    · go_wp2
      go_ret
      exact ⟨rfl, HB.out⟩

end Trf
end Go.Proofs.Ythjlhjbblnoldaa
