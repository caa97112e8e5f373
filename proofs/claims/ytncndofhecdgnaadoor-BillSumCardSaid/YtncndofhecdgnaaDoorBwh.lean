/-
  A plan is all of its amount. Conditions: the program does as the laws ask, the table of months reads as laid.
-/
import Derived.Test.YtncndofhecdgnaaDoorBw
import Derived.Test.YtncndofhecdgnaaDoorBe
namespace Go.Proofs.YtncndofhecdgnaaDoor
open Go.RowKit Cal
namespace Bil
set_option linter.unusedVariables false

theorem PlIs.none {x : Int} {s : Int × Int} {m : Int} {l : List Bi} {k : Int} (H : PlIs x s m l k) (hk : k ≠ 0) : l = [] := by
  cases H with
  | arg _ hl _ => exact hl
  | day _ _ _ _ _ hl _ => exact hl
  | ok _ _ _ _ hc => exact absurd hc hk
set_option maxRecDepth 100000 in
set_option maxHeartbeats 4000000 in
theorem walk_BillWhole (Q : Hid Asks) {w : World} (hT : Day.Tab w) (x : Int) (s : Int × Int) (m : Int) (hx : In x) (h1 : In s.1) (h2 : In s.2) (hm : In m) : Calls Tryd.prog 6 #[.int .i64 x, sg s, .int .i64 m] w (Yes w true) := by
  obtain ⟨W, hW⟩ : ∃ W, w.alloc (.cells #[.int .i64 s.1, .int .i64 s.2] 23) = W := ⟨_, rfl⟩
  have HX0 := Lib.hid (show Bx W w.heap.size 23 #[.int .i64 s.1, .int .i64 s.2] from hW ▸ Bx.new w _ _)
  have HB0 := Lib.hid (show Below w.heap.size w W from hW ▸ alloc_ _ _)
  have HT0 := Lib.hid (hT.below HB0.out hT.1)
  have HW := Lib.hid hW
  have HI := Lib.hid (And.intro hx (And.intro h1 (And.intro h2 hm)))
  clear hW hx h1 h2 hm hT
  go_enter Tryd.func6, Tryd.ntmps6
  go_upto_region 1 with fail
  rw [HW.out]
  clear HW
  go_wp2_with fail
  refine (awake_ Q W HT0.out).mono ?_
  rintro e w1 ⟨rfl, hb⟩
  have HB1 := Lib.hid (HB0.out.trans (hb.mono HB0.out.size))
  have HX1 := Lib.hid (HX0.out.keep hb)
  have HT1 := Lib.hid (HT0.out.below hb HT0.out.1)
  clear hb HB0 HX0 HT0
  have x0 := HX1.out.c 0
  have x1 := HX1.out.c 1
  simp at x0 x1
  have C := Lib.hid (Q.out.pl x s m w1 HT1.out HI.out.1 HI.out.2.1 HI.out.2.2.1 HI.out.2.2.2)
  go_wp2_with fail
  refine C.out.mono ?_
  rintro e w2 ⟨l, v, k, rfl, hp, A, c, rfl, hR, hb⟩
  have HB2 := Lib.hid (HB1.out.trans (hb.mono HB1.out.size))
  have HX2 := Lib.hid (HX1.out.keep hb)
  have HT2 := Lib.hid (HT1.out.below hb HT1.out.1)
  have HR2 := Lib.hid hR
  clear hb hR C HB1 HX1 HT1 x0 x1
  by_cases hk : k = 0
  case neg =>
    have hl := hp.none hk
    subst hl
    have u1 : decide (k = 0) = false := decide_eq_false hk
    have u2 : (k == 0) = false := beq_eq_false_iff_ne.2 hk
    have u3 : (k != 0) = true := bne_iff_ne.2 hk
    clear hk hp
    go_wp2
    go_ret
    exact ⟨rfl, HB2.out⟩
  subst hk
  obtain ⟨n, due, rfl, hn, hx, hs1, hl, hsh, h0, hs, hrt, ham, hpd⟩ := hp.is
  have HSH := Lib.hid hsh
  have HN := Lib.hid hn
  have hlen : l.length = n := by rw [hl, pl_len]
  have HRT := Lib.hid hrt
  have HPL := Lib.hid hl
  have H0 := Lib.hid h0
  have hr := rt_iff.1 hrt
  have HPB := Lib.hid (show Pb l ∧ am l ≤ 4000000000000000000 from ⟨rg_pb hr.2, rg_sum (by omega) hr.2⟩)
  have HAM := Lib.hid (And.intro ham hpd)
  have hn1 : 1 ≤ n := by omega
  have hn2 : n ≤ 12 := by omega
  have HXX := Lib.hid hx
  obtain ⟨X, rfl⟩ := Int.eq_ofNat_of_zero_le hx.1
  have HR2 := Lib.hid (show Raws w2 (· < w2.heap.size) A n l by rw [← hlen]; exact HR2.out)
  have C := Lib.hid (rsum A n c l w2 HR2.out (by omega) HPB.out.1 HPB.out.2)
  rw [ham, hpd] at C
  rw [hlen]
  have HNB := Lib.hid (And.intro hn1 hn2)
  clear hp hn hx hs1 hl hsh h0 hs hrt ham hpd hr hlen
  go_wp2_with fail
  refine C.out.mono ?_
  rintro e w3 ⟨rfl, hb⟩
  have HB3 := Lib.hid (HB2.out.trans (hb.mono HB2.out.size))
  have HX3 := Lib.hid (HX2.out.keep hb)
  have HT3 := Lib.hid (HT2.out.below hb HT2.out.1)
  have HR3 := Lib.hid (HR2.out.below hb)
  clear hb C HB2 HX2 HT2 HR2
  have C := Lib.hid (Q.out.ri A n c l w3 HR3.out (by omega))
  rw [HRT.out] at C
  have n0 : ¬ ((n : Int) = 0) := by omega
  have n0n : ¬ (n = 0) := by omega
  have n0d : decide ((n : Int) = 0) = false := decide_eq_false n0
  have n0b : ((n : Int) == 0) = false := beq_eq_false_iff_ne.2 n0
  go_wp2_with fail
  refine C.out.mono ?_
  rintro e w4 ⟨rfl, hb⟩
  have HB4 := Lib.hid (HB3.out.trans (hb.mono HB3.out.size))
  have HX4 := Lib.hid (HX3.out.keep hb)
  have HT4 := Lib.hid (HT3.out.below hb HT3.out.1)
  have HR4 := Lib.hid (HR3.out.below hb)
  clear hb C HB3 HX3 HT3 HR3
  go_wp2
  go_loopw [12] (fun vi w' => ∃ (k : Nat) (V : World), k ≤ n ∧ vi = .int .i64 (k : Int) ∧ V = w' ∧ Hid (Below w.heap.size w V) ∧ Hid (Bx V w.heap.size 23 #[.int .i64 s.1, .int .i64 s.2]) ∧ Hid (Day.Tab V) ∧ Hid (Raws V (· < V.heap.size) A n l)) (fun vi _ => n - (intOf vi).toNat)
  case atStart => exact ⟨0, w4, Nat.zero_le _, rfl, rfl, HB4, HX4, HT4, HR4⟩
  case round =>
    clear HB4 HX4 HT4 HR4
    obtain ⟨k, V, hk, rfl, rfl, HBV, HXV, HTV, HRV⟩ := hrel
    by_cases hlt : k < n
    · have hlt2 : (k : Int) < (n : Int) := by omega
      obtain ⟨k12, hk12⟩ : ∃ q, k * 12 = q := ⟨_, rfl⟩
      obtain ⟨f, hf⟩ : ∃ f, k12 / n = f := ⟨_, rfl⟩
      have hfb : f ≤ 200 := by rw [← hf]; exact Nat.le_trans (Nat.div_le_self _ _) (by omega)
      have qd : (k12 : Int) / (n : Int) = (f : Int) := by rw [← hf, Int.natCast_ediv]
      have HS := Lib.hid (show ShIs s.1 (f : Int) (due k) 0 by
        have := HSH.out k hlt
        rw [show (k : Int) * 12 = (k12 : Int) by rw [← hk12]; omega, qd] at this
        exact this)
      have X0 : ∀ p : Ext V, p.W.cell? ⟨w.heap.size, 0, none⟩ = some (.int .i64 s.1) := fun p => by rw [HXV.out.ext p 0]; rfl
      have CB := fun (p : Ext V) => Lib.hid (psh s.1 (f : Int) (due k) 0 p.W (HTV.out.below p.b HTV.out.1) HS.out)
      obtain ⟨dk, hdk⟩ : ∃ dk, due k = dk := ⟨_, rfl⟩
      rw [hdk] at CB
      have HDK := Lib.hid hdk
      have q1 : wrap64 ((k : Int) * 12) = (k12 : Int) := by rw [IntWalk.wrap64_in _ ⟨by omega, by omega⟩]; omega
      have q4 : wrap64 (f : Int) = (f : Int) := IntWalk.wrap64_in _ ⟨by omega, by omega⟩
      have q1b : IntKind.i64.wrap ((k : Int) * 12) = (k12 : Int) := (IntWalk.i64_left _).trans q1
      have q4b : IntKind.i64.wrap (f : Int) = (f : Int) := (IntWalk.i64_left _).trans q4
      clear hk12 hdk hf hfb
      go_upto_region 11 with fail
      have ne : Nonempty (Ext V) := ⟨⟨V, Below.refl _ _⟩⟩
      refine quietE (by kernel_rfl) (by kernel_rfl) ?_
      repeat (first | go_big_quiet_skip | quiet_step (first
        | (go_at_call 24; with_reducible exact ext_of (CB _).out)
        | fail))
      refine wpQuiet_nil ?_
      rintro _ ⟨p, rfl⟩
      have HB2 := Lib.hid (show Below V.heap.size V p.W from p.b)
      generalize p.W = V2 at HB2 ⊢
      clear CB ne X0 q1 q4 q1b q4b qd
      have HX2 := Lib.hid (HXV.out.keep HB2.out)
      have HT2 := Lib.hid (HTV.out.below HB2.out HTV.out.1)
      have HBW := Lib.hid (HBV.out.trans (HB2.out.mono HBV.out.size))
      have HR2 := Lib.hid (HRV.out.below HB2.out)
      clear HBV HXV HTV HRV HB2
      obtain ⟨ad, b, rfl, hab, hx, N⟩ := HR2.out.get hlt
      rw [HPL.out, pl_get hlt] at hx
      injection hx with hx
      subst hx
      obtain ⟨c0, c1, c2⟩ := N
      simp only at c0 c1 c2
      rw [HDK.out] at c0
      obtain ⟨Y, hY⟩ : ∃ Y, X / n = Y := ⟨_, rfl⟩
      have yd : (X : Int) / (n : Int) = (Y : Int) := by rw [← hY, Int.natCast_ediv]
      have hpt := pt_bd (x := (X : Int)) (m := (n : Int)) (i := (k : Int)) (by omega) (by omega) (by omega)
      rw [yd] at hpt
      obtain ⟨pk, hpk⟩ : ∃ pk, pt (X : Int) (n : Int) (k : Int) = pk := ⟨_, rfl⟩
      rw [hpk] at hpt c1
      have hYX : Y ≤ X := by rw [← hY]; exact Nat.div_le_self _ _
      have hXb : (X : Int) ≤ 4000000000000000000 := HXX.out.2
      have u1 : decide (pk < (Y : Int)) = false := decide_eq_false (by omega)
      have u2 : decide ((Y : Int) + 1 < pk) = false := decide_eq_false (by omega)
      have y1 : wrap64 (Y : Int) = (Y : Int) := IntWalk.wrap64_in _ ⟨by omega, by omega⟩
      have y2 : wrap64 ((Y : Int) + 1) = (Y : Int) + 1 := IntWalk.wrap64_in _ ⟨by omega, by omega⟩
      have y1b : IntKind.i64.wrap (Y : Int) = (Y : Int) := (IntWalk.i64_left _).trans y1
      have y2b : IntKind.i64.wrap ((Y : Int) + 1) = (Y : Int) + 1 := (IntWalk.i64_left _).trans y2
      clear hY hpt hpk hYX hXb hab
      go_wp2
      go_quiet (fail)
      go_wp2
      have hdr : Below V2.heap.size V2 (V2.drewN nq) := ⟨rfl, rfl, rfl, Nat.le_refl _, fun _ _ => rfl⟩
      refine ⟨⟨k + 1, _, by omega, by go_num, rfl, Lib.hid (HBW.out.trans (hdr.mono HBW.out.size)), Lib.hid (HX2.out.keep hdr), Lib.hid (HT2.out.below hdr HT2.out.1), Lib.hid (HR2.out.below hdr)⟩, ?_⟩
      simp [intOf]; omega
    · have hlt2 : ¬ ((k : Int) < (n : Int)) := by omega
      obtain ⟨ad, b, rfl, hab, hx, N⟩ := HRV.out.get (k := 0) (by omega)
      rw [HPL.out, pl_get (by omega)] at hx
      injection hx with hx
      subst hx
      obtain ⟨c0, _, _⟩ := N
      simp only [Nat.zero_mul] at c0
      rw [H0.out] at c0
      have c0b : V.cell? ad = some (.int .i64 s.1) := by simpa [Addr.add] using c0
      have c0d : ∀ nd : Nat, (V.drewN nd).cell? ad = some (.int .i64 s.1) := fun _ => c0b
      have x0 := HXV.out.c 0
      simp at x0
      have hn3 : (0 : Int) < (n : Int) := by omega
      go_wp2
      go_quiet (fail)
      have hdr : Below V.heap.size V (V.drewN nq) := ⟨rfl, rfl, rfl, Nat.le_refl _, fun _ _ => rfl⟩
      have HF := Lib.hid (HBV.out.trans (hdr.mono HBV.out.size))
      clear hdr
      go_wp2
      go_ret
      exact ⟨rfl, HF.out⟩

end Bil
end Go.Proofs.YtncndofhecdgnaaDoor
