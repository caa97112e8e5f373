/-
  Sum of package step. Conditions: the rows read as lists of ints.
-/
import Derived.Test.YtjmbccdcnmmhgaaZPiecesW
import Derived.StillTactics
namespace Go.Proofs.Ytjmbccdcnmmhgaa
open Go.RowKit Stm
namespace Stp
set_option linter.unusedVariables false

/-- What Sum gives. -/
def GivesN (w : World) (a b : Int) (e : Ending) (w' : World) : Prop := e = .returned (.tuple #[.int .i64 a, .int .i64 b]) ∧ Below w.heap.size w w'

set_option maxRecDepth 100000 in
set_option maxHeartbeats 2000000 in
theorem sum_no1 (A : Option Addr) (n c : Nat) (V : Option Addr) (m d : Nat) (xs vs : List Int) (s : Pr) (w : World) (hS : Sx w w.heap.size A n V m xs vs) (hn : n ≤ 10000) (h : rg xs vs = false) :
    Calls Try.prog 15 #[sg A n c V m d, ag s] w (GivesN w 0 1) := by
  have S0 : PB w (pieW w A n c V m d s) A n c V m d s := PB.new
  have C := Lib.hid (right A n c V m d xs vs _ ((hS.below S0.b (Nat.le_refl _)).wide S0.b.size) (by omega))
  rw [h] at C
  have HS := Lib.hid S0
  clear h hS S0
  obtain ⟨s1, s2⟩ := s
  go_enter Try.func15, Try.ntmps15
  go_wp2_with fail
  refine C.out.mono ?_
  rintro e w1 ⟨rfl, hb⟩
  have S1 := HS.out.keep hb
  have H1 := Lib.hid S1
  have p0 := S1.s.c0
  have p1 := S1.s.c1
  simp only at p0 p1
  clear hb HS S1 C
  go_wp2
  go_ret2
  exact ⟨rfl, H1.out.b⟩

set_option maxRecDepth 100000 in
set_option maxHeartbeats 2000000 in
theorem sum_no2 (A : Option Addr) (n c : Nat) (V : Option Addr) (m d : Nat) (xs vs : List Int) (s : Pr) (w : World) (hS : Sx w w.heap.size A n V m xs vs) (hn : n ≤ 10000) (h : rg xs vs = true) (hs : full s = false) :
    Calls Try.prog 15 #[sg A n c V m d, ag s] w (GivesN w 0 1) := by
  have S0 : PB w (pieW w A n c V m d s) A n c V m d s := PB.new
  have C := Lib.hid (right A n c V m d xs vs _ ((hS.below S0.b (Nat.le_refl _)).wide S0.b.size) (by omega))
  rw [h] at C
  have C2 := fun w => Lib.hid (full_ s w)
  rw [hs] at C2
  have HS := Lib.hid S0
  clear h hS S0 hs
  obtain ⟨s1, s2⟩ := s
  go_enter Try.func15, Try.ntmps15
  go_wp2_with fail
  refine C.out.mono ?_
  rintro e w1 ⟨rfl, hb⟩
  have S1 := HS.out.keep hb
  have H1 := Lib.hid S1
  have p0 := S1.s.c0
  have p1 := S1.s.c1
  simp only at p0 p1
  clear hb HS S1 C
  go_wp2_with fail
  refine (C2 _).out.mono ?_
  rintro e w2 ⟨rfl, hb⟩
  have H2 := Lib.hid (H1.out.keep hb)
  clear hb H1
  have H1 := H2
  clear H2
  go_wp2
  go_ret2
  exact ⟨rfl, H1.out.b⟩

set_option maxRecDepth 100000 in
set_option maxHeartbeats 4000000 in
theorem sum_yes (A : Option Addr) (n c : Nat) (V : Option Addr) (d : Nat) (ps : List Pr) (s : Pr) (w : World) (hS : Sr w w.heap.size A V n ps) (hn : n ≤ 10000) (h : Right ps) (hs : full s = true) :
    Calls Try.prog 15 #[sg A n c V n d, ag s] w (GivesN w (sv (pieces (val 0 ps) (cuts s ps) s.2)) (se (pieces (val 0 ps) (cuts s ps) s.2))) := by
  have S0 : PB w (pieW w A n c V n d s) A n c V n d s := PB.new
  have C := Lib.hid (right A n c V n d _ _ _ ((hS.below S0.b (Nat.le_refl _)).wide S0.b.size) (by omega))
  rw [rg_of h] at C
  have C2 := fun w => Lib.hid (full_ s w)
  rw [hs] at C2
  have hfs := (full_iff _).1 hs
  have hseg := cuts_seg h.1 hfs.2.1
  have HL := Lib.hid (seg_fr _ hseg)
  have HFB := Lib.hid (fr_bounds _ _ hseg)
  have HVF := Lib.hid (fun x => val_fits h.2 x)
  have hcl : (cuts s ps).length ≤ 1000000 := by
    have h1 := List.length_filter_le (fun a => decide (s.1 < a) && decide (a < s.2)) (ps.map (·.1))
    have h2 := hS.len
    simp [cuts] at h1 ⊢
    omega
  have HS0 := Lib.hid hS
  have HP := Lib.hid h
  have HFU := Lib.hid hs
  have HS := Lib.hid S0
  clear h hS S0 hs hseg
  obtain ⟨s1, s2⟩ := s
  simp only at hfs
  obtain ⟨ra, hra⟩ : ∃ ra, sv (pieces (val 0 ps) (cuts (s1, s2) ps) s2) = ra := ⟨_, rfl⟩
  obtain ⟨rb, hrb⟩ : ∃ rb, se (pieces (val 0 ps) (cuts (s1, s2) ps) s2) = rb := ⟨_, rfl⟩
  simp only
  rw [hra, hrb]
  have HRA := Lib.hid hra
  have HRB := Lib.hid hrb
  clear hra hrb
  go_enter Try.func15, Try.ntmps15
  go_wp2_with fail
  refine C.out.mono ?_
  rintro e w1 ⟨rfl, hb⟩
  have S1 := HS.out.keep hb
  have p0 := S1.s.c0
  have p1 := S1.s.c1
  simp only at p0 p1
  have H1 := Lib.hid S1
  clear hb HS S1 C
  go_wp2_with fail
  refine (C2 _).out.mono ?_
  rintro e w2 ⟨rfl, hb⟩
  have S2 := H1.out.keep hb
  clear p0 p1
  have p0 := S2.s.c0
  have p1 := S2.s.c1
  have q1 := S2.f.c0
  have q2 := S2.f.c1
  simp only at p0 p1
  have H2 := Lib.hid S2
  clear hb H1 S2 C2
  go_wp2_with fail
  refine (pieces_yes A n c V d ps (s1, s2) w2 ((HS0.out.below H2.out.b (Nat.le_refl _)).wide H2.out.b.size) hn HP.out HFU.out).mono ?_
  rintro e w3 ⟨AS, cS, AV, cV, rfl, hSp, hIn, hb3⟩
  have HSp := Lib.hid hSp
  have HIn := Lib.hid hIn
  have HB := Lib.hid (H2.out.b.trans (hb3.mono H2.out.b.size))
  have HLen := Lib.hid (pieces_len (val 0 ps) (cuts (s1, s2) ps) s2)
  have HMap := Lib.hid (show ∀ v ∈ (cuts (s1, s2) ps).map (val 0 ps), Stm.fits v = true by intro v hv; obtain ⟨x, _, rfl⟩ := List.mem_map.1 hv; exact HVF.out x)
  have HST := Lib.hid (Rnd.start (pieces (val 0 ps) (cuts (s1, s2) ps) s2))
  have HFB2 := Lib.hid (show ∀ x ∈ fr (cuts (s1, s2) ps) s2, s1 ≤ x.1 ∧ x.1 < x.2 ∧ x.2 ≤ s2 from HFB.out)
  clear hSp hIn hb3 p0 p1 q1 q2 H2 HS0 HP HFU HVF HFB
  have HG := Lib.hid (fun k (x y v : Int) (h1 : (fr (cuts (s1, s2) ps) s2)[k]? = some (x, y)) (h2 : ((cuts (s1, s2) ps).map (val 0 ps))[k]? = some v) => pieces_get (g := val 0 ps) h1 h2)
  generalize pieces (val 0 ps) (cuts (s1, s2) ps) s2 = L at HL HLen HST HG HRA HRB
  generalize fr (cuts (s1, s2) ps) s2 = zs at HSp HG HFB2
  generalize (cuts (s1, s2) ps).map (val 0 ps) = vs at HIn HMap HG
  generalize (cuts (s1, s2) ps).length = N at hcl HSp HIn HLen ⊢
  go_wp2
  go_loopw [6, 7, 30] (fun ss sr i w' => ∃ (k nd : Nat) (sum room : Int), k ≤ N ∧ i = .int .i64 (k : Int) ∧ ss = .int .i64 sum ∧ sr = .int .i64 room ∧ 0 ≤ room ∧ Hid (Rnd L k sum room) ∧ w' = w3.drewN nd) (fun _ _ i _ => N - (intOf i).toNat)
  case atStart => exact ⟨0, 0, 0, 4000000000000000000, Nat.zero_le _, rfl, rfl, rfl, by omega, HST, rfl⟩
  case round =>
    obtain ⟨k, nd, sum, room, hk, rfl, rfl, rfl, hr0, HR, rfl⟩ := hrel
    by_cases hlt : k < N
    · obtain ⟨ad, x, y, rfl, _, hz, hc0, hc1⟩ := HSp.out.get hlt
      obtain ⟨av, v, rfl, _, hv, hcv⟩ := HIn.out.get hlt
      have hlk := HG.out k x y v hz hv
      obtain ⟨f1, f2, f3⟩ := HFB2.out _ (List.mem_of_getElem? hz)
      obtain ⟨v1, v2⟩ := (fits_iff v).1 (HMap.out v (List.mem_of_getElem? hv))
      simp only at f1 f2 f3
      obtain ⟨D, hD⟩ : ∃ D, y - x = D := ⟨_, rfl⟩
      obtain ⟨P, hP⟩ : ∃ P, mag v * D = P := ⟨_, rfl⟩
      obtain ⟨Z, hZ⟩ : ∃ Z, v * D = Z := ⟨_, rfl⟩
      have hD1 : 1 ≤ D := by omega
      have hD2 : D ≤ 292194 := by omega
      obtain ⟨m1, m2, m3⟩ := mag_mul hD1 hP hZ
      have hdiv := div_le (S := mag v) hD1 hr0 hP
      obtain ⟨b1, b2, b3, b4, b5⟩ := HR.out.room HL.out hr0
      obtain ⟨nv, hnv⟩ : ∃ nv, -v = nv := ⟨_, rfl⟩
      obtain ⟨S, hS⟩ : ∃ S, max v nv = S := ⟨_, rfl⟩
      have hS' : mag v = S := by rw [mag, hnv]; exact hS
      obtain ⟨q, hq⟩ : ∃ q, room / D = q := ⟨_, rfl⟩
      have hqt : room.tdiv D = q := by rw [Int.tdiv_eq_ediv_of_nonneg hr0]; exact hq
      have hq0 : 0 ≤ q := by rw [← hq]; exact Int.ediv_nonneg hr0 (by omega)
      have hq1 : q ≤ room := by rw [← hq]; exact Int.ediv_le_self _ hr0
      have hS0 : 0 ≤ S := by rw [← hS']; exact mag_nonneg v
      have hS1 : S ≤ 4000000000000000000 := by rw [← hS']; unfold mag; omega
      rw [hS'] at hP hdiv
      rw [hq] at hdiv
      have wD : IntKind.i64.wrap D = D := IntWalk.i64_in _ (by omega)
      have wn : IntKind.i64.wrap nv = nv := IntWalk.i64_in _ (by omega)
      have tD : (D == 0) = false := by rw [beq_eq_false_iff_ne]; omega
      have tD2 : (D == -1) = false := by rw [beq_eq_false_iff_ne]; omega
      have hlt2 : (k : Int) < (N : Int) := by omega
      have HD := Lib.hid hD
      have HPm := Lib.hid (show mag v * D = P by rw [hS']; exact hP)
      have HZ := Lib.hid hZ
      clear hz hv
      have HLK := Lib.hid hlk
      clear hlk hS'
      by_cases ho : room < P
      · have tq : decide (q < S) = true := by rw [decide_eq_true_eq]; exact hdiv.2 ho
        have HO := Lib.hid (HR.out.over HL.out HLK.out HD.out HPm.out ho)
        clear ho hdiv hP hZ hq m1 m2 m3 b4 b5
        go_wp2
        go_quiet (fail)
        go_wp2
        go_ret2
        exact ⟨by rw [← HRA.out, ← HRB.out, sv_no HO.out, se_no HO.out]; rfl, below_drewN HB.out _⟩
      · have tq : decide (q < S) = false := by rw [decide_eq_false_iff_not]; exact fun h => ho (hdiv.1 h)
        obtain ⟨room', hr'⟩ : ∃ r, room - P = r := ⟨_, rfl⟩
        obtain ⟨sum', hs'⟩ : ∃ r, sum + Z = r := ⟨_, rfl⟩
        have HN := Lib.hid (show Rnd L (k + 1) sum' room' by rw [← hr', ← hs']; exact HR.out.next HLK.out HD.out HZ.out HPm.out)
        have hr1 : 0 ≤ room' := by omega
        have hr2 : room' ≤ 4000000000000000000 := by omega
        have hs1 : -4000000000000000000 ≤ sum' := by omega
        have hs2 : sum' ≤ 4000000000000000000 := by omega
        have hP2 : P ≤ 4000000000000000000 := by omega
        have hZ1 : -4000000000000000000 ≤ Z := by omega
        have hZ2 : Z ≤ 4000000000000000000 := by omega
        clear ho hdiv hq m1 m2 b4 b5
        go_wp2
        go_quiet (fail)
        go_wp2
        go_roundw
        case rel => exact ⟨k + 1, _, sum', room', by omega, by go_num, rfl, rfl, hr1, HN, rfl⟩
        case measure => simp [intOf]; omega
    · obtain ⟨f1, f2⟩ := HR.out.fin (by rw [HLen.out]; omega) hr0
      have HF1 := Lib.hid f1
      have HF2 := Lib.hid f2
      clear f1 f2
      go_wp2
      go_ret2
      exact ⟨by rw [← HRA.out, ← HRB.out, sv_ok HF1.out, se_ok HF1.out, ← HF2.out]; rfl, below_drewN HB.out _⟩

end Stp
end Go.Proofs.Ytjmbccdcnmmhgaa
