/-
  The document's Sum. Conditions: the rows read as lists of ints.
-/
import Derived.Test.YtigacpjcadlkeaaRPieces
import Derived.Test.YtigacpjcadlkeaaSum
namespace Go.Proofs.Ytigacpjcadlkeaa
open Go.RowKit St
namespace Stp
set_option linter.unusedVariables false

set_option maxRecDepth 100000 in
set_option maxHeartbeats 2000000 in
theorem rsum_no1 (A : Option Addr) (n c : Nat) (V : Option Addr) (m d : Nat) (xs vs : List Int) (s : Pr) (w : World) (hS : Sx w w.heap.size A n V m xs vs) (hn : n ≤ 1000) (h : rg xs vs = false) :
    Calls Try.prog 24 #[sg A n c V m d, ag s] w (GivesN w 0 1) := by
  have S0 : PB w (pieW w A n c V m d s) A n c V m d s := PB.new
  have C := Lib.hid (rpieces_no1 A n c V m d xs vs s _ ((hS.below S0.b (Nat.le_refl _)).wide S0.b.size) hn h)
  have HS := Lib.hid S0
  clear h hS S0
  obtain ⟨s1, s2⟩ := s
  go_enter Try.func24, Try.ntmps24
  go_wp2_with fail
  refine C.out.mono ?_
  rintro e w1 ⟨rfl, hb⟩
  have H1 := Lib.hid (HS.out.keep hb)
  clear hb HS C
  go_wp2
  go_ret2
  exact ⟨rfl, H1.out.b⟩

set_option maxRecDepth 100000 in
set_option maxHeartbeats 2000000 in
theorem rsum_no2 (A : Option Addr) (n c : Nat) (V : Option Addr) (m d : Nat) (xs vs : List Int) (s : Pr) (w : World) (hS : Sx w w.heap.size A n V m xs vs) (hn : n ≤ 1000) (h : rg xs vs = true) (hs : full s = false) :
    Calls Try.prog 24 #[sg A n c V m d, ag s] w (GivesN w 0 1) := by
  have S0 : PB w (pieW w A n c V m d s) A n c V m d s := PB.new
  have C := Lib.hid (rpieces_no2 A n c V m d xs vs s _ ((hS.below S0.b (Nat.le_refl _)).wide S0.b.size) hn h hs)
  have HS := Lib.hid S0
  clear h hS S0 hs
  obtain ⟨s1, s2⟩ := s
  go_enter Try.func24, Try.ntmps24
  go_wp2_with fail
  refine C.out.mono ?_
  rintro e w1 ⟨rfl, hb⟩
  have H1 := Lib.hid (HS.out.keep hb)
  clear hb HS C
  go_wp2
  go_ret2
  exact ⟨rfl, H1.out.b⟩

set_option maxRecDepth 100000 in
set_option maxHeartbeats 4000000 in
theorem rsum_yes (A : Option Addr) (n c : Nat) (V : Option Addr) (d : Nat) (ps : List Pr) (s : Pr) (w : World) (hS : Sr w w.heap.size A V n ps) (hn : n ≤ 1000) (h : Right ps) (hs : full s = true) :
    Calls Try.prog 24 #[sg A n c V n d, ag s] w (GivesN w (sv (pieces (val 0 ps) (cuts s ps) s.2)) (se (pieces (val 0 ps) (cuts s ps) s.2))) := by
  have S0 : PB w (pieW w A n c V n d s) A n c V n d s := PB.new
  have C := Lib.hid (rpieces_yes A n c V d ps s _ ((hS.below S0.b (Nat.le_refl _)).wide S0.b.size) hn h hs)
  have hfs := (full_iff _).1 hs
  have hseg := cuts_seg h.1 hfs.2.1
  have HL := Lib.hid (seg_fr _ hseg)
  have HFB := Lib.hid (fr_bounds _ _ hseg)
  have HVF := Lib.hid (fun x => val_fits h.2 x)
  have hcl : (cuts s ps).length ≤ 1000000 := by
    have h1 := List.length_filter_le (fun a => decide (s.1 < a) && decide (a < s.2)) (ps.map (·.1))
    have h2 := hS.len
    simp [cuts] at h1 ⊢
    omega
  have hcp : 0 < (cuts s ps).length := by simp [cuts]
  have HS := Lib.hid S0
  clear h hS S0 hs hseg
  obtain ⟨s1, s2⟩ := s
  simp only at hfs
  obtain ⟨ra, hra⟩ : ∃ ra, sv (pieces (val 0 ps) (cuts (s1, s2) ps) s2) = ra := ⟨_, rfl⟩
  obtain ⟨rb, hrb⟩ : ∃ rb, se (pieces (val 0 ps) (cuts (s1, s2) ps) s2) = rb := ⟨_, rfl⟩
  simp only
  rw [hra, hrb]
  have HRA := Lib.hid hra
  have HRB := Lib.hid hrb
  clear hra hrb
  go_enter Try.func24, Try.ntmps24
  go_wp2_with fail
  refine C.out.mono ?_
  rintro e w3 ⟨AS, cS, AV, cV, rfl, hSp, hIn, hb3⟩
  have HSp := Lib.hid hSp
  have HIn := Lib.hid hIn
  have HB := Lib.hid (HS.out.keep hb3).b
  have HLen := Lib.hid (pieces_len (val 0 ps) (cuts (s1, s2) ps) s2)
  have HMap := Lib.hid (show ∀ v ∈ (cuts (s1, s2) ps).map (val 0 ps), St.fits v = true by intro v hv; obtain ⟨x, _, rfl⟩ := List.mem_map.1 hv; exact HVF.out x)
  have HST := Lib.hid (Rnd.start (pieces (val 0 ps) (cuts (s1, s2) ps) s2))
  have HFB2 := Lib.hid (show ∀ x ∈ fr (cuts (s1, s2) ps) s2, s1 ≤ x.1 ∧ x.1 < x.2 ∧ x.2 ≤ s2 from HFB.out)
  clear hSp hIn hb3 C HS HVF HFB
  have HG := Lib.hid (fun k (x y v : Int) (h1 : (fr (cuts (s1, s2) ps) s2)[k]? = some (x, y)) (h2 : ((cuts (s1, s2) ps).map (val 0 ps))[k]? = some v) => pieces_get (g := val 0 ps) h1 h2)
  generalize pieces (val 0 ps) (cuts (s1, s2) ps) s2 = L at HL HLen HST HG HRA HRB
  generalize fr (cuts (s1, s2) ps) s2 = zs at HSp HG HFB2
  generalize (cuts (s1, s2) ps).map (val 0 ps) = vs at HIn HMap HG
  generalize (cuts (s1, s2) ps).length = N at hcl hcp HSp HIn HLen ⊢
  have tN : ((N : Int) == 0) = false := by rw [beq_eq_false_iff_ne]; omega
  have tN2 : (N == 0) = false := by rw [beq_eq_false_iff_ne]; omega
  go_wp2
  go_loopw [8, 9, 10] (fun ss sa i w' => ∃ (k nd : Nat) (sum all : Int), k ≤ N ∧ i = .int .i64 (k : Int) ∧ ss = .int .i64 sum ∧ sa = .int .i64 all ∧ 0 ≤ all ∧ 0 ≤ 4000000000000000000 - all ∧ Hid (Rnd L k sum (4000000000000000000 - all)) ∧ w' = w3.drewN nd) (fun _ _ i _ => N - (intOf i).toNat)
  case atStart => exact ⟨0, 0, 0, 0, Nat.zero_le _, rfl, rfl, rfl, by omega, by omega, HST, rfl⟩
  case round =>
    obtain ⟨k, nd, sum, all, hk, rfl, rfl, rfl, ha0, hr0, HR, rfl⟩ := hrel
    by_cases hlt : k < N
    · obtain ⟨ad, x, y, rfl, _, hz, hc0, hc1⟩ := HSp.out.get hlt
      obtain ⟨av, v, rfl, _, hv, hcv⟩ := HIn.out.get hlt
      have hlk := HG.out k x y v hz hv
      obtain ⟨f1, f2, f3⟩ := HFB2.out _ (List.mem_of_getElem? hz)
      obtain ⟨v1, v2⟩ := (fits_iff v).1 (HMap.out v (List.mem_of_getElem? hv))
      simp only at f1 f2 f3
      obtain ⟨room, hroom⟩ : ∃ r, 4000000000000000000 - all = r := ⟨_, rfl⟩
      rw [hroom] at HR hr0
      obtain ⟨D, hD⟩ : ∃ D, y - x = D := ⟨_, rfl⟩
      have hD1 : 1 ≤ D := by omega
      have hD2 : D ≤ 292194 := by omega
      obtain ⟨b1, b2, b3, b4, b5⟩ := HR.out.room HL.out hr0
      obtain ⟨q, hq⟩ : ∃ q, room / D = q := ⟨_, rfl⟩
      have hqt : room.tdiv D = q := by rw [Int.tdiv_eq_ediv_of_nonneg hr0]; exact hq
      have hq0 : 0 ≤ q := by rw [← hq]; exact Int.ediv_nonneg hr0 (by omega)
      have hq1 : q ≤ room := by rw [← hq]; exact Int.ediv_le_self _ hr0
      have wD : IntKind.i64.wrap D = D := IntWalk.i64_in _ (by omega)
      have wr_ : IntKind.i64.wrap room = room := IntWalk.i64_in _ (by omega)
      have tD : (D == 0) = false := by rw [beq_eq_false_iff_ne]; omega
      have tD2 : (D == -1) = false := by rw [beq_eq_false_iff_ne]; omega
      have hlt2 : (k : Int) < (N : Int) := by omega
      have HD := Lib.hid hD
      have HLK := Lib.hid hlk
      clear hz hv hlk
      by_cases g0 : v < 0
      · have t0 : decide (v < 0) = true := by rw [decide_eq_true_eq]; exact g0
        obtain ⟨S, hS⟩ : ∃ S, -v = S := ⟨_, rfl⟩
        have hS' : mag v = S := by rw [mag]; omega
        obtain ⟨P, hP⟩ : ∃ P, D * S = P := ⟨_, rfl⟩
        obtain ⟨Z, hZ⟩ : ∃ Z, D * v = Z := ⟨_, rfl⟩
        have wS : IntKind.i64.wrap S = S := IntWalk.i64_in _ (by omega)
        have hP' : S * D = P := by rw [Int.mul_comm]; exact hP
        have HPm := Lib.hid (show mag v * D = P by rw [hS']; exact hP')
        have HZ := Lib.hid (show v * D = Z by rw [Int.mul_comm]; exact hZ)
        obtain ⟨m1, m2, m3⟩ := mag_mul hD1 HPm.out HZ.out
        have hdiv := div_le (S := S) hD1 hr0 hP'
        rw [hq] at hdiv
        clear hP' hS' g0
        by_cases ho : room < P
        · have tq : decide (q < S) = true := by rw [decide_eq_true_eq]; exact hdiv.2 ho
          have HO := Lib.hid (HR.out.over HL.out HLK.out HD.out HPm.out ho)
          clear ho hdiv hP hZ hq m1 m2 m3 b4 b5
          go_wp2
          go_quiet (fail)
          go_wp2
          go_ret2
          exact ⟨by rw [← HRA.out, ← HRB.out, sv_no HO.out, se_no HO.out]; rfl, below_drewN HB.out _⟩
        · have tq : decide (q < S) = false := by rw [decide_eq_false_iff_not]; exact fun h => ho (hdiv.1 h)
          obtain ⟨all', ha'⟩ : ∃ r, all + P = r := ⟨_, rfl⟩
          obtain ⟨sum', hs'⟩ : ∃ r, sum + Z = r := ⟨_, rfl⟩
          have HN := Lib.hid (show Rnd L (k + 1) sum' (4000000000000000000 - all') by rw [← ha', ← hs', show (4000000000000000000 : Int) - (all + P) = room - P by omega]; exact HR.out.next HLK.out HD.out HZ.out HPm.out)
          have hr1 : 0 ≤ 4000000000000000000 - all' := by omega
          have ha1 : 0 ≤ all' := by omega
          have ha2 : all' ≤ 4000000000000000000 := by omega
          have hs1 : -4000000000000000000 ≤ sum' := by omega
          have hs2 : sum' ≤ 4000000000000000000 := by omega
          have hP2 : P ≤ 4000000000000000000 := by omega
          have hZ1 : -4000000000000000000 ≤ Z := by omega
          have hZ2 : Z ≤ 4000000000000000000 := by omega
          clear ho hdiv hq m1 m2 b4 b5
          go_wp2
          go_quiet (fail)
          go_wp2
          go_roundw
          case rel => exact ⟨k + 1, _, sum', all', by omega, by go_num, rfl, rfl, ha1, hr1, HN, rfl⟩
          case measure => simp [intOf]; omega

      · have t0 : decide (v < 0) = false := by rw [decide_eq_false_iff_not]; exact g0
        have hS' : mag v = v := by rw [mag]; omega
        obtain ⟨P, hP⟩ : ∃ P, D * v = P := ⟨_, rfl⟩
        have hZ := hP
        have hP' : v * D = P := by rw [Int.mul_comm]; exact hP
        have HPm := Lib.hid (show mag v * D = P by rw [hS']; exact hP')
        have HZ := Lib.hid (show v * D = P by rw [Int.mul_comm]; exact hZ)
        obtain ⟨m1, m2, m3⟩ := mag_mul hD1 HPm.out HZ.out
        have hdiv := div_le (S := v) hD1 hr0 hP'
        rw [hq] at hdiv
        clear hP' hS' g0
        by_cases ho : room < P
        · have tq : decide (q < v) = true := by rw [decide_eq_true_eq]; exact hdiv.2 ho
          have HO := Lib.hid (HR.out.over HL.out HLK.out HD.out HPm.out ho)
          clear ho hdiv hP hZ hq m1 m2 m3 b4 b5
          go_wp2
          go_quiet (fail)
          go_wp2
          go_ret2
          exact ⟨by rw [← HRA.out, ← HRB.out, sv_no HO.out, se_no HO.out]; rfl, below_drewN HB.out _⟩
        · have tq : decide (q < v) = false := by rw [decide_eq_false_iff_not]; exact fun h => ho (hdiv.1 h)
          obtain ⟨all', ha'⟩ : ∃ r, all + P = r := ⟨_, rfl⟩
          obtain ⟨sum', hs'⟩ : ∃ r, sum + P = r := ⟨_, rfl⟩
          have HN := Lib.hid (show Rnd L (k + 1) sum' (4000000000000000000 - all') by rw [← ha', ← hs', show (4000000000000000000 : Int) - (all + P) = room - P by omega]; exact HR.out.next HLK.out HD.out HZ.out HPm.out)
          have hr1 : 0 ≤ 4000000000000000000 - all' := by omega
          have ha1 : 0 ≤ all' := by omega
          have ha2 : all' ≤ 4000000000000000000 := by omega
          have hs1 : -4000000000000000000 ≤ sum' := by omega
          have hs2 : sum' ≤ 4000000000000000000 := by omega
          have hP2 : P ≤ 4000000000000000000 := by omega
          have hZ1 : -4000000000000000000 ≤ P := by omega
          have hZ2 : P ≤ 4000000000000000000 := by omega
          clear ho hdiv hq m1 m2 b4 b5
          go_wp2
          go_quiet (fail)
          go_wp2
          go_roundw
          case rel => exact ⟨k + 1, _, sum', all', by omega, by go_num, rfl, rfl, ha1, hr1, HN, rfl⟩
          case measure => simp [intOf]; omega

    · obtain ⟨f1, f2⟩ := HR.out.fin (by rw [HLen.out]; omega) hr0
      have HF1 := Lib.hid f1
      have HF2 := Lib.hid f2
      clear f1 f2
      go_wp2
      go_ret2
      exact ⟨by rw [← HRA.out, ← HRB.out, sv_ok HF1.out, se_ok HF1.out, ← HF2.out]; rfl, below_drewN HB.out _⟩

end Stp
end Go.Proofs.Ytigacpjcadlkeaa
