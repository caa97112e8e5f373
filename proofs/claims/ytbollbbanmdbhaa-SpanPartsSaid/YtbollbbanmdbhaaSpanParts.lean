/-
  The statement SpanParts holds: for every input the call returns true, and each argument reads afterwards as it read before. Conditions: none beside those that the row itself bears.
-/
import Derived.Test.YtbollbbanmdbhaaGiven
import Derived.Test.YtbollbbanmdbhaaJoinA
namespace Go.Proofs.Ytbollbbanmdbhaa.spanParts
open Go.ChangeShapes Go.WideShapes Go.ChangeAt Go.RowKit Sp Spn
set_option linter.unusedVariables false

set_option maxHeartbeats 1000000 in
theorem long (s : Sp) (A : Option Addr) (n c : Nat) (w : World) (hn : n ≤ 9223372036854775807) (h : 100 < n) : Calls Try.prog 10 #[ag s, .slice A n c] w fun e w' => e = .returned (.bool true) ∧ Below w.heap.size w w' := by
  have t1 : decide (100 < n) = true := by simpa using h
  obtain ⟨a1, a2⟩ := s
  go_enter Try.func10, Try.ntmps10
  go_wp2_with fail
  refine (alive _).mono ?_
  rintro e w1 ⟨rfl, hb⟩
  obtain ⟨_, hB⟩ := bx1 hb
  have HB := Lib.hid hB
  clear hb hB
  go_wp2
  go_ret
  exact ⟨rfl, HB.out⟩

theorem tot_more {xs : List Sp} {k : Nat} {x : Sp} (h : xs[k]? = some x) : tot (xs.take (k + 1)) = tot (xs.take k) + mn x := by
  rw [take_more h, tot_append, tot_cons, tot_nil]; omega
theorem tot_pos (xs : List Sp) : 0 ≤ tot xs := by
  induction xs with
  | nil => simp [tot_nil]
  | cons x xs ih => rw [tot_cons]; have := mn_bd x; omega
theorem tot_take (xs : List Sp) (k : Nat) : 0 ≤ tot (xs.take k) ∧ tot (xs.take k) ≤ tot xs := by
  have e : tot xs = tot (xs.take k) + tot (xs.drop k) := by rw [← tot_append, List.take_append_drop]
  have h1 := tot_pos (xs.take k)
  have h2 := tot_pos (xs.drop k)
  omega
theorem ownI_nil {w : World} {base n c : Nat} {A : Option Addr} {xs : List Int} (h : OwnI w base A n c xs) : A = none → n = 0 ∧ c = 0 := by
  intro e
  subst e
  rcases h.2 with ⟨e, hn⟩ | ⟨g, cap, cur, e, _⟩
  · injection e with _ e2 e3
    exact ⟨e2, e3⟩
  · cases e
theorem spans_bx {w : World} {g : Nat} {x y : Int} (h : Bx w g x y) : Spans w w.heap.size (some ⟨g, 0, none⟩) 1 [(x, y)] := by
  refine ⟨rfl, fun _ => ⟨_, rfl, h.lt, fun j z hz => ?_⟩⟩
  match j, hz with
  | 0, hz => simp at hz; subst hz; exact ⟨h.c0, h.c1⟩

/-- What has been summed up. -/
structure SI (w w' : World) (xs : List Sp) (k : Nat) (t : Int) : Prop where
  below : Below w.heap.size w w'
  sum : t = tot (xs.take k)

set_option maxRecDepth 100000 in
set_option maxHeartbeats 8000000 in
theorem short (s : Sp) (A : Option Addr) (n c : Nat) (xs : List Int) (w : World) (G : GivenI w A n c xs) (h : n ≤ 100) : Calls Try.prog 10 #[ag s, .slice A n c] w fun e w' => e = .returned (.bool true) ∧ Below w.heap.size w w' := by
  have t1 : decide (100 < n) = false := by simpa using h
  have t2 : decide ((100 : Int) < (n : Int)) = false := by simp; omega
  have HG := Lib.hid G
  have CM := fun z w => Lib.hid (many z w)
  obtain ⟨a1, a2⟩ := s
  have HMB := mn_bd (a1, a2)
  clear G
  go_enter Try.func10, Try.ntmps10
  go_wp2_with (at_builtin; refine wpList_appI _ rfl (.tmp 15) (.tmp 16) rfl (w.heap.size + 1) (some ⟨w.heap.size + 1, 0, none⟩) 0 0 [] rfl (by have := World.ownsRow_made (base := w.heap.size + 1) (e := 3) (size := 1) (w.alloc (.cells #[.int .i64 a1, .int .i64 a2] 23)) #[] 0 (by simp) (Nat.zero_le _) (by simp); rwa [World.size_alloc] at this) w.heap.size A n c xs rfl (HG.out.ints.below (((Below.refl _ _).alloc (Nat.le_refl _) _).alloc (by simp) _) (Nat.le_refl _)) HG.out.noroom (by omega) (by simp) ?_; intro A2 c2 w2 hO2 hg2; have HO2 := Lib.hid hO2; have HB2 := Lib.hid ((((Below.refl _ _).alloc (Nat.le_refl _) _).alloc (by simp) _).grown hg2 (by simp; omega) (fun j hj => by simp [Value.ownBlock] at hj; omega) : Below w.heap.size w w2); have HX2 := Lib.hid (show Bx w2 w.heap.size a1 a2 from (hg2.block w.heap.size (by simp; omega) (by simp [Value.ownBlock])).trans ((Bx.new w a1 a2).alloc _)); have x0 := HX2.out.c0; have x1 := HX2.out.c1; clear hO2 hg2)
  have HO2' := Lib.hid (by have := HO2.out; rwa [Nat.zero_add, List.nil_append] at this : OwnI w2 (w.heap.size + 1) A2 n c2 xs)
  clear HO2
  refine (parts (a1, a2) A2 n c2 xs w2 HO2'.out.ints.1 (ownI_nil HO2'.out) h).mono ?_
  rintro e w3 ⟨zs, hP, AP, kP, cP, rfl, hSP, hcP, hb3⟩
  have HX3 := Lib.hid (HX2.out.keep hb3)
  have HI3 := Lib.hid ((HO2'.out.ints.1.below hb3 (Nat.le_refl _)).wide hb3.size)
  have HI3c := HO2'.out.ints.2
  have HB3 := Lib.hid (HB2.out.trans (hb3.mono HB2.out.size))
  have HP := Lib.hid hP
  have HSP := Lib.hid hSP
  have HF := Lib.hid hP.facts
  have hkP : kP ≤ 292194 := by have := hSP.1; have := hP.facts.2.2; omega
  clear hb3 hP hSP HB2 HX2 HO2' x0 x1
  go_wp2
  go_loopw [7, 23] (fun sn i w' => ∃ (k : Nat) (t : Int), k ≤ kP ∧ sn = .int .i64 t ∧ i = .int .i64 (k : Int) ∧ 0 ≤ t ∧ t ≤ 292194 ∧ Hid (SI w3 w' zs k t)) (fun _ i _ => kP - (intOf i).toNat)
  case atStart => exact ⟨0, 0, Nat.zero_le _, rfl, rfl, by omega, by omega, Lib.hid ⟨Below.refl _ _, by simp [tot_nil]⟩⟩
  case round =>
    obtain ⟨k, t, hk, rfl, rfl, ht0, ht1, HR⟩ := hrel
    by_cases hlt : k < kP
    · obtain ⟨ad, p, q, rfl, hb, hx, hc, hc'⟩ := (HSP.out.below HR.out.below (Nat.le_refl _)).get hlt
      have hT1 := tot_more hx
      have hT2 := tot_take zs (k + 1)
      have hT3 := HF.out.1
      have hT4 := HR.out.sum
      have D1 := fun w => CM (p, q) w
      have hpb := mn_bd (p, q)
      clear hx CM
      generalize mn (p, q) = m at D1 hT1 hpb
      have hs : t + m ≤ 292194 := by omega
      have HT := Lib.hid (show t + m = tot (zs.take (k + 1)) by omega)
      clear hT1 hT2 hT3 hT4
      go_wp2_with fail
      refine (D1 _).out.mono ?_
      rintro e w4 ⟨rfl, hb4⟩
      obtain ⟨_, hB4⟩ := bx1 hb4
      have HB4 := Lib.hid (HR.out.below.trans (hB4.mono HR.out.below.size))
      clear hb4 hB4 D1
      go_wp2
      go_roundw
      case rel => exact ⟨k + 1, t + m, by omega, rfl, by go_num, by omega, by omega, Lib.hid ⟨HB4.out, HT.out⟩⟩
      case measure => simp [intOf]; omega
    · obtain rfl : kP = k := by omega
      have he : zs.take kP = zs := List.take_of_length_le (by rw [HSP.out.1]; exact Nat.le_refl _)
      have hT4 := HR.out.sum
      rw [he, HF.out.1] at hT4
      subst hT4
      have HB5 := Lib.hid (HB3.out.trans (HR.out.below.mono HB3.out.size))
      have HX5 := Lib.hid (HX3.out.keep HR.out.below)
      have HI5 := Lib.hid (HI3.out.below HR.out.below (Nat.le_refl _))
      obtain ⟨V, rfl⟩ : ∃ V, V = wr := ⟨_, rfl⟩
      have RPV := Lib.hid (RowAt.mk (HSP.out.below HR.out.below (Nat.le_refl _) |>.wide HR.out.below.size))
      clear he HB3 HX3 HI3 HR HSP
      go_wp2
      go_loopw [34] (fun i w' => ∃ (k nd : Nat), k ≤ n ∧ i = .int .i64 (k : Int) ∧ w' = V.drewN nd) (fun i _ => n - (intOf i).toNat)
      case atStart => exact ⟨0, 0, Nat.zero_le _, rfl, rfl⟩
      case round =>
        clear hk hlt
        obtain ⟨k, nd, hk, rfl, rfl⟩ := hrel
        by_cases hlt : k < n
        · obtain ⟨ad, x, rfl, hb, hx, hc⟩ := (HG.out.ints.below HB5.out (Nat.le_refl _)).get hlt
          obtain ⟨ad2, y, rfl, hb2, hx2, hc2⟩ := HI5.out.get hlt
          obtain rfl : x = y := by rw [hx] at hx2; simpa using hx2
          have hlt2 : (k : Int) < (n : Int) := by omega
          clear hx hx2
          go_wp2
          go_quiet (fail)
          go_wp2
          go_roundw
          case rel => exact ⟨k + 1, _, by omega, by go_num, rfl⟩
          case measure => simp [intOf]; omega
        · obtain rfl : n = k := by omega
          obtain ⟨wn, hwn⟩ : ∃ wn, V.drewN nd = wn := ⟨_, rfl⟩
          have HB := Lib.hid (show Below w.heap.size w wn by rw [← hwn]; exact ⟨HB5.out.os, HB5.out.tape, HB5.out.output, HB5.out.size, HB5.out.block⟩)
          have X := Lib.hid (show Bx wn w.heap.size a1 a2 by rw [← hwn]; exact HX5.out)
          have RP := Lib.hid (show RowAt wn AP kP zs by rw [← hwn]; exact ⟨RPV.out.spans⟩)
          rw [hwn]
          clear hwn RPV HB5 HX5 HI5
          have X0 := X.out.c0
          have X1 := X.out.c1
          have CS := fun w => CM (a1, a2) w
          clear CM
          generalize mn (a1, a2) = m0 at CS HMB ht0 ht1 ⊢
          go_wp2
          go_region_held3 (fun w' => w'.cell? ⟨w.heap.size, 0, none⟩ = some (.int .i64 a1) ∧ w'.cell? ⟨w.heap.size, 1, none⟩ = some (.int .i64 a2)) (first | exact ⟨X0, X1⟩ | exact ⟨(X.out.alloc _).c0, (X.out.alloc _).c1⟩)
            (first
        | (go_at_call 11; ((with_reducible refine (alive _).mono ?_); rintro e wx ⟨rfl, hb⟩; have hbn := Spn.stepW HB.out hb ⟨rfl, rfl, rfl, rfl⟩; have HBn := Lib.hid (HB.out.trans (hbn.mono HB.out.size)); clear HB; have HB := HBn; clear HBn; have Xn := Lib.hid (X.out.keep hbn); clear X; have X := Xn; clear Xn; have RPn := Lib.hid (RP.out.keep_ hbn); clear RP; have RP := RPn; clear RPn; clear hb hbn; clear X0 X1; have X0 := X.out.c0; have X1 := X.out.c1; obtain ⟨wn, rfl⟩ : ∃ v, v = wx := ⟨_, rfl⟩))
        | (go_at_call 27; ((refine (rparts (a1, a2) A n c xs _ ((HG.out.ints.below HB.out (Nat.le_refl _)).wide HB.out.size) h).mono ?_); rintro e wx ⟨zs2, hP2, AR, kR, cR, rfl, hSR, hcR, hb⟩; have hbn := Spn.stepW HB.out hb ⟨rfl, rfl, rfl, rfl⟩; have HBn := Lib.hid (HB.out.trans (hbn.mono HB.out.size)); clear HB; have HB := HBn; clear HBn; have Xn := Lib.hid (X.out.keep hbn); clear X; have X := Xn; clear Xn; have RPn := Lib.hid (RP.out.keep_ hbn); clear RP; have RP := RPn; clear RPn; have ez := HP.out.unique hP2 (fun d => Iff.rfl); subst ez; have RR := Lib.hid (RowAt.mk hSR); have hk := RP.out.len.symm.trans RR.out.len; subst hk; clear hSR hP2; clear hb hbn; clear X0 X1; have X0 := X.out.c0; have X1 := X.out.c1; obtain ⟨wn, rfl⟩ : ∃ v, v = wx := ⟨_, rfl⟩))
        | (go_at_call 20; ((with_reducible refine (same AP AR kP cP cR wn.heap.size wn.heap.size zs _ RP.out.spans RR.out.spans (by unfold maxLen; omega)).mono ?_); rintro e wx ⟨rfl, hb⟩; have hbn := Spn.stepW HB.out hb ⟨rfl, rfl, rfl, rfl⟩; have HBn := Lib.hid (HB.out.trans (hbn.mono HB.out.size)); clear HB; have HB := HBn; clear HBn; have Xn := Lib.hid (X.out.keep hbn); clear X; have X := Xn; clear Xn; have RPn := Lib.hid (RP.out.keep_ hbn); clear RP; have RP := RPn; clear RPn; clear hb hbn; clear X0 X1; have X0 := X.out.c0; have X1 := X.out.c1; obtain ⟨wn, rfl⟩ : ∃ v, v = wx := ⟨_, rfl⟩))
        | (go_at_call 14; ((with_reducible refine ((CS _).out).mono ?_); rintro e wx ⟨rfl, hb⟩; have hbn := Spn.stepW HB.out hb ⟨rfl, rfl, rfl, rfl⟩; have HBn := Lib.hid (HB.out.trans (hbn.mono HB.out.size)); clear HB; have HB := HBn; clear HBn; have Xn := Lib.hid (X.out.keep hbn); clear X; have X := Xn; clear Xn; have RPn := Lib.hid (RP.out.keep_ hbn); clear RP; have RP := RPn; clear RPn; clear hb hbn; clear X0 X1; have X0 := X.out.c0; have X1 := X.out.c1; obtain ⟨wn, rfl⟩ : ∃ v, v = wx := ⟨_, rfl⟩))
        | (go_at_call 24; ((with_reducible refine (joinA AP kP cP zs wn RP.out.spans (by omega)).mono ?_); rintro e wx ⟨zJ, hJ, hlJ, AJ, kJ, cJ, rfl, hSJ, hcJ, hb⟩; have hbn := Spn.stepW HB.out hb ⟨rfl, rfl, rfl, rfl⟩; have HBn := Lib.hid (HB.out.trans (hbn.mono HB.out.size)); clear HB; have HB := HBn; clear HBn; have Xn := Lib.hid (X.out.keep hbn); clear X; have X := Xn; clear Xn; have RPn := Lib.hid (RP.out.keep_ hbn); clear RP; have RP := RPn; clear RPn; have HJ := Lib.hid hJ; have RJ := Lib.hid (RowAt.mk hSJ); have hkJ := hlJ; rw [RJ.out.len, RP.out.len] at hkJ; clear hJ hSJ hlJ; clear hb hbn; clear X0 X1; have X0 := X.out.c0; have X1 := X.out.c1; obtain ⟨wn, rfl⟩ : ∃ v, v = wx := ⟨_, rfl⟩))
        | (go_at_call 24; ((with_reducible refine (joinA AP kP cP zs (wn.alloc (.cells #[.int .i64 a1, .int .i64 a2] 23)) (RP.out.keep_ ((Below.refl _ _).alloc (Nat.le_refl _) _)).spans (by omega)).mono ?_); rintro e wx ⟨zJ, hJ, hlJ, AJ, kJ, cJ, rfl, hSJ, hcJ, hb⟩; have hbn := ((Below.refl wn.heap.size wn).alloc (Nat.le_refl _) (.cells #[.int .i64 a1, .int .i64 a2] 23)).trans (hb.mono (by simp)); have HBn := Lib.hid (HB.out.trans (hbn.mono HB.out.size)); clear HB; have HB := HBn; clear HBn; have Xn := Lib.hid (X.out.keep hbn); clear X; have X := Xn; clear Xn; have RPn := Lib.hid (RP.out.keep_ hbn); clear RP; have RP := RPn; clear RPn; have HZ := Lib.hid ((Bx.new wn a1 a2).keep hb); have HJ := Lib.hid hJ; have RJ := Lib.hid (RowAt.mk hSJ); have hkJ := hlJ; rw [RJ.out.len, RP.out.len] at hkJ; clear hJ hSJ hlJ; clear hb hbn; clear X0 X1; have X0 := X.out.c0; have X1 := X.out.c1; obtain ⟨wn, rfl⟩ : ∃ v, v = wx := ⟨_, rfl⟩))
        | (go_at_call 24; ((with_reducible refine (joinA (some ⟨wn.heap.size, 0, none⟩) 1 1 [(a1, a2)] (wn.alloc (.cells #[.int .i64 a1, .int .i64 a2] 23)) (spans_new1 wn a1 a2) (by omega)).mono ?_); rintro e wx ⟨zK, hK, hlK, AK, kK, cK, rfl, hSK, hcK, hb⟩; have hbn := ((Below.refl wn.heap.size wn).alloc (Nat.le_refl _) (.cells #[.int .i64 a1, .int .i64 a2] 23)).trans (hb.mono (by simp)); have HBn := Lib.hid (HB.out.trans (hbn.mono HB.out.size)); clear HB; have HB := HBn; clear HBn; have Xn := Lib.hid (X.out.keep hbn); clear X; have X := Xn; clear Xn; have RPn := Lib.hid (RP.out.keep_ hbn); clear RP; have RP := RPn; clear RPn; have RJn := Lib.hid (RJ.out.keep_ hbn); clear RJ; have RJ := RJn; clear RJn; have ek := HJ.out.unique hK HF.out.2.1; subst ek; have RK := Lib.hid (RowAt.mk hSK); have hkk := RJ.out.len.symm.trans RK.out.len; subst hkk; clear hK hSK hlK; clear hb hbn; clear X0 X1; have X0 := X.out.c0; have X1 := X.out.c1; obtain ⟨wn, rfl⟩ : ∃ v, v = wx := ⟨_, rfl⟩))
        | (go_at_call 24; ((with_reducible refine (joinA (some ⟨_, 0, none⟩) 1 1 [(a1, a2)] wn (spans_bx HZ.out) (by omega)).mono ?_); rintro e wx ⟨zK, hK, hlK, AK, kK, cK, rfl, hSK, hcK, hb⟩; have hbn := Spn.stepW HB.out hb ⟨rfl, rfl, rfl, rfl⟩; have HBn := Lib.hid (HB.out.trans (hbn.mono HB.out.size)); clear HB; have HB := HBn; clear HBn; have Xn := Lib.hid (X.out.keep hbn); clear X; have X := Xn; clear Xn; have RPn := Lib.hid (RP.out.keep_ hbn); clear RP; have RP := RPn; clear RPn; have RJn := Lib.hid (RJ.out.keep_ hbn); clear RJ; have RJ := RJn; clear RJn; have ek := HJ.out.unique hK HF.out.2.1; subst ek; have RK := Lib.hid (RowAt.mk hSK); have hkk := RJ.out.len.symm.trans RK.out.len; subst hkk; clear hK hSK hlK; clear hb hbn; clear X0 X1; have X0 := X.out.c0; have X1 := X.out.c1; obtain ⟨wn, rfl⟩ : ∃ v, v = wx := ⟨_, rfl⟩))
        | (go_at_call 20; ((with_reducible refine (same AJ AK kJ cJ cK wn.heap.size wn.heap.size zJ _ RJ.out.spans RK.out.spans (by unfold maxLen; omega)).mono ?_); rintro e wx ⟨rfl, hb⟩; have hbn := Spn.stepW HB.out hb ⟨rfl, rfl, rfl, rfl⟩; have HBn := Lib.hid (HB.out.trans (hbn.mono HB.out.size)); clear HB; have HB := HBn; clear HBn; have Xn := Lib.hid (X.out.keep hbn); clear X; have X := Xn; clear Xn; have RPn := Lib.hid (RP.out.keep_ hbn); clear RP; have RP := RPn; clear RPn; clear hb hbn; clear X0 X1; have X0 := X.out.c0; have X1 := X.out.c1; obtain ⟨wn, rfl⟩ : ∃ v, v = wx := ⟨_, rfl⟩)))
          all_goals (go_wp2; go_ret; exact ⟨rfl, HB.out⟩)

theorem walk (s : Sp) (A : Option Addr) (n c : Nat) (xs : List Int) {w : World} (G : GivenI w A n c xs) (w0 : World) (hw : w = w0) :
    Calls Try.prog 10 #[ag s, .slice A n c] w0 fun e w' => e = .returned (.bool true) ∧ Below w0.heap.size w0 w' := by
  subst hw
  by_cases h : n ≤ 100
  · exact short s A n c xs w G h
  · exact long s A n c w (by have := G.len; unfold maxLen at this; omega) (by omega)


set_option maxRecDepth 100000 in
theorem lifted (os : Os) (started : os.Started) (H : Type) (enc : TypeId × Value → H) :
    ReturnsInHanded {} Try.checked os 10 .any (Rows.spanPartsSpec.pre6 enc Try.prog Try.f10 Rows.spanPartsRow.domain false) (Rows.spanPartsSpec.post enc Try.prog Try.f10 false true false false) := by
  refine returnsInHanded_of_change (C := Try.checked) Spn.own started (by kernel_rfl) Try.func10
    (ChangeSpec.witness6 (enc := enc) (C := Try.checked) false ⟨#[], #[.agg #[.int .i64 0, .int .i64 0], .slice none 0 0], []⟩ 8 (by kernel_rfl) (by kernel_rfl) (by kernel_rfl) (by kernel_rfl)) ?_
  intro W base args ds gs before hval0 hW hcnd _
  have hval : ∀ (j : Nat) t v, Try.f10.params[j]? = some t → args[j]? = some v → Value.okWide Try.prog W .any base t v := hval0
  have hW' := hW
  obtain ⟨p, q, hA0, hV, rfl, hfz, hnd⟩ := hW
  have hA : DataW.TrodAll enc Try.prog W 0 (fun _ => true) true Try.f10.params.toList args.toList ds p := hA0
  rw [Try.params10] at hA hval
  obtain ⟨v0, vs0, d0, ds0, p0, q0, hargs, rfl, rfl, h0, r0⟩ := trodAll_cons hA
  obtain ⟨v1, vs1, d1, ds1, p1, q1, rfl, rfl, rfl, h1, r1⟩ := trodAll_cons r0
  obtain ⟨rfl, rfl, rfl⟩ := trodAll_nil r1
  obtain rfl : args = #[v0, v1] := by cases args; simp_all
  obtain ⟨rfl, rfl⟩ := trodVars_none hV
  have k0 := h0
  have lt0 : ∀ x ∈ p0, x.block < W.heap.size := by obtain ⟨m, hm⟩ := k0; exact DataW.trod_lt m _ _ _ hm
  obtain ⟨x0, rfl⟩ := Spn.open_span (hval 0 23 v0 rfl rfl) h0
  have k1 := h1
  have lt1 : ∀ x ∈ p1, x.block < W.heap.size := by obtain ⟨m, hm⟩ := k1; exact DataW.trod_lt m _ _ _ hm
  obtain ⟨A1, n1, c1, xs1, rfl, g1⟩ := Spn.open_days (hval 1 37 v1 rfl rfl) h1
  clear hA0 hval0
  refine (walk x0 A1 n1 c1 xs1 g1 W rfl).mono fun e W' ⟨he, bel⟩ => ?_
  subst he
  exact ⟨_, rfl, _, _, _, [], _, [], hW', trodAll_mk1 (shut_bool Try.underlying4 _), (trodAll_cons_mk (Below.trod Spn.laidOut (by kernel_rfl) (of_decide_eq_true (by kernel_rfl)) k0 bel lt0) (trodAll_cons_mk (Below.trod Spn.laidOut (by kernel_rfl) (of_decide_eq_true (by kernel_rfl)) k1 bel lt1) trodAll_mk0)), rfl, bel.frame _, fun h => by cases h⟩

theorem over : Rows.spanPartsRow.holds Try.pinned (OpenSpec.ofChange Rows.spanPartsSpec) :=
  OpenClaim.holds_of_wide 10 Try.f10 rfl rfl rfl rfl rfl rfl rfl ⟨rfl, rfl, rfl, rfl, rfl⟩ rfl rfl rfl rfl rfl (by kernel_rfl) Try.func10 (by kernel_rfl)
    (of_decide_eq_true (by kernel_rfl)) (by unfold Func.isWrapper; first | (rw [if_pos (by decide +kernel)]; kernel_rfl) | (rw [if_neg (by decide +kernel)]; exact ⟨rfl, rfl⟩))
    (fun os started H enc _ => lifted os started H enc)

theorem proved : Rows.SpanPartsSaid := over
end Go.Proofs.Ytbollbbanmdbhaa.spanParts
