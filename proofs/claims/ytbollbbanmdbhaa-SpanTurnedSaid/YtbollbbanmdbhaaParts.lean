/-
  Parts of package span. Conditions: the days read as a list of at most 100 ints; a nil row has no room.
-/
import Derived.Test.YtbollbbanmdbhaaDays
import Derived.Test.YtbollbbanmdbhaaPt
import Derived.Test.YtbollbbanmdbhaaInto
namespace Go.Proofs.Ytbollbbanmdbhaa
open Go.RowKit Sp
namespace Spn
set_option linter.unusedVariables false

/-- What Parts gives. -/
def PartsTo (w : World) (s : Sp) (ds : List Int) (e : Ending) (w' : World) : Prop := ∃ zs, Parted s ds zs ∧ Gives w zs e w'

/-- What holds at the head of each round. -/
structure PI (w2 w' : World) (A : Option Addr) (n c : Nat) (st : List Sp × Int) (f : Int) : Prop where
  own : Own w' w2.heap.size A n c st.1
  hf : f = st.2
  below : Below w2.heap.size w2 w'

theorem takeI_more {xs : List Int} {k : Nat} {x : Int} (h : xs[k]? = some x) : xs.take (k + 1) = xs.take k ++ [x] := by
  obtain ⟨hl, e⟩ := List.getElem?_eq_some_iff.1 h
  rw [List.take_succ_eq_append_getElem hl, e]
theorem ps_yes {s : Sp} {st : List Sp × Int} {d : Int} (h : inn s d = true) : ps s st d = (st.1 ++ [(st.2, d)], d) := by rw [ps, if_pos h]
theorem ps_not {s : Sp} {st : List Sp × Int} {d : Int} (h : inn s d = false) : ps s st d = st := by rw [ps, if_neg (by simp [h])]

set_option maxRecDepth 100000 in
set_option maxHeartbeats 2000000 in
theorem parts (s : Sp) (A : Option Addr) (n c : Nat) (xs : List Int) (w : World) (hS : Ints w w.heap.size A n xs) (hnil : A = none → n = 0 ∧ c = 0) (hn : n ≤ 100) :
    Calls Try.prog 26 #[ag s, .slice A n c] w (PartsTo w s xs) := by
  obtain ⟨a1, a2⟩ := s
  have C := fun d w => Lib.hid (inn_ (a1, a2) d w)
  have D := Lib.hid (cloneI A n c xs (w.alloc (.cells #[.int .i64 a1, .int .i64 a2] 23)) ((hS.below ((Below.refl _ _).alloc (Nat.le_refl _) _) (Nat.le_refl _)).wide (by simp)) hnil (by omega))
  clear hS hnil
  go_enter Try.func26, Try.ntmps26
  go_wp2_with fail
  refine D.out.mono ?_
  rintro e w1 ⟨A1, c1, rfl, hO1, hb1⟩
  obtain ⟨X1, hB1⟩ := bx1 hb1
  have HO1 := Lib.hid hO1
  have HX1 := Lib.hid X1
  have HB1 := Lib.hid hB1
  have hbs : (w.alloc (.cells #[.int .i64 a1, .int .i64 a2] 23)).heap.size ≤ w1.heap.size := hb1.size
  clear hO1 X1 hB1 hb1 D
  go_wp2_with fail
  refine (sortInts _ A1 n c1 xs w1 HO1.out hbs (by omega)).mono ?_
  rintro e w2 ⟨rfl, ys, hsort, hS2, hb2⟩
  have HS2 := Lib.hid hS2
  have HSo := Lib.hid hsort
  have HX2 := Lib.hid (HX1.out.below hb2 (by simp))
  have HB2 := Lib.hid (HB1.out.trans (hb2.mono (by simp)))
  clear hS2 hsort hb2 HX1 HB1 HO1 hbs
  have x0 := HX2.out.c0
  have x1 := HX2.out.c1
  have xl := HX2.out.lt
  have hyl : ys.length = n := HS2.out.1
  have HY := Lib.hid hyl
  clear hyl
  go_wp2
  go_loopw [6, 7, 18] (fun sp sf i w' => ∃ (k : Nat) (A2 : Option Addr) (n2 c2 : Nat) (f : Int), k ≤ n ∧ n2 ≤ k ∧ sp = .slice A2 n2 c2 ∧ sf = .int .i64 f ∧ i = .int .i64 (k : Int) ∧ Hid (PI w2 w' A2 n2 c2 (pf (a1, a2) (ys.take k)) f)) (fun _ _ i _ => n - (intOf i).toNat)
  case atStart => exact ⟨0, none, 0, 0, a1, Nat.zero_le _, Nat.zero_le _, rfl, rfl, rfl, Lib.hid ⟨Own.nil, rfl, Below.refl _ _⟩⟩
  case round =>
    obtain ⟨k, A2, n2, c2, f, hk, hn2, rfl, rfl, rfl, HR⟩ := hrel
    clear x0 x1
    have XR := HX2.out.below HR.out.below xl
    have x0 := XR.c0
    have x1 := XR.c1
    have xlr := XR.lt
    have HXR := Lib.hid XR
    clear XR
    by_cases hlt : k < n
    · obtain ⟨ad, d, rfl, hb, hx, hc⟩ := (HS2.out.below HR.out.below (Nat.le_refl _)).get hlt
      have HTK := Lib.hid (takeI_more hx)
      clear hx
      cases hi : inn (a1, a2) d
      · have Cd := fun w => C d w
        rw [hi] at Cd
        have HI := Lib.hid hi
        clear hi C
        go_wp2_with fail
        refine (Cd _).out.mono ?_
        rintro e w3 ⟨rfl, hb3⟩
        have HB3 := Lib.hid hb3
        clear hb3 Cd
        go_wp2
        go_roundw
        case rel => exact ⟨k + 1, _, _, _, f, by omega, by omega, rfl, rfl, by go_num, Lib.hid (by rw [HTK.out, pf_snoc, ps_not HI.out]; exact ⟨HR.out.own.below HB3.out, HR.out.hf, HR.out.below.trans (HB3.out.mono HR.out.below.size)⟩)⟩
        case measure => simp [intOf]; omega
      · have Cd := fun w => C d w
        rw [hi] at Cd
        have HI := Lib.hid hi
        clear hi C
        go_wp2_with fail
        refine (Cd _).out.mono ?_
        rintro e w3 ⟨rfl, hb3⟩
        have HB3 := Lib.hid hb3
        have HO3 := Lib.hid (HR.out.own.below hb3)
        have HW3 := Lib.hid (HR.out.below.trans (hb3.mono HR.out.below.size))
        clear hb3 Cd
        go_wp2_with (at_builtin; refine wpList_app _ rfl (.tmp 25) (.tmp 29) rfl w2.heap.size A2 n2 c2 (pf (a1, a2) (ys.take k)).1 rfl (HO3.out.alloc _) (w3.heap.size + 1) (some ⟨w3.heap.size, 0, none⟩) 1 1 [(f, d)] rfl (by have := spans_new1 w3 f d; rwa [World.size_alloc] at this) (fun h => by cases h) (by omega) (by have := HW3.out.size; simp; omega) ?_; intro A4 c4 w4 hO4 hg4; have HO4 := Lib.hid hO4; have HG4 := Lib.hid hg4; clear hO4 hg4)
        go_roundw
        case rel => exact ⟨k + 1, _, _, _, d, by omega, by omega, rfl, rfl, by go_num, Lib.hid (by rw [HTK.out, pf_snoc, ps_yes HI.out, ← HR.out.hf]; exact ⟨HO4.out, rfl, (HW3.out.alloc HW3.out.size _).grown HG4.out (by have := HW3.out.size; simp; omega) (fun j hj => (HO3.out.lt j hj).1)⟩)⟩
        case measure => simp [intOf]; omega
    · obtain rfl : n = k := by omega
      have he : ys.take n = ys := List.take_of_length_le (by rw [HY.out]; exact Nat.le_refl _)
      rw [he] at HR
      have HPF := Lib.hid (pf_parted (s := (a1, a2)) HSo.out.rise (fun d => HSo.out.perm.mem_iff))
      obtain ⟨st, hst⟩ : ∃ st, pf (a1, a2) ys = st := ⟨_, rfl⟩
      rw [hst] at HR HPF
      have hf := HR.out.hf
      rw [← hf] at HPF
      clear he hst hf
      go_wp2_with (first
        | (at_builtin; refine wpList_app _ rfl (.tmp 33) (.tmp 38) rfl w2.heap.size A2 n2 c2 st.1 rfl (HR.out.own.alloc _) (wr.heap.size + 1) (some ⟨wr.heap.size, 0, none⟩) 1 1 [(f, a2)] rfl (by have := spans_new1 wr f a2; rwa [World.size_alloc] at this) (fun h => by cases h) (by omega) (by have := HR.out.below.size; simp; omega) ?_; intro A4 c4 w4 hO4 hg4; have HO4 := Lib.hid hO4; have HG4 := Lib.hid hg4; clear hO4 hg4)
        | fail)
      have HW4 := Lib.hid ((HR.out.below.alloc HR.out.below.size (.cells #[.int .i64 f, .int .i64 a2] 23)).grown HG4.out (by have := HR.out.below.size; simp; omega) (fun j hj => (HR.out.own.lt j hj).1))
      refine (keep A4 (n2 + 1) c4 (st.1 ++ [(f, a2)]) w4 HO4.out.spans.1 (by omega)).mono ?_
      rintro e w5 ⟨A5, k5, c5, rfl, hS5, hc5, hb5⟩
      have HS5 := Lib.hid hS5
      have HB5 := Lib.hid (HW4.out.trans (hb5.mono HW4.out.size))
      clear hS5 hb5
      go_wp2
      go_ret
      exact ⟨_, HPF.out, A5, k5, c5, rfl, HS5.out, hc5, HB2.out.trans (HB5.out.mono HB2.out.size)⟩

end Spn
end Go.Proofs.Ytbollbbanmdbhaa
