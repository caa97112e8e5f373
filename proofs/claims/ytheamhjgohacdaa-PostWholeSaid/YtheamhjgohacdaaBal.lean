/-
  Balance and Turn of package post; the document's. Conditions: the book reads as a list of at most a million entries (a slice's length bounds its lines).
-/
import Derived.Test.YtheamhjgohacdaaRt
import Derived.Test.YtheamhjgohacdaaOne
namespace Go.Proofs.Ytheamhjgohacdaa
open Go.RowKit Bk
namespace Pst
set_option linter.unusedVariables false

/-- No more lines each than a slice may have. -/
def Few (es : List En) : Prop := ∀ e ∈ es, e.ls.length ≤ maxLen
theorem Few.get {es : List En} {k : Nat} {e : En} (h : Few es) (hk : es[k]? = some e) : e.ls.length ≤ maxLen := h e (List.mem_of_getElem? hk)
theorem few_len {w : World} {ok : Nat → Prop} {L : Option Addr} {m : Nat} {ls : List Pr} {es : List En} {k : Nat} {d f : Int} (h : Few es) (hk : es[k]? = some ⟨d, f, ls⟩) (hl : Lns w ok L m ls) : m ≤ maxLen := by
  have := h.get hk
  rw [← hl.1]; exact this

set_option maxRecDepth 100000 in
set_option maxHeartbeats 2000000 in
theorem balance (A : Option Addr) (n c : Nat) (es : List En) (acc day : Int) (w : World) (hS : Ents w A n es) (hn : n ≤ 1000000) (hf : Few es) :
    Calls Try.prog 14 #[bg A n c, .int .i64 acc, .int .i64 day] w (Num w (wrap64 (bal (upto day) acc es))) := by
  have HL := Lib.hid hS.len
  have HS := Lib.hid hS
  have HE := Lib.hid hf
  clear hS hf
  obtain ⟨R, hR⟩ : ∃ R, wrap64 (bal (upto day) acc es) = R := ⟨_, rfl⟩
  rw [hR]
  have HR := Lib.hid hR
  clear hR
  go_enter Try.func14, Try.ntmps14
  go_wp2
  go_loopw [7, 9, 13] (fun sa s5 i w' => ∃ (k : Nat) (a : Int) (w1 : World), k ≤ n ∧ i = .int .i64 (k : Int) ∧ sa = .int .i64 a ∧ w1 = w' ∧ Hid (wrap64 (bal (upto day) acc (es.take k)) = a) ∧ Hid (Below w.heap.size w w1)) (fun _ _ i _ => n - (intOf i).toNat)
  case atStart => exact ⟨0, 0, _, Nat.zero_le _, rfl, rfl, rfl, Lib.hid wr0, Lib.hid (alloc_ _ _)⟩
  case round =>
    obtain ⟨k, a, w1, hk, rfl, rfl, rfl, HA, HW⟩ := hrel
    by_cases hlt : k < n
    · obtain ⟨ad, d, f, ls, L, m, cl, rfl, hb, hx, hc0, hc1, hc2, hl⟩ := (HS.out.below HW.out).get hlt
      have hlt2 : (k : Int) < (n : Int) := by omega
      have hxl : ad.block < w1.heap.size := hb
      have hm := few_len HE.out hx hl
      have HLN := Lib.hid hl
      by_cases hd : d ≤ day
      · have C := fun w' (hb : Below w1.heap.size w1 w') => Lib.hid (amount d f L m cl ls acc w' (HLN.out.below hb) hm)
        have HN := Lib.hid (show wrap64 (bal (upto day) acc (es.take (k + 1))) = wrap64 (a + wrap64 (ofA acc ls)) by rw [bal_yes hx (by simpa [upto] using hd), ← HA.out, wr_add, wr_add'])
        generalize wrap64 (ofA acc ls) = y at C HN
        obtain ⟨b, hb2⟩ : ∃ b, wrap64 (a + y) = b := ⟨_, rfl⟩
        have hb3 : IntKind.i64.wrap (a + y) = b := by rw [IntWalk.i64_left]; exact hb2
        have HNb := Lib.hid (HN.out.trans hb2)
        have t1 : decide (d ≤ day) = true := by simpa using hd
        clear hx hb hl hd hm HN
        go_wp2_with fail
        refine (C _ (alloc_ _ _)).out.mono ?_
        rintro e w2 ⟨rfl, hb1⟩
        have HB := Lib.hid (HW.out.trans ((below_alloc hb1).mono HW.out.size))
        clear hb1 C
        go_wp2
        go_roundw
        case rel => exact ⟨k + 1, b, _, by omega, by go_num, rfl, rfl, HNb, HB⟩
        case measure => clear hb2 hb3; simp [intOf]; omega
      · have HN := Lib.hid (show wrap64 (bal (upto day) acc (es.take (k + 1))) = a by rw [bal_no hx (by simpa [upto] using hd), HA.out])
        have t1 : decide (d ≤ day) = false := by simpa using hd
        clear hx hb hl hd hm
        go_wp2
        go_roundw
        case rel => exact ⟨k + 1, a, _, by omega, by go_num, rfl, rfl, HN, Lib.hid (HW.out.alloc HW.out.size _)⟩
        case measure => simp [intOf]; omega
    · have HF := Lib.hid (show a = R by rw [← HA.out, List.take_of_length_le (by rw [HL.out]; omega)]; exact HR.out)
      go_wp2
      go_ret
      exact ⟨ret_int HF.out, HW.out⟩

set_option maxRecDepth 100000 in
set_option maxHeartbeats 2000000 in
theorem rbalance (A : Option Addr) (n c : Nat) (es : List En) (acc day : Int) (w : World) (hS : Ents w A n es) (hn : n ≤ 1000000) (hf : Few es) :
    Calls Try.prog 15 #[bg A n c, .int .i64 acc, .int .i64 day] w (Num w (wrap64 (bal (upto day) acc es))) := by
  have HL := Lib.hid hS.len
  have HS := Lib.hid hS
  have HE := Lib.hid hf
  clear hS hf
  obtain ⟨R, hR⟩ : ∃ R, wrap64 (bal (upto day) acc es) = R := ⟨_, rfl⟩
  rw [hR]
  have HR := Lib.hid hR
  clear hR
  go_enter Try.func15, Try.ntmps15
  go_wp2
  go_loopw [7, 8] (fun sa i w' => ∃ (k : Nat) (a : Int) (w1 : World), k ≤ n ∧ i = .int .i64 (k : Int) ∧ sa = .int .i64 a ∧ w1 = w' ∧ Hid (wrap64 (bal (upto day) acc (es.take k)) = a) ∧ Hid (Below w.heap.size w w1 ∧ Bx w1 w.heap.size 29 #[.slice A n c])) (fun _ i _ => n - (intOf i).toNat)
  case atStart => exact ⟨0, 0, _, Nat.zero_le _, rfl, rfl, rfl, Lib.hid wr0, Lib.hid ⟨alloc_ _ _, Bx.new _ _ _⟩⟩
  case round =>
    obtain ⟨k, a, w1, hk, rfl, rfl, rfl, HA, HW⟩ := hrel
    have x0 := HW.out.2.c 0
    simp at x0
    by_cases hlt : k < n
    · obtain ⟨ad, d, f, ls, L, m, cl, rfl, hb, hx, hc0, hc1, hc2, hl⟩ := (HS.out.below HW.out.1).get hlt
      have hlt2 : (k : Int) < (n : Int) := by omega
      have hm := few_len HE.out hx hl
      have HLN := Lib.hid hl
      by_cases hd : d ≤ day
      · have C := fun w' (hb : Below w1.heap.size w1 w') => Lib.hid (rof d f L m cl ls acc w' (HLN.out.below hb) hm)
        have HN := Lib.hid (show wrap64 (bal (upto day) acc (es.take (k + 1))) = wrap64 (a + wrap64 (ofA acc ls)) by rw [bal_yes hx (by simpa [upto] using hd), ← HA.out, wr_add, wr_add'])
        generalize wrap64 (ofA acc ls) = y at C HN
        obtain ⟨b, hb2⟩ : ∃ b, wrap64 (a + y) = b := ⟨_, rfl⟩
        have hb3 : IntKind.i64.wrap (a + y) = b := by rw [IntWalk.i64_left]; exact hb2
        have HNb := Lib.hid (HN.out.trans hb2)
        have t1 : decide (d ≤ day) = true := by simpa using hd
        clear hx hb hl hd hm HN
        go_wp2_with fail
        refine (C _ (Below.refl _ _)).out.mono ?_
        rintro e w2 ⟨rfl, hb1⟩
        have HB := Lib.hid (show Below w.heap.size w w2 ∧ Bx w2 w.heap.size 29 #[.slice (some ad) n c] from ⟨HW.out.1.trans (hb1.mono HW.out.1.size), HW.out.2.keep hb1⟩)
        clear hb1 C
        go_wp2
        go_roundw
        case rel => exact ⟨k + 1, b, _, by omega, by go_num, rfl, rfl, HNb, HB⟩
        case measure => clear hb2 hb3; simp [intOf]; omega
      · have HN := Lib.hid (show wrap64 (bal (upto day) acc (es.take (k + 1))) = a by rw [bal_no hx (by simpa [upto] using hd), HA.out])
        have t1 : decide (d ≤ day) = false := by simpa using hd
        clear hx hb hl hd hm
        go_wp2
        go_roundw
        case rel => exact ⟨k + 1, a, _, by omega, by go_num, rfl, rfl, HN, HW⟩
        case measure => simp [intOf]; omega
    · have HF := Lib.hid (show a = R by rw [← HA.out, List.take_of_length_le (by rw [HL.out]; omega)]; exact HR.out)
      go_wp2
      go_ret
      exact ⟨ret_int HF.out, HW.out.1⟩

set_option maxRecDepth 100000 in
set_option maxHeartbeats 2000000 in
theorem turn (A : Option Addr) (n c : Nat) (es : List En) (acc : Int) (s : Pr) (w : World) (hS : Ents w A n es) (hn : n ≤ 1000000) (hf : Few es) :
    Calls Try.prog 16 #[bg A n c, .int .i64 acc, Spn.ag s] w (Num w (wrap64 (bal (Sp.inn s) acc es))) := by
  have HL := Lib.hid hS.len
  have HS := Lib.hid hS
  have HE := Lib.hid hf
  clear hS hf
  obtain ⟨R, hR⟩ : ∃ R, wrap64 (bal (Sp.inn s) acc es) = R := ⟨_, rfl⟩
  rw [hR]
  have HR := Lib.hid hR
  clear hR
  obtain ⟨s1, s2⟩ := s
  have CI := fun d w => Lib.hid (Spn.inn_ (s1, s2) d w)
  go_enter Try.func16, Try.ntmps16
  go_wp2
  go_loopw [7, 9, 13] (fun sa s5 i w' => ∃ (k : Nat) (a : Int) (w1 : World), k ≤ n ∧ i = .int .i64 (k : Int) ∧ sa = .int .i64 a ∧ w1 = w' ∧ Hid (wrap64 (bal (Sp.inn (s1, s2)) acc (es.take k)) = a) ∧ Hid (Below w.heap.size w w1 ∧ Bx w1 (w.heap.size + 1) 32 #[.int .i64 s1, .int .i64 s2])) (fun _ _ i _ => n - (intOf i).toNat)
  case atStart => exact ⟨0, 0, _, Nat.zero_le _, rfl, rfl, rfl, Lib.hid wr0, Lib.hid ⟨(alloc_ _ _).alloc (by simp) _, by have := Bx.new (w.alloc (.cells #[.slice A n c] 29)) 32 #[.int .i64 s1, .int .i64 s2]; rwa [World.size_alloc] at this⟩⟩
  case round =>
    obtain ⟨k, a, w1, hk, rfl, rfl, rfl, HA, HW⟩ := hrel
    have x0 := HW.out.2.c 0
    have x1 := HW.out.2.c 1
    have xl := HW.out.2.lt
    simp at x0 x1
    by_cases hlt : k < n
    · obtain ⟨ad, d, f, ls, L, m, cl, rfl, hb, hx, hc0, hc1, hc2, hl⟩ := (HS.out.below HW.out.1).get hlt
      have hlt2 : (k : Int) < (n : Int) := by omega
      have hxl : ad.block < w1.heap.size := hb
      have hm := few_len HE.out hx hl
      have HLN := Lib.hid hl
      have CD := fun w => CI d w
      cases hd : Sp.inn (s1, s2) d
      · rw [hd] at CD
        have HN := Lib.hid (show wrap64 (bal (Sp.inn (s1, s2)) acc (es.take (k + 1))) = a by rw [bal_no hx hd, HA.out])
        clear hx hb hl hd hm CI
        go_wp2_with fail
        refine (CD _).out.mono ?_
        rintro e w2 ⟨rfl, hb1⟩
        have HB := Lib.hid (show Below w.heap.size w w2 ∧ Bx w2 (w.heap.size + 1) 32 #[.int .i64 s1, .int .i64 s2] from ⟨HW.out.1.trans ((below_alloc hb1).mono HW.out.1.size), HW.out.2.keep (below_alloc hb1)⟩)
        clear hb1 CD
        go_wp2
        go_roundw
        case rel => exact ⟨k + 1, a, _, by omega, by go_num, rfl, rfl, HN, HB⟩
        case measure => simp [intOf]; omega
      · rw [hd] at CD
        have C := fun w' (hb : Below w1.heap.size w1 w') => Lib.hid (amount d f L m cl ls acc w' (HLN.out.below hb) hm)
        have HN := Lib.hid (show wrap64 (bal (Sp.inn (s1, s2)) acc (es.take (k + 1))) = wrap64 (a + wrap64 (ofA acc ls)) by rw [bal_yes hx hd, ← HA.out, wr_add, wr_add'])
        generalize wrap64 (ofA acc ls) = y at C HN
        obtain ⟨b, hb2⟩ : ∃ b, wrap64 (a + y) = b := ⟨_, rfl⟩
        have hb3 : IntKind.i64.wrap (a + y) = b := by rw [IntWalk.i64_left]; exact hb2
        have HNb := Lib.hid (HN.out.trans hb2)
        clear hx hb hl hd hm CI HN
        go_wp2_with fail
        refine (CD _).out.mono ?_
        rintro e w2 ⟨rfl, hb1⟩
        obtain ⟨hX, hB⟩ := bx1 hb1
        have y0 := hX.c 0
        have y1 := hX.c 1
        have y2 := hX.c 2
        simp at y0 y1 y2
        have HB := Lib.hid hB
        clear hb1 CD hX hB
        go_wp2_with fail
        refine (C _ HB.out).out.mono ?_
        rintro e w3 ⟨rfl, hb2'⟩
        have HB3 := Lib.hid (show Below w.heap.size w w3 ∧ Bx w3 (w.heap.size + 1) 32 #[.int .i64 s1, .int .i64 s2] from ⟨HW.out.1.trans ((HB.out.trans (hb2'.mono HB.out.size)).mono HW.out.1.size), HW.out.2.keep (HB.out.trans (hb2'.mono HB.out.size))⟩)
        clear hb2' C
        go_wp2
        go_roundw
        case rel => exact ⟨k + 1, b, _, by omega, by go_num, rfl, rfl, HNb, HB3⟩
        case measure => clear hb2 hb3; simp [intOf]; omega
    · have HF := Lib.hid (show a = R by rw [← HA.out, List.take_of_length_le (by rw [HL.out]; omega)]; exact HR.out)
      go_wp2
      go_ret
      exact ⟨ret_int HF.out, HW.out.1⟩

end Pst
end Go.Proofs.Ytheamhjgohacdaa
