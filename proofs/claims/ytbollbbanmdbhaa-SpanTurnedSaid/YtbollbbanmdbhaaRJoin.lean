/-
  The document's Join. Conditions: the row reads as a list of at most a million spans.
-/
import Derived.Test.YtbollbbanmdbhaaInto
import Derived.Test.YtbollbbanmdbhaaJoin
namespace Go.Proofs.Ytbollbbanmdbhaa
open Go.RowKit Sp
namespace Spn
set_option linter.unusedVariables false

/-- What holds at the head of each round. -/
structure RJ (w w' : World) (A : Option Addr) (n c : Nat) (xs : List Sp) (zs : List Sp) : Prop where
  join : Joined xs zs
  len : zs.length ≤ xs.length
  spans : Spans w' w'.heap.size A n zs
  cap : n ≤ c
  below : Below w.heap.size w w'

theorem joined_not {xs zs : List Sp} {x : Sp} (h : Joined xs zs) (hx : has x = false) : Joined (xs ++ [x]) zs := by
  refine ⟨h.apart, fun d => ?_⟩
  rw [h.same d, hit_append, hit_cons]
  constructor
  · exact .inl
  · rintro (hh | hh | hh)
    · exact hh
    · rw [inn_has hh] at hx; cases hx
    · exact absurd hh (hit_nil d)

set_option maxRecDepth 100000 in
set_option maxHeartbeats 2000000 in
theorem rjoin (A : Option Addr) (n c : Nat) (xs : List Sp) (w : World) (hS : Spans w w.heap.size A n xs) (hn : n ≤ 1000000) :
    Calls Try.prog 25 #[.slice A n c] w (Joins w xs) := by
  have HS := Lib.hid hS
  clear hS
  go_enter Try.func25, Try.ntmps25
  go_wp2
  go_loopw [3, 4] (fun so i w' => ∃ (k : Nat) (A1 : Option Addr) (n1 c1 : Nat) (zs : List Sp), k ≤ n ∧ so = .slice A1 n1 c1 ∧ i = .int .i64 (k : Int) ∧ Hid (RJ w w' A1 n1 c1 (xs.take k) zs)) (fun _ i _ => n - (intOf i).toNat)
  case atStart => exact ⟨0, none, 0, 0, [], Nat.zero_le _, rfl, rfl, Lib.hid ⟨⟨trivial, fun d => by simp⟩, by simp, Spans.nil, Nat.le_refl _, Below.refl _ _⟩⟩
  case round =>
    obtain ⟨k, A1, n1, c1, zs, hk, rfl, rfl, HR⟩ := hrel
    by_cases hlt : k < n
    · obtain ⟨ad, x, y, rfl, hb, hx, hc, hc'⟩ := (HS.out.below HR.out.below (Nat.le_refl _)).get hlt
      have htk := take_more hx
      have hlk : (xs.take k).length = k := by rw [List.length_take, HS.out.1]; omega
      have hn1 : n1 ≤ 1000000 := by have h1 := HR.out.spans.1; have h2 := HR.out.len; omega
      have HTK := Lib.hid htk
      have HLK := Lib.hid hlk
      have C := fun w => Lib.hid (rmany (x, y) w)
      have adl : ad.block < wr.heap.size := Nat.lt_of_lt_of_le hb HR.out.below.size
      clear htk hx hlk
      cases hh : Sp.has (x, y)
      · have tm : decide (0 < mn (x, y)) = false := hh
        have HH := Lib.hid hh
        clear hh
        generalize mn (x, y) = m at tm C
        go_wp2_with fail
        refine (C _).out.mono ?_
        rintro e w1 ⟨rfl, hb1⟩
        have HB := Lib.hid hb1
        clear hb1
        go_wp2
        go_roundw
        case rel => exact ⟨k + 1, _, _, _, zs, by omega, rfl, by go_num, Lib.hid (by rw [HTK.out]; exact ⟨joined_not HR.out.join HH.out, by have := HR.out.len; simp at this ⊢; omega, (HR.out.spans.below HB.out (Nat.le_refl _)).wide HB.out.size, HR.out.cap, HR.out.below.trans (HB.out.mono HR.out.below.size)⟩)⟩
        case measure => simp [intOf]; omega
      · have tm : decide (0 < mn (x, y)) = true := hh
        have HH := Lib.hid hh
        clear hh
        generalize mn (x, y) = m at tm C
        go_wp2_with fail
        refine (C _).out.mono ?_
        rintro e w1 ⟨rfl, hb1⟩
        have k0 : w1.cell? (ad.add (k * 2)) = some (.int .i64 x) := (hb1.cell (p := ad.add (k * 2)) (by rw [add_block]; exact adl)).trans hc
        have k1 : w1.cell? ⟨(ad.add (k * 2)).block, (ad.add (k * 2)).off + 1, none⟩ = some (.int .i64 y) := (hb1.cell (p := ⟨(ad.add (k * 2)).block, (ad.add (k * 2)).off + 1, none⟩) (by simp only [add_block]; exact adl)).trans hc'
        have HS1 := Lib.hid ((HR.out.spans.below hb1 (Nat.le_refl _)).wide hb1.size)
        have HB := Lib.hid (HR.out.below.trans (hb1.mono HR.out.below.size))
        clear hb1 hc hc' C
        go_wp2_with fail
        refine (into A1 n1 c1 zs (x, y) w1 HS1.out hn1).mono ?_
        rintro e w2 ⟨A2, n2, c2, rfl, hS2, hc2, hb2⟩
        have HS2 := Lib.hid hS2
        have HB2 := Lib.hid (HB.out.trans (hb2.mono HB.out.size))
        clear hS2 hb2
        go_wp2
        go_roundw
        case rel => exact ⟨k + 1, _, _, _, intoL zs (x, y), by omega, rfl, by go_num, Lib.hid (by rw [HTK.out]; exact ⟨into_joined HR.out.join HH.out, by have h1 := HR.out.len; have h2 := into_len zs (x, y); simp at h1 ⊢; omega, HS2.out, hc2, HB2.out⟩)⟩
        case measure => simp [intOf]; omega
    · obtain rfl : n = k := by omega
      have he : xs.take n = xs := List.take_of_length_le (by rw [HS.out.1]; exact Nat.le_refl _)
      rw [he] at HR
      clear he
      go_wp2
      go_ret
      exact ⟨zs, HR.out.join, HR.out.len, A1, n1, c1, rfl, HR.out.spans, HR.out.cap, HR.out.below⟩

end Spn
end Go.Proofs.Ytbollbbanmdbhaa
