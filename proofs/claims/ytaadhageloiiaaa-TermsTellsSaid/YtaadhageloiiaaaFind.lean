/-
  Find of package terms, and the document's. Conditions: the row reads as a list.
-/
import Derived.Test.YtaadhageloiiaaaOne
import Derived.Test.YtaadhageloiiaaaCovers
namespace Go.Proofs.Ytaadhageloiiaaa
open Go.RowKit Ba Cv Sp Te
namespace Tm
set_option linter.unusedVariables false

/-- No cover. -/
abbrev zco : Co := ⟨0, 0, 0, 0, 0⟩
/-- What Find gives. -/
abbrev Found (w : World) (o : Option Co) (e : Ending) (w' : World) : Prop := e = .returned (.tuple #[cg (o.getD zco), .bool o.isSome]) ∧ Below w.heap.size w w'

/-- Five cells stored, one behind the other. -/
def five (w : World) (b : Nat) (c : Co) : World := ((((w.setCell ⟨b, 0, none⟩ (.int .i64 c.p)).setCell ⟨b, 1, none⟩ (.int .i64 c.l)).setCell ⟨b, 2, none⟩ (.int .i64 c.g)).setCell ⟨b, 3, none⟩ (.int .i64 c.d)).setCell ⟨b, 4, none⟩ (.int .i64 c.s)
theorem five_arr (x0 x1 x2 x3 x4 a0 a1 a2 a3 a4 : Value) : ((((((#[x0, x1, x2, x3, x4] : Array Value).setIfInBounds 0 a0).setIfInBounds 1 a1).setIfInBounds 2 a2).setIfInBounds 3 a3).setIfInBounds 4 a4) = #[a0, a1, a2, a3, a4] := by simp
theorem five_bx {w : World} {b : Nat} {t : TypeId} {x0 x1 x2 x3 x4 : Value} (h : Bx w b t #[x0, x1, x2, x3, x4]) (c : Co) : Bx (five w b c) b t (cc c) := by
  have := ((((h.set 0 (.int .i64 c.p)).set 1 (.int .i64 c.l)).set 2 (.int .i64 c.g)).set 3 (.int .i64 c.d)).set 4 (.int .i64 c.s)
  rw [five_arr] at this
  exact this
theorem five_below {B : Nat} {w0 w : World} (h : Below B w0 w) {b : Nat} (hb : B ≤ b) (c : Co) : Below B w0 (five w b c) := by
  unfold five
  exact ((((h.setCell hb _).setCell hb _).setCell hb _).setCell hb _).setCell hb _

set_option maxRecDepth 100000 in
set_option maxHeartbeats 4000000 in
theorem find_ (A : Option Addr) (n c : Nat) (cs : List Co) (p : Int) (w : World) (h : Cvs w (· < w.heap.size) A n cs) (hm : n ≤ maxLen) :
    Calls Try.prog 9 #[.slice A n c, .int .i64 p] w (Found w (fnd p cs)) := by
  unfold maxLen at hm
  have HS := Lib.hid h
  have HL := Lib.hid h.1
  obtain ⟨R, hR⟩ : ∃ R, fnd p cs = R := ⟨_, rfl⟩
  rw [hR]
  have HR := Lib.hid hR
  have HZ0 := Lib.hid (Bx.new w 31 (cc zco))
  clear h hR
  go_enter Try.func9, Try.ntmps9
  go_wp2
  go_loopw [10] (fun i w' => ∃ (k : Nat) (W : World), k ≤ n ∧ i = .int .i64 (k : Int) ∧ W = w' ∧ Hid (Below w.heap.size w W) ∧ Hid (Bx W w.heap.size 31 (cc zco)) ∧ Hid (fnd p (cs.drop k) = R)) (fun i _ => n - (intOf i).toNat)
  case atStart => exact ⟨0, _, Nat.zero_le _, rfl, rfl, Lib.hid (alloc_ _ _), HZ0, HR⟩
  case round =>
    obtain ⟨k, W, hk, rfl, rfl, HB, HZ, HD⟩ := hrel
    clear HZ0
    by_cases hlt : k < n
    · obtain ⟨ad, x, rfl, hb, hx, hF⟩ := (HS.out.below ((Below.refl _ _).trans HB.out)).get hlt
      obtain ⟨c0, c1, c2, c3, c4⟩ := hF
      have HX := Lib.hid (drop_get hx)
      have hlt2 : (k : Int) < (n : Int) := by omega
      have HZ3 := Lib.hid (HZ.out.alloc (.cells (cc x) 31))
      have HB3 := Lib.hid (HB.out.alloc (by have := HB.out.size; omega) (.cells (cc x) 31))
      by_cases h1 : x.p = p
      · have t1 : (x.p == p) = true := by simpa using h1
        have HO := Lib.hid (show R = some x by rw [← HD.out, HX.out]; exact fnd_yes h1)
        have hh := HZ3.out
        have v0 := hh.c 0
        have g0 := hh.f 0
        have v1 := hh.c 1
        have g1 := hh.f 1
        have v2 := hh.c 2
        have g2 := hh.f 2
        have v3 := hh.c 3
        have g3 := hh.f 3
        have v4 := hh.c 4
        have g4 := hh.f 4
        simp at v0 v1 v2 v3 v4
        clear h1 hb hx hh
        go_wp2
        change bodyPost _ _ _ _ _ (five (W.alloc (.cells (cc x) 31)) w.heap.size x)
        refine bodyPost_ret (v := .tuple #[cg x, .bool true]) ?_ rfl ⟨by rw [HO.out]; rfl, five_below HB3.out (Nat.le_refl _) x⟩
        have hx : Bx (five (W.alloc (.cells (cc x) 31)) w.heap.size x) w.heap.size 31 (cc x) := five_bx HZ3.out x
        have x0 := hx.c 0
        have x1 := hx.c 1
        have x2 := hx.c 2
        have x3 := hx.c 3
        have x4 := hx.c 4
        simp at x0 x1 x2 x3 x4
        simp [results, Try.results9, go_sem, x0, x1, x2, x3, x4]
      · have t1 : (x.p == p) = false := by simpa using h1
        have HN := Lib.hid (show fnd p (cs.drop (k + 1)) = R by rw [← HD.out, HX.out]; exact (fnd_next h1).symm)
        clear h1 hb hx
        go_wp2
        go_roundw
        case rel => exact ⟨k + 1, _, by omega, by go_num, rfl, HB3, HZ3, HN⟩
        case measure => simp [intOf]; omega
    · have HO := Lib.hid (show R = none by rw [← HD.out, List.drop_of_length_le (by rw [HL.out]; omega)]; rfl)
      obtain rfl : k = n := by omega
      have hh := HZ.out
      have v0 := hh.c 0
      have g0 := hh.f 0
      have v1 := hh.c 1
      have g1 := hh.f 1
      have v2 := hh.c 2
      have g2 := hh.f 2
      have v3 := hh.c 3
      have g3 := hh.f 3
      have v4 := hh.c 4
      have g4 := hh.f 4
      simp at v0 v1 v2 v3 v4
      clear hh
      go_wp2
      change bodyPost _ _ _ _ _ (five (W) w.heap.size zco)
      refine bodyPost_ret (v := .tuple #[cg zco, .bool false]) ?_ rfl ⟨by rw [HO.out]; rfl, five_below HB.out (Nat.le_refl _) zco⟩
      have hx : Bx (five (W) w.heap.size zco) w.heap.size 31 (cc zco) := five_bx HZ.out zco
      have x0 := hx.c 0
      have x1 := hx.c 1
      have x2 := hx.c 2
      have x3 := hx.c 3
      have x4 := hx.c 4
      simp at x0 x1 x2 x3 x4
      simp [results, Try.results9, go_sem, x0, x1, x2, x3, x4]

set_option maxRecDepth 100000 in
set_option maxHeartbeats 4000000 in
theorem rfind_ (A : Option Addr) (n c : Nat) (cs : List Co) (p : Int) (w : World) (h : Cvs w (· < w.heap.size) A n cs) (hm : n ≤ maxLen) :
    Calls Try.prog 10 #[.slice A n c, .int .i64 p] w (Found w (fnd p cs)) := by
  unfold maxLen at hm
  have HS := Lib.hid h
  have HL := Lib.hid h.1
  obtain ⟨R, hR⟩ : ∃ R, fnd p cs = R := ⟨_, rfl⟩
  rw [hR]
  have HR := Lib.hid hR
  have HZ0 := Lib.hid (Bx.new w 31 (cc zco))
  clear h hR
  go_enter Try.func10, Try.ntmps10
  go_wp2
  go_loopw [6] (fun i w' => ∃ (k : Nat) (W : World), k ≤ n ∧ i = .int .i64 (k : Int) ∧ W = w' ∧ Hid (Below w.heap.size w W) ∧ Hid (Bx W w.heap.size 31 (cc zco)) ∧ Hid (fnd p (cs.drop k) = R)) (fun i _ => n - (intOf i).toNat)
  case atStart => exact ⟨0, _, Nat.zero_le _, rfl, rfl, Lib.hid (alloc_ _ _), HZ0, HR⟩
  case round =>
    obtain ⟨k, W, hk, rfl, rfl, HB, HZ, HD⟩ := hrel
    clear HZ0
    by_cases hlt : k < n
    · obtain ⟨ad, x, rfl, hb, hx, hF⟩ := (HS.out.below ((Below.refl _ _).trans HB.out)).get hlt
      obtain ⟨c0, c1, c2, c3, c4⟩ := hF
      have HX := Lib.hid (drop_get hx)
      have hlt2 : (k : Int) < (n : Int) := by omega
      by_cases h1 : x.p = p
      · have t1 : (x.p == p) = true := by simpa using h1
        have HO := Lib.hid (show R = some x by rw [← HD.out, HX.out]; exact fnd_yes h1)
        have hh := HZ.out
        have v0 := hh.c 0
        have g0 := hh.f 0
        have v1 := hh.c 1
        have g1 := hh.f 1
        have v2 := hh.c 2
        have g2 := hh.f 2
        have v3 := hh.c 3
        have g3 := hh.f 3
        have v4 := hh.c 4
        have g4 := hh.f 4
        simp at v0 v1 v2 v3 v4
        clear h1 hb hx hh
        go_wp2
        change bodyPost _ _ _ _ _ (five (W) w.heap.size x)
        refine bodyPost_ret (v := .tuple #[cg x, .bool true]) ?_ rfl ⟨by rw [HO.out]; rfl, five_below HB.out (Nat.le_refl _) x⟩
        have hx : Bx (five (W) w.heap.size x) w.heap.size 31 (cc x) := five_bx HZ.out x
        have x0 := hx.c 0
        have x1 := hx.c 1
        have x2 := hx.c 2
        have x3 := hx.c 3
        have x4 := hx.c 4
        simp at x0 x1 x2 x3 x4
        simp [results, Try.results10, go_sem, x0, x1, x2, x3, x4]
      · have t1 : (x.p == p) = false := by simpa using h1
        have HN := Lib.hid (show fnd p (cs.drop (k + 1)) = R by rw [← HD.out, HX.out]; exact (fnd_next h1).symm)
        clear h1 hb hx
        go_wp2
        go_roundw
        case rel => exact ⟨k + 1, _, by omega, by go_num, rfl, HB, HZ, HN⟩
        case measure => simp [intOf]; omega
    · have HO := Lib.hid (show R = none by rw [← HD.out, List.drop_of_length_le (by rw [HL.out]; omega)]; rfl)
      obtain rfl : k = n := by omega
      have hh := HZ.out
      have v0 := hh.c 0
      have g0 := hh.f 0
      have v1 := hh.c 1
      have g1 := hh.f 1
      have v2 := hh.c 2
      have g2 := hh.f 2
      have v3 := hh.c 3
      have g3 := hh.f 3
      have v4 := hh.c 4
      have g4 := hh.f 4
      simp at v0 v1 v2 v3 v4
      clear hh
      go_wp2
      change bodyPost _ _ _ _ _ (five (W) w.heap.size zco)
      refine bodyPost_ret (v := .tuple #[cg zco, .bool false]) ?_ rfl ⟨by rw [HO.out]; rfl, five_below HB.out (Nat.le_refl _) zco⟩
      have hx : Bx (five (W) w.heap.size zco) w.heap.size 31 (cc zco) := five_bx HZ.out zco
      have x0 := hx.c 0
      have x1 := hx.c 1
      have x2 := hx.c 2
      have x3 := hx.c 3
      have x4 := hx.c 4
      simp at x0 x1 x2 x3 x4
      simp [results, Try.results10, go_sem, x0, x1, x2, x3, x4]

end Tm
end Go.Proofs.Ytaadhageloiiaaa
