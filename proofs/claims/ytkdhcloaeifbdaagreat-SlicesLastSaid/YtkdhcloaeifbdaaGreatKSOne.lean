/-
  In of package span, boxed spans, rows of spans. Conditions: those of each theorem.
-/
import Derived.Test.YtkdhcloaeifbdaaGreatRows
import Derived.Test.YtkdhcloaeifbdaaGreatMMath
import Derived.WalkKit
import Derived.WalkLawsBesides
import Derived.Lib.Hide
import Derived.Deep.QuietTactic
import Derived.BigQuiet
import Derived.Deep.DeepCutAuto
import Derived.Deep.CutBlock
import Derived.Deep.RegionHeld3
import Derived.WalkSmall
import Derived.IntWalk
import Derived.Below
import Derived.Lib.MinMax
namespace Go.Proofs.YtkdhcloaeifbdaaGreat
open Go.RowKit Sp
namespace Spn
set_option linter.unusedVariables false

/-- A span by value. -/
abbrev ag (x : Sp) : Value := .agg #[.int .i64 x.1, .int .i64 x.2]
/-- It fits its kind. -/
def fit (x : Sp) : Prop := (-9223372036854775808 ≤ x.1 ∧ x.1 ≤ 9223372036854775807) ∧ (-9223372036854775808 ≤ x.2 ∧ x.2 ≤ 9223372036854775807)

theorem rt_t {a b : Int} (h1 : 1 ≤ a) (h2 : a ≤ b) (h3 : b ≤ 292195) : rt (a, b) = true := (rt_iff (a, b)).2 ⟨h1, h2, h3⟩
theorem rt_f {a b : Int} (h : ¬ (1 ≤ a ∧ a ≤ b ∧ b ≤ 292195)) : rt (a, b) = false := (rt_not (a, b)).2 h

theorem bcell {W w1 : World} (hb : Below W.heap.size W w1) : (∀ b o, b < W.heap.size → w1.cell? ⟨b, o, none⟩ = W.cell? ⟨b, o, none⟩) ∧ (∀ b o, b < W.heap.size → w1.frozen? ⟨b, o, none⟩ = W.frozen? ⟨b, o, none⟩) :=
  ⟨fun b o h => hb.cell (p := ⟨b, o, none⟩) h, fun b o h => hb.frozen (p := ⟨b, o, none⟩) h⟩

set_option maxHeartbeats 1000000 in
theorem right (x : Sp) (w : World) : Calls Tryz.prog 67 #[ag x] w fun e w' => e = .returned (.bool (rt x)) ∧ Below w.heap.size w w' := by
  obtain ⟨a, b⟩ := x
  by_cases h1 : 1 ≤ a
  · have t1 : decide (1 ≤ a) = true := by simpa using h1
    by_cases h2 : a ≤ b
    · have t2 : decide (a ≤ b) = true := by simpa using h2
      by_cases h3 : b ≤ 292195
      · have t3 : decide (b ≤ 292195) = true := by simpa using h3
        rw [rt_t h1 h2 h3]
        clear h1 h2 h3
        go_enter Tryz.func67, Tryz.ntmps67
        go_wp2
        go_ret
        exact ⟨rfl, (Below.refl _ _).alloc (Nat.le_refl _) _⟩
      · have t3 : decide (b ≤ 292195) = false := by simpa using h3
        rw [rt_f (by omega)]
        clear h1 h2 h3
        go_enter Tryz.func67, Tryz.ntmps67
        go_wp2
        go_ret
        exact ⟨rfl, (Below.refl _ _).alloc (Nat.le_refl _) _⟩
    · have t2 : decide (a ≤ b) = false := by simpa using h2
      rw [rt_f (by omega)]
      clear h1 h2
      go_enter Tryz.func67, Tryz.ntmps67
      go_wp2
      go_ret
      exact ⟨rfl, (Below.refl _ _).alloc (Nat.le_refl _) _⟩
  · have t1 : decide (1 ≤ a) = false := by simpa using h1
    rw [rt_f (by omega)]
    clear h1
    go_enter Tryz.func67, Tryz.ntmps67
    go_wp2
    go_ret
    exact ⟨rfl, (Below.refl _ _).alloc (Nat.le_refl _) _⟩

set_option maxHeartbeats 1000000 in
theorem rright (x : Sp) (w : World) : Calls Tryz.prog 38 #[ag x] w fun e w' => e = .returned (.bool (rt x)) ∧ Below w.heap.size w w' := by
  obtain ⟨a, b⟩ := x
  by_cases h1 : 1 ≤ a
  · have t1 : decide (1 ≤ a) = true := by simpa using h1
    by_cases h2 : a ≤ b
    · have t2 : decide (a ≤ b) = true := by simpa using h2
      by_cases h3 : b ≤ 292195
      · have t3 : decide (b ≤ 292195) = true := by simpa using h3
        rw [rt_t h1 h2 h3]
        clear h1 h2 h3
        go_enter Tryz.func38, Tryz.ntmps38
        go_wp2
        go_ret
        exact ⟨rfl, (Below.refl _ _).alloc (Nat.le_refl _) _⟩
      · have t3 : decide (b ≤ 292195) = false := by simpa using h3
        rw [rt_f (by omega)]
        clear h1 h2 h3
        go_enter Tryz.func38, Tryz.ntmps38
        go_wp2
        go_ret
        exact ⟨rfl, (Below.refl _ _).alloc (Nat.le_refl _) _⟩
    · have t2 : decide (a ≤ b) = false := by simpa using h2
      rw [rt_f (by omega)]
      clear h1 h2
      go_enter Tryz.func38, Tryz.ntmps38
      go_wp2
      go_ret
      exact ⟨rfl, (Below.refl _ _).alloc (Nat.le_refl _) _⟩
  · have t1 : decide (1 ≤ a) = false := by simpa using h1
    rw [rt_f (by omega)]
    clear h1
    go_enter Tryz.func38, Tryz.ntmps38
    go_wp2
    go_ret
    exact ⟨rfl, (Below.refl _ _).alloc (Nat.le_refl _) _⟩

set_option maxHeartbeats 1000000 in
theorem many (x : Sp) (w : World) : Calls Tryz.prog 85 #[ag x] w fun e w' => e = .returned (.int .i64 (mn x)) ∧ Below w.heap.size w w' := by
  have C := fun w => Lib.hid (right x w)
  obtain ⟨a, b⟩ := x
  by_cases hr : rt (a, b) = true
  · have hm : mn (a, b) = b - a := by rw [mn, if_pos hr]
    rw [hm]
    rw [hr] at C
    rw [rt_iff] at hr
    obtain ⟨h1, h2, h3⟩ := hr
    simp only at h1 h2 h3
    clear hm
    go_enter Tryz.func85, Tryz.ntmps85
    go_wp2_with fail
    refine (C _).out.mono ?_
    rintro e w1 ⟨rfl, hb⟩
    obtain ⟨hc, hf⟩ := bcell hb
    have HB := Lib.hid hb
    clear hb
    go_wp2
    go_ret
    exact ⟨rfl, ((Below.refl _ _).alloc (Nat.le_refl _) _).trans (HB.out.mono (by simp))⟩
  · have hm : mn (a, b) = 0 := by rw [mn, if_neg hr]
    rw [hm]
    have hr' : rt (a, b) = false := by simpa using hr
    rw [hr'] at C
    clear hm hr hr'
    go_enter Tryz.func85, Tryz.ntmps85
    go_wp2_with fail
    refine (C _).out.mono ?_
    rintro e w1 ⟨rfl, hb⟩
    have HB := Lib.hid hb
    clear hb
    go_wp2
    go_ret
    exact ⟨rfl, ((Below.refl _ _).alloc (Nat.le_refl _) _).trans (HB.out.mono (by simp))⟩

set_option maxHeartbeats 1000000 in
theorem inn_ (x : Sp) (d : Int) (w : World) : Calls Tryz.prog 36 #[ag x, .int .i64 d] w fun e w' => e = .returned (.bool (inn x d)) ∧ Below w.heap.size w w' := by
  have C := fun w => Lib.hid (right x w)
  obtain ⟨a, b⟩ := x
  by_cases hr : rt (a, b) = true
  · by_cases h1 : a ≤ d
    · by_cases h2 : d < b
      · have hi : inn (a, b) d = true := by simp [inn, hr, h1, h2]
        have t1 : decide (a ≤ d) = true := by simpa using h1
        have t2 : decide (d < b) = true := by simpa using h2
        rw [hi]
        rw [hr] at C
        clear hi hr h1 h2
        go_enter Tryz.func36, Tryz.ntmps36
        go_wp2_with fail
        refine (C _).out.mono ?_
        rintro e w1 ⟨rfl, hb⟩
        obtain ⟨hc, hf⟩ := bcell hb
        have HB := Lib.hid hb
        clear hb
        go_wp2
        go_ret
        exact ⟨rfl, ((Below.refl _ _).alloc (Nat.le_refl _) _).trans (HB.out.mono (by simp))⟩
      · have hi : inn (a, b) d = false := by simp [inn, hr, h1]; omega
        have t1 : decide (a ≤ d) = true := by simpa using h1
        have t2 : decide (d < b) = false := by simpa using h2
        rw [hi]
        rw [hr] at C
        clear hi hr h1 h2
        go_enter Tryz.func36, Tryz.ntmps36
        go_wp2_with fail
        refine (C _).out.mono ?_
        rintro e w1 ⟨rfl, hb⟩
        obtain ⟨hc, hf⟩ := bcell hb
        have HB := Lib.hid hb
        clear hb
        go_wp2
        go_ret
        exact ⟨rfl, ((Below.refl _ _).alloc (Nat.le_refl _) _).trans (HB.out.mono (by simp))⟩
    · have hi : inn (a, b) d = false := by simp [inn, hr, h1]
      have t1 : decide (a ≤ d) = false := by simpa using h1
      rw [hi]
      rw [hr] at C
      clear hi hr h1
      go_enter Tryz.func36, Tryz.ntmps36
      go_wp2_with fail
      refine (C _).out.mono ?_
      rintro e w1 ⟨rfl, hb⟩
      obtain ⟨hc, hf⟩ := bcell hb
      have HB := Lib.hid hb
      clear hb
      go_wp2
      go_ret
      exact ⟨rfl, ((Below.refl _ _).alloc (Nat.le_refl _) _).trans (HB.out.mono (by simp))⟩
  · have hr' : rt (a, b) = false := by simpa using hr
    have hi : inn (a, b) d = false := by simp [inn, hr']
    rw [hi]
    rw [hr'] at C
    clear hi hr hr'
    go_enter Tryz.func36, Tryz.ntmps36
    go_wp2_with fail
    refine (C _).out.mono ?_
    rintro e w1 ⟨rfl, hb⟩
    obtain ⟨hc, hf⟩ := bcell hb
    have HB := Lib.hid hb
    clear hb
    go_wp2
    go_ret
    exact ⟨rfl, ((Below.refl _ _).alloc (Nat.le_refl _) _).trans (HB.out.mono (by simp))⟩

set_option maxHeartbeats 1000000 in
theorem rinn (x : Sp) (d : Int) (w : World) : Calls Tryz.prog 19 #[ag x, .int .i64 d] w fun e w' => e = .returned (.bool (inn x d)) ∧ Below w.heap.size w w' := by
  have C := fun w => Lib.hid (rright x w)
  obtain ⟨a, b⟩ := x
  by_cases hr : rt (a, b) = true
  · by_cases h1 : a ≤ d
    · by_cases h2 : d < b
      · have hi : inn (a, b) d = true := by simp [inn, hr, h1, h2]
        have t1 : decide (a ≤ d) = true := by simpa using h1
        have t2 : decide (d < b) = true := by simpa using h2
        rw [hi]
        rw [hr] at C
        clear hi hr h1 h2
        go_enter Tryz.func19, Tryz.ntmps19
        go_wp2_with fail
        refine (C _).out.mono ?_
        rintro e w1 ⟨rfl, hb⟩
        obtain ⟨hc, hf⟩ := bcell hb
        have HB := Lib.hid hb
        clear hb
        go_wp2
        go_ret
        exact ⟨rfl, ((Below.refl _ _).alloc (Nat.le_refl _) _).trans (HB.out.mono (by simp))⟩
      · have hi : inn (a, b) d = false := by simp [inn, hr, h1]; omega
        have t1 : decide (a ≤ d) = true := by simpa using h1
        have t2 : decide (d < b) = false := by simpa using h2
        rw [hi]
        rw [hr] at C
        clear hi hr h1 h2
        go_enter Tryz.func19, Tryz.ntmps19
        go_wp2_with fail
        refine (C _).out.mono ?_
        rintro e w1 ⟨rfl, hb⟩
        obtain ⟨hc, hf⟩ := bcell hb
        have HB := Lib.hid hb
        clear hb
        go_wp2
        go_ret
        exact ⟨rfl, ((Below.refl _ _).alloc (Nat.le_refl _) _).trans (HB.out.mono (by simp))⟩
    · have hi : inn (a, b) d = false := by simp [inn, hr, h1]
      have t1 : decide (a ≤ d) = false := by simpa using h1
      rw [hi]
      rw [hr] at C
      clear hi hr h1
      go_enter Tryz.func19, Tryz.ntmps19
      go_wp2_with fail
      refine (C _).out.mono ?_
      rintro e w1 ⟨rfl, hb⟩
      obtain ⟨hc, hf⟩ := bcell hb
      have HB := Lib.hid hb
      clear hb
      go_wp2
      go_ret
      exact ⟨rfl, ((Below.refl _ _).alloc (Nat.le_refl _) _).trans (HB.out.mono (by simp))⟩
  · have hr' : rt (a, b) = false := by simpa using hr
    have hi : inn (a, b) d = false := by simp [inn, hr']
    rw [hi]
    rw [hr'] at C
    clear hi hr hr'
    go_enter Tryz.func19, Tryz.ntmps19
    go_wp2_with fail
    refine (C _).out.mono ?_
    rintro e w1 ⟨rfl, hb⟩
    obtain ⟨hc, hf⟩ := bcell hb
    have HB := Lib.hid hb
    clear hb
    go_wp2
    go_ret
    exact ⟨rfl, ((Below.refl _ _).alloc (Nat.le_refl _) _).trans (HB.out.mono (by simp))⟩

end Spn
end Go.Proofs.YtkdhcloaeifbdaaGreat

namespace Go.Proofs.YtkdhcloaeifbdaaGreat
open Go.RowKit Sp
namespace Spn
set_option linter.unusedVariables false

/-- Block b is a span's two numbers. -/
def Bx (w : World) (b : Nat) (x y : Int) : Prop := w.heap[b]? = some (.cells #[.int .i64 x, .int .i64 y] 23 (0, 0))
section
variable {w w1 : World} {b B : Nat} {x y p q r s : Int}
theorem Bx.lt (h : Bx w b x y) : b < w.heap.size := by
  rcases Nat.lt_or_ge b w.heap.size with hlt | hge
  · exact hlt
  · unfold Bx at h; rw [Array.getElem?_eq_none hge] at h; cases h
theorem Bx.c0 (h : Bx w b x y) : w.cell? ⟨b, 0, none⟩ = some (.int .i64 x) := by rw [cell_of_row w b 0 _ _ _ h]; rfl
theorem Bx.c1 (h : Bx w b x y) : w.cell? ⟨b, 1, none⟩ = some (.int .i64 y) := by rw [cell_of_row w b 1 _ _ _ h]; rfl
theorem Bx.f (h : Bx w b x y) (o : Nat) : w.frozen? ⟨b, o, none⟩ = false := by unfold Bx at h; simp [World.frozen?, h]
theorem Bx.below (h : Bx w b x y) (hb : Below B w w1) (hB : b < B) : Bx w1 b x y := (hb.block b hB).trans h
theorem Bx.keep (h : Bx w b x y) (hb : Below w.heap.size w w1) : Bx w1 b x y := h.below hb h.lt
theorem Bx.alloc (h : Bx w b x y) (o : Obj) : Bx (w.alloc o) b x y := (Below.heap_alloc w o b h.lt).trans h
theorem Bx.new (w : World) (x y : Int) : Bx (w.alloc (.cells #[.int .i64 x, .int .i64 y] 23)) w.heap.size x y := heap_alloc_new w _
theorem Bx.set0 (h : Bx w b x y) (z : Int) : Bx (w.setCell ⟨b, 0, none⟩ (.int .i64 z)) b z y := by
  unfold Bx at h ⊢; rw [heap_setCell_same w b 0 _ _ _ h]; rfl
theorem Bx.set1 (h : Bx w b x y) (z : Int) : Bx (w.setCell ⟨b, 1, none⟩ (.int .i64 z)) b x z := by
  unfold Bx at h ⊢; rw [heap_setCell_same w b 1 _ _ _ h]; rfl
theorem Bx.far (h : Bx w b x y) {a : Addr} (hp : b ≠ a.block) (u : Value) : Bx (w.setCell a u) b x y := (Below.heap_setCell w a u b hp).trans h
theorem bx1 (hb : Below (w.alloc (.cells #[.int .i64 x, .int .i64 y] 23)).heap.size (w.alloc (.cells #[.int .i64 x, .int .i64 y] 23)) w1) :
    Bx w1 w.heap.size x y ∧ Below w.heap.size w w1 :=
  ⟨(Bx.new w x y).keep hb, ((Below.refl _ _).alloc (Nat.le_refl _) _).trans (hb.mono (by simp))⟩
theorem bx2 (hb : Below ((w.alloc (.cells #[.int .i64 x, .int .i64 y] 23)).alloc (.cells #[.int .i64 p, .int .i64 q] 23)).heap.size ((w.alloc (.cells #[.int .i64 x, .int .i64 y] 23)).alloc (.cells #[.int .i64 p, .int .i64 q] 23)) w1) :
    Bx w1 w.heap.size x y ∧ Bx w1 (w.heap.size + 1) p q ∧ Below w.heap.size w w1 := by
  obtain ⟨h1, h2⟩ := bx1 hb
  rw [World.size_alloc] at h1 h2
  exact ⟨(Bx.new w x y).below h2 (by simp), h1, ((Below.refl _ _).alloc (Nat.le_refl _) _).trans (h2.mono (by simp))⟩
theorem bx3 (hb : Below (((w.alloc (.cells #[.int .i64 x, .int .i64 y] 23)).alloc (.cells #[.int .i64 p, .int .i64 q] 23)).alloc (.cells #[.int .i64 r, .int .i64 s] 23)).heap.size (((w.alloc (.cells #[.int .i64 x, .int .i64 y] 23)).alloc (.cells #[.int .i64 p, .int .i64 q] 23)).alloc (.cells #[.int .i64 r, .int .i64 s] 23)) w1) :
    Bx w1 w.heap.size x y ∧ Bx w1 (w.heap.size + 1) p q ∧ Bx w1 (w.heap.size + 1 + 1) r s ∧ Below w.heap.size w w1 := by
  obtain ⟨h1, h2, h3⟩ := bx2 hb
  rw [World.size_alloc] at h1 h2 h3
  exact ⟨(Bx.new w x y).below h3 (by simp), h1, h2, ((Below.refl _ _).alloc (Nat.le_refl _) _).trans (h3.mono (by simp))⟩
end

end Spn
end Go.Proofs.YtkdhcloaeifbdaaGreat

namespace Go.Proofs.YtkdhcloaeifbdaaGreat
open Go.RowKit Sp
namespace Spn
set_option linter.unusedVariables false

theorem add_block (a : Addr) (n : Nat) : (a.add n).block = a.block := by unfold Addr.add; split <;> rfl
theorem add_add (a : Addr) (i j : Nat) : (a.add i).add j = a.add (i + j) := by
  unfold Addr.add
  by_cases hi : i = 0 <;> by_cases hj : j = 0 <;> simp [hi, hj, Nat.add_assoc]

theorem add_one (a : Addr) (i : Nat) : a.add (i + 1) = ⟨(a.add i).block, (a.add i).off + 1, none⟩ := by
  unfold Addr.add
  by_cases hi : i = 0 <;> simp [hi, Nat.add_assoc]

/-- The slice with this address and length reads as this list of spans, in blocks below B. -/
def Spans (w : World) (B : Nat) (A : Option Addr) (n : Nat) (xs : List Sp) : Prop :=
  xs.length = n ∧ (0 < n → ∃ ad : Addr, A = some ad ∧ ad.block < B ∧ ∀ (j : Nat) (x : Sp), xs[j]? = some x → w.cell? (ad.add (j * 2)) = some (.int .i64 x.1) ∧ w.cell? (ad.add (j * 2 + 1)) = some (.int .i64 x.2))

section
variable {w w' : World} {B n : Nat} {A : Option Addr} {xs : List Sp}
theorem Spans.nil {A : Option Addr} : Spans w B A 0 [] := ⟨rfl, fun h => absurd h (by omega)⟩
theorem Spans.get {k : Nat} (h : Spans w B A n xs) (hk : k < n) : ∃ (ad : Addr) (x y : Int), A = some ad ∧ ad.block < B ∧ xs[k]? = some (x, y) ∧ w.cell? (ad.add (k * 2)) = some (.int .i64 x) ∧ w.cell? ⟨(ad.add (k * 2)).block, (ad.add (k * 2)).off + 1, none⟩ = some (.int .i64 y) := by
  obtain ⟨ad, e, hb, hc⟩ := h.2 (by omega)
  have hl : k < xs.length := by have := h.1; omega
  have := hc k _ (List.getElem?_eq_getElem hl)
  exact ⟨ad, xs[k].1, xs[k].2, e, hb, List.getElem?_eq_getElem hl, this.1, by rw [← add_one]; exact this.2⟩
theorem Spans.keep (h : Spans w B A n xs) (hk : ∀ p : Addr, p.block < B → w'.cell? p = w.cell? p) : Spans w' B A n xs :=
  ⟨h.1, fun hn => by
    obtain ⟨ad, e, hb, hc⟩ := h.2 hn
    exact ⟨ad, e, hb, fun j x hx => ⟨(hk _ (by rw [add_block]; exact hb)).trans (hc j x hx).1, (hk _ (by rw [add_block]; exact hb)).trans (hc j x hx).2⟩⟩⟩
theorem Spans.below {C : Nat} (h : Spans w B A n xs) (hb : Below C w w') (hC : B ≤ C) : Spans w' B A n xs := h.keep fun _ hp => hb.cell (Nat.lt_of_lt_of_le hp hC)
theorem Spans.wide {C : Nat} (h : Spans w B A n xs) (hC : B ≤ C) : Spans w C A n xs :=
  ⟨h.1, fun hn => by
    obtain ⟨ad, e, hb, hc⟩ := h.2 hn
    exact ⟨ad, e, Nat.lt_of_lt_of_le hb hC, hc⟩⟩
end

end Spn
end Go.Proofs.YtkdhcloaeifbdaaGreat
