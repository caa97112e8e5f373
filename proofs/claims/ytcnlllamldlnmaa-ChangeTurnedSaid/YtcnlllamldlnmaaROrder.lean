/-
  The document's order and Order. Conditions: those of each theorem.
-/
import Derived.Test.YtcnlllamldlnmaaMerge
import Derived.Test.YtcnlllamldlnmaaInv
namespace Go.Proofs.Ytcnlllamldlnmaa
open Go.RowKit Ba Cv Sp Te Ag
namespace Tm
set_option linter.unusedVariables false

/-- The places from one on. -/
def plcs (f n : Nat) : List Int := (List.range n).map fun (i : Nat) => ((f + i : Nat) : Int)
theorem plcs_zero (f : Nat) : plcs f 0 = [] := rfl
theorem plcs_one (f : Nat) : plcs f 1 = [(f : Int)] := by simp [plcs, List.range_succ]
theorem plcs_all (n : Nat) : plcs 0 n = plc n := by simp [plcs, plc]
theorem plcs_mem {f n : Nat} {x : Int} : x ∈ plcs f n ↔ (f : Int) ≤ x ∧ x < (f : Int) + n := by
  simp only [plcs, List.mem_map, List.mem_range]
  constructor
  · rintro ⟨a, h, rfl⟩; omega
  · intro h; exact ⟨(x - f).toNat, by omega, by omega⟩
theorem plcs_split (f a b : Nat) : plcs f (a + b) = plcs f a ++ plcs (f + a) b := by
  simp only [plcs, List.range_add, List.map_append, List.map_map]
  congr 1
  exact List.map_congr_left fun i _ => by simp [Nat.add_assoc]
theorem merge_two (h : Hr) (hm : h.m ≤ 2001) (A1 A2 : Option Addr) (a a2 n f g t c1 c2 : Nat) (o1 o2 : List Int) (w : World) (M : HM w (· < w.heap.size) h) (i1 : Ins w (· < w.heap.size) A1 a o1) (i2 : Ins w (· < w.heap.size) A2 a2 o2)
    (g1 : St.Good (key h.v.hs) o1 (plcs f a)) (g2 : St.Good (key h.v.hs) o2 (plcs g a2)) (e1 : f + a = g) (e2 : g + a2 = t) (e3 : a + a2 = n) (hl : t ≤ h.m) :
    Calls Try.prog 56 #[hg h, .slice A1 a c1, .slice A2 a2 c2] w (OrdG (key h.v.hs) (plcs f n) n w) := by
  have m1 := fun x (hx : x ∈ o1) => plcs_mem.1 (g1.mem hx)
  have m2 := fun x (hx : x ∈ o2) => plcs_mem.1 (g2.mem hx)
  refine (merge_ h A1 A2 a a2 c1 c2 o1 o2 w M hm i1 i2 g1.2 g2.2 (fun x hx => by have := m1 x hx; omega) (fun x hx => by have := m2 x hx; omega) (fun x hx y hy => by have := m1 x hx; have := m2 y hy; omega) (by omega) (by omega)).mono ?_
  rintro e w' ⟨v, rfl, ⟨A, c, o, rfl, hi, hgo⟩, hb⟩
  subst e3 e1
  exact ⟨_, rfl, ⟨A, c, o, rfl, hi, hgo.perm (by rw [plcs_split]; exact g1.1.append g2.1)⟩, hb⟩

structure RG (W : World) (h : Hr) (f g t a a2 n : Nat) (L : Nat → Bool) (w' : World) (v22 v23 v24 v25 v26 v27 v28 v29 v30 v31 v6 : Value) : Prop where
  b : Below W.heap.size W w'
  f0 : L 0 = true → v22 = hg h
  f1 : L 1 = true → v23 = hg h
  f2 : L 2 = true → v24 = .int .i64 (f : Int)
  f3 : L 3 = true → v25 = .int .i64 (g : Int)
  f4 : L 4 = true → OrdR (key h.v.hs) (plcs f a) a w' v26
  f5 : L 5 = true → v27 = hg h
  f6 : L 6 = true → v28 = .int .i64 (g : Int)
  f7 : L 7 = true → v29 = .int .i64 (t : Int)
  f8 : L 8 = true → OrdR (key h.v.hs) (plcs g a2) a2 w' v30
  f9 : L 9 = true → OrdR (key h.v.hs) (plcs f n) n w' v31
  f10 : L 10 = true → OrdR (key h.v.hs) (plcs f n) n w' v6
theorem RG.up {W : World} {h : Hr} {f g t a a2 n : Nat} {L : Nat → Bool} {w' w2 : World} {v22 v23 v24 v25 v26 v27 v28 v29 v30 v31 v6 : Value} (H : RG W h f g t a a2 n L w' v22 v23 v24 v25 v26 v27 v28 v29 v30 v31 v6) (hb : Below w'.heap.size w' w2) : RG W h f g t a a2 n L w2 v22 v23 v24 v25 v26 v27 v28 v29 v30 v31 v6 :=
  ⟨H.b.trans (hb.mono H.b.size), H.f0, H.f1, H.f2, H.f3, fun l => (H.f4 l).below hb, H.f5, H.f6, H.f7, fun l => (H.f8 l).below hb, fun l => (H.f9 l).below hb, fun l => (H.f10 l).below hb⟩
theorem RG.s0 {W : World} {h : Hr} {f g t a a2 n : Nat} {L : Nat → Bool} {w' : World} {v22 v23 v24 v25 v26 v27 v28 v29 v30 v31 v6 : Value} (H : RG W h f g t a a2 n L w' v22 v23 v24 v25 v26 v27 v28 v29 v30 v31 v6) {z : Value} (k : z = hg h) : RG W h f g t a a2 n (fun j => j == 0 || L j) w' z v23 v24 v25 v26 v27 v28 v29 v30 v31 v6 := ⟨H.b, fun _ => k, H.f1, H.f2, H.f3, H.f4, H.f5, H.f6, H.f7, H.f8, H.f9, H.f10⟩
theorem RG.s1 {W : World} {h : Hr} {f g t a a2 n : Nat} {L : Nat → Bool} {w' : World} {v22 v23 v24 v25 v26 v27 v28 v29 v30 v31 v6 : Value} (H : RG W h f g t a a2 n L w' v22 v23 v24 v25 v26 v27 v28 v29 v30 v31 v6) {z : Value} (k : z = hg h) : RG W h f g t a a2 n (fun j => j == 1 || L j) w' v22 z v24 v25 v26 v27 v28 v29 v30 v31 v6 := ⟨H.b, H.f0, fun _ => k, H.f2, H.f3, H.f4, H.f5, H.f6, H.f7, H.f8, H.f9, H.f10⟩
theorem RG.s2 {W : World} {h : Hr} {f g t a a2 n : Nat} {L : Nat → Bool} {w' : World} {v22 v23 v24 v25 v26 v27 v28 v29 v30 v31 v6 : Value} (H : RG W h f g t a a2 n L w' v22 v23 v24 v25 v26 v27 v28 v29 v30 v31 v6) {z : Value} (k : z = .int .i64 (f : Int)) : RG W h f g t a a2 n (fun j => j == 2 || L j) w' v22 v23 z v25 v26 v27 v28 v29 v30 v31 v6 := ⟨H.b, H.f0, H.f1, fun _ => k, H.f3, H.f4, H.f5, H.f6, H.f7, H.f8, H.f9, H.f10⟩
theorem RG.s3 {W : World} {h : Hr} {f g t a a2 n : Nat} {L : Nat → Bool} {w' : World} {v22 v23 v24 v25 v26 v27 v28 v29 v30 v31 v6 : Value} (H : RG W h f g t a a2 n L w' v22 v23 v24 v25 v26 v27 v28 v29 v30 v31 v6) {z : Value} (k : z = .int .i64 (g : Int)) : RG W h f g t a a2 n (fun j => j == 3 || L j) w' v22 v23 v24 z v26 v27 v28 v29 v30 v31 v6 := ⟨H.b, H.f0, H.f1, H.f2, fun _ => k, H.f4, H.f5, H.f6, H.f7, H.f8, H.f9, H.f10⟩
theorem RG.s4 {W : World} {h : Hr} {f g t a a2 n : Nat} {L : Nat → Bool} {w' : World} {v22 v23 v24 v25 v26 v27 v28 v29 v30 v31 v6 : Value} (H : RG W h f g t a a2 n L w' v22 v23 v24 v25 v26 v27 v28 v29 v30 v31 v6) {z : Value} (k : OrdR (key h.v.hs) (plcs f a) a w' z) : RG W h f g t a a2 n (fun j => j == 4 || L j) w' v22 v23 v24 v25 z v27 v28 v29 v30 v31 v6 := ⟨H.b, H.f0, H.f1, H.f2, H.f3, fun _ => k, H.f5, H.f6, H.f7, H.f8, H.f9, H.f10⟩
theorem RG.s5 {W : World} {h : Hr} {f g t a a2 n : Nat} {L : Nat → Bool} {w' : World} {v22 v23 v24 v25 v26 v27 v28 v29 v30 v31 v6 : Value} (H : RG W h f g t a a2 n L w' v22 v23 v24 v25 v26 v27 v28 v29 v30 v31 v6) {z : Value} (k : z = hg h) : RG W h f g t a a2 n (fun j => j == 5 || L j) w' v22 v23 v24 v25 v26 z v28 v29 v30 v31 v6 := ⟨H.b, H.f0, H.f1, H.f2, H.f3, H.f4, fun _ => k, H.f6, H.f7, H.f8, H.f9, H.f10⟩
theorem RG.s6 {W : World} {h : Hr} {f g t a a2 n : Nat} {L : Nat → Bool} {w' : World} {v22 v23 v24 v25 v26 v27 v28 v29 v30 v31 v6 : Value} (H : RG W h f g t a a2 n L w' v22 v23 v24 v25 v26 v27 v28 v29 v30 v31 v6) {z : Value} (k : z = .int .i64 (g : Int)) : RG W h f g t a a2 n (fun j => j == 6 || L j) w' v22 v23 v24 v25 v26 v27 z v29 v30 v31 v6 := ⟨H.b, H.f0, H.f1, H.f2, H.f3, H.f4, H.f5, fun _ => k, H.f7, H.f8, H.f9, H.f10⟩
theorem RG.s7 {W : World} {h : Hr} {f g t a a2 n : Nat} {L : Nat → Bool} {w' : World} {v22 v23 v24 v25 v26 v27 v28 v29 v30 v31 v6 : Value} (H : RG W h f g t a a2 n L w' v22 v23 v24 v25 v26 v27 v28 v29 v30 v31 v6) {z : Value} (k : z = .int .i64 (t : Int)) : RG W h f g t a a2 n (fun j => j == 7 || L j) w' v22 v23 v24 v25 v26 v27 v28 z v30 v31 v6 := ⟨H.b, H.f0, H.f1, H.f2, H.f3, H.f4, H.f5, H.f6, fun _ => k, H.f8, H.f9, H.f10⟩
theorem RG.s8 {W : World} {h : Hr} {f g t a a2 n : Nat} {L : Nat → Bool} {w' : World} {v22 v23 v24 v25 v26 v27 v28 v29 v30 v31 v6 : Value} (H : RG W h f g t a a2 n L w' v22 v23 v24 v25 v26 v27 v28 v29 v30 v31 v6) {z : Value} (k : OrdR (key h.v.hs) (plcs g a2) a2 w' z) : RG W h f g t a a2 n (fun j => j == 8 || L j) w' v22 v23 v24 v25 v26 v27 v28 v29 z v31 v6 := ⟨H.b, H.f0, H.f1, H.f2, H.f3, H.f4, H.f5, H.f6, H.f7, fun _ => k, H.f9, H.f10⟩
theorem RG.s9 {W : World} {h : Hr} {f g t a a2 n : Nat} {L : Nat → Bool} {w' : World} {v22 v23 v24 v25 v26 v27 v28 v29 v30 v31 v6 : Value} (H : RG W h f g t a a2 n L w' v22 v23 v24 v25 v26 v27 v28 v29 v30 v31 v6) {z : Value} (k : OrdR (key h.v.hs) (plcs f n) n w' z) : RG W h f g t a a2 n (fun j => j == 9 || L j) w' v22 v23 v24 v25 v26 v27 v28 v29 v30 z v6 := ⟨H.b, H.f0, H.f1, H.f2, H.f3, H.f4, H.f5, H.f6, H.f7, H.f8, fun _ => k, H.f10⟩
theorem RG.s10 {W : World} {h : Hr} {f g t a a2 n : Nat} {L : Nat → Bool} {w' : World} {v22 v23 v24 v25 v26 v27 v28 v29 v30 v31 v6 : Value} (H : RG W h f g t a a2 n L w' v22 v23 v24 v25 v26 v27 v28 v29 v30 v31 v6) {z : Value} (k : OrdR (key h.v.hs) (plcs f n) n w' z) : RG W h f g t a a2 n (fun j => j == 10 || L j) w' v22 v23 v24 v25 v26 v27 v28 v29 v30 v31 z := ⟨H.b, H.f0, H.f1, H.f2, H.f3, H.f4, H.f5, H.f6, H.f7, H.f8, H.f9, fun _ => k⟩
/-- What order tells of fewer places. -/
def Ords (h : Hr) (n : Nat) : Prop := ∀ (k f t : Nat) (w : World), k < n → f + k = t → t ≤ h.m → HM w (· < w.heap.size) h → Calls Try.prog 43 #[hg h, .int .i64 (f : Int), .int .i64 (t : Int)] w (OrdG (key h.v.hs) (plcs f k) k w)

set_option maxRecDepth 100000 in
set_option maxHeartbeats 4000000 in
theorem rorder_two (h : Hr) (hm : h.m ≤ 2001) (n f t : Nat) (w : World) (hn : 2 ≤ n) (ht : f + n = t) (hl : t ≤ h.m) (M : HM w (· < w.heap.size) h) (ih : Ords h n) : Calls Try.prog 43 #[hg h, .int .i64 (f : Int), .int .i64 (t : Int)] w (OrdG (key h.v.hs) (plcs f n) n w) := by
  obtain ⟨W, hW⟩ : ∃ W, w.alloc (.cells (hc h) 33) = W := ⟨_, rfl⟩
  have H0 := Lib.hid (show HX w W h by rw [← hW]; exact HX.start w h)
  have HW := Lib.hid hW
  have HM0 := Lib.hid M
  have HIH := Lib.hid ih
  obtain ⟨s, hs⟩ : ∃ s, f + t = s := ⟨_, rfl⟩
  obtain ⟨g, hg⟩ : ∃ g, s / 2 = g := ⟨_, rfl⟩
  obtain ⟨a, ha⟩ : ∃ a, n / 2 = a := ⟨_, rfl⟩
  obtain ⟨a2, ha2⟩ : ∃ a2, n - a = a2 := ⟨_, rfl⟩
  have HN := Lib.hid (show f + a = g ∧ g + a2 = t ∧ a < n ∧ a2 < n ∧ a + a2 = n from ⟨by omega, by omega, by omega, by omega, by omega⟩)
  have b1 : s ≤ 10000 := by omega
  have b2 : g ≤ 10000 := by omega
  have b3 : t ≤ 10000 := by omega
  have b4 : f ≤ 10000 := by omega
  have b5 : n ≤ 10000 := by omega
  have e1 : (t : Int) - (f : Int) = (n : Int) := by omega
  have e2 : (f : Int) + (t : Int) = (s : Int) := by omega
  have e3 : (s : Int).tdiv 2 = (g : Int) := by rw [Int.tdiv_eq_ediv_of_nonneg (by omega)]; omega
  have e4 : (s : Int) / 2 = (g : Int) := by omega
  have t1 : decide ((n : Int) < 1) = false := decide_eq_false (by omega)
  have t1' : decide (n < 1) = false := decide_eq_false (by omega)
  have t2 : decide ((n : Int) = 1) = false := decide_eq_false (by omega)
  have t2' : decide (n = 1) = false := decide_eq_false (by omega)
  have t2b : ((n : Int) == 1) = false := by simp; omega
  have t2c : (n == 1) = false := by simp; omega
  have HLM := Lib.hid (And.intro hm hl)
  clear hW M ih hs hg ha ha2 hn ht hl hm
  go_enter Try.func43, Try.ntmps43
  go_wp2_with fail
  rw [HW.out]
  clear HW
  refine wp_region_steps (fun L_ a_ w_ => ∃ (v22 v23 v24 v25 v26 v27 v28 v29 v30 v31 v6 : Value), a_ = { tmps := #[hg h, .int .i64 (f : Int), .int .i64 (t : Int), .pointer (some ⟨w.heap.size, 0, none⟩), undef, undef, v6, .int .i64 (g : Int), .int .i64 (t : Int), .int .i64 (f : Int), .int .i64 (n : Int), .bool false, .int .i64 (t : Int), .int .i64 (f : Int), .int .i64 (n : Int), .bool false, undef, undef, .int .i64 (f : Int), .int .i64 (t : Int), .int .i64 (s : Int), .int .i64 (g : Int), v22, v23, v24, v25, v26, v27, v28, v29, v30, v31], defers := [] } ∧ Hid (RG W h f g t a a2 n L_ w_ v22 v23 v24 v25 v26 v27 v28 v29 v30 v31 v6)) (by kernel_rfl) (by kernel_rfl) ?_ (AllSteps.cons ?_ (AllSteps.cons ?_ (AllSteps.cons ?_ (AllSteps.cons ?_ (AllSteps.cons ?_ (AllSteps.cons ?_ (AllSteps.cons ?_ (AllSteps.cons ?_ (AllSteps.cons ?_ (AllSteps.cons ?_ (AllSteps.cons ?_ AllSteps.nil))))))))))) ?_
  · exact ⟨_, _, _, _, _, _, _, _, _, _, _, rfl, Lib.hid ⟨⟨rfl, rfl, rfl, Nat.le_refl _, fun _ _ => rfl⟩, (fun h => by cases h), (fun h => by cases h), (fun h => by cases h), (fun h => by cases h), (fun h => by cases h), (fun h => by cases h), (fun h => by cases h), (fun h => by cases h), (fun h => by cases h), (fun h => by cases h), (fun h => by cases h)⟩⟩
  · rintro L_ a_ w_ hL hd ⟨v22, v23, v24, v25, v26, v27, v28, v29, v30, v31, v6, rfl, HR⟩ K hK
    have hx := (H0.out.next HR.out.b).x
    have x0 := hx.c 0
    have x1 := hx.c 1
    have x2 := hx.c 2
    have x3 := hx.c 3
    have x4 := hx.c 4
    have x5 := hx.c 5
    have x6 := hx.c 6
    have x7 := hx.c 7
    have x8 := hx.c 8
    have x9 := hx.c 9
    simp at x0 x1 x2 x3 x4 x5 x6 x7 x8 x9
    clear hd hx
    go_simp
    exact hK.out _ _ ⟨_, _, _, _, _, _, _, _, _, _, _, rfl, Lib.hid (HR.out.s0 rfl)⟩
  · rintro L_ a_ w_ hL hd ⟨v22, v23, v24, v25, v26, v27, v28, v29, v30, v31, v6, rfl, HR⟩ K hK
    have hx := (H0.out.next HR.out.b).x
    have x0 := hx.c 0
    have x1 := hx.c 1
    have x2 := hx.c 2
    have x3 := hx.c 3
    have x4 := hx.c 4
    have x5 := hx.c 5
    have x6 := hx.c 6
    have x7 := hx.c 7
    have x8 := hx.c 8
    have x9 := hx.c 9
    simp at x0 x1 x2 x3 x4 x5 x6 x7 x8 x9
    clear hd hx
    go_simp
    exact hK.out _ _ ⟨_, _, _, _, _, _, _, _, _, _, _, rfl, Lib.hid (HR.out.s1 rfl)⟩
  · rintro L_ a_ w_ hL hd ⟨v22, v23, v24, v25, v26, v27, v28, v29, v30, v31, v6, rfl, HR⟩ K hK
    clear hd
    go_simp
    exact hK.out _ _ ⟨_, _, _, _, _, _, _, _, _, _, _, rfl, Lib.hid (HR.out.s2 rfl)⟩
  · rintro L_ a_ w_ hL hd ⟨v22, v23, v24, v25, v26, v27, v28, v29, v30, v31, v6, rfl, HR⟩ K hK
    clear hd
    go_simp
    exact hK.out _ _ ⟨_, _, _, _, _, _, _, _, _, _, _, rfl, Lib.hid (HR.out.s3 rfl)⟩
  · rintro L_ a_ w_ hL hd ⟨v22, v23, v24, v25, v26, v27, v28, v29, v30, v31, v6, rfl, HR⟩ K hK
    have e1 := HR.out.f1 (hd ⟨1, .data⟩ (by simp) rfl)
    subst e1
    have e2 := HR.out.f2 (hd ⟨2, .data⟩ (by simp) rfl)
    subst e2
    have e3 := HR.out.f3 (hd ⟨3, .data⟩ (by simp) rfl)
    subst e3
    clear hd
    go_simp
    refine (HIH.out a f g w_ HN.out.2.2.1 HN.out.1 (by have := HN.out; have := HLM.out; omega) (HM0.out.below (H0.out.next HR.out.b).b)).mono ?_
    rintro e w5 ⟨z, rfl, hO, hb⟩
    exact hK.out _ _ ⟨_, _, _, _, _, _, _, _, _, _, _, rfl, Lib.hid ((HR.out.up hb).s4 hO)⟩
  · rintro L_ a_ w_ hL hd ⟨v22, v23, v24, v25, v26, v27, v28, v29, v30, v31, v6, rfl, HR⟩ K hK
    have hx := (H0.out.next HR.out.b).x
    have x0 := hx.c 0
    have x1 := hx.c 1
    have x2 := hx.c 2
    have x3 := hx.c 3
    have x4 := hx.c 4
    have x5 := hx.c 5
    have x6 := hx.c 6
    have x7 := hx.c 7
    have x8 := hx.c 8
    have x9 := hx.c 9
    simp at x0 x1 x2 x3 x4 x5 x6 x7 x8 x9
    clear hd hx
    go_simp
    exact hK.out _ _ ⟨_, _, _, _, _, _, _, _, _, _, _, rfl, Lib.hid (HR.out.s5 rfl)⟩
  · rintro L_ a_ w_ hL hd ⟨v22, v23, v24, v25, v26, v27, v28, v29, v30, v31, v6, rfl, HR⟩ K hK
    clear hd
    go_simp
    exact hK.out _ _ ⟨_, _, _, _, _, _, _, _, _, _, _, rfl, Lib.hid (HR.out.s6 rfl)⟩
  · rintro L_ a_ w_ hL hd ⟨v22, v23, v24, v25, v26, v27, v28, v29, v30, v31, v6, rfl, HR⟩ K hK
    clear hd
    go_simp
    exact hK.out _ _ ⟨_, _, _, _, _, _, _, _, _, _, _, rfl, Lib.hid (HR.out.s7 rfl)⟩
  · rintro L_ a_ w_ hL hd ⟨v22, v23, v24, v25, v26, v27, v28, v29, v30, v31, v6, rfl, HR⟩ K hK
    have e5 := HR.out.f5 (hd ⟨5, .data⟩ (by simp) rfl)
    subst e5
    have e6 := HR.out.f6 (hd ⟨6, .data⟩ (by simp) rfl)
    subst e6
    have e7 := HR.out.f7 (hd ⟨7, .data⟩ (by simp) rfl)
    subst e7
    clear hd
    go_simp
    refine (HIH.out a2 g t w_ HN.out.2.2.2.1 HN.out.2.1 HLM.out.2 (HM0.out.below (H0.out.next HR.out.b).b)).mono ?_
    rintro e w5 ⟨z, rfl, hO, hb⟩
    exact hK.out _ _ ⟨_, _, _, _, _, _, _, _, _, _, _, rfl, Lib.hid ((HR.out.up hb).s8 hO)⟩
  · rintro L_ a_ w_ hL hd ⟨v22, v23, v24, v25, v26, v27, v28, v29, v30, v31, v6, rfl, HR⟩ K hK
    have e0 := HR.out.f0 (hd ⟨0, .data⟩ (by simp) rfl)
    subst e0
    obtain ⟨A1, c1, o1, q1, i1, g1⟩ := HR.out.f4 (hd ⟨4, .data⟩ (by simp) rfl)
    subst q1
    obtain ⟨A2, c2, o2, q2, i2, g2⟩ := HR.out.f8 (hd ⟨8, .data⟩ (by simp) rfl)
    subst q2
    have CM := Lib.hid (merge_two h HLM.out.1 A1 A2 a a2 n f g t c1 c2 o1 o2 w_ (HM0.out.below (H0.out.next HR.out.b).b) i1 i2 g1 g2 HN.out.1 HN.out.2.1 HN.out.2.2.2.2 HLM.out.2)
    clear i1 i2 g1 g2
    clear hd
    go_simp
    refine CM.out.mono ?_
    rintro e w5 ⟨z, rfl, hO, hb⟩
    exact hK.out _ _ ⟨_, _, _, _, _, _, _, _, _, _, _, rfl, Lib.hid ((HR.out.up hb).s9 hO)⟩
  · rintro L_ a_ w_ hL hd ⟨v22, v23, v24, v25, v26, v27, v28, v29, v30, v31, v6, rfl, HR⟩ K hK
    have e9 := HR.out.f9 (hd ⟨9, .data⟩ (by simp) rfl)
    clear hd
    go_simp
    exact hK.out _ _ ⟨_, _, _, _, _, _, _, _, _, _, _, rfl, Lib.hid (HR.out.s10 e9)⟩
  · rintro L_ a_ w_ hL ⟨v22, v23, v24, v25, v26, v27, v28, v29, v30, v31, v6, rfl, HR⟩
    have hO := HR.out.f10 (hL 10 (by decide))
    have HO := Lib.hid hO
    have HB := Lib.hid (H0.out.next HR.out.b).b
    clear hL hO HR
    go_wp2
    go_ret
    exact ⟨_, rfl, HO.out, HB.out⟩

set_option maxRecDepth 100000 in
set_option maxHeartbeats 4000000 in
theorem rorder_few (h : Hr) (n f t : Nat) (w : World) (hn : n < 2) (ht : f + n = t) (hl : t ≤ 10000) : Calls Try.prog 43 #[hg h, .int .i64 (f : Int), .int .i64 (t : Int)] w (OrdG (key h.v.hs) (plcs f n) n w) := by
  obtain ⟨W, hW⟩ : ∃ W, w.alloc (.cells (hc h) 33) = W := ⟨_, rfl⟩
  have H0 := Lib.hid (show HX w W h by rw [← hW]; exact HX.start w h)
  have HW := Lib.hid hW
  have hz : W.heap.size = w.heap.size + 1 := by rw [← hW]; exact World.size_alloc _ _
  clear hW
  have b3 : t ≤ 10000 := by omega
  have b4 : f ≤ 10000 := by omega
  rcases (by omega : n = 0 ∨ n = 1) with rfl | rfl
  · have e1 : (t : Int) - (f : Int) = 0 := by omega
    have HR := Lib.hid (show OrdG (key h.v.hs) (plcs f 0) 0 w (.returned (.slice none 0 0)) W from ⟨_, rfl, ⟨none, 0, [], rfl, Ins.nil, St.Good.nil⟩, H0.out.b⟩)
    clear ht hl hn hz
    go_enter Try.func43, Try.ntmps43
    go_wp2_with fail
    rw [HW.out]
    go_ret
    exact HR.out
  · have e1 : (t : Int) - (f : Int) = 1 := by omega
    have HR := Lib.hid (show OrdG (key h.v.hs) (plcs f 1) 1 w (.returned (.slice (some ⟨W.heap.size, 0, none⟩) 1 1)) (W.alloc (.cells #[.int .i64 (f : Int)] 3)) from
      ⟨_, rfl, ⟨_, _, [(f : Int)], rfl, (ins_one (Bx.new W 3 #[.int .i64 (f : Int)])).keep (fun _ _ => rfl) (fun b hb => by subst hb; simp), by rw [plcs_one]; exact ⟨List.Perm.refl _, List.pairwise_singleton _ _⟩⟩, (H0.out.next (alloc_ _ _)).b⟩)
    rw [hz] at HR
    clear ht hl hn hz
    go_enter Try.func43, Try.ntmps43
    go_wp2_with fail
    rw [HW.out]
    go_ret
    exact HR.out
theorem rorder_ (h : Hr) (hm : h.m ≤ 2001) (n : Nat) : ∀ (f t : Nat) (w : World), f + n = t → t ≤ h.m → HM w (· < w.heap.size) h → Calls Try.prog 43 #[hg h, .int .i64 (f : Int), .int .i64 (t : Int)] w (OrdG (key h.v.hs) (plcs f n) n w) := by
  induction n using Nat.strongRecOn with
  | ind n ih =>
    intro f t w ht hl M
    rcases Nat.lt_or_ge n 2 with hn | hn
    · exact rorder_few h n f t w hn ht (by omega)
    · exact rorder_two h hm n f t w hn ht hl M fun k f t w hk ht hl M => ih k hk f t w ht hl M

set_option maxRecDepth 100000 in
set_option maxHeartbeats 4000000 in
theorem rorder (h : Hr) (w : World) (M : HM w (· < w.heap.size) h) (hm : h.m ≤ 2001) : Calls Try.prog 22 #[hg h] w (OrdG (key h.v.hs) (plc h.v.hs.length) h.m w) := by
  obtain ⟨W, hW⟩ : ∃ W, w.alloc (.cells (hc h) 33) = W := ⟨_, rfl⟩
  have H0 := Lib.hid (show HX w W h by rw [← hW]; exact HX.start w h)
  have HW := Lib.hid hW
  have C := Lib.hid (rorder_ h hm h.m 0 h.m W (Nat.zero_add _) (Nat.le_refl _) (M.below H0.out.b))
  have HE := Lib.hid (show plcs 0 h.m = plc h.v.hs.length by rw [plcs_all, M.len])
  clear hW M
  go_enter Try.func22, Try.ntmps22
  go_wp2_with fail
  rw [HW.out]
  refine C.out.mono ?_
  rw [HE.out]
  rintro e w1 ⟨v, rfl, hO, hb⟩
  have HO := Lib.hid hO
  have HB := Lib.hid (H0.out.next hb).b
  clear hO hb
  go_wp2
  go_ret
  exact ⟨_, rfl, HO.out, HB.out⟩

end Tm
end Go.Proofs.Ytcnlllamldlnmaa
