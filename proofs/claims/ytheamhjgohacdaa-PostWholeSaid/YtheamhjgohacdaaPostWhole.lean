/-
  The statement PostWhole holds: for every input the call returns true, and each argument reads afterwards as it read before. Conditions: none beside those that the row itself bears.
-/
import Derived.Test.YtheamhjgohacdaaGiven
import Derived.Test.YtheamhjgohacdaaInv
namespace Go.Proofs.Ytheamhjgohacdaa.postWhole
open Go.ChangeShapes Go.WideShapes Go.ChangeAt Go.RowKit Bk Pst
set_option linter.unusedVariables false


/-- What holds of the eight operations that have come up. -/
structure R7 (W w' : World) (A3 : Option Addr) (n3 c3 : Nat) (A5 : Option Addr) (n5 c5 : Nat) (t1 t2 : Nat → Int) (L : Nat → Bool) (v33 v34 v35 v36 v8 v9 : Value) (g8 g9 : Nat) : Prop where
  b : Below W.heap.size W w'
  f0 : L 0 = true → v33 = bg A3 n3 c3
  f1 : L 1 = true → v34 = .agg (ar t1)
  f2 : L 2 = true → v35 = bg A5 n5 c5
  f3 : L 3 = true → v36 = .agg (ar t2)
  f4 : L 4 = true → v8 = .pointer (some ⟨g8, 0, none⟩) ∧ W.heap.size ≤ g8 ∧ Bx w' g8 36 (ar fun i => if L 6 = true then t1 i else 0)
  f5 : L 5 = true → v9 = .pointer (some ⟨g9, 0, none⟩) ∧ W.heap.size ≤ g9 ∧ Bx w' g9 36 (ar fun i => if L 7 = true then t2 i else 0)
  d6 : L 6 = true → L 4 = true
  d7 : L 7 = true → L 5 = true
  ne : L 4 = true → L 5 = true → g8 ≠ g9
section
variable {W w' w'' : World} {A3 A5 : Option Addr} {n3 c3 n5 c5 : Nat} {t1 t2 : Nat → Int} {L : Nat → Bool} {v33 v34 v35 v36 v8 v9 : Value} {g8 g9 : Nat}
theorem R7.up (h : R7 W w' A3 n3 c3 A5 n5 c5 t1 t2 L v33 v34 v35 v36 v8 v9 g8 g9) (hb : Below w'.heap.size w' w'') : R7 W w'' A3 n3 c3 A5 n5 c5 t1 t2 L v33 v34 v35 v36 v8 v9 g8 g9 :=
  ⟨h.b.trans (hb.mono h.b.size), h.f0, h.f1, h.f2, h.f3, fun e => ⟨(h.f4 e).1, (h.f4 e).2.1, (h.f4 e).2.2.keep hb⟩, fun e => ⟨(h.f5 e).1, (h.f5 e).2.1, (h.f5 e).2.2.keep hb⟩, h.d6, h.d7, h.ne⟩
theorem or_of {a b : Bool} (h : (a || b) = true) (ha : a = false) : b = true := by rw [ha] at h; exact h
theorem R7.s0 (h : R7 W w' A3 n3 c3 A5 n5 c5 t1 t2 L v33 v34 v35 v36 v8 v9 g8 g9) : R7 W w' A3 n3 c3 A5 n5 c5 t1 t2 (fun j => j == 0 || L j) (bg A3 n3 c3) v34 v35 v36 v8 v9 g8 g9 := ⟨h.b, fun _ => rfl, h.f1, h.f2, h.f3, h.f4, h.f5, h.d6, h.d7, h.ne⟩
theorem R7.s1 (h : R7 W w' A3 n3 c3 A5 n5 c5 t1 t2 L v33 v34 v35 v36 v8 v9 g8 g9) : R7 W w' A3 n3 c3 A5 n5 c5 t1 t2 (fun j => j == 1 || L j) v33 (.agg (ar t1)) v35 v36 v8 v9 g8 g9 := ⟨h.b, h.f0, fun _ => rfl, h.f2, h.f3, h.f4, h.f5, h.d6, h.d7, h.ne⟩
theorem R7.s2 (h : R7 W w' A3 n3 c3 A5 n5 c5 t1 t2 L v33 v34 v35 v36 v8 v9 g8 g9) : R7 W w' A3 n3 c3 A5 n5 c5 t1 t2 (fun j => j == 2 || L j) v33 v34 (bg A5 n5 c5) v36 v8 v9 g8 g9 := ⟨h.b, h.f0, h.f1, fun _ => rfl, h.f3, h.f4, h.f5, h.d6, h.d7, h.ne⟩
theorem R7.s3 (h : R7 W w' A3 n3 c3 A5 n5 c5 t1 t2 L v33 v34 v35 v36 v8 v9 g8 g9) : R7 W w' A3 n3 c3 A5 n5 c5 t1 t2 (fun j => j == 3 || L j) v33 v34 v35 (.agg (ar t2)) v8 v9 g8 g9 := ⟨h.b, h.f0, h.f1, h.f2, fun _ => rfl, h.f4, h.f5, h.d6, h.d7, h.ne⟩
theorem R7.s4 (h : R7 W w' A3 n3 c3 A5 n5 c5 t1 t2 L v33 v34 v35 v36 v8 v9 g8 g9) (hL : L 4 = false) : R7 W (w'.alloc (.cells (ar fun _ => 0) 36)) A3 n3 c3 A5 n5 c5 t1 t2 (fun j => j == 4 || L j) v33 v34 v35 v36 (.pointer (some ⟨w'.heap.size, 0, none⟩)) v9 w'.heap.size g9 := by
  have h6 : L 6 = false := by
    cases e : L 6
    · rfl
    · rw [h.d6 e] at hL; cases hL
  have h' := h.up (alloc_ w' (.cells (ar fun _ => 0) 36))
  refine ⟨h'.b, h'.f0, h'.f1, h'.f2, h'.f3, fun _ => ⟨rfl, h.b.size, ?_⟩, h'.f5, fun _ => rfl, h'.d7, fun _ e5 => ?_⟩
  · show Bx _ _ _ (ar fun i => if L 6 = true then t1 i else 0)
    rw [h6]
    exact Bx.new w' 36 (ar fun _ => 0)
  · have := (h.f5 e5).2.2.lt; omega
theorem R7.s5 (h : R7 W w' A3 n3 c3 A5 n5 c5 t1 t2 L v33 v34 v35 v36 v8 v9 g8 g9) (hL : L 5 = false) : R7 W (w'.alloc (.cells (ar fun _ => 0) 36)) A3 n3 c3 A5 n5 c5 t1 t2 (fun j => j == 5 || L j) v33 v34 v35 v36 v8 (.pointer (some ⟨w'.heap.size, 0, none⟩)) g8 w'.heap.size := by
  have h7 : L 7 = false := by
    cases e : L 7
    · rfl
    · rw [h.d7 e] at hL; cases hL
  have h' := h.up (alloc_ w' (.cells (ar fun _ => 0) 36))
  refine ⟨h'.b, h'.f0, h'.f1, h'.f2, h'.f3, h'.f4, fun _ => ⟨rfl, h.b.size, ?_⟩, h'.d6, fun _ => rfl, fun e4 _ => ?_⟩
  · show Bx _ _ _ (ar fun i => if L 7 = true then t2 i else 0)
    rw [h7]
    exact Bx.new w' 36 (ar fun _ => 0)
  · have := (h.f4 e4).2.2.lt; omega
theorem ten_far {w1 : World} {b q : Nat} {t : TypeId} {g : Nat → Int} {xs : Array Value} (h : Bx w1 q t xs) (hne : q ≠ b) : Bx (ten w1 b g) q t xs := by
  unfold ten
  exact (((((((((h.far hne _).far hne _).far hne _).far hne _).far hne _).far hne _).far hne _).far hne _).far hne _).far hne _
theorem R7.s6 (h : R7 W w' A3 n3 c3 A5 n5 c5 t1 t2 L v33 v34 v35 v36 v8 v9 g8 g9) (hL : L 4 = true) : R7 W (ten w' g8 t1) A3 n3 c3 A5 n5 c5 t1 t2 (fun j => j == 6 || L j) v33 v34 v35 v36 v8 v9 g8 g9 := by
  obtain ⟨e1, e2, e3⟩ := h.f4 hL
  refine ⟨ten_below h.b e2, h.f0, h.f1, h.f2, h.f3, fun _ => ⟨e1, e2, ?_⟩, fun e5 => ⟨(h.f5 e5).1, (h.f5 e5).2.1, ten_far (h.f5 e5).2.2 (fun e => h.ne hL e5 e.symm)⟩, fun _ => hL, h.d7, h.ne⟩
  exact ten_bx e3
theorem R7.s7 (h : R7 W w' A3 n3 c3 A5 n5 c5 t1 t2 L v33 v34 v35 v36 v8 v9 g8 g9) (hL : L 5 = true) : R7 W (ten w' g9 t2) A3 n3 c3 A5 n5 c5 t1 t2 (fun j => j == 7 || L j) v33 v34 v35 v36 v8 v9 g8 g9 := by
  obtain ⟨e1, e2, e3⟩ := h.f5 hL
  refine ⟨ten_below h.b e2, h.f0, h.f1, h.f2, h.f3, fun e4 => ⟨(h.f4 e4).1, (h.f4 e4).2.1, ten_far (h.f4 e4).2.2 (h.ne e4 hL)⟩, fun _ => ⟨e1, e2, ?_⟩, h.d6, fun _ => hL, h.ne⟩
  exact ten_bx e3
end

/-- The two trials, each in its block. -/
structure Two (W w' : World) (g8 g9 : Nat) (t1 t2 : Nat → Int) : Prop where
  b : Below W.heap.size W w'
  x : Bx w' g8 36 (ar t1)
  y : Bx w' g9 36 (ar t2)
  lx : W.heap.size ≤ g8
  ly : W.heap.size ≤ g9
  ne : g8 ≠ g9
theorem Two.drew {W w' : World} {g8 g9 : Nat} {t1 t2 : Nat → Int} (h : Two W w' g8 g9 t1 t2) : Two W w'.drew g8 g9 t1 t2 := ⟨⟨h.b.os, h.b.tape, h.b.output, h.b.size, h.b.block⟩, h.x, h.y, h.lx, h.ly, h.ne⟩
/-- The trial with the amounts of lines more. -/
def tw (p : Int → Bool) (b : List En) (ls : List Pr) (i : Nat) : Int := if 1 ≤ i ∧ i ≤ 9 then wrap64 (bal p (i : Int) b + ofA (i : Int) ls) else 0
theorem tw_nil (p : Int → Bool) (b : List En) : tw p b [] = tri p b := by
  funext i
  unfold tw tri trk
  rw [ofA_nil, Int.add_zero]
theorem tw_all (p : Int → Bool) (b : List En) (e : En) (hp : p e.day = true) : tw p b e.ls = tri p (b ++ [e]) := by
  funext i
  unfold tw tri trk
  rw [bal_snoc, if_pos hp]
theorem tw_snoc (p : Int → Bool) (b : List En) (ls : List Pr) (q : Nat) (x : Int) (h1 : 1 ≤ q) (h2 : q ≤ 9) : (ar (tw p b ls)).setIfInBounds q (.int .i64 (wrap64 (tw p b ls q + x))) = ar (tw p b (ls ++ [((q : Int), x)])) := by
  have e : ∀ i, tw p b (ls ++ [((q : Int), x)]) i = if i = q then wrap64 (tw p b ls q + x) else tw p b ls i := by
    intro i
    by_cases hi : i = q
    · subst hi
      rw [if_pos rfl]
      unfold tw
      rw [if_pos ⟨h1, h2⟩, if_pos ⟨h1, h2⟩, ofA_snoc, if_pos rfl, wr_add, Int.add_assoc]
    · rw [if_neg hi]
      unfold tw
      split
      · rw [ofA_snoc, if_neg (by simp only; omega), Int.add_zero]
      · rfl
  have hq : q = 1 ∨ q = 2 ∨ q = 3 ∨ q = 4 ∨ q = 5 ∨ q = 6 ∨ q = 7 ∨ q = 8 ∨ q = 9 := by omega
  generalize tw p b (ls ++ [((q : Int), x)]) = T at e ⊢
  rcases hq with rfl | rfl | rfl | rfl | rfl | rfl | rfl | rfl | rfl <;> simp [ar, e]
theorem ar_get (g : Nat → Int) (q : Nat) (h : q ≤ 9) : (ar g)[q]? = some (.int .i64 (g q)) := by
  have hq : q = 0 ∨ q = 1 ∨ q = 2 ∨ q = 3 ∨ q = 4 ∨ q = 5 ∨ q = 6 ∨ q = 7 ∨ q = 8 ∨ q = 9 := by omega
  rcases hq with rfl | rfl | rfl | rfl | rfl | rfl | rfl | rfl | rfl | rfl <;> rfl

set_option maxRecDepth 100000 in
set_option maxHeartbeats 4000000 in
theorem walk (A : Option Addr) (n c : Nat) (es : List En) {w : World} (G : GivenL w A n c es) (d f : Int) (L : Option Addr) (m k : Nat) (ls : List Pr) (GE : GivenE w L m ls) :
    Calls Try.prog 9 #[.slice A n c, eg d f L m k] w (Yes w true) := by
  have HG := Lib.hid G
  have HE := Lib.hid GE
  have hlen := G.len
  have hml := GE.m
  unfold maxLen at hlen hml
  clear G GE
  have HY := Lib.hid (Bx.new w 24 #[.int .i64 d, .int .i64 f, .slice L m k])
  have HB := Lib.hid (alloc_ w (.cells #[.int .i64 d, .int .i64 f, .slice L m k] 24))
  have CF := Lib.hid (few_ A n c es _ (HG.out.e.below HB.out) HG.out.len)
  cases hf : fewB es
  · rw [hf] at CF
    clear hf
    go_enter Try.func9, Try.ntmps9
    go_wp2_with fail
    refine CF.out.mono ?_
    rintro e w1 ⟨rfl, hb1⟩
    have HB1 := Lib.hid (HB.out.trans (hb1.mono HB.out.size))
    have HY1 := Lib.hid (HY.out.keep hb1)
    have x2 := HY1.out.c 2
    simp at x2
    clear hb1 CF
    clear x2
    go_wp2_with fail
    refine (alive_ _).mono ?_
    rintro e w9 ⟨rfl, hb9⟩
    have HB9 := Lib.hid (HB1.out.trans (hb9.mono HB1.out.size))
    clear hb9
    go_wp2
    go_ret
    exact ⟨rfl, HB9.out⟩

  rw [hf] at CF
  have HF2 := Lib.hid (fewB_yes hf)
  have hn : n ≤ 1000000 := by have := HF2.out; have e := HG.out.e.len; omega
  clear hf
  by_cases g1 : 100 < m
  · have t1 : decide (100 < (m : Int)) = true := decide_eq_true (by omega)
    have t1' : decide (100 < m) = true := decide_eq_true g1
    clear g1
    go_enter Try.func9, Try.ntmps9
    go_wp2_with fail
    refine CF.out.mono ?_
    rintro e w1 ⟨rfl, hb1⟩
    have HB1 := Lib.hid (HB.out.trans (hb1.mono HB.out.size))
    have HY1 := Lib.hid (HY.out.keep hb1)
    have x2 := HY1.out.c 2
    simp at x2
    clear hb1 CF
    go_wp2_with fail
    refine (alive_ _).mono ?_
    rintro e w9 ⟨rfl, hb9⟩
    have HB9 := Lib.hid (HB1.out.trans (hb9.mono HB1.out.size))
    clear hb9
    go_wp2
    go_ret
    exact ⟨rfl, HB9.out⟩

  have t1 : decide (100 < (m : Int)) = false := decide_eq_false (by omega)
  have t1' : decide (100 < m) = false := decide_eq_false g1
  by_cases hc : cde (mkL es) ⟨d, f, ls⟩ = 0
  case neg =>
    go_enter Try.func9, Try.ntmps9
    go_wp2_with fail
    refine CF.out.mono ?_
    rintro e w1 ⟨rfl, hb1⟩
    have HB1 := Lib.hid (HB.out.trans (hb1.mono HB.out.size))
    have HY1 := Lib.hid (HY.out.keep hb1)
    have x2 := HY1.out.c 2
    simp at x2
    clear hb1 CF
    go_wp2_with fail
    refine (made_ A n c es w1 (HG.out.e.below HB1.out) hn).mono ?_
    rintro e w3 ⟨A3, n3, c3, rfl, hE3, hcap3, hb3⟩
    have HM := Lib.hid (mkL_good es)
    have hn3 : n3 ≤ 200 := by have := HM.out.2; have e1 := hE3.len; have e2 := HG.out.e.len; have := HF2.out; omega
    have HF3 := Lib.hid (show Few (mkL es) from fun e he => by have := HM.out.1.lines e he; unfold maxLen; omega)
    have HB3 := Lib.hid (HB1.out.trans (hb3.mono HB1.out.size))
    have HY3 := Lib.hid ((HY1.out.keep hb3).alloc (.cells #[.slice A3 n3 c3] 29))
    have HZ3 := Lib.hid (Bx.new w3 29 #[.slice A3 n3 c3])
    have HE3 := Lib.hid (hE3.below (alloc_ w3 (.cells #[.slice A3 n3 c3] 29)))
    have HB4 := Lib.hid (HB3.out.alloc HB3.out.size (.cells #[.slice A3 n3 c3] 29))
    have y0 := HY3.out.c 0
    have y1 := HY3.out.c 1
    have y2 := HY3.out.c 2
    simp at y0 y1 y2
    have CP := Lib.hid (put A3 n3 c3 (mkL es) d f L m k ls _ HE3.out hcap3 (fun e he => by have := HM.out.1.lines e he; omega) (HE.out.l.below HB4.out))
    clear hb3 hE3 hcap3 x2
    have hsz3 := HY3.out.lt
    go_wp2_with fail
    refine CP.out.mono ?_
    rintro e w5 ⟨A5, n5, c5, rfl, hE5, hcap5, hb5⟩
    have HB5 := Lib.hid (HB4.out.trans (hb5.mono HB4.out.size))
    clear CP y0 y1 y2 hsz3
    have tc : (cde (mkL es) ⟨d, f, ls⟩ == 0) = false := by simpa using hc
    have tc' : (cde (mkL es) ⟨d, f, ls⟩ != 0) = true := by simpa using hc
    generalize cde (mkL es) ⟨d, f, ls⟩ = x at tc tc'
    have HB6 := Lib.hid (HB5.out.alloc HB5.out.size (.cells #[.slice A5 n5 c5] 29))
    clear hE5 hcap5 hb5
    go_wp2_with fail
    refine (alive_ _).mono ?_
    rintro e w9 ⟨rfl, hb9⟩
    have HB9 := Lib.hid (HB6.out.trans (hb9.mono HB6.out.size))
    clear hb9
    go_wp2
    go_ret
    exact ⟨rfl, HB9.out⟩

  have HL5 := Lib.hid (put_good hc)
  go_enter Try.func9, Try.ntmps9
  go_wp2_with fail
  refine CF.out.mono ?_
  rintro e w1 ⟨rfl, hb1⟩
  have HB1 := Lib.hid (HB.out.trans (hb1.mono HB.out.size))
  have HY1 := Lib.hid (HY.out.keep hb1)
  have x2 := HY1.out.c 2
  simp at x2
  clear hb1 CF
  go_wp2_with fail
  refine (made_ A n c es w1 (HG.out.e.below HB1.out) hn).mono ?_
  rintro e w3 ⟨A3, n3, c3, rfl, hE3, hcap3, hb3⟩
  have HM := Lib.hid (mkL_good es)
  have hn3 : n3 ≤ 200 := by have := HM.out.2; have e1 := hE3.len; have e2 := HG.out.e.len; have := HF2.out; omega
  have HF3 := Lib.hid (show Few (mkL es) from fun e he => by have := HM.out.1.lines e he; unfold maxLen; omega)
  have HB3 := Lib.hid (HB1.out.trans (hb3.mono HB1.out.size))
  have HY3 := Lib.hid ((HY1.out.keep hb3).alloc (.cells #[.slice A3 n3 c3] 29))
  have HZ3 := Lib.hid (Bx.new w3 29 #[.slice A3 n3 c3])
  have HE3 := Lib.hid (hE3.below (alloc_ w3 (.cells #[.slice A3 n3 c3] 29)))
  have HB4 := Lib.hid (HB3.out.alloc HB3.out.size (.cells #[.slice A3 n3 c3] 29))
  have y0 := HY3.out.c 0
  have y1 := HY3.out.c 1
  have y2 := HY3.out.c 2
  simp at y0 y1 y2
  have CP := Lib.hid (put A3 n3 c3 (mkL es) d f L m k ls _ HE3.out hcap3 (fun e he => by have := HM.out.1.lines e he; omega) (HE.out.l.below HB4.out))
  clear hb3 hE3 hcap3 x2
  have hsz3 := HY3.out.lt
  go_wp2_with fail
  refine CP.out.mono ?_
  rintro e w5 ⟨A5, n5, c5, rfl, hE5, hcap5, hb5⟩
  have HB5 := Lib.hid (HB4.out.trans (hb5.mono HB4.out.size))
  clear CP y0 y1 y2 hsz3

  have hE5' := hE5
  rw [HL5.out] at hE5'
  have hE6 := hE5'.ents fun b hb => hb.2
  have HY6 := Lib.hid ((HY3.out.keep hb5).alloc (.cells #[.slice A5 n5 c5] 29))
  have HZ6 := Lib.hid ((HZ3.out.keep hb5).alloc (.cells #[.slice A5 n5 c5] 29))
  have HU6 := Lib.hid (Bx.new w5 29 #[.slice A5 n5 c5])
  have HE6 := Lib.hid (hE6.below (alloc_ w5 (.cells #[.slice A5 n5 c5] 29)))
  have HE3' := Lib.hid ((HE3.out.below hb5).below (alloc_ w5 (.cells #[.slice A5 n5 c5] 29)))
  have HB6 := Lib.hid (HB5.out.alloc HB5.out.size (.cells #[.slice A5 n5 c5] 29))
  have HF6 := Lib.hid (show Few (mkL es ++ [⟨d, f, ls⟩]) from fun e he => by
    rcases List.mem_append.1 he with he | he
    · exact HF3.out e he
    · simp at he; subst he; have := HE.out.l.1; simp only; rw [this]; exact HE.out.m)
  have HN := Lib.hid (show n5 ≤ 1000000 by
    have e1 := hE6.len
    have e2 := HE3.out.len
    simp at e1
    omega)
  have HRG := Lib.hid (cde_zero hc)
  rw [hc]
  clear hE5 hE5' hE6 hcap5 hb5 hc
  go_wp2
  obtain ⟨W, hW⟩ : ∃ W, w5.alloc (.cells #[.slice A5 n5 c5] 29) = W := ⟨_, rfl⟩
  obtain ⟨bb, hbb⟩ : ∃ b, w3.heap.size = b := ⟨_, rfl⟩
  obtain ⟨bx, hbx⟩ : ∃ b, w5.heap.size = b := ⟨_, rfl⟩
  rw [hW] at HY6 HZ6 HU6 HE6 HE3' HB6 ⊢
  rw [hbb] at HZ6 ⊢
  rw [hbx] at HU6 ⊢
  clear hW hbb hbx
  obtain ⟨t1, ht1⟩ : ∃ t, tri (upto 292194) (mkL es) = t := ⟨_, rfl⟩
  obtain ⟨t2, ht2⟩ : ∃ t, tri (upto 292194) (mkL es ++ [(⟨d, f, ls⟩ : En)]) = t := ⟨_, rfl⟩
  have C3 := fun w' (h : Below W.heap.size W w') => Lib.hid (trial A3 n3 c3 (mkL es) 292194 w' (HE3'.out.below h) (by omega) HF3.out)
  have C5 := fun w' (h : Below W.heap.size W w') => Lib.hid (trial A5 n5 c5 (mkL es ++ [(⟨d, f, ls⟩ : En)]) 292194 w' (HE6.out.below h) HN.out HF6.out)
  rw [ht1] at C3
  rw [ht2] at C5
  have HT1 := Lib.hid ht1
  have HT2 := Lib.hid ht2
  clear ht1 ht2
  go_cut [8, 9] (fun s8 s9 wx => ∃ (Wz : World) (g8 g9 : Nat), Wz = wx ∧ s8 = .pointer (some ⟨g8, 0, none⟩) ∧ s9 = .pointer (some ⟨g9, 0, none⟩) ∧ Hid (Two W Wz g8 g9 t1 t2))
  case first =>
    have HSX := Lib.hid (fun (W' : World) (h : Below W.heap.size W W') => show W'.cell? ⟨bb, 0, none⟩ = some (.slice A3 n3 c3) ∧ W'.cell? ⟨bx, 0, none⟩ = some (.slice A5 n5 c5) by have h0 := (HZ6.out.keep h).c 0; have h1 := (HU6.out.keep h).c 0; simp at h0 h1; exact ⟨h0, h1⟩)
    refine wp_region_steps (fun L_ a_ w_ => ∃ (v33 v34 v35 v36 v8 v9 : Value) (g8 g9 : Nat), a_ = { tmps := #[.slice A n c, eg d f L m k, undef, .pointer (some ⟨w.heap.size, 0, none⟩), .bool false, .pointer (some ⟨bb, 0, none⟩), .pointer (some ⟨bx, 0, none⟩), .int .i64 0, v8, v9, undef, undef, .slice A n c, .bool true, .bool false, .bool false, .pointer (some ⟨w.heap.size, 2, none⟩), .slice L m k, .int .i64 (m : Int), .bool false, .bool false, undef, .slice A n c, bg A3 n3 c3, .tuple #[bg A5 n5 c5, .int .i64 0], .agg #[.slice A3 n3 c3], .agg #[.int .i64 d, .int .i64 f, .slice L m k], .tuple #[bg A5 n5 c5, .int .i64 0], bg A5 n5 c5, .int .i64 0, .int .i64 0, .bool false, undef, v33, v34, v35, v36, undef, undef, undef, undef, undef, undef, undef, undef, undef, undef, undef, undef, undef, undef, undef, undef, undef, undef, undef, undef, undef, undef], defers := [] } ∧ Hid (R7 W w_ A3 n3 c3 A5 n5 c5 t1 t2 L_ v33 v34 v35 v36 v8 v9 g8 g9)) (by kernel_rfl) (by kernel_rfl) ?_ (AllSteps.cons ?_ (AllSteps.cons ?_ (AllSteps.cons ?_ (AllSteps.cons ?_ (AllSteps.cons ?_ (AllSteps.cons ?_ (AllSteps.cons ?_ (AllSteps.cons ?_ AllSteps.nil)))))))) ?_
    · exact ⟨_, _, _, _, _, _, 0, 0, rfl, Lib.hid ⟨⟨rfl, rfl, rfl, Nat.le_refl _, fun _ _ => rfl⟩, (fun h => by cases h), (fun h => by cases h), (fun h => by cases h), (fun h => by cases h), (fun h => by cases h), (fun h => by cases h), (fun h => by cases h), (fun h => by cases h), fun h => by cases h⟩⟩
    · rintro L_ a_ w_ hL hd ⟨v33, v34, v35, v36, v8, v9, g8, g9, rfl, HR⟩ K hK
      obtain ⟨q0, q1⟩ := HSX.out w_ HR.out.b
      clear hd q1
      go_simp
      exact hK.out _ _ ⟨_, _, _, _, _, _, g8, g9, rfl, Lib.hid HR.out.s0⟩
    · rintro L_ a_ w_ hL hd ⟨v33, v34, v35, v36, v8, v9, g8, g9, rfl, HR⟩ K hK
      have e0 := HR.out.f0 (hd ⟨0, .data⟩ (by simp) rfl)
      subst e0
      clear hd
      go_simp
      refine (C3 w_ HR.out.b).out.mono ?_
      rintro e w7 ⟨rfl, hb7⟩
      have HR2 := Lib.hid (HR.out.up hb7)
      clear hb7
      try go_simp
      exact hK.out _ _ ⟨_, _, _, _, _, _, g8, g9, rfl, Lib.hid HR2.out.s1⟩
    · rintro L_ a_ w_ hL hd ⟨v33, v34, v35, v36, v8, v9, g8, g9, rfl, HR⟩ K hK
      obtain ⟨q0, q1⟩ := HSX.out w_ HR.out.b
      clear hd q0
      go_simp
      exact hK.out _ _ ⟨_, _, _, _, _, _, g8, g9, rfl, Lib.hid HR.out.s2⟩
    · rintro L_ a_ w_ hL hd ⟨v33, v34, v35, v36, v8, v9, g8, g9, rfl, HR⟩ K hK
      have e0 := HR.out.f2 (hd ⟨2, .data⟩ (by simp) rfl)
      subst e0
      clear hd
      go_simp
      refine (C5 w_ HR.out.b).out.mono ?_
      rintro e w7 ⟨rfl, hb7⟩
      have HR2 := Lib.hid (HR.out.up hb7)
      clear hb7
      try go_simp
      exact hK.out _ _ ⟨_, _, _, _, _, _, g8, g9, rfl, Lib.hid HR2.out.s3⟩
    · rintro L_ a_ w_ hL hd ⟨v33, v34, v35, v36, v8, v9, g8, g9, rfl, HR⟩ K hK
      clear hd
      go_simp
      exact hK.out _ _ ⟨_, _, _, _, _, _, w_.heap.size, g9, rfl, Lib.hid (HR.out.s4 hL)⟩
    · rintro L_ a_ w_ hL hd ⟨v33, v34, v35, v36, v8, v9, g8, g9, rfl, HR⟩ K hK
      clear hd
      go_simp
      exact hK.out _ _ ⟨_, _, _, _, _, _, g8, w_.heap.size, rfl, Lib.hid (HR.out.s5 hL)⟩
    · rintro L_ a_ w_ hL hd ⟨v33, v34, v35, v36, v8, v9, g8, g9, rfl, HR⟩ K hK
      have q4 : L_ 4 = true := hd ⟨4, .data⟩ (by simp) rfl
      have q1 : L_ 1 = true := hd ⟨1, .data⟩ (by simp) rfl
      obtain ⟨e1, e2, e3⟩ := HR.out.f4 q4
      have e4 := HR.out.f1 q1
      subst e1 e4
      have HZ := Lib.hid e3
      have z0 := (HZ.out).c 0
      have z1 := (HZ.out).c 1
      have z2 := (HZ.out).c 2
      have z3 := (HZ.out).c 3
      have z4 := (HZ.out).c 4
      have z5 := (HZ.out).c 5
      have z6 := (HZ.out).c 6
      have z7 := (HZ.out).c 7
      have z8 := (HZ.out).c 8
      have z9 := (HZ.out).c 9
      simp at z0 z1 z2 z3 z4 z5 z6 z7 z8 z9
      have hfz := fun o => HZ.out.f o
      have hlr := HZ.out.lt
      clear e2 e3 hd
      go_simp
      change K _ (ten w_ g8 t1)
      exact hK.out _ _ ⟨_, _, _, _, _, _, g8, g9, rfl, Lib.hid (HR.out.s6 q4)⟩
    · rintro L_ a_ w_ hL hd ⟨v33, v34, v35, v36, v8, v9, g8, g9, rfl, HR⟩ K hK
      have q4 : L_ 5 = true := hd ⟨5, .data⟩ (by simp) rfl
      have q1 : L_ 3 = true := hd ⟨3, .data⟩ (by simp) rfl
      obtain ⟨e1, e2, e3⟩ := HR.out.f5 q4
      have e4 := HR.out.f3 q1
      subst e1 e4
      have HZ := Lib.hid e3
      have z0 := (HZ.out).c 0
      have z1 := (HZ.out).c 1
      have z2 := (HZ.out).c 2
      have z3 := (HZ.out).c 3
      have z4 := (HZ.out).c 4
      have z5 := (HZ.out).c 5
      have z6 := (HZ.out).c 6
      have z7 := (HZ.out).c 7
      have z8 := (HZ.out).c 8
      have z9 := (HZ.out).c 9
      simp at z0 z1 z2 z3 z4 z5 z6 z7 z8 z9
      have hfz := fun o => HZ.out.f o
      have hlr := HZ.out.lt
      clear e2 e3 hd
      go_simp
      change K _ (ten w_ g9 t2)
      exact hK.out _ _ ⟨_, _, _, _, _, _, g8, g9, rfl, Lib.hid (HR.out.s7 q4)⟩
    · rintro L_ a_ w_ hall ⟨v33, v34, v35, v36, v8, v9, g8, g9, rfl, HR⟩
      obtain ⟨e1, e2, e3⟩ := HR.out.f4 (hall 4 (by simp))
      obtain ⟨e4, e5, e6⟩ := HR.out.f5 (hall 5 (by simp))
      have hn := HR.out.ne (hall 4 (by simp)) (hall 5 (by simp))
      rw [hall 6 (by simp)] at e3
      rw [hall 7 (by simp)] at e6
      subst e1 e4
      have HT := Lib.hid (show Two W w_ g8 g9 t1 t2 from ⟨HR.out.b, e3, e6, e2, e5, hn⟩)
      clear e2 e3 e5 e6 hn hall
      dsimp only [Exit.then]
      go_step
      go_meet
      exact ⟨_, g8, g9, rfl, rfl, rfl, HT⟩
  case rest =>
    obtain ⟨W8, g8, g9, rfl, rfl, rfl, HT⟩ := hcut
    have HY8 := Lib.hid (HY6.out.keep HT.out.b)
    have x2 := HY8.out.c 2
    simp at x2
    have HLL := Lib.hid HE.out.l.1
    go_wp2
    go_loopw [11, 40] (fun s11 i w' => ∃ (j : Nat) (wz : World), j ≤ m ∧ i = .int .i64 (j : Int) ∧ wz = w' ∧ Hid (Two W wz g8 g9 (tw (upto 292194) (mkL es) (ls.take j)) t2)) (fun _ i _ => m - (intOf i).toNat)
    case atStart => exact ⟨0, _, Nat.zero_le _, rfl, rfl, Lib.hid (by rw [List.take_zero, tw_nil, HT1.out]; exact HT.out)⟩
    case round =>
      obtain ⟨j, wz, hj, rfl, rfl, HZ⟩ := hrel
      have HBz := Lib.hid (HB6.out.trans (HZ.out.b.mono HB6.out.size))
      by_cases hlt : j < m
      · obtain ⟨ad, x, y, rfl, hb, hx, hc0, hc1⟩ := (HE.out.l.below HBz.out).get hlt
        have hfm := fm_lines ((rgt_iff _).1 HRG.out.1).1 (x, y) (List.mem_iff_getElem?.2 ⟨j, hx⟩)
        simp only at hfm
        obtain ⟨q, rfl⟩ : ∃ q : Nat, x = (q : Int) := ⟨x.toNat, by omega⟩
        obtain ⟨q1, q2⟩ : 1 ≤ q ∧ q ≤ 9 := by omega
        have HTK := Lib.hid (take_more hx)
        have hlt2 : (j : Int) < (m : Int) := by omega
        have hxl : ad.block < wz.heap.size := hb
        obtain ⟨tj, htj⟩ : ∃ t, tw (upto 292194) (mkL es) (ls.take j) = t := ⟨_, rfl⟩
        rw [htj] at HZ
        obtain ⟨u, hu⟩ : ∃ u, wrap64 (tj q + y) = u := ⟨_, rfl⟩
        have HN := Lib.hid (show (ar tj).setIfInBounds q (.int .i64 u) = ar (tw (upto 292194) (mkL es) (ls.take (j + 1))) by rw [HTK.out, ← hu, ← htj]; exact tw_snoc _ _ _ q y q1 q2)
        obtain ⟨v, hv⟩ : ∃ v, tj q = v := ⟨_, rfl⟩
        have eu : IntKind.i64.wrap (v + y) = u := by rw [IntWalk.i64_left, ← hv]; exact hu
        have HX9 := Lib.hid (HZ.out.x.alloc (.cells #[.int .i64 (q : Int), .int .i64 y] 52))
        have HV9 := Lib.hid (Bx.new wz 52 #[.int .i64 (q : Int), .int .i64 y])
        have zc : wz.cell? ⟨g8, q, none⟩ = some (.int .i64 v) := by rw [HZ.out.x.c q, ar_get tj q q2, hv]
        have zf := HZ.out.x.f q
        have zl := HZ.out.x.lt
        have i1 : (0 : Int) ≤ (q : Int) := by omega
        have i2 : (q : Int) < 10 := by omega
        have i3 : q < 10 := by omega
        have HHV := Lib.hid hv
        clear hx hb hfm htj hu hv q1
        go_wp2
        obtain ⟨wy, hwy⟩ : ∃ wy, wz.alloc (.cells #[.int .i64 (q : Int), .int .i64 y] 52) = wy := ⟨_, rfl⟩
        obtain ⟨bl, hbl⟩ : ∃ bl, wz.heap.size = bl := ⟨_, rfl⟩
        have HBy := Lib.hid (HZ.out.b.alloc HZ.out.b.size (.cells #[.int .i64 (q : Int), .int .i64 y] 52))
        have HYy := Lib.hid (HZ.out.y.alloc (.cells #[.int .i64 (q : Int), .int .i64 y] 52))
        rw [hwy, hbl] at HV9
        rw [hwy] at HX9 HBy HYy
        rw [hwy, hbl]
        clear zc zf zl hc0 hc1 hwy hbl hxl
        have zc : wy.cell? ⟨g8, q, none⟩ = some (.int .i64 v) := by rw [HX9.out.c q, ar_get tj q q2, HHV.out]
        have zf := HX9.out.f q
        have zl := HX9.out.lt
        have y0 := HV9.out.c 0
        have y1 := HV9.out.c 1
        simp at y0 y1
        go_still_tail 8, (by kernel_rfl)
        go_wp2
        go_roundw
        case rel =>
          refine ⟨j + 1, _, by omega, by go_num, rfl, Lib.hid (Two.drew ⟨HBy.out.setCell (p := ⟨g8, q, none⟩) HZ.out.lx _, ?_, HYy.out.far (a := ⟨g8, q, none⟩) (fun e => HZ.out.ne e.symm) _, HZ.out.lx, HZ.out.ly, HZ.out.ne⟩)⟩
          have := HX9.out.set q (.int .i64 u)
          rw [HN.out] at this
          exact this
        case measure => clear eu; simp [intOf]; omega
      · have et : tw (upto 292194) (mkL es) (ls.take j) = t2 := by
          rw [List.take_of_length_le (by rw [HLL.out]; omega)]
          rw [← HT2.out]
          have hday : upto 292194 (⟨d, f, ls⟩ : En).day = true := by
            have h := (hdB_iff _).1 (fm_hd ((rgt_iff _).1 HRG.out.1).1)
            unfold upto
            exact decide_eq_true h.2.1
          exact tw_all _ _ (⟨d, f, ls⟩ : En) hday
        rw [et] at HZ
        clear et
        go_wp2_with fail
        refine (alive_ _).mono ?_
        rintro e w9 ⟨rfl, hb9⟩
        have HX9 := Lib.hid (HZ.out.x.keep hb9)
        have HY9 := Lib.hid (HZ.out.y.keep hb9)
        have HB9 := Lib.hid (HBz.out.trans (hb9.mono HBz.out.size))
        clear hb9 x2
        have y0 := HX9.out.c 0
        have z0 := HY9.out.c 0
        have y1 := HX9.out.c 1
        have z1 := HY9.out.c 1
        have y2 := HX9.out.c 2
        have z2 := HY9.out.c 2
        have y3 := HX9.out.c 3
        have z3 := HY9.out.c 3
        have y4 := HX9.out.c 4
        have z4 := HY9.out.c 4
        have y5 := HX9.out.c 5
        have z5 := HY9.out.c 5
        have y6 := HX9.out.c 6
        have z6 := HY9.out.c 6
        have y7 := HX9.out.c 7
        have z7 := HY9.out.c 7
        have y8 := HX9.out.c 8
        have z8 := HY9.out.c 8
        have y9 := HX9.out.c 9
        have z9 := HY9.out.c 9
        simp at y0 z0 y1 z1 y2 z2 y3 z3 y4 z4 y5 z5 y6 z6 y7 z7 y8 z8 y9 z9
        have qe := ten_same
        go_wp2
        go_ret
        exact ⟨rfl, HB9.out⟩

set_option maxRecDepth 100000 in
theorem lifted (os : Os) (started : os.Started) (H : Type) (enc : TypeId × Value → H) :
    ReturnsInHanded {} Try.checked os 9 .any (Rows.postWholeSpec.pre6 enc Try.prog Try.f9 Rows.postWholeRow.domain false) (Rows.postWholeSpec.post enc Try.prog Try.f9 false true false false) := by
  refine returnsInHanded_of_change (C := Try.checked) Pst.own started (by kernel_rfl) Try.func9
    (ChangeSpec.witness6 (enc := enc) (C := Try.checked) false ⟨#[], #[.slice none 0 0, .agg #[.int .i64 0, .int .i64 0, .slice none 0 0]], []⟩ 8 (by kernel_rfl) (by kernel_rfl) (by kernel_rfl) (by kernel_rfl)) ?_
  intro W base args ds gs before hval0 hW hcnd _
  have hval : ∀ (j : Nat) t v, Try.f9.params[j]? = some t → args[j]? = some v → Value.okWide Try.prog W .any base t v := hval0
  have hW' := hW
  obtain ⟨p, q, hA0, hV, rfl, hfz, hnd⟩ := hW
  have hA : DataW.TrodAll enc Try.prog W 0 (fun _ => true) true Try.f9.params.toList args.toList ds p := hA0
  rw [Try.params9] at hA hval
  obtain ⟨v0, vs0, d0, ds0, p0, q0, hargs, rfl, rfl, h0, r0⟩ := trodAll_cons hA
  obtain ⟨v1, vs1, d1, ds1, p1, q1, rfl, rfl, rfl, h1, r1⟩ := trodAll_cons r0
  obtain ⟨rfl, rfl, rfl⟩ := trodAll_nil r1
  obtain rfl : args = #[v0, v1] := by cases args; simp_all
  obtain ⟨rfl, rfl⟩ := trodVars_none hV
  have k0 := h0
  have lt0 : ∀ x ∈ p0, x.block < W.heap.size := by obtain ⟨m, hm⟩ := k0; exact DataW.trod_lt m _ _ _ hm
  obtain ⟨A0, n0, c0, xs0, rfl, g0⟩ := Pst.open_list (hval 0 27 v0 rfl rfl) h0
  have k1 := h1
  have lt1 : ∀ x ∈ p1, x.block < W.heap.size := by obtain ⟨m, hm⟩ := k1; exact DataW.trod_lt m _ _ _ hm
  obtain ⟨dd1, ff1, A1, n1, c1, xs1, rfl, g1⟩ := Pst.open_entry (hval 1 24 v1 rfl rfl) h1
  clear hA0 hval0
  refine (walk A0 n0 c0 xs0 g0 dd1 ff1 A1 n1 c1 xs1 g1).mono fun e W' ⟨he, bel⟩ => ?_
  subst he
  exact ⟨_, rfl, _, _, _, [], _, [], hW', trodAll_mk1 (shut_bool Try.underlying4 _), (trodAll_cons_mk (Below.trod Pst.laidOut (by kernel_rfl) (of_decide_eq_true (by kernel_rfl)) k0 bel lt0) (trodAll_cons_mk (Below.trod Pst.laidOut (by kernel_rfl) (of_decide_eq_true (by kernel_rfl)) k1 bel lt1) trodAll_mk0)), rfl, bel.frame _, fun h => by cases h⟩

theorem over : Rows.postWholeRow.holds Try.pinned (OpenSpec.ofChange Rows.postWholeSpec) :=
  OpenClaim.holds_of_wide 9 Try.f9 rfl rfl rfl rfl rfl rfl rfl ⟨rfl, rfl, rfl, rfl, rfl⟩ rfl rfl rfl rfl rfl (by kernel_rfl) Try.func9 (by kernel_rfl)
    (of_decide_eq_true (by kernel_rfl)) (by unfold Func.isWrapper; first | (rw [if_pos (by decide +kernel)]; kernel_rfl) | (rw [if_neg (by decide +kernel)]; exact ⟨rfl, rfl⟩))
    (fun os started H enc _ => lifted os started H enc)

theorem proved : Rows.PostWholeSaid := over
end Go.Proofs.Ytheamhjgohacdaa.postWhole
