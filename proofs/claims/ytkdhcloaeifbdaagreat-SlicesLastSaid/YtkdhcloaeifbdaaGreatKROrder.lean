/-
  The document's Order of changes. Conditions: those of each theorem.
-/
import Derived.Test.YtkdhcloaeifbdaaGreatKOrder
import Derived.BigQuiet
import Derived.Test.YtkdhcloaeifbdaaGreatKInv
namespace Go.Proofs.YtkdhcloaeifbdaaGreat
open Go.RowKit Ba Cv Sp Te Ag
namespace Tm
set_option linter.unusedVariables false

/-- Two rows in order, merged so far: what is out, what is left of both. -/
structure MI (key : Int → Int) (a b : List Int) (i j : Nat) (o : List Int) : Prop where
  p : List.Perm o (a.take i ++ b.take j)
  s : St.Srt key o
  l : ∀ x ∈ o, ∀ y ∈ a.drop i, St.lt key x y
  r : ∀ x ∈ o, ∀ y ∈ b.drop j, St.lt key x y
section
variable {key : Int → Int} {a b o : List Int} {i j : Nat} {x y : Int}
theorem MI.start (key : Int → Int) (a b : List Int) : MI key a b 0 0 [] := ⟨by simp, List.Pairwise.nil, (fun x h => by cases h), fun x h => by cases h⟩
theorem srt_head {xs : List Int} {k : Nat} (h : St.Srt key xs) (hx : xs[k]? = some x) : ∀ y ∈ xs.drop (k + 1), St.lt key x y := by
  have hl := (List.getElem?_eq_some_iff.1 hx).1
  have h2 : St.Srt key (xs.drop k) := St.srt_sub h (List.drop_sublist _ _)
  rw [List.drop_eq_getElem_cons hl, show xs[k] = x by have := List.getElem?_eq_getElem hl; rw [hx] at this; injection this with this; exact this.symm] at h2
  exact (List.pairwise_cons.1 h2).1
theorem drop_head {xs : List Int} {k : Nat} (hx : xs[k]? = some x) : xs.drop k = x :: xs.drop (k + 1) := by
  have hl := (List.getElem?_eq_some_iff.1 hx).1
  rw [List.drop_eq_getElem_cons hl, show xs[k] = x by have := List.getElem?_eq_getElem hl; rw [hx] at this; injection this with this; exact this.symm]
theorem srt_snoc (hs : St.Srt key o) (h : ∀ z ∈ o, St.lt key z x) : St.Srt key (o ++ [x]) := by
  refine List.pairwise_append.2 ⟨hs, List.pairwise_singleton _ _, fun u hu v hv => ?_⟩
  simp at hv
  subst hv
  exact h u hu
theorem MI.left (H : MI key a b i j o) (ha : St.Srt key a) (hx : a[i]? = some x) (hr : ∀ y ∈ b.drop j, St.lt key x y) : MI key a b (i + 1) j (o ++ [x]) := by
  have hox : ∀ z ∈ o, St.lt key z x := fun z hz => H.l z hz x (by rw [drop_head hx]; simp)
  refine ⟨?_, srt_snoc H.s hox, ?_, ?_⟩
  · rw [take_get hx]
    refine (H.p.append_right [x]).trans ?_
    rw [List.append_assoc, List.append_assoc]
    exact (List.perm_append_comm (l₁ := b.take j) (l₂ := [x])).append_left _
  · intro z hz y hy
    rcases List.mem_append.1 hz with hz | hz
    · exact H.l z hz y (by rw [drop_head hx]; exact List.mem_cons_of_mem _ hy)
    · simp at hz; subst hz; exact srt_head ha hx y hy
  · intro z hz y hy
    rcases List.mem_append.1 hz with hz | hz
    · exact H.r z hz y hy
    · simp at hz; subst hz; exact hr y hy
theorem MI.right (H : MI key a b i j o) (hb : St.Srt key b) (hy : b[j]? = some y) (hl : ∀ x ∈ a.drop i, St.lt key y x) : MI key a b i (j + 1) (o ++ [y]) := by
  have hoy : ∀ z ∈ o, St.lt key z y := fun z hz => H.r z hz y (by rw [drop_head hy]; simp)
  refine ⟨?_, srt_snoc H.s hoy, ?_, ?_⟩
  · rw [take_get hy, ← List.append_assoc]
    exact H.p.append_right [y]
  · intro z hz x hx
    rcases List.mem_append.1 hz with hz | hz
    · exact H.l z hz x hx
    · simp at hz; subst hz; exact hl x hx
  · intro z hz x hx
    rcases List.mem_append.1 hz with hz | hz
    · exact H.r z hz x (by rw [drop_head hy]; exact List.mem_cons_of_mem _ hx)
    · simp at hz; subst hz; exact srt_head hb hy x hx
theorem MI.done (H : MI key a b i j o) (hi : a.length ≤ i) (hj : b.length ≤ j) : St.Good key o (a ++ b) := by
  have := H.p
  rw [List.take_of_length_le hi, List.take_of_length_le hj] at this
  exact ⟨this, H.s⟩
theorem lt_rest {xs : List Int} {k : Nat} (hs : St.Srt key xs) (hy : xs[k]? = some y) (h : St.lt key x y) : ∀ z ∈ xs.drop k, St.lt key x z := by
  intro z hz
  rw [drop_head hy] at hz
  rcases List.mem_cons.1 hz with rfl | hz
  · exact h
  · exact St.lt_trans h (srt_head hs hy z hz)
end
/-- A row of places, in order by a key, of these. -/
def OrdR (key : Int → Int) (D : List Int) (n : Nat) (w : World) (v : Value) : Prop := ∃ A c o, v = .slice A n c ∧ Ins w (· < w.heap.size) A n o ∧ St.Good key o D
theorem OrdR.below {key : Int → Int} {D : List Int} {n : Nat} {w w' : World} {v : Value} (h : OrdR key D n w v) (hb : Below w.heap.size w w') : OrdR key D n w' v := by
  obtain ⟨A, c, o, e, hi, hg⟩ := h
  exact ⟨A, c, o, e, hi.below hb, hg⟩
/-- What order, merge and Order tell. -/
def OrdG (key : Int → Int) (D : List Int) (n : Nat) (w : World) (e : Ending) (w' : World) : Prop := ∃ v, e = .returned v ∧ OrdR key D n w' v ∧ Below w.heap.size w w'
theorem OrdTo.g {w : World} {hs : List Ch} {m : Nat} {e : Ending} {w' : World} (h : OrdTo w hs m e w') : OrdG (key hs) (plc hs.length) m w e w' := by
  obtain ⟨A, c, o, e, hi, hg, hb, _⟩ := h
  exact ⟨_, e, ⟨A, c, o, rfl, hi.keep (fun _ _ => rfl) (fun b hb => hb.2), hg⟩, hb⟩
/-- The history's box, and the row so far. -/
structure MS (w W : World) (h : Hr) (A : Option Addr) (k c : Nat) (o : List Int) : Prop where
  x : HX w W h
  o : IOwn W (w.heap.size + 1) A k c o
theorem MS.grow {w W w4 : World} {h : Hr} {A A4 : Option Addr} {k c c4 k4 : Nat} {o o4 : List Int} {x : Int} (H : MS w W h A k c o) (hO : IOwn w4 (w.heap.size + 1) A4 k4 c4 o4)
    (hg : (W.alloc (.cells #[.int .i64 x] 3)).grownBy w4 (Value.slice A k c).ownBlock) : MS w w4 h A4 k4 c4 o4 := by
  have ha := H.x.next (alloc_ W (.cells #[.int .i64 x] 3))
  have hlo : ∀ g, (Value.slice A k c).ownBlock = some g → w.heap.size + 1 ≤ g := fun g hg => (H.o.lt g hg).1
  have hsa : (W.alloc (.cells #[.int .i64 x] 3)).heap.size = W.heap.size + 1 := World.size_alloc _ _
  have hlt := H.x.x.lt
  refine ⟨⟨(ha.b).grown hg ha.b.size fun j hj => by have := hlo j hj; omega, ?_⟩, hO⟩
  exact (hg.block w.heap.size (by omega) fun e => by have := hlo _ e.symm; omega).trans ha.x

set_option maxRecDepth 100000 in
set_option maxHeartbeats 8000000 in
theorem merge_ (h : Hr) (A1 A2 : Option Addr) (n1 n2 c1 c2 : Nat) (a b : List Int) (w : World) (M : HM w (· < w.heap.size) h) (hm : h.m ≤ 2001) (Ia : Ins w (· < w.heap.size) A1 n1 a) (Ib : Ins w (· < w.heap.size) A2 n2 b)
    (sa : St.Srt (key h.v.hs) a) (sb : St.Srt (key h.v.hs) b) (da : ∀ x ∈ a, 0 ≤ x ∧ x < h.m) (db : ∀ x ∈ b, 0 ≤ x ∧ x < h.m) (dd : ∀ x ∈ a, ∀ y ∈ b, x < y) (hn1 : n1 ≤ 2001) (hn2 : n2 ≤ 2001) :
    Calls Tryz.prog 97 #[hg h, .slice A1 n1 c1, .slice A2 n2 c2] w (OrdG (key h.v.hs) (a ++ b) (n1 + n2) w) := by
  have H0 := Lib.hid (show MS w (w.alloc (.cells (hc h) 31)) h none 0 0 [] from ⟨HX.start w h, IOwn.nil⟩)
  have HM0 := Lib.hid M
  have HIa := Lib.hid Ia
  have HIb := Lib.hid Ib
  have HD := Lib.hid (And.intro da (And.intro db dd))
  have HSo := Lib.hid (And.intro sa sb)
  have la := Ia.1
  have lb := Ib.1
  have HL := Lib.hid (And.intro la lb)
  clear M Ia Ib sa sb da db dd la lb
  go_enter Tryz.func97, Tryz.ntmps97
  go_wp2
  go_loopw [7, 8, 9] (fun vs vi vj w' => ∃ (i j : Nat) (A : Option Addr) (c : Nat) (o : List Int) (W : World), i ≤ n1 ∧ j ≤ n2 ∧ vs = .slice A (i + j) c ∧ vi = .int .i64 (i : Int) ∧ vj = .int .i64 (j : Int) ∧ W = w' ∧ Hid (MS w W h A (i + j) c o) ∧ Hid (MI (key h.v.hs) a b i j o)) (fun _ vi vj _ => n1 + n2 - ((intOf vi).toNat + (intOf vj).toNat))
  case atStart => exact ⟨0, 0, none, 0, [], _, Nat.zero_le _, Nat.zero_le _, rfl, rfl, rfl, rfl, H0, Lib.hid (MI.start _ _ _)⟩
  case round =>
    clear H0
    obtain ⟨i, j, A, c, o, W, hi, hj, rfl, rfl, rfl, rfl, HK, HMI⟩ := hrel
    have hsz := HK.out.x.x.lt
    have HB0 := Lib.hid HK.out.x.b
    by_cases h1 : i < n1
    · obtain ⟨ad1, x, rfl, hb1, hx, k1⟩ := (HIa.out.below HB0.out).get h1
      have dx := HD.out.1 x (List.mem_of_getElem? hx)
      have KL := fun {w2 : World} (b : Below W.heap.size W w2) => (b.cell (p := ad1.add i) (by rw [add_block]; exact hb1)).trans k1
      have t1 : decide ((i : Int) < (n1 : Int)) = true := decide_eq_true (by omega)
      have t1' : decide (i < n1) = true := decide_eq_true (by omega)
      by_cases h2 : j < n2
      · obtain ⟨ad2, y, rfl, hb2, hy, k2⟩ := (HIb.out.below HB0.out).get h2
        have dy := HD.out.2.1 y (List.mem_of_getElem? hy)
        have KR := fun {w2 : World} (b : Below W.heap.size W w2) => (b.cell (p := ad2.add j) (by rw [add_block]; exact hb2)).trans k2
        have dxy := HD.out.2.2 x (List.mem_of_getElem? hx) y (List.mem_of_getElem? hy)
        have t2 : decide ((j : Int) < (n2 : Int)) = true := decide_eq_true (by omega)
        have t2' : decide (j < n2) = true := decide_eq_true (by omega)
        have t3 : decide ((j : Int) = (n2 : Int)) = false := decide_eq_false (by omega)
        have t3' : decide (j = n2) = false := decide_eq_false (by omega)
        have t3b : ((j : Int) == (n2 : Int)) = false := by simp; omega
        have t3c : (j == n2) = false := by simp; omega
        obtain ⟨q1, e1⟩ : ∃ q1, x.toNat = q1 := ⟨_, rfl⟩
        obtain ⟨q2, e2⟩ : ∃ q2, y.toNat = q2 := ⟨_, rfl⟩
        have MW := HM0.out.below HB0.out
        obtain ⟨ad, r1, hB, hb, _, m1, _, v1⟩ := MW.get (k := q1) (by omega)
        obtain ⟨ad', r2, hB', _, _, m2, _, v2⟩ := MW.get (k := q2) (by omega)
        rw [hB] at hB'
        injection hB' with hB'
        subst hB'
        have kx := key_at v1 e1
        have ky := key_at v2 e2
        have x9 : ∀ p : Ext W, p.W.cell? ⟨w.heap.size, 9, none⟩ = some (.slice (some ad) h.m h.d) := fun p => by have := HK.out.x.x.ext p 9; rw [this]; simp [hB]
        have u1 : ∀ p : Ext W, p.W.cell? (ad1.add i) = some (.int .i64 x) := fun p => (p.b.cell (by rw [add_block]; exact hb1)).trans k1
        have u2 : ∀ p : Ext W, p.W.cell? (ad2.add j) = some (.int .i64 y) := fun p => (p.b.cell (by rw [add_block]; exact hb2)).trans k2
        have d1 : ∀ p : Ext W, p.W.cell? ⟨(ad.add (q1 * 9)).block, (ad.add (q1 * 9)).off + 1, none⟩ = some (.int .i64 r1.v.dy) := fun p => (m1.keep fun a ha => p.b.cell (by rw [ha, add_block]; exact hb)).c1
        have d2 : ∀ p : Ext W, p.W.cell? ⟨(ad.add (q2 * 9)).block, (ad.add (q2 * 9)).off + 1, none⟩ = some (.int .i64 r2.v.dy) := fun p => (m2.keep fun a ha => p.b.cell (by rw [ha, add_block]; exact hb)).c1
        have x1 := dx.1
        have x2 := dx.2
        have x3 : IntKind.i64.wrap x = x := (IntWalk.i64_left _).trans (IntWalk.wrap64_in _ ⟨by omega, by omega⟩)
        have y1 := dy.1
        have y2 := dy.2
        have y3 : IntKind.i64.wrap y = y := (IntWalk.i64_left _).trans (IntWalk.wrap64_in _ ⟨by omega, by omega⟩)
        have ne : Nonempty (Ext W) := ⟨⟨W, Below.refl _ _⟩⟩
        have HKX := Lib.hid (And.intro hx hy)
        obtain ⟨da, hda⟩ : ∃ da, r1.v.dy = da := ⟨_, rfl⟩
        obtain ⟨db, hdb⟩ : ∃ db, r2.v.dy = db := ⟨_, rfl⟩
        rw [hda] at d1 kx
        rw [hdb] at d2 ky
        have HKK := Lib.hid (And.intro kx ky)
        have HXY := Lib.hid dxy
        clear hx hy MW hB hb m1 m2 v1 v2 hda hdb kx ky dxy dx dy k1 k2 hb1 hb2
        by_cases h3 : da ≤ db
        · have t4 : decide (da ≤ db) = true := decide_eq_true h3
          have HI := Lib.hid (HMI.out.left HSo.out.1 HKX.out.1 (lt_rest HSo.out.2 HKX.out.2 (by have h4 := HKK.out.1; have h5 := HKK.out.2; have h6 := HXY.out; show key h.v.hs x < key h.v.hs y ∨ (key h.v.hs x = key h.v.hs y ∧ x < y); omega)))
          clear h3
          go_wp2_with fail
          refine quietE (by kernel_rfl) (by kernel_rfl) ?_
          repeat (first | go_big_quiet_skip | quiet_step (fail))
          refine wpQuiet_nil ?_
          rintro _ ⟨p, rfl⟩
          have HK := Lib.hid (show MS w p.W h A (i + j) c o from ⟨HK.out.x.next p.b, HK.out.o.below p.b⟩)
          have hsz := HK.out.x.x.lt
          have kk : p.W.cell? (ad1.add i) = some (.int .i64 x) := KL p.b
          generalize p.W = W at HK hsz kk ⊢
          go_wp2_with (at_builtin; refine wpList_app_i _ rfl _ _ rfl (w.heap.size + 1) A (i + j) c o rfl (HK.out.o.below (alloc_ _ _)) (· = W.heap.size) (some ⟨W.heap.size, 0, none⟩) 1 1 [x] rfl (ins_one (Bx.new W 3 #[.int .i64 x])) (fun e => by cases e) (i + 1 + j) (by omega) (by omega) (by simp; omega) ?_; intro A4 c4 w4 hO4 hg4; have HN := Lib.hid (HK.out.grow hO4 hg4); clear hO4 hg4)
          go_roundw
          case rel => exact ⟨i + 1, j, A4, c4, _, w4, by omega, by omega, rfl, by go_num, rfl, rfl, HN, HI⟩
          case measure => simp [intOf]; omega
        · have t4 : decide (da ≤ db) = false := decide_eq_false h3
          have HI := Lib.hid (HMI.out.right HSo.out.2 HKX.out.2 (lt_rest HSo.out.1 HKX.out.1 (by have h4 := HKK.out.1; have h5 := HKK.out.2; have h6 := HXY.out; show key h.v.hs y < key h.v.hs x ∨ (key h.v.hs y = key h.v.hs x ∧ y < x); omega)))
          clear h3
          go_wp2_with fail
          refine quietE (by kernel_rfl) (by kernel_rfl) ?_
          repeat (first | go_big_quiet_skip | quiet_step (fail))
          refine wpQuiet_nil ?_
          rintro _ ⟨p, rfl⟩
          have HK := Lib.hid (show MS w p.W h A (i + j) c o from ⟨HK.out.x.next p.b, HK.out.o.below p.b⟩)
          have hsz := HK.out.x.x.lt
          have kk : p.W.cell? (ad2.add j) = some (.int .i64 y) := KR p.b
          generalize p.W = W at HK hsz kk ⊢
          go_wp2_with (at_builtin; refine wpList_app_i _ rfl _ _ rfl (w.heap.size + 1) A (i + j) c o rfl (HK.out.o.below (alloc_ _ _)) (· = W.heap.size) (some ⟨W.heap.size, 0, none⟩) 1 1 [y] rfl (ins_one (Bx.new W 3 #[.int .i64 y])) (fun e => by cases e) (i + (j + 1)) (by omega) (by omega) (by simp; omega) ?_; intro A4 c4 w4 hO4 hg4; have HN := Lib.hid (HK.out.grow hO4 hg4); clear hO4 hg4)
          go_roundw
          case rel => exact ⟨i, j + 1, A4, c4, _, w4, by omega, by omega, rfl, rfl, by go_num, rfl, HN, HI⟩
          case measure => simp [intOf]; omega
      · -- the second row is through
        have t2 : decide ((j : Int) < (n2 : Int)) = false := decide_eq_false (by omega)
        have t2' : decide (j < n2) = false := decide_eq_false (by omega)
        have t3 : decide ((j : Int) = (n2 : Int)) = true := decide_eq_true (by omega)
        have t3' : decide (j = n2) = true := decide_eq_true (by omega)
        have t3b : ((j : Int) == (n2 : Int)) = true := by simp; omega
        have t3c : (j == n2) = true := by simp; omega
        have ne : Nonempty (Ext W) := ⟨⟨W, Below.refl _ _⟩⟩
        have HI := Lib.hid (HMI.out.left HSo.out.1 hx (fun y hy => by rw [List.drop_of_length_le (by have := HL.out.2; omega)] at hy; cases hy))
        have x1 := dx.1
        have x2 := dx.2
        clear hx dx hb1
        go_wp2_with fail
        refine quietE (by kernel_rfl) (by kernel_rfl) ?_
        repeat (first | go_big_quiet_skip | quiet_step (fail))
        refine wpQuiet_nil ?_
        rintro _ ⟨p, rfl⟩
        have HK := Lib.hid (show MS w p.W h A (i + j) c o from ⟨HK.out.x.next p.b, HK.out.o.below p.b⟩)
        have hsz := HK.out.x.x.lt
        have kk : p.W.cell? (ad1.add i) = some (.int .i64 x) := KL p.b
        generalize p.W = W at HK hsz kk ⊢
        go_wp2_with (at_builtin; refine wpList_app_i _ rfl _ _ rfl (w.heap.size + 1) A (i + j) c o rfl (HK.out.o.below (alloc_ _ _)) (· = W.heap.size) (some ⟨W.heap.size, 0, none⟩) 1 1 [x] rfl (ins_one (Bx.new W 3 #[.int .i64 x])) (fun e => by cases e) (i + 1 + j) (by omega) (by omega) (by simp; omega) ?_; intro A4 c4 w4 hO4 hg4; have HN := Lib.hid (HK.out.grow hO4 hg4); clear hO4 hg4)
        go_roundw
        case rel => exact ⟨i + 1, j, A4, c4, _, w4, by omega, by omega, rfl, by go_num, rfl, rfl, HN, HI⟩
        case measure => simp [intOf]; omega
    · by_cases h2 : j < n2
      · obtain ⟨ad2, y, rfl, hb2, hy, k2⟩ := (HIb.out.below HB0.out).get h2
        have dy := HD.out.2.1 y (List.mem_of_getElem? hy)
        have KR := fun {w2 : World} (b : Below W.heap.size W w2) => (b.cell (p := ad2.add j) (by rw [add_block]; exact hb2)).trans k2
        have t1 : decide ((i : Int) < (n1 : Int)) = false := decide_eq_false (by omega)
        have t1' : decide (i < n1) = false := decide_eq_false (by omega)
        have t2 : decide ((j : Int) < (n2 : Int)) = true := decide_eq_true (by omega)
        have t2' : decide (j < n2) = true := decide_eq_true (by omega)
        have t3 : decide ((j : Int) = (n2 : Int)) = false := decide_eq_false (by omega)
        have t3' : decide (j = n2) = false := decide_eq_false (by omega)
        have t3b : ((j : Int) == (n2 : Int)) = false := by simp; omega
        have t3c : (j == n2) = false := by simp; omega
        have ne : Nonempty (Ext W) := ⟨⟨W, Below.refl _ _⟩⟩
        have HI := Lib.hid (HMI.out.right HSo.out.2 hy (fun x hx => by rw [List.drop_of_length_le (by have := HL.out.1; omega)] at hx; cases hx))
        have y1 := dy.1
        have y2 := dy.2
        clear hy dy hb2
        go_wp2_with fail
        refine quietE (by kernel_rfl) (by kernel_rfl) ?_
        repeat (first | go_big_quiet_skip | quiet_step (fail))
        refine wpQuiet_nil ?_
        rintro _ ⟨p, rfl⟩
        have HK := Lib.hid (show MS w p.W h A (i + j) c o from ⟨HK.out.x.next p.b, HK.out.o.below p.b⟩)
        have hsz := HK.out.x.x.lt
        have kk : p.W.cell? (ad2.add j) = some (.int .i64 y) := KR p.b
        generalize p.W = W at HK hsz kk ⊢
        go_wp2_with (at_builtin; refine wpList_app_i _ rfl _ _ rfl (w.heap.size + 1) A (i + j) c o rfl (HK.out.o.below (alloc_ _ _)) (· = W.heap.size) (some ⟨W.heap.size, 0, none⟩) 1 1 [y] rfl (ins_one (Bx.new W 3 #[.int .i64 y])) (fun e => by cases e) (i + (j + 1)) (by omega) (by omega) (by simp; omega) ?_; intro A4 c4 w4 hO4 hg4; have HN := Lib.hid (HK.out.grow hO4 hg4); clear hO4 hg4)
        go_roundw
        case rel => exact ⟨i, j + 1, A4, c4, _, w4, by omega, by omega, rfl, rfl, by go_num, rfl, HN, HI⟩
        case measure => simp [intOf]; omega
      · have HF := Lib.hid (HMI.out.done (by have := HL.out.1; omega) (by have := HL.out.2; omega))
        have hij : i + j = n1 + n2 := by omega
        have t1 : decide ((i : Int) < (n1 : Int)) = false := decide_eq_false (by omega)
        have t1' : decide (i < n1) = false := decide_eq_false (by omega)
        have t2 : decide ((j : Int) < (n2 : Int)) = false := decide_eq_false (by omega)
        have t2' : decide (j < n2) = false := decide_eq_false (by omega)
        rw [hij] at HK ⊢
        go_wp2
        go_ret
        exact ⟨_, rfl, ⟨A, c, o, rfl, HK.out.o.row.keep (fun _ _ => rfl) fun b hb => hb.2, HF.out⟩, HK.out.x.b⟩

end Tm
end Go.Proofs.YtkdhcloaeifbdaaGreat

namespace Go.Proofs.YtkdhcloaeifbdaaGreat
open Go.RowKit Ba Cv Sp Te Ag
namespace Tm
set_option linter.unusedVariables false

/-- The places from one on. -/
def plcs (f n : Nat) : List Int := (List.range n).map fun (i : Nat) => ((f + i : Nat) : Int)
theorem plcs_zero (f : Nat) : plcs f 0 = [] := rfl
theorem plcs_one (f : Nat) : plcs f 1 = [(f : Int)] := by simp [plcs, List.range_succ]
theorem plcs_all (n : Nat) : plcs 0 n = plc n := by simp [plcs, plc]
theorem plcs_mem {f n : Nat} {x : Int} : x ∈ plcs f n ↔ (f : Int) ≤ x ∧ x < (f : Int) + n := by
  simp only [plcs, List.mem_map, List.mem_range]
  constructor
  · rintro ⟨a, h, rfl⟩; omega
  · intro h; exact ⟨(x - f).toNat, by omega, by omega⟩
theorem plcs_split (f a b : Nat) : plcs f (a + b) = plcs f a ++ plcs (f + a) b := by
  simp only [plcs, List.range_add, List.map_append, List.map_map]
  congr 1
  exact List.map_congr_left fun i _ => by simp [Nat.add_assoc]
theorem merge_two (h : Hr) (hm : h.m ≤ 2001) (A1 A2 : Option Addr) (a a2 n f g t c1 c2 : Nat) (o1 o2 : List Int) (w : World) (M : HM w (· < w.heap.size) h) (i1 : Ins w (· < w.heap.size) A1 a o1) (i2 : Ins w (· < w.heap.size) A2 a2 o2)
    (g1 : St.Good (key h.v.hs) o1 (plcs f a)) (g2 : St.Good (key h.v.hs) o2 (plcs g a2)) (e1 : f + a = g) (e2 : g + a2 = t) (e3 : a + a2 = n) (hl : t ≤ h.m) :
    Calls Tryz.prog 97 #[hg h, .slice A1 a c1, .slice A2 a2 c2] w (OrdG (key h.v.hs) (plcs f n) n w) := by
  have m1 := fun x (hx : x ∈ o1) => plcs_mem.1 (g1.mem hx)
  have m2 := fun x (hx : x ∈ o2) => plcs_mem.1 (g2.mem hx)
  refine (merge_ h A1 A2 a a2 c1 c2 o1 o2 w M hm i1 i2 g1.2 g2.2 (fun x hx => by have := m1 x hx; omega) (fun x hx => by have := m2 x hx; omega) (fun x hx y hy => by have := m1 x hx; have := m2 y hy; omega) (by omega) (by omega)).mono ?_
  rintro e w' ⟨v, rfl, ⟨A, c, o, rfl, hi, hgo⟩, hb⟩
  subst e3 e1
  exact ⟨_, rfl, ⟨A, c, o, rfl, hi, hgo.perm (by rw [plcs_split]; exact g1.1.append g2.1)⟩, hb⟩

structure RG (W : World) (h : Hr) (f g t a a2 n : Nat) (L : Nat → Bool) (w' : World) (v22 v23 v24 v25 v26 v27 v28 v29 v30 v31 v6 : Value) : Prop where
  b : Below W.heap.size W w'
  f0 : L 0 = true → v22 = hg h
  f1 : L 1 = true → v23 = hg h
  f2 : L 2 = true → v24 = .int .i64 (f : Int)
  f3 : L 3 = true → v25 = .int .i64 (g : Int)
  f4 : L 4 = true → OrdR (key h.v.hs) (plcs f a) a w' v26
  f5 : L 5 = true → v27 = hg h
  f6 : L 6 = true → v28 = .int .i64 (g : Int)
  f7 : L 7 = true → v29 = .int .i64 (t : Int)
  f8 : L 8 = true → OrdR (key h.v.hs) (plcs g a2) a2 w' v30
  f9 : L 9 = true → OrdR (key h.v.hs) (plcs f n) n w' v31
  f10 : L 10 = true → OrdR (key h.v.hs) (plcs f n) n w' v6
theorem RG.up {W : World} {h : Hr} {f g t a a2 n : Nat} {L : Nat → Bool} {w' w2 : World} {v22 v23 v24 v25 v26 v27 v28 v29 v30 v31 v6 : Value} (H : RG W h f g t a a2 n L w' v22 v23 v24 v25 v26 v27 v28 v29 v30 v31 v6) (hb : Below w'.heap.size w' w2) : RG W h f g t a a2 n L w2 v22 v23 v24 v25 v26 v27 v28 v29 v30 v31 v6 :=
  ⟨H.b.trans (hb.mono H.b.size), H.f0, H.f1, H.f2, H.f3, fun l => (H.f4 l).below hb, H.f5, H.f6, H.f7, fun l => (H.f8 l).below hb, fun l => (H.f9 l).below hb, fun l => (H.f10 l).below hb⟩
theorem RG.s0 {W : World} {h : Hr} {f g t a a2 n : Nat} {L : Nat → Bool} {w' : World} {v22 v23 v24 v25 v26 v27 v28 v29 v30 v31 v6 : Value} (H : RG W h f g t a a2 n L w' v22 v23 v24 v25 v26 v27 v28 v29 v30 v31 v6) {z : Value} (k : z = hg h) : RG W h f g t a a2 n (fun j => j == 0 || L j) w' z v23 v24 v25 v26 v27 v28 v29 v30 v31 v6 := ⟨H.b, fun _ => k, H.f1, H.f2, H.f3, H.f4, H.f5, H.f6, H.f7, H.f8, H.f9, H.f10⟩
theorem RG.s1 {W : World} {h : Hr} {f g t a a2 n : Nat} {L : Nat → Bool} {w' : World} {v22 v23 v24 v25 v26 v27 v28 v29 v30 v31 v6 : Value} (H : RG W h f g t a a2 n L w' v22 v23 v24 v25 v26 v27 v28 v29 v30 v31 v6) {z : Value} (k : z = hg h) : RG W h f g t a a2 n (fun j => j == 1 || L j) w' v22 z v24 v25 v26 v27 v28 v29 v30 v31 v6 := ⟨H.b, H.f0, fun _ => k, H.f2, H.f3, H.f4, H.f5, H.f6, H.f7, H.f8, H.f9, H.f10⟩
theorem RG.s2 {W : World} {h : Hr} {f g t a a2 n : Nat} {L : Nat → Bool} {w' : World} {v22 v23 v24 v25 v26 v27 v28 v29 v30 v31 v6 : Value} (H : RG W h f g t a a2 n L w' v22 v23 v24 v25 v26 v27 v28 v29 v30 v31 v6) {z : Value} (k : z = .int .i64 (f : Int)) : RG W h f g t a a2 n (fun j => j == 2 || L j) w' v22 v23 z v25 v26 v27 v28 v29 v30 v31 v6 := ⟨H.b, H.f0, H.f1, fun _ => k, H.f3, H.f4, H.f5, H.f6, H.f7, H.f8, H.f9, H.f10⟩
theorem RG.s3 {W : World} {h : Hr} {f g t a a2 n : Nat} {L : Nat → Bool} {w' : World} {v22 v23 v24 v25 v26 v27 v28 v29 v30 v31 v6 : Value} (H : RG W h f g t a a2 n L w' v22 v23 v24 v25 v26 v27 v28 v29 v30 v31 v6) {z : Value} (k : z = .int .i64 (g : Int)) : RG W h f g t a a2 n (fun j => j == 3 || L j) w' v22 v23 v24 z v26 v27 v28 v29 v30 v31 v6 := ⟨H.b, H.f0, H.f1, H.f2, fun _ => k, H.f4, H.f5, H.f6, H.f7, H.f8, H.f9, H.f10⟩
theorem RG.s4 {W : World} {h : Hr} {f g t a a2 n : Nat} {L : Nat → Bool} {w' : World} {v22 v23 v24 v25 v26 v27 v28 v29 v30 v31 v6 : Value} (H : RG W h f g t a a2 n L w' v22 v23 v24 v25 v26 v27 v28 v29 v30 v31 v6) {z : Value} (k : OrdR (key h.v.hs) (plcs f a) a w' z) : RG W h f g t a a2 n (fun j => j == 4 || L j) w' v22 v23 v24 v25 z v27 v28 v29 v30 v31 v6 := ⟨H.b, H.f0, H.f1, H.f2, H.f3, fun _ => k, H.f5, H.f6, H.f7, H.f8, H.f9, H.f10⟩
theorem RG.s5 {W : World} {h : Hr} {f g t a a2 n : Nat} {L : Nat → Bool} {w' : World} {v22 v23 v24 v25 v26 v27 v28 v29 v30 v31 v6 : Value} (H : RG W h f g t a a2 n L w' v22 v23 v24 v25 v26 v27 v28 v29 v30 v31 v6) {z : Value} (k : z = hg h) : RG W h f g t a a2 n (fun j => j == 5 || L j) w' v22 v23 v24 v25 v26 z v28 v29 v30 v31 v6 := ⟨H.b, H.f0, H.f1, H.f2, H.f3, H.f4, fun _ => k, H.f6, H.f7, H.f8, H.f9, H.f10⟩
theorem RG.s6 {W : World} {h : Hr} {f g t a a2 n : Nat} {L : Nat → Bool} {w' : World} {v22 v23 v24 v25 v26 v27 v28 v29 v30 v31 v6 : Value} (H : RG W h f g t a a2 n L w' v22 v23 v24 v25 v26 v27 v28 v29 v30 v31 v6) {z : Value} (k : z = .int .i64 (g : Int)) : RG W h f g t a a2 n (fun j => j == 6 || L j) w' v22 v23 v24 v25 v26 v27 z v29 v30 v31 v6 := ⟨H.b, H.f0, H.f1, H.f2, H.f3, H.f4, H.f5, fun _ => k, H.f7, H.f8, H.f9, H.f10⟩
theorem RG.s7 {W : World} {h : Hr} {f g t a a2 n : Nat} {L : Nat → Bool} {w' : World} {v22 v23 v24 v25 v26 v27 v28 v29 v30 v31 v6 : Value} (H : RG W h f g t a a2 n L w' v22 v23 v24 v25 v26 v27 v28 v29 v30 v31 v6) {z : Value} (k : z = .int .i64 (t : Int)) : RG W h f g t a a2 n (fun j => j == 7 || L j) w' v22 v23 v24 v25 v26 v27 v28 z v30 v31 v6 := ⟨H.b, H.f0, H.f1, H.f2, H.f3, H.f4, H.f5, H.f6, fun _ => k, H.f8, H.f9, H.f10⟩
theorem RG.s8 {W : World} {h : Hr} {f g t a a2 n : Nat} {L : Nat → Bool} {w' : World} {v22 v23 v24 v25 v26 v27 v28 v29 v30 v31 v6 : Value} (H : RG W h f g t a a2 n L w' v22 v23 v24 v25 v26 v27 v28 v29 v30 v31 v6) {z : Value} (k : OrdR (key h.v.hs) (plcs g a2) a2 w' z) : RG W h f g t a a2 n (fun j => j == 8 || L j) w' v22 v23 v24 v25 v26 v27 v28 v29 z v31 v6 := ⟨H.b, H.f0, H.f1, H.f2, H.f3, H.f4, H.f5, H.f6, H.f7, fun _ => k, H.f9, H.f10⟩
theorem RG.s9 {W : World} {h : Hr} {f g t a a2 n : Nat} {L : Nat → Bool} {w' : World} {v22 v23 v24 v25 v26 v27 v28 v29 v30 v31 v6 : Value} (H : RG W h f g t a a2 n L w' v22 v23 v24 v25 v26 v27 v28 v29 v30 v31 v6) {z : Value} (k : OrdR (key h.v.hs) (plcs f n) n w' z) : RG W h f g t a a2 n (fun j => j == 9 || L j) w' v22 v23 v24 v25 v26 v27 v28 v29 v30 z v6 := ⟨H.b, H.f0, H.f1, H.f2, H.f3, H.f4, H.f5, H.f6, H.f7, H.f8, fun _ => k, H.f10⟩
theorem RG.s10 {W : World} {h : Hr} {f g t a a2 n : Nat} {L : Nat → Bool} {w' : World} {v22 v23 v24 v25 v26 v27 v28 v29 v30 v31 v6 : Value} (H : RG W h f g t a a2 n L w' v22 v23 v24 v25 v26 v27 v28 v29 v30 v31 v6) {z : Value} (k : OrdR (key h.v.hs) (plcs f n) n w' z) : RG W h f g t a a2 n (fun j => j == 10 || L j) w' v22 v23 v24 v25 v26 v27 v28 v29 v30 v31 z := ⟨H.b, H.f0, H.f1, H.f2, H.f3, H.f4, H.f5, H.f6, H.f7, H.f8, H.f9, fun _ => k⟩
/-- What order tells of fewer places. -/
def Ords (h : Hr) (n : Nat) : Prop := ∀ (k f t : Nat) (w : World), k < n → f + k = t → t ≤ h.m → HM w (· < w.heap.size) h → Calls Tryz.prog 61 #[hg h, .int .i64 (f : Int), .int .i64 (t : Int)] w (OrdG (key h.v.hs) (plcs f k) k w)

set_option maxRecDepth 100000 in
set_option maxHeartbeats 4000000 in
theorem rorder_two (h : Hr) (hm : h.m ≤ 2001) (n f t : Nat) (w : World) (hn : 2 ≤ n) (ht : f + n = t) (hl : t ≤ h.m) (M : HM w (· < w.heap.size) h) (ih : Ords h n) : Calls Tryz.prog 61 #[hg h, .int .i64 (f : Int), .int .i64 (t : Int)] w (OrdG (key h.v.hs) (plcs f n) n w) := by
  obtain ⟨W, hW⟩ : ∃ W, w.alloc (.cells (hc h) 31) = W := ⟨_, rfl⟩
  have H0 := Lib.hid (show HX w W h by rw [← hW]; exact HX.start w h)
  have HW := Lib.hid hW
  have HM0 := Lib.hid M
  have HIH := Lib.hid ih
  obtain ⟨s, hs⟩ : ∃ s, f + t = s := ⟨_, rfl⟩
  obtain ⟨g, hg⟩ : ∃ g, s / 2 = g := ⟨_, rfl⟩
  obtain ⟨a, ha⟩ : ∃ a, n / 2 = a := ⟨_, rfl⟩
  obtain ⟨a2, ha2⟩ : ∃ a2, n - a = a2 := ⟨_, rfl⟩
  have HN := Lib.hid (show f + a = g ∧ g + a2 = t ∧ a < n ∧ a2 < n ∧ a + a2 = n from ⟨by omega, by omega, by omega, by omega, by omega⟩)
  have b1 : s ≤ 10000 := by omega
  have b2 : g ≤ 10000 := by omega
  have b3 : t ≤ 10000 := by omega
  have b4 : f ≤ 10000 := by omega
  have b5 : n ≤ 10000 := by omega
  have e1 : (t : Int) - (f : Int) = (n : Int) := by omega
  have e2 : (f : Int) + (t : Int) = (s : Int) := by omega
  have e3 : (s : Int).tdiv 2 = (g : Int) := by rw [Int.tdiv_eq_ediv_of_nonneg (by omega)]; omega
  have e4 : (s : Int) / 2 = (g : Int) := by omega
  have t1 : decide ((n : Int) < 1) = false := decide_eq_false (by omega)
  have t1' : decide (n < 1) = false := decide_eq_false (by omega)
  have t2 : decide ((n : Int) = 1) = false := decide_eq_false (by omega)
  have t2' : decide (n = 1) = false := decide_eq_false (by omega)
  have t2b : ((n : Int) == 1) = false := by simp; omega
  have t2c : (n == 1) = false := by simp; omega
  have HLM := Lib.hid (And.intro hm hl)
  clear hW M ih hs hg ha ha2 hn ht hl hm
  go_enter Tryz.func61, Tryz.ntmps61
  go_wp2_with fail
  rw [HW.out]
  clear HW
  refine wp_region_steps (fun L_ a_ w_ => ∃ (v22 v23 v24 v25 v26 v27 v28 v29 v30 v31 v6 : Value), a_ = { tmps := #[hg h, .int .i64 (f : Int), .int .i64 (t : Int), .pointer (some ⟨w.heap.size, 0, none⟩), undef, undef, v6, .int .i64 (g : Int), .int .i64 (t : Int), .int .i64 (f : Int), .int .i64 (n : Int), .bool false, .int .i64 (t : Int), .int .i64 (f : Int), .int .i64 (n : Int), .bool false, undef, undef, .int .i64 (f : Int), .int .i64 (t : Int), .int .i64 (s : Int), .int .i64 (g : Int), v22, v23, v24, v25, v26, v27, v28, v29, v30, v31], defers := [] } ∧ Hid (RG W h f g t a a2 n L_ w_ v22 v23 v24 v25 v26 v27 v28 v29 v30 v31 v6)) (by kernel_rfl) (by kernel_rfl) ?_ (AllSteps.cons ?_ (AllSteps.cons ?_ (AllSteps.cons ?_ (AllSteps.cons ?_ (AllSteps.cons ?_ (AllSteps.cons ?_ (AllSteps.cons ?_ (AllSteps.cons ?_ (AllSteps.cons ?_ (AllSteps.cons ?_ (AllSteps.cons ?_ AllSteps.nil))))))))))) ?_
  · exact ⟨_, _, _, _, _, _, _, _, _, _, _, rfl, Lib.hid ⟨⟨rfl, rfl, rfl, Nat.le_refl _, fun _ _ => rfl⟩, (fun h => by cases h), (fun h => by cases h), (fun h => by cases h), (fun h => by cases h), (fun h => by cases h), (fun h => by cases h), (fun h => by cases h), (fun h => by cases h), (fun h => by cases h), (fun h => by cases h), (fun h => by cases h)⟩⟩
  · rintro L_ a_ w_ hL hd ⟨v22, v23, v24, v25, v26, v27, v28, v29, v30, v31, v6, rfl, HR⟩ K hK
    have hx := (H0.out.next HR.out.b).x
    have x0 := hx.c 0
    have x1 := hx.c 1
    have x2 := hx.c 2
    have x3 := hx.c 3
    have x4 := hx.c 4
    have x5 := hx.c 5
    have x6 := hx.c 6
    have x7 := hx.c 7
    have x8 := hx.c 8
    have x9 := hx.c 9
    simp at x0 x1 x2 x3 x4 x5 x6 x7 x8 x9
    clear hd hx
    go_simp
    exact hK.out _ _ ⟨_, _, _, _, _, _, _, _, _, _, _, rfl, Lib.hid (HR.out.s0 rfl)⟩
  · rintro L_ a_ w_ hL hd ⟨v22, v23, v24, v25, v26, v27, v28, v29, v30, v31, v6, rfl, HR⟩ K hK
    have hx := (H0.out.next HR.out.b).x
    have x0 := hx.c 0
    have x1 := hx.c 1
    have x2 := hx.c 2
    have x3 := hx.c 3
    have x4 := hx.c 4
    have x5 := hx.c 5
    have x6 := hx.c 6
    have x7 := hx.c 7
    have x8 := hx.c 8
    have x9 := hx.c 9
    simp at x0 x1 x2 x3 x4 x5 x6 x7 x8 x9
    clear hd hx
    go_simp
    exact hK.out _ _ ⟨_, _, _, _, _, _, _, _, _, _, _, rfl, Lib.hid (HR.out.s1 rfl)⟩
  · rintro L_ a_ w_ hL hd ⟨v22, v23, v24, v25, v26, v27, v28, v29, v30, v31, v6, rfl, HR⟩ K hK
    clear hd
    go_simp
    exact hK.out _ _ ⟨_, _, _, _, _, _, _, _, _, _, _, rfl, Lib.hid (HR.out.s2 rfl)⟩
  · rintro L_ a_ w_ hL hd ⟨v22, v23, v24, v25, v26, v27, v28, v29, v30, v31, v6, rfl, HR⟩ K hK
    clear hd
    go_simp
    exact hK.out _ _ ⟨_, _, _, _, _, _, _, _, _, _, _, rfl, Lib.hid (HR.out.s3 rfl)⟩
  · rintro L_ a_ w_ hL hd ⟨v22, v23, v24, v25, v26, v27, v28, v29, v30, v31, v6, rfl, HR⟩ K hK
    have e1 := HR.out.f1 (hd ⟨1, .data⟩ (by simp) rfl)
    subst e1
    have e2 := HR.out.f2 (hd ⟨2, .data⟩ (by simp) rfl)
    subst e2
    have e3 := HR.out.f3 (hd ⟨3, .data⟩ (by simp) rfl)
    subst e3
    clear hd
    go_simp
    refine (HIH.out a f g w_ HN.out.2.2.1 HN.out.1 (by have := HN.out; have := HLM.out; omega) (HM0.out.below (H0.out.next HR.out.b).b)).mono ?_
    rintro e w5 ⟨z, rfl, hO, hb⟩
    exact hK.out _ _ ⟨_, _, _, _, _, _, _, _, _, _, _, rfl, Lib.hid ((HR.out.up hb).s4 hO)⟩
  · rintro L_ a_ w_ hL hd ⟨v22, v23, v24, v25, v26, v27, v28, v29, v30, v31, v6, rfl, HR⟩ K hK
    have hx := (H0.out.next HR.out.b).x
    have x0 := hx.c 0
    have x1 := hx.c 1
    have x2 := hx.c 2
    have x3 := hx.c 3
    have x4 := hx.c 4
    have x5 := hx.c 5
    have x6 := hx.c 6
    have x7 := hx.c 7
    have x8 := hx.c 8
    have x9 := hx.c 9
    simp at x0 x1 x2 x3 x4 x5 x6 x7 x8 x9
    clear hd hx
    go_simp
    exact hK.out _ _ ⟨_, _, _, _, _, _, _, _, _, _, _, rfl, Lib.hid (HR.out.s5 rfl)⟩
  · rintro L_ a_ w_ hL hd ⟨v22, v23, v24, v25, v26, v27, v28, v29, v30, v31, v6, rfl, HR⟩ K hK
    clear hd
    go_simp
    exact hK.out _ _ ⟨_, _, _, _, _, _, _, _, _, _, _, rfl, Lib.hid (HR.out.s6 rfl)⟩
  · rintro L_ a_ w_ hL hd ⟨v22, v23, v24, v25, v26, v27, v28, v29, v30, v31, v6, rfl, HR⟩ K hK
    clear hd
    go_simp
    exact hK.out _ _ ⟨_, _, _, _, _, _, _, _, _, _, _, rfl, Lib.hid (HR.out.s7 rfl)⟩
  · rintro L_ a_ w_ hL hd ⟨v22, v23, v24, v25, v26, v27, v28, v29, v30, v31, v6, rfl, HR⟩ K hK
    have e5 := HR.out.f5 (hd ⟨5, .data⟩ (by simp) rfl)
    subst e5
    have e6 := HR.out.f6 (hd ⟨6, .data⟩ (by simp) rfl)
    subst e6
    have e7 := HR.out.f7 (hd ⟨7, .data⟩ (by simp) rfl)
    subst e7
    clear hd
    go_simp
    refine (HIH.out a2 g t w_ HN.out.2.2.2.1 HN.out.2.1 HLM.out.2 (HM0.out.below (H0.out.next HR.out.b).b)).mono ?_
    rintro e w5 ⟨z, rfl, hO, hb⟩
    exact hK.out _ _ ⟨_, _, _, _, _, _, _, _, _, _, _, rfl, Lib.hid ((HR.out.up hb).s8 hO)⟩
  · rintro L_ a_ w_ hL hd ⟨v22, v23, v24, v25, v26, v27, v28, v29, v30, v31, v6, rfl, HR⟩ K hK
    have e0 := HR.out.f0 (hd ⟨0, .data⟩ (by simp) rfl)
    subst e0
    obtain ⟨A1, c1, o1, q1, i1, g1⟩ := HR.out.f4 (hd ⟨4, .data⟩ (by simp) rfl)
    subst q1
    obtain ⟨A2, c2, o2, q2, i2, g2⟩ := HR.out.f8 (hd ⟨8, .data⟩ (by simp) rfl)
    subst q2
    have CM := Lib.hid (merge_two h HLM.out.1 A1 A2 a a2 n f g t c1 c2 o1 o2 w_ (HM0.out.below (H0.out.next HR.out.b).b) i1 i2 g1 g2 HN.out.1 HN.out.2.1 HN.out.2.2.2.2 HLM.out.2)
    clear i1 i2 g1 g2
    clear hd
    go_simp
    refine CM.out.mono ?_
    rintro e w5 ⟨z, rfl, hO, hb⟩
    exact hK.out _ _ ⟨_, _, _, _, _, _, _, _, _, _, _, rfl, Lib.hid ((HR.out.up hb).s9 hO)⟩
  · rintro L_ a_ w_ hL hd ⟨v22, v23, v24, v25, v26, v27, v28, v29, v30, v31, v6, rfl, HR⟩ K hK
    have e9 := HR.out.f9 (hd ⟨9, .data⟩ (by simp) rfl)
    clear hd
    go_simp
    exact hK.out _ _ ⟨_, _, _, _, _, _, _, _, _, _, _, rfl, Lib.hid (HR.out.s10 e9)⟩
  · rintro L_ a_ w_ hL ⟨v22, v23, v24, v25, v26, v27, v28, v29, v30, v31, v6, rfl, HR⟩
    have hO := HR.out.f10 (hL 10 (by decide))
    have HO := Lib.hid hO
    have HB := Lib.hid (H0.out.next HR.out.b).b
    clear hL hO HR
    go_wp2
    go_ret
    exact ⟨_, rfl, HO.out, HB.out⟩

set_option maxRecDepth 100000 in
set_option maxHeartbeats 4000000 in
theorem rorder_few (h : Hr) (n f t : Nat) (w : World) (hn : n < 2) (ht : f + n = t) (hl : t ≤ 10000) : Calls Tryz.prog 61 #[hg h, .int .i64 (f : Int), .int .i64 (t : Int)] w (OrdG (key h.v.hs) (plcs f n) n w) := by
  obtain ⟨W, hW⟩ : ∃ W, w.alloc (.cells (hc h) 31) = W := ⟨_, rfl⟩
  have H0 := Lib.hid (show HX w W h by rw [← hW]; exact HX.start w h)
  have HW := Lib.hid hW
  have hz : W.heap.size = w.heap.size + 1 := by rw [← hW]; exact World.size_alloc _ _
  clear hW
  have b3 : t ≤ 10000 := by omega
  have b4 : f ≤ 10000 := by omega
  rcases (by omega : n = 0 ∨ n = 1) with rfl | rfl
  · have e1 : (t : Int) - (f : Int) = 0 := by omega
    have HR := Lib.hid (show OrdG (key h.v.hs) (plcs f 0) 0 w (.returned (.slice none 0 0)) W from ⟨_, rfl, ⟨none, 0, [], rfl, Ins.nil, St.Good.nil⟩, H0.out.b⟩)
    clear ht hl hn hz
    go_enter Tryz.func61, Tryz.ntmps61
    go_wp2_with fail
    rw [HW.out]
    go_ret
    exact HR.out
  · have e1 : (t : Int) - (f : Int) = 1 := by omega
    have HR := Lib.hid (show OrdG (key h.v.hs) (plcs f 1) 1 w (.returned (.slice (some ⟨W.heap.size, 0, none⟩) 1 1)) (W.alloc (.cells #[.int .i64 (f : Int)] 3)) from
      ⟨_, rfl, ⟨_, _, [(f : Int)], rfl, (ins_one (Bx.new W 3 #[.int .i64 (f : Int)])).keep (fun _ _ => rfl) (fun b hb => by subst hb; simp), by rw [plcs_one]; exact ⟨List.Perm.refl _, List.pairwise_singleton _ _⟩⟩, (H0.out.next (alloc_ _ _)).b⟩)
    rw [hz] at HR
    clear ht hl hn hz
    go_enter Tryz.func61, Tryz.ntmps61
    go_wp2_with fail
    rw [HW.out]
    go_ret
    exact HR.out
theorem rorder_ (h : Hr) (hm : h.m ≤ 2001) (n : Nat) : ∀ (f t : Nat) (w : World), f + n = t → t ≤ h.m → HM w (· < w.heap.size) h → Calls Tryz.prog 61 #[hg h, .int .i64 (f : Int), .int .i64 (t : Int)] w (OrdG (key h.v.hs) (plcs f n) n w) := by
  induction n using Nat.strongRecOn with
  | ind n ih =>
    intro f t w ht hl M
    rcases Nat.lt_or_ge n 2 with hn | hn
    · exact rorder_few h n f t w hn ht (by omega)
    · exact rorder_two h hm n f t w hn ht hl M fun k f t w hk ht hl M => ih k hk f t w ht hl M

set_option maxRecDepth 100000 in
set_option maxHeartbeats 4000000 in
theorem rorder (h : Hr) (w : World) (M : HM w (· < w.heap.size) h) (hm : h.m ≤ 2001) : Calls Tryz.prog 30 #[hg h] w (OrdG (key h.v.hs) (plc h.v.hs.length) h.m w) := by
  obtain ⟨W, hW⟩ : ∃ W, w.alloc (.cells (hc h) 31) = W := ⟨_, rfl⟩
  have H0 := Lib.hid (show HX w W h by rw [← hW]; exact HX.start w h)
  have HW := Lib.hid hW
  have C := Lib.hid (rorder_ h hm h.m 0 h.m W (Nat.zero_add _) (Nat.le_refl _) (M.below H0.out.b))
  have HE := Lib.hid (show plcs 0 h.m = plc h.v.hs.length by rw [plcs_all, M.len])
  clear hW M
  go_enter Tryz.func30, Tryz.ntmps30
  go_wp2_with fail
  rw [HW.out]
  refine C.out.mono ?_
  rw [HE.out]
  rintro e w1 ⟨v, rfl, hO, hb⟩
  have HO := Lib.hid hO
  have HB := Lib.hid (H0.out.next hb).b
  clear hO hb
  go_wp2
  go_ret
  exact ⟨_, rfl, HO.out, HB.out⟩

end Tm
end Go.Proofs.YtkdhcloaeifbdaaGreat
