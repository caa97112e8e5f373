/-
  The parts Chs, Kinds of this proof. Conditions: those of each theorem.
-/
import Derived.Test.YtplenoaajokpjaaGreatMTm
import Derived.Test.YtplenoaajokpjaaGreatMMath
import Derived.Maps.OwnSet
namespace Go.Proofs.YtplenoaajokpjaaGreat
open Go.RowKit Ba Cv Sp Te Ag
namespace Tm
set_option linter.unusedVariables false
structure Rw where
 v : Ch
 A : Option Addr
 n : Nat
 c : Nat
abbrev vc (r : Rw) : Array Value := #[.int .i64 r.v.bk, .int .i64 r.v.dy, .int .i64 r.v.kd, .int .i64 r.v.r.k, .int .i64 r.v.r.v, .int .i64 r.v.r.a, .int .i64 r.v.r.z, .slice r.A r.n r.c, .int .i64 r.v.wy]
abbrev vg (r : Rw) : Value := .agg (vc r)
abbrev zc : Array Value := #[.int .i64 0, .int .i64 0, .int .i64 0, .int .i64 0, .int .i64 0, .int .i64 0, .int .i64 0, .slice none 0 0, .int .i64 0]
def zr : Rw := ⟨zch, none, 0, 0⟩
def cl (r : Rw) : List Value := [.int .i64 r.v.bk, .int .i64 r.v.dy, .int .i64 r.v.kd, .int .i64 r.v.r.k, .int .i64 r.v.r.v, .int .i64 r.v.r.a, .int .i64 r.v.r.z, .slice r.A r.n r.c, .int .i64 r.v.wy]
def cel (rs : List Rw) : List Value := rs.flatMap cl
theorem cel_append (xs ys : List Rw) : cel (xs ++ ys) = cel xs ++ cel ys := List.flatMap_append
theorem cel_one (r : Rw) : cel [r] = cl r := by simp [cel]
theorem cel_length (xs : List Rw) : (cel xs).length = xs.length * 9 := by
 induction xs with
 | nil => rfl
 | cons x xs ih => rw [show x :: xs = [x] ++ xs from rfl, cel_append, List.length_append, ih, cel_one]; simp [cl]; omega
theorem cel_get {xs : List Rw} {j : Nat} {r : Rw} (h : xs[j]? = some r) {o : Nat} (ho : o < 9) : (cel xs)[j * 9 + o]? = (cl r)[o]? := by
 induction xs generalizing j with
 | nil => simp at h
 | cons y ys ih =>
  have hl : (cl y).length = 9 := rfl; rw [show y :: ys = [y] ++ ys from rfl, cel_append, cel_one]; cases j with
  | zero => simp at h; subst h; rw [Nat.zero_mul, Nat.zero_add, List.getElem?_append_left (by omega)]
  | succ j =>
   simp at h; rw [List.getElem?_append_right (by omega), hl, show (j + 1) * 9 + o - 9 = j * 9 + o by omega]; exact ih h
theorem cel_cell (xs : List Rw) : ∀ u ∈ cel xs, u.oneCell' = true := by
 intro u hu; obtain ⟨x, _, hx⟩ := List.mem_flatMap.1 hu; simp [cl] at hx; rcases hx with rfl | rfl | rfl | rfl | rfl | rfl | rfl | rfl | rfl <;> rfl
structure Nin (w : World) (a : Addr) (r : Rw) : Prop where
 c0 : w.cell? a = some (.int .i64 r.v.bk)
 c1 : w.cell? ⟨a.block, a.off + 1, none⟩ = some (.int .i64 r.v.dy)
 c2 : w.cell? ⟨a.block, a.off + 2, none⟩ = some (.int .i64 r.v.kd)
 c3 : w.cell? ⟨a.block, a.off + 3, none⟩ = some (.int .i64 r.v.r.k)
 c4 : w.cell? ⟨a.block, a.off + 4, none⟩ = some (.int .i64 r.v.r.v)
 c5 : w.cell? ⟨a.block, a.off + 5, none⟩ = some (.int .i64 r.v.r.a)
 c6 : w.cell? ⟨a.block, a.off + 6, none⟩ = some (.int .i64 r.v.r.z)
 c7 : w.cell? ⟨a.block, a.off + 7, none⟩ = some (.slice r.A r.n r.c)
 c8 : w.cell? ⟨a.block, a.off + 8, none⟩ = some (.int .i64 r.v.wy)
theorem Nin.keep {w w' : World} {a : Addr} {r : Rw} (h : Nin w a r) (hk : ∀ p : Addr, p.block = a.block → w'.cell? p = w.cell? p) : Nin w' a r :=
 ⟨(hk _ rfl).trans h.c0, (hk ⟨a.block, a.off + 1, none⟩ rfl).trans h.c1, (hk ⟨a.block, a.off + 2, none⟩ rfl).trans h.c2, (hk ⟨a.block, a.off + 3, none⟩ rfl).trans h.c3, (hk ⟨a.block, a.off + 4, none⟩ rfl).trans h.c4, (hk ⟨a.block, a.off + 5, none⟩ rfl).trans h.c5, (hk ⟨a.block, a.off + 6, none⟩ rfl).trans h.c6, (hk ⟨a.block, a.off + 7, none⟩ rfl).trans h.c7, (hk ⟨a.block, a.off + 8, none⟩ rfl).trans h.c8⟩
theorem nin_of {w : World} {a : Addr} {r : Rw} {j : Nat} (h : ∀ (o : Nat) (u : Value), (cl r)[o]? = some u → w.cell? (a.add (j + o)) = some u) : Nin w (a.add j) r :=
 ⟨h 0 _ rfl, by rw [← add_more a j 0]; exact h 1 _ rfl, by rw [← add_more a j 1]; exact h 2 _ rfl, by rw [← add_more a j 2]; exact h 3 _ rfl, by rw [← add_more a j 3]; exact h 4 _ rfl, by rw [← add_more a j 4]; exact h 5 _ rfl, by rw [← add_more a j 5]; exact h 6 _ rfl, by rw [← add_more a j 6]; exact h 7 _ rfl, by rw [← add_more a j 7]; exact h 8 _ rfl⟩
theorem nin_back {w : World} {a : Addr} {r : Rw} {j : Nat} (h : Nin w (a.add j) r) : ∀ (o : Nat) (u : Value), (cl r)[o]? = some u → w.cell? (a.add (j + o)) = some u := by
 intro o u hu
 match o, hu with
 | 0, hu => injection hu with hu; subst hu; exact h.c0
 | 1, hu => injection hu with hu; subst hu; rw [add_more a j 0]; exact h.c1
 | 2, hu => injection hu with hu; subst hu; rw [add_more a j 1]; exact h.c2
 | 3, hu => injection hu with hu; subst hu; rw [add_more a j 2]; exact h.c3
 | 4, hu => injection hu with hu; subst hu; rw [add_more a j 3]; exact h.c4
 | 5, hu => injection hu with hu; subst hu; rw [add_more a j 4]; exact h.c5
 | 6, hu => injection hu with hu; subst hu; rw [add_more a j 5]; exact h.c6
 | 7, hu => injection hu with hu; subst hu; rw [add_more a j 6]; exact h.c7
 | 8, hu => injection hu with hu; subst hu; rw [add_more a j 7]; exact h.c8
def Raws (w : World) (ok : Nat → Prop) (A : Option Addr) (n : Nat) (rs : List Rw) : Prop :=
 rs.length = n ∧ (0 < n → ∃ ad : Addr, A = some ad ∧ ok ad.block ∧ ∀ (j : Nat) (r : Rw), rs[j]? = some r → Nin w (ad.add (j * 9)) r)
section
variable {w w' : World} {ok ok' : Nat → Prop} {n : Nat} {A : Option Addr} {rs : List Rw}
theorem Raws.nil {A : Option Addr} : Raws w ok A 0 [] := ⟨rfl, fun h => absurd h (by omega)⟩
theorem Raws.keep (h : Raws w ok A n rs) (hk : ∀ p : Addr, ok p.block → w'.cell? p = w.cell? p) (hw : ∀ b, ok b → ok' b) : Raws w' ok' A n rs :=
 ⟨h.1, fun hn => by
  obtain ⟨ad, e, hb, hc⟩ := h.2 hn; exact ⟨ad, e, hw _ hb, fun j x hx => (hc j x hx).keep fun p hp => hk p (by rw [hp, add_block]; exact hb)⟩⟩
theorem Raws.below (h : Raws w (· < w.heap.size) A n rs) (hb : Below w.heap.size w w') : Raws w' (· < w'.heap.size) A n rs := h.keep (fun _ hp => hb.cell hp) fun b h => Nat.lt_of_lt_of_le h hb.size
theorem Raws.get {k : Nat} (h : Raws w ok A n rs) (hk : k < n) : ∃ (ad : Addr) (r : Rw), A = some ad ∧ ok ad.block ∧ rs[k]? = some r ∧ Nin w (ad.add (k * 9)) r := by
 obtain ⟨ad, e, hb, hc⟩ := h.2 (by omega); have hl : k < rs.length := by have := h.1; omega
 exact ⟨ad, rs[k], e, hb, List.getElem?_eq_getElem hl, hc k _ (List.getElem?_eq_getElem hl)⟩
theorem Raws.noroom (h : Raws w ok none n rs) : n = 0 := by
 rcases Nat.eq_zero_or_pos n with h0 | h0
 ·exact h0
 ·obtain ⟨ad, e, _⟩ := h.2 h0; cases e
theorem Raws.cells {ad : Addr} (h : Raws w ok (some ad) n rs) (j : Nat) (u : Value) (hu : (cel rs)[j]? = some u) : w.cell? (ad.add j) = some u := by
 have hl : j < rs.length * 9 := by rw [← cel_length]; exact (List.getElem?_eq_some_iff.1 hu).1
 have hm : j / 9 < rs.length := by omega
 have hy : rs[j / 9]? = some rs[j / 9] := List.getElem?_eq_getElem hm; obtain ⟨ad', e, _, hc⟩ := h.2 (by have := h.1; omega); injection e with e
 subst e; have hj : j / 9 * 9 + j % 9 = j := by omega
 have g := cel_get hy (o := j % 9) (by omega); rw [hj] at g; have := nin_back (hc _ _ hy) (j % 9) u (by rw [← g]; exact hu); rwa [hj] at this
end
structure Hr where
 id : Int
 bk : Int
 s : Sp
 r : Ri
 A : Option Addr
 n : Nat
 c : Nat
 cs : List Co
 B : Option Addr
 m : Nat
 d : Nat
 rs : List Rw
def Hr.v (h : Hr) : Hi := ⟨h.id, h.bk, h.s, h.r, h.cs, h.rs.map Rw.v⟩
abbrev hc (h : Hr) : Array Value := #[.int .i64 h.id, .int .i64 h.bk, .int .i64 h.s.1, .int .i64 h.s.2, .int .i64 h.r.k, .int .i64 h.r.v, .int .i64 h.r.a, .int .i64 h.r.z, .slice h.A h.n h.c, .slice h.B h.m h.d]
abbrev hg (h : Hr) : Value := .agg (hc h)
abbrev zhc : Array Value := #[.int .i64 0, .int .i64 0, .int .i64 0, .int .i64 0, .int .i64 0, .int .i64 0, .int .i64 0, .int .i64 0, .slice none 0 0, .slice none 0 0]
def zhr : Hr := ⟨0, 0, (0, 0), zri, none, 0, 0, [], none, 0, 0, []⟩
theorem zhr_v : zhr.v = zhi := rfl
structure HM (w : World) (ok : Nat → Prop) (h : Hr) : Prop where
 t : Cvs w ok h.A h.n h.cs
 r : Raws w ok h.B h.m h.rs
 k : ∀ r ∈ h.rs, Cvs w ok r.A r.n r.v.cs
structure HS (h : Hr) : Prop where
 n : h.n ≤ 3000
 m : h.m ≤ 2000
 k : ∀ r ∈ h.rs, r.n ≤ 3000
 z : h.B = none → h.m = 0 ∧ h.d = 0
 f : h.m ≤ h.d
section
variable {w w' : World} {ok ok' : Nat → Prop} {h : Hr}
theorem HM.keep (H : HM w ok h) (hk : ∀ p : Addr, ok p.block → w'.cell? p = w.cell? p) (hw : ∀ b, ok b → ok' b) : HM w' ok' h := ⟨H.t.keep hk hw, H.r.keep hk hw, fun r hr => (H.k r hr).keep hk hw⟩
theorem HM.below (H : HM w (· < w.heap.size) h) (hb : Below w.heap.size w w') : HM w' (· < w'.heap.size) h := H.keep (fun _ hp => hb.cell hp) fun b h => Nat.lt_of_lt_of_le h hb.size
theorem HM.len (H : HM w ok h) : h.v.hs.length = h.m := by rw [Hr.v]; simp; exact H.r.1
theorem HM.get {k : Nat} (H : HM w ok h) (hk : k < h.m) : ∃ (ad : Addr) (r : Rw), h.B = some ad ∧ ok ad.block ∧ h.rs[k]? = some r ∧ Nin w (ad.add (k * 9)) r ∧ Cvs w ok r.A r.n r.v.cs ∧ h.v.hs[k]? = some r.v := by
 obtain ⟨ad, r, e, hb, hr, hn⟩ := H.r.get hk; exact ⟨ad, r, e, hb, hr, hn, H.k r (List.mem_of_getElem? hr), by rw [Hr.v, List.getElem?_map, hr]; rfl⟩
end
theorem zhr_mean (w : World) (ok : Nat → Prop) : HM w ok zhr := ⟨Cvs.nil, Raws.nil, fun r h => by cases h⟩
theorem zhr_sm : HS zhr := ⟨Nat.zero_le _, Nat.zero_le _, (fun r h => by cases h), fun _ => ⟨rfl, rfl⟩, Nat.le_refl _⟩
def sets (b : Nat) : Nat → List Value → World → World
 | _, [], w => w
 | o, v :: l, w => sets b (o + 1) l (w.setCell ⟨b, o, none⟩ v)
section
variable {w w0 : World} {b B : Nat} {t : TypeId} {xs : Array Value}
theorem sets_size (l : List Value) : ∀ (o : Nat) (w : World), (sets b o l w).heap.size = w.heap.size := by
 induction l with
 | nil => intro o w; rfl
 | cons v l ih => intro o w; rw [sets, ih]; simp
theorem sets_below (l : List Value) (hB : B ≤ b) : ∀ (o : Nat) (w : World), Below B w0 w → Below B w0 (sets b o l w) := by
 induction l with
 | nil => intro o w h; exact h
 | cons v l ih => intro o w h; rw [sets]; exact ih _ _ (h.setCell (p := ⟨b, o, none⟩) hB _)
theorem sets_other (l : List Value) {p : Addr} (hp : p.block ≠ b) : ∀ (o : Nat) (w : World), (sets b o l w).cell? p = w.cell? p := by
 induction l with
 | nil => intro o w; rfl
 | cons v l ih => intro o w; rw [sets, ih, World.cell?_setCell_other _ _ _ _ (fun e => hp (by rw [← e]))]
theorem sets_heap (l : List Value) {k : Nat} (hk : k ≠ b) : ∀ (o : Nat) (w : World), (sets b o l w).heap[k]? = w.heap[k]? := by
 induction l with
 | nil => intro o w; rfl
 | cons v l ih => intro o w; rw [sets, ih]; exact Below.heap_setCell w ⟨b, o, none⟩ v k hk
theorem Bx.sets_far (h : Bx w b t xs) {g : Nat} (hp : b ≠ g) (l : List Value) (o : Nat) : Bx (sets g o l w) b t xs := by unfold Bx at h ⊢; rw [sets_heap l hp]; exact h
def setl : Nat → List Value → Array Value → Array Value
 | _, [], xs => xs
 | o, v :: l, xs => setl (o + 1) l (xs.setIfInBounds o v)
theorem Bx.sets (l : List Value) : ∀ (o : Nat) (w : World) (xs : Array Value), Bx w b t xs → Bx (sets b o l w) b t (setl o l xs) := by
 induction l with
 | nil => intro o w xs h; exact h
 | cons v l ih => intro o w xs h; rw [Tm.sets, setl]; exact ih _ _ _ (h.set o v)
end
theorem setl_hist (x0 x1 x2 x3 x4 x5 x6 x7 x8 x9 a0 a1 a2 a3 a4 a5 a6 a7 a8 a9 : Value) : setl 0 [a0, a1, a2, a3, a4, a5, a6, a7, a8, a9] #[x0, x1, x2, x3, x4, x5, x6, x7, x8, x9] = #[a0, a1, a2, a3, a4, a5, a6, a7, a8, a9] := by simp [setl]
abbrev puth (b : Nat) (h : Hr) (w : World) : World := sets b 0 [.int .i64 h.id, .int .i64 h.bk, .int .i64 h.s.1, .int .i64 h.s.2, .int .i64 h.r.k, .int .i64 h.r.v, .int .i64 h.r.a, .int .i64 h.r.z, .slice h.A h.n h.c, .slice h.B h.m h.d] w
theorem Bx.puth {w : World} {b : Nat} {h' : Hr} (H : Bx w b 35 (hc h')) (h : Hr) : Bx (puth b h w) b 35 (hc h) := by
 have := H.sets [.int .i64 h.id, .int .i64 h.bk, .int .i64 h.s.1, .int .i64 h.s.2, .int .i64 h.r.k, .int .i64 h.r.v, .int .i64 h.r.a, .int .i64 h.r.z, .slice h.A h.n h.c, .slice h.B h.m h.d] 0; rwa [setl_hist] at this
end Tm
end Go.Proofs.YtplenoaajokpjaaGreat
namespace Go.Proofs.YtplenoaajokpjaaGreat
open Go.RowKit Ba Cv Sp Te Ag
namespace Tm
set_option linter.unusedVariables false
theorem info_change : (Tryz.prog.info? 52).map (fun i => (i.zero, i.size, i.bytes)) = some (some (.agg zc), 9, 88) := by kernel_rfl
theorem raws_own {w : World} {base n : Nat} {v : Value} {xs : List Rw} (h : w.ownsRow base 52 9 v n (cel xs)) : ∃ A c, v = .slice A n c ∧ Raws w (fun b => base ≤ b ∧ b < w.heap.size) A n xs := by
 have hl : xs.length = n := by have := h.1; rw [cel_length] at this; omega
 rcases h.2 with ⟨rfl, hn⟩ | ⟨g, cap, cur, rfl, hb, hh, hnc, hm, hs, ht⟩
 ·subst hn; exact ⟨_, _, rfl, hl, fun h => absurd h (by omega)⟩
 ·refine ⟨_, _, rfl, hl, fun _ => ⟨_, rfl, ⟨hb, ?_⟩, fun j x hx => nin_of fun o u hu => ?_⟩⟩
  ·rcases Nat.lt_or_ge g w.heap.size with hlt | hge
   ·exact hlt
   ·rw [Array.getElem?_eq_none hge] at hh; cases hh
  ·have ho : o < 9 := (List.getElem?_eq_some_iff.1 hu).1; exact World.ownsRow.cells (g := g) h rfl (j * 9 + o) u ((cel_get hx ho).trans hu)
def Own (w : World) (base : Nat) (A : Option Addr) (n c : Nat) (xs : List Rw) : Prop := w.ownsRow base 52 9 (.slice A n c) n (cel xs)
section
variable {w w' : World} {base n c : Nat} {A : Option Addr} {xs : List Rw}
theorem Own.nil : Own w base none 0 0 [] := World.ownsRow_nil w base _ 9
theorem Own.len (h : Own w base A n c xs) : xs.length = n := by have := h.1; rw [cel_length] at this; omega
theorem Own.lt (h : Own w base A n c xs) : ∀ k, (Value.slice A n c).ownBlock = some k → base ≤ k ∧ k < w.heap.size := World.ownsRow.lt h
theorem Own.below (h : Own w base A n c xs) (hb : Below w.heap.size w w') : Own w' base A n c xs := by
 refine World.ownsRow.kept h (grown_of_below hb) ?_; cases A with
 | none => exact .inl rfl
 | some a => exact .inr (by simp [Value.ownBlock])
theorem Own.raws (h : Own w base A n c xs) : Raws w (fun b => base ≤ b ∧ b < w.heap.size) A n xs := by
 obtain ⟨A', c', e, hl⟩ := raws_own h; injection e with e1 e2 e3
 subst e1; exact hl
theorem Own.drew (h : Own w base A n c xs) : Own w.drew base A n c xs := h
theorem Raws.drew {ok : Nat → Prop} {L : Option Addr} (h : Raws w ok L n xs) : Raws w.drew ok L n xs := h.keep (fun _ _ => rfl) fun _ h => h
theorem Own.made (w : World) : Own (w.alloc (.cells #[] 52)) w.heap.size (some ⟨w.heap.size, 0, none⟩) 0 0 [] := World.ownsRow_made w #[] 0 (Nat.le_refl _) (Nat.zero_le _) (by simp)
theorem Own.one (w : World) (r : Rw) : Own (w.alloc (.cells (vc r) 52)) w.heap.size (some ⟨w.heap.size, 0, none⟩) 1 1 [r] :=
 ⟨by rw [cel_one]; rfl, .inr ⟨w.heap.size, 1, _, rfl, Nat.le_refl _, heap_alloc_new w _, Nat.le_refl _, by unfold maxLen; omega, rfl, by rw [cel_one]; rfl⟩⟩
end
theorem own_of_row {w : World} {base k : Nat} {v : Value} {xs : List Rw} (h : w.ownsRow base 52 9 v k (cel xs)) : ∃ A c, v = .slice A k c ∧ Own w base A k c xs := by
 rcases h.2 with ⟨rfl, hn⟩ | ⟨g, cap, cur, rfl, hr⟩
 ·subst hn; exact ⟨_, _, rfl, h⟩
 ·exact ⟨_, _, rfl, h⟩
theorem run_app (w : World) (ty : TypeId) (base : Nat) (A : Option Addr) (n c : Nat) (xs : List Rw) (hown : Own w base A n c xs)
  (ok : Nat → Prop) (C : Option Addr) (m d : Nat) (ys : List Rw) (hr : Raws w ok C m ys) (hnil : C = none → m = 0 ∧ d = 0) (hlen : n + m ≤ 4000000) (hbase : base ≤ w.heap.size) :
  ∃ A' c' w', (Builtin.append_ #[33, 33] ty #[.slice A n c, .slice C m d]).run Tryz.prog w = .ok (.slice A' (n + m) c') w' ∧ Own w' base A' (n + m) c' (xs ++ ys) ∧ w.grownBy w' (Value.slice A n c).ownBlock := by
 obtain ⟨i, hi, hz, h1, h2⟩ := info_parts info_change; cases C with
 | none =>
  obtain ⟨rfl, rfl⟩ := hnil rfl; have hy : ys = [] := List.eq_nil_of_length_eq_zero hr.1; subst hy; exact ⟨A, c, w, run_append_owned_none (P := Tryz.prog) (w := w) base _ ty 52 i 9 Tryz.underlying33 hi _ n _ hown, by rw [List.append_nil]; exact hown, World.grownBy.refl w _⟩
 | some ad =>
  obtain ⟨v', w', hrun, hO, hg, _⟩ := run_append_own (P := Tryz.prog) w base 33 ty 52 i _ 9 88 Tryz.underlying33 hi hz h1 h2 rfl (by omega) (.slice A n c) n _ hown ad m d (cel ys) (by rw [cel_length, hr.1]) (Raws.cells hr) (cel_cell ys) (by unfold maxLen; omega) (by omega) hbase; rw [← cel_append] at hO; obtain ⟨A', c', rfl, hO'⟩ := own_of_row hO; exact ⟨A', c', w', hrun, hO', hg⟩
theorem wpList_app (w : World) {ops : Array Oper} {rest : List Oper} {o : Oper} {a : Act} {Q : Exit → Act → World → Prop} (hgd : o.guard = none) (s x : Operand)
  (ho : o.op = .call { callee := .builtin .append, args := #[s, x], argTypes := #[33, 33] })
  (base : Nat) (A : Option Addr) (n c : Nat) (xs : List Rw) (hs : a.eval s = .slice A n c) (hown : Own w base A n c xs)
  (ok : Nat → Prop) (C : Option Addr) (m d : Nat) (ys : List Rw) (hx : a.eval x = .slice C m d) (hr : Raws w ok C m ys) (hnil : C = none → m = 0 ∧ d = 0) (N : Nat) (hN : n + m = N) (hlen : n + m ≤ 4000000) (hbase : base ≤ w.heap.size)
  (h : ∀ A' c' w', Own w' base A' N c' (xs ++ ys) → w.grownBy w' (Value.slice A n c).ownBlock → wpList Tryz.prog ops Q rest (a.put o.dst (.slice A' N c')) w') :
  wpList Tryz.prog ops Q (o :: rest) a w := by
 subst hN; refine wpList_plain hgd fun K hK => ?_
 obtain ⟨A', c', w', hrun, hO, hg⟩ := run_app w o.type base A n c xs hown ok C m d ys hr hnil hlen hbase; unfold Oper.wp; simp [execOp, ho, resolve, invoke, builtin, hs, hx, hrun, Result.andThen]; exact hK _ _ (h A' c' w' hO hg)
theorem step_app (w : World) {ops : Array Oper} {o : Oper} {a : Act} {K : Act → World → Prop} {Q : Exit → Act → World → Prop} {E : Prop} (hgd : o.guard = none) (s x : Operand)
  (ho : o.op = .call { callee := .builtin .append, args := #[s, x], argTypes := #[33, 33] })
  (base : Nat) (A : Option Addr) (n c : Nat) (xs : List Rw) (hs : a.eval s = .slice A n c) (hown : Own w base A n c xs)
  (ok : Nat → Prop) (C : Option Addr) (m d : Nat) (ys : List Rw) (hx : a.eval x = .slice C m d) (hr : Raws w ok C m ys) (hnil : C = none → m = 0 ∧ d = 0) (N : Nat) (hN : n + m = N) (hlen : n + m ≤ 4000000) (hbase : base ≤ w.heap.size)
  (h : ∀ A' c' w', Own w' base A' N c' (xs ++ ys) → w.grownBy w' (Value.slice A n c).ownBlock → K (a.put o.dst (.slice A' N c')) w') :
  if Region.wanted o (yielded ops a.tmps) = true then Oper.wp Tryz.prog o a w K Q else E := by
 subst hN; have hw : Region.wanted o (yielded ops a.tmps) = true := by simp [Region.wanted, hgd]
 rw [if_pos hw]; obtain ⟨A', c', w', hrun, hO, hg⟩ := run_app w o.type base A n c xs hown ok C m d ys hr hnil hlen hbase; unfold Oper.wp execOp; simp only [ho, resolve, invoke, builtin, Sem.run_bind, Sem.run_pure, Result.andThen_ok, List.map_toArray, List.map_cons, List.map_nil, hs, hx, hrun]; exact h A' c' w' hO hg
end Tm
end Go.Proofs.YtplenoaajokpjaaGreat

namespace Go.Proofs.YtplenoaajokpjaaGreat
open Go.RowKit Ba Cv Sp Te Ag
namespace Tm
set_option linter.unusedVariables false
abbrev pv (a b c : Bool) : Value := .agg #[.bool a, .bool b, .bool c]
def ent (k : Int) (v : Value) (n : Nat) : MapEntry := ⟨.int .i64 k, v, n⟩
def keys (es : List MapEntry) (ks : List Int) : Prop := es.map (·.key) = ks.map (Value.int .i64)
structure Km (w W : World) (es : Array MapEntry) (n : Nat) : Prop where
 b : Below w.heap.size w W
 m : W.heap[w.heap.size]? = some (.map es n)
theorem find_no (k : Int) : ∀ (es : List MapEntry) (ks : List Int) (i : Nat), keys es ks → k ∉ ks → Instr.findNow (.int .i64) (.int .i64 k) es i = some none
 | [], ks, i, h, hk => rfl
 | e :: es, ks, i, h, hk => by
  cases ks with
  | nil => simp [keys] at h
  | cons j ks =>
   simp [keys] at h; simp at hk; have := find_no k es ks (i + 1) h.2 hk.2; have hkj : (k == j) = false := by simpa using hk.1
   simp [Instr.findNow, Instr.sameNow, h.1, hkj, this]
theorem run_put (w w0 : World) (es : Array MapEntry) (n : Nat) (ks : List Int) (k : Int) (v : Value) (H : Km w0 w es n) (hks : keys es.toList ks) (hk : k ∉ ks) :
  ∃ w', (Instr.mapUpdate 103 (.map (some w0.heap.size)) (.int .i64 k) v).run Tryz.prog w = .ok () w' ∧ Km w0 w' (es.push (ent k v n)) (n + 1) := by
 have hlt : w0.heap.size < w.heap.size := (Array.getElem?_eq_some_iff.1 H.m).1; refine ⟨ChangeMaps.setBlock w w0.heap.size (.map (es.push (ent k v n)) (n + 1)), ?_, ⟨H.b.os, H.b.tape, H.b.output, ?_, fun i hi => ?_⟩, ?_⟩
 ·simp [Instr.mapUpdate, run_underlying Tryz.underlying103, MapKept.run_getObj_map H.m, MapKept.run_checkKey (d := .int .i64) (k := .int .i64 k) Tryz.underlying3 rfl, MapKept.run_findKey Tryz.underlying3 (find_no k es.toList ks 0 hks hk), MapKept.run_setObj_map _ H.m, Result.andThen, ChangeMaps.setBlock, ent]
 ·simpa [ChangeMaps.setBlock] using H.b.size
 ·have := H.b.block i hi; rw [← this]; simp only [ChangeMaps.setBlock]; exact (MapKept.heap_set H.m).2 i (by omega)
 ·simp only [ChangeMaps.setBlock]; exact (MapKept.heap_set H.m).1
theorem wpList_ins (w : World) {ops : Array Oper} {rest : List Oper} {o : Oper} {a : Act} {Q : Exit → Act → World → Prop} (hg : o.guard = none) (m x v : Operand) (hop : o.op = Op.insert 103 m x v)
  (w0 : World) (es : Array MapEntry) (n : Nat) (ks : List Int) (k : Int) (val : Value) (hm : a.eval m = .map (some w0.heap.size)) (hx : a.eval x = .int .i64 k) (hv : a.eval v = val) (H : Km w0 w es n) (hks : keys es.toList ks) (hk : k ∉ ks)
  (hK : ∀ w', Km w0 w' (es.push (ent k val n)) (n + 1) → wpList Tryz.prog ops Q rest (a.put o.dst undef) w') : wpList Tryz.prog ops Q (o :: rest) a w := by
 refine wpList_plain hg fun K' hK' => ?_
 obtain ⟨w', hrun, r1⟩ := run_put w w0 es n ks k val H hks hk; unfold Oper.wp; simp [execOp, hop, hm, hx, hv, hrun, Result.andThen]; exact hK' _ _ (hK w' r1)
abbrev e1 : Array MapEntry := #[ent 1 (pv true false false) 0]
abbrev e2 : Array MapEntry := #[ent 1 (pv true false false) 0, ent 2 (pv false true false) 1]
abbrev e3 : Array MapEntry := #[ent 1 (pv true false false) 0, ent 2 (pv false true false) 1, ent 3 (pv false false true) 2]
abbrev e4 : Array MapEntry := #[ent 1 (pv true false false) 0, ent 2 (pv false true false) 1, ent 3 (pv false false true) 2, ent 4 (pv false false false) 3]
def KM (w : World) (b : Nat) : Prop := w.heap[b]? = some (.map e4 4)
theorem KM.below {w w' : World} {b : Nat} (h : KM w b) (hb : Below w.heap.size w w') : KM w' b := (hb.block b (Array.getElem?_eq_some_iff.1 h).1).trans h
theorem KM.lt {w : World} {b : Nat} (h : KM w b) : b < w.heap.size := (Array.getElem?_eq_some_iff.1 h).1
set_option maxHeartbeats 1000000 in
theorem kinds_ (w : World) : Calls Tryz.prog 58 #[] w fun e w' => e = .returned (.map (some w.heap.size)) ∧ KM w' w.heap.size ∧ Below w.heap.size w w' := by
 have hmm := @run_makeMap Tryz.prog; have H0 := Lib.hid (show Km w (w.alloc (.map #[] 0)) #[] 0 from ⟨alloc_ _ _, heap_alloc_new w _⟩); go_enter Tryz.func58, Tryz.ntmps58
 go_wp2_with (first
  | (refine wpList_ins _ rfl (.tmp 1) _ (.tmp 2) rfl w #[] 0 [] 1 _ rfl rfl rfl H0.out rfl (by simp) ?_; intro w1 h1; have H1 := Lib.hid (show Km w w1 e1 1 from h1); clear h1)
  | (refine wpList_ins _ rfl (.tmp 1) _ (.tmp 3) rfl w e1 1 [1] 2 _ rfl rfl rfl H1.out rfl (by simp) ?_; intro w2 h2; have H2 := Lib.hid (show Km w w2 e2 2 from h2); clear h2)
  | (refine wpList_ins _ rfl (.tmp 1) _ (.tmp 4) rfl w e2 2 [1, 2] 3 _ rfl rfl rfl H2.out rfl (by simp) ?_; intro w3 h3; have H3 := Lib.hid (show Km w w3 e3 3 from h3); clear h3)
  | (refine wpList_ins _ rfl (.tmp 1) _ (.tmp 5) rfl w e3 3 [1, 2, 3] 4 _ rfl rfl rfl H3.out rfl (by simp) ?_; intro w4 h4; have H4 := Lib.hid (show Km w w4 e4 4 from h4); clear h4))
 go_ret; exact ⟨rfl, H4.out.m, H4.out.b⟩
def part : Option (Bool × Bool × Bool) → Value
 | none => pv false false false
 | some (a, b, d) => pv a b d
theorem zero_parts (w : World) : (zeroValue 101).run Tryz.prog w = .ok (pv false false false) w := by kernel_rfl
theorem look {w : World} {b : Nat} (h : KM w b) (k : Int) : (Instr.lookup 103 (.map (some b)) (.int .i64 k) true).run Tryz.prog w = .ok (.tuple #[part (pts k), .bool (pts k).isSome]) w := by
 have hf : ∀ r, Instr.findNow (.int .i64) (.int .i64 k) e4.toList 0 = some r → (Instr.lookup 103 (.map (some b)) (.int .i64 k) true).run Tryz.prog w = (match r with | some (_, v) => .ok (.tuple #[v, .bool true]) w | none => .ok (.tuple #[pv false false false, .bool false]) w) := by
  intro r hr; cases r with
  | none => simp [Instr.lookup, run_underlying Tryz.underlying103, MapKept.run_getObj_map h, MapKept.run_checkKey (d := .int .i64) (k := .int .i64 k) Tryz.underlying3 rfl, MapKept.run_findKey Tryz.underlying3 hr, Result.andThen, zero_parts]
  | some p => simp [Instr.lookup, run_underlying Tryz.underlying103, MapKept.run_getObj_map h, MapKept.run_checkKey (d := .int .i64) (k := .int .i64 k) Tryz.underlying3 rfl, MapKept.run_findKey Tryz.underlying3 hr, Result.andThen]
 unfold pts; by_cases h1 : k = 1
 ·subst h1; rw [hf _ (by simp [Instr.findNow, Instr.sameNow, ent]; rfl)]; rfl
 by_cases h2 : k = 2
 ·subst h2; rw [hf _ (by simp [Instr.findNow, Instr.sameNow, ent]; rfl)]; rfl
 by_cases h3 : k = 3
 ·subst h3; rw [hf _ (by simp [Instr.findNow, Instr.sameNow, ent]; rfl)]; rfl
 by_cases h4 : k = 4
 ·subst h4; rw [hf _ (by simp [Instr.findNow, Instr.sameNow, ent]; rfl)]; rfl
 ·rw [hf _ (find_no k e4.toList [1, 2, 3, 4] 0 rfl (by simp; omega)), if_neg h1, if_neg h2, if_neg h3, if_neg h4]; rfl
end Tm
end Go.Proofs.YtplenoaajokpjaaGreat
