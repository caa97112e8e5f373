/-
  Rows of changes; histories by value; boxes that are stored into.
-/
import Derived.Test.YtcnlllamldlnmaaApp
import Derived.Test.YtcnlllamldlnmaaAg
namespace Go.Proofs.Ytcnlllamldlnmaa
open Go.RowKit Ba Cv Sp Te Ag
namespace Tm
set_option linter.unusedVariables false

/-- A change as it lies: what it means, and its slice of covers. -/
structure Rw where
  v : Ch
  A : Option Addr
  n : Nat
  c : Nat
/-- A change by value, and its cells. -/
abbrev vc (r : Rw) : Array Value := #[.int .i64 r.v.bk, .int .i64 r.v.dy, .int .i64 r.v.kd, .int .i64 r.v.r.k, .int .i64 r.v.r.v, .int .i64 r.v.r.a, .int .i64 r.v.r.z, .slice r.A r.n r.c, .int .i64 r.v.wy]
abbrev vg (r : Rw) : Value := .agg (vc r)
abbrev zc : Array Value := #[.int .i64 0, .int .i64 0, .int .i64 0, .int .i64 0, .int .i64 0, .int .i64 0, .int .i64 0, .slice none 0 0, .int .i64 0]
def zr : Rw := ⟨zch, none, 0, 0⟩
def cl (r : Rw) : List Value := [.int .i64 r.v.bk, .int .i64 r.v.dy, .int .i64 r.v.kd, .int .i64 r.v.r.k, .int .i64 r.v.r.v, .int .i64 r.v.r.a, .int .i64 r.v.r.z, .slice r.A r.n r.c, .int .i64 r.v.wy]
def cel (rs : List Rw) : List Value := rs.flatMap cl
theorem cel_append (xs ys : List Rw) : cel (xs ++ ys) = cel xs ++ cel ys := List.flatMap_append
theorem cel_one (r : Rw) : cel [r] = cl r := by simp [cel]
theorem cel_length (xs : List Rw) : (cel xs).length = xs.length * 9 := by
  induction xs with
  | nil => rfl
  | cons x xs ih => rw [show x :: xs = [x] ++ xs from rfl, cel_append, List.length_append, ih, cel_one]; simp [cl]; omega
theorem cel_get {xs : List Rw} {j : Nat} {r : Rw} (h : xs[j]? = some r) {o : Nat} (ho : o < 9) : (cel xs)[j * 9 + o]? = (cl r)[o]? := by
  induction xs generalizing j with
  | nil => simp at h
  | cons y ys ih =>
    have hl : (cl y).length = 9 := rfl
    rw [show y :: ys = [y] ++ ys from rfl, cel_append, cel_one]
    cases j with
    | zero => simp at h; subst h; rw [Nat.zero_mul, Nat.zero_add, List.getElem?_append_left (by omega)]
    | succ j =>
      simp at h
      rw [List.getElem?_append_right (by omega), hl, show (j + 1) * 9 + o - 9 = j * 9 + o by omega]
      exact ih h
theorem cel_cell (xs : List Rw) : ∀ u ∈ cel xs, u.oneCell' = true := by
  intro u hu
  obtain ⟨x, _, hx⟩ := List.mem_flatMap.1 hu
  simp [cl] at hx
  rcases hx with rfl | rfl | rfl | rfl | rfl | rfl | rfl | rfl | rfl <;> rfl

/-- Nine cells from an address on. -/
structure Nin (w : World) (a : Addr) (r : Rw) : Prop where
  c0 : w.cell? a = some (.int .i64 r.v.bk)
  c1 : w.cell? ⟨a.block, a.off + 1, none⟩ = some (.int .i64 r.v.dy)
  c2 : w.cell? ⟨a.block, a.off + 2, none⟩ = some (.int .i64 r.v.kd)
  c3 : w.cell? ⟨a.block, a.off + 3, none⟩ = some (.int .i64 r.v.r.k)
  c4 : w.cell? ⟨a.block, a.off + 4, none⟩ = some (.int .i64 r.v.r.v)
  c5 : w.cell? ⟨a.block, a.off + 5, none⟩ = some (.int .i64 r.v.r.a)
  c6 : w.cell? ⟨a.block, a.off + 6, none⟩ = some (.int .i64 r.v.r.z)
  c7 : w.cell? ⟨a.block, a.off + 7, none⟩ = some (.slice r.A r.n r.c)
  c8 : w.cell? ⟨a.block, a.off + 8, none⟩ = some (.int .i64 r.v.wy)
theorem Nin.keep {w w' : World} {a : Addr} {r : Rw} (h : Nin w a r) (hk : ∀ p : Addr, p.block = a.block → w'.cell? p = w.cell? p) : Nin w' a r :=
  ⟨(hk _ rfl).trans h.c0, (hk ⟨a.block, a.off + 1, none⟩ rfl).trans h.c1, (hk ⟨a.block, a.off + 2, none⟩ rfl).trans h.c2, (hk ⟨a.block, a.off + 3, none⟩ rfl).trans h.c3, (hk ⟨a.block, a.off + 4, none⟩ rfl).trans h.c4, (hk ⟨a.block, a.off + 5, none⟩ rfl).trans h.c5, (hk ⟨a.block, a.off + 6, none⟩ rfl).trans h.c6, (hk ⟨a.block, a.off + 7, none⟩ rfl).trans h.c7, (hk ⟨a.block, a.off + 8, none⟩ rfl).trans h.c8⟩
theorem nin_of {w : World} {a : Addr} {r : Rw} {j : Nat} (h : ∀ (o : Nat) (u : Value), (cl r)[o]? = some u → w.cell? (a.add (j + o)) = some u) : Nin w (a.add j) r :=
  ⟨h 0 _ rfl, by rw [← add_more a j 0]; exact h 1 _ rfl, by rw [← add_more a j 1]; exact h 2 _ rfl, by rw [← add_more a j 2]; exact h 3 _ rfl, by rw [← add_more a j 3]; exact h 4 _ rfl, by rw [← add_more a j 4]; exact h 5 _ rfl, by rw [← add_more a j 5]; exact h 6 _ rfl, by rw [← add_more a j 6]; exact h 7 _ rfl, by rw [← add_more a j 7]; exact h 8 _ rfl⟩
theorem nin_back {w : World} {a : Addr} {r : Rw} {j : Nat} (h : Nin w (a.add j) r) : ∀ (o : Nat) (u : Value), (cl r)[o]? = some u → w.cell? (a.add (j + o)) = some u := by
  intro o u hu
  match o, hu with
  | 0, hu => injection hu with hu; subst hu; exact h.c0
  | 1, hu => injection hu with hu; subst hu; rw [add_more a j 0]; exact h.c1
  | 2, hu => injection hu with hu; subst hu; rw [add_more a j 1]; exact h.c2
  | 3, hu => injection hu with hu; subst hu; rw [add_more a j 2]; exact h.c3
  | 4, hu => injection hu with hu; subst hu; rw [add_more a j 3]; exact h.c4
  | 5, hu => injection hu with hu; subst hu; rw [add_more a j 4]; exact h.c5
  | 6, hu => injection hu with hu; subst hu; rw [add_more a j 5]; exact h.c6
  | 7, hu => injection hu with hu; subst hu; rw [add_more a j 6]; exact h.c7
  | 8, hu => injection hu with hu; subst hu; rw [add_more a j 7]; exact h.c8
/-- The slice with this address and length lies as these changes, in blocks that are asked for. -/
def Raws (w : World) (ok : Nat → Prop) (A : Option Addr) (n : Nat) (rs : List Rw) : Prop :=
  rs.length = n ∧ (0 < n → ∃ ad : Addr, A = some ad ∧ ok ad.block ∧ ∀ (j : Nat) (r : Rw), rs[j]? = some r → Nin w (ad.add (j * 9)) r)
section
variable {w w' : World} {ok ok' : Nat → Prop} {n : Nat} {A : Option Addr} {rs : List Rw}
theorem Raws.nil {A : Option Addr} : Raws w ok A 0 [] := ⟨rfl, fun h => absurd h (by omega)⟩
theorem Raws.keep (h : Raws w ok A n rs) (hk : ∀ p : Addr, ok p.block → w'.cell? p = w.cell? p) (hw : ∀ b, ok b → ok' b) : Raws w' ok' A n rs :=
  ⟨h.1, fun hn => by
    obtain ⟨ad, e, hb, hc⟩ := h.2 hn
    exact ⟨ad, e, hw _ hb, fun j x hx => (hc j x hx).keep fun p hp => hk p (by rw [hp, add_block]; exact hb)⟩⟩
theorem Raws.below (h : Raws w (· < w.heap.size) A n rs) (hb : Below w.heap.size w w') : Raws w' (· < w'.heap.size) A n rs := h.keep (fun _ hp => hb.cell hp) fun b h => Nat.lt_of_lt_of_le h hb.size
theorem Raws.get {k : Nat} (h : Raws w ok A n rs) (hk : k < n) : ∃ (ad : Addr) (r : Rw), A = some ad ∧ ok ad.block ∧ rs[k]? = some r ∧ Nin w (ad.add (k * 9)) r := by
  obtain ⟨ad, e, hb, hc⟩ := h.2 (by omega)
  have hl : k < rs.length := by have := h.1; omega
  exact ⟨ad, rs[k], e, hb, List.getElem?_eq_getElem hl, hc k _ (List.getElem?_eq_getElem hl)⟩
theorem Raws.noroom (h : Raws w ok none n rs) : n = 0 := by
  rcases Nat.eq_zero_or_pos n with h0 | h0
  · exact h0
  · obtain ⟨ad, e, _⟩ := h.2 h0; cases e
theorem Raws.cells {ad : Addr} (h : Raws w ok (some ad) n rs) (j : Nat) (u : Value) (hu : (cel rs)[j]? = some u) : w.cell? (ad.add j) = some u := by
  have hl : j < rs.length * 9 := by rw [← cel_length]; exact (List.getElem?_eq_some_iff.1 hu).1
  have hm : j / 9 < rs.length := by omega
  have hy : rs[j / 9]? = some rs[j / 9] := List.getElem?_eq_getElem hm
  obtain ⟨ad', e, _, hc⟩ := h.2 (by have := h.1; omega)
  injection e with e
  subst e
  have hj : j / 9 * 9 + j % 9 = j := by omega
  have g := cel_get hy (o := j % 9) (by omega)
  rw [hj] at g
  have := nin_back (hc _ _ hy) (j % 9) u (by rw [← g]; exact hu)
  rwa [hj] at this
end

/-- A history as it lies: what it means, and its slices. -/
structure Hr where
  id : Int
  bk : Int
  s : Sp
  r : Ri
  A : Option Addr
  n : Nat
  c : Nat
  cs : List Co
  B : Option Addr
  m : Nat
  d : Nat
  rs : List Rw
def Hr.v (h : Hr) : Hi := ⟨h.id, h.bk, h.s, h.r, h.cs, h.rs.map Rw.v⟩
/-- A history by value, and its cells. -/
abbrev hc (h : Hr) : Array Value := #[.int .i64 h.id, .int .i64 h.bk, .int .i64 h.s.1, .int .i64 h.s.2, .int .i64 h.r.k, .int .i64 h.r.v, .int .i64 h.r.a, .int .i64 h.r.z, .slice h.A h.n h.c, .slice h.B h.m h.d]
abbrev hg (h : Hr) : Value := .agg (hc h)
abbrev zhc : Array Value := #[.int .i64 0, .int .i64 0, .int .i64 0, .int .i64 0, .int .i64 0, .int .i64 0, .int .i64 0, .int .i64 0, .slice none 0 0, .slice none 0 0]
def zhr : Hr := ⟨0, 0, (0, 0), zri, none, 0, 0, [], none, 0, 0, []⟩
theorem zhr_v : zhr.v = zhi := rfl
/-- The slices read as what is meant, in blocks that are asked for. -/
structure HM (w : World) (ok : Nat → Prop) (h : Hr) : Prop where
  t : Cvs w ok h.A h.n h.cs
  r : Raws w ok h.B h.m h.rs
  k : ∀ r ∈ h.rs, Cvs w ok r.A r.n r.v.cs
/-- Lists are short; a slice that is nil has no room. -/
structure HS (h : Hr) : Prop where
  n : h.n ≤ 3000
  m : h.m ≤ 2000
  k : ∀ r ∈ h.rs, r.n ≤ 3000
  z : h.B = none → h.m = 0 ∧ h.d = 0
  f : h.m ≤ h.d
section
variable {w w' : World} {ok ok' : Nat → Prop} {h : Hr}
theorem HM.keep (H : HM w ok h) (hk : ∀ p : Addr, ok p.block → w'.cell? p = w.cell? p) (hw : ∀ b, ok b → ok' b) : HM w' ok' h := ⟨H.t.keep hk hw, H.r.keep hk hw, fun r hr => (H.k r hr).keep hk hw⟩
theorem HM.below (H : HM w (· < w.heap.size) h) (hb : Below w.heap.size w w') : HM w' (· < w'.heap.size) h := H.keep (fun _ hp => hb.cell hp) fun b h => Nat.lt_of_lt_of_le h hb.size
theorem HM.len (H : HM w ok h) : h.v.hs.length = h.m := by rw [Hr.v]; simp; exact H.r.1
theorem HM.get {k : Nat} (H : HM w ok h) (hk : k < h.m) : ∃ (ad : Addr) (r : Rw), h.B = some ad ∧ ok ad.block ∧ h.rs[k]? = some r ∧ Nin w (ad.add (k * 9)) r ∧ Cvs w ok r.A r.n r.v.cs ∧ h.v.hs[k]? = some r.v := by
  obtain ⟨ad, r, e, hb, hr, hn⟩ := H.r.get hk
  exact ⟨ad, r, e, hb, hr, hn, H.k r (List.mem_of_getElem? hr), by rw [Hr.v, List.getElem?_map, hr]; rfl⟩
end
theorem zhr_mean (w : World) (ok : Nat → Prop) : HM w ok zhr := ⟨Cvs.nil, Raws.nil, fun r h => by cases h⟩
theorem zhr_sm : HS zhr := ⟨Nat.zero_le _, Nat.zero_le _, (fun r h => by cases h), fun _ => ⟨rfl, rfl⟩, Nat.le_refl _⟩

/-- Cells stored one behind the other. -/
def sets (b : Nat) : Nat → List Value → World → World
  | _, [], w => w
  | o, v :: l, w => sets b (o + 1) l (w.setCell ⟨b, o, none⟩ v)
section
variable {w w0 : World} {b B : Nat} {t : TypeId} {xs : Array Value}
theorem sets_size (l : List Value) : ∀ (o : Nat) (w : World), (sets b o l w).heap.size = w.heap.size := by
  induction l with
  | nil => intro o w; rfl
  | cons v l ih => intro o w; rw [sets, ih]; simp
theorem sets_below (l : List Value) (hB : B ≤ b) : ∀ (o : Nat) (w : World), Below B w0 w → Below B w0 (sets b o l w) := by
  induction l with
  | nil => intro o w h; exact h
  | cons v l ih => intro o w h; rw [sets]; exact ih _ _ (h.setCell (p := ⟨b, o, none⟩) hB _)
theorem sets_other (l : List Value) {p : Addr} (hp : p.block ≠ b) : ∀ (o : Nat) (w : World), (sets b o l w).cell? p = w.cell? p := by
  induction l with
  | nil => intro o w; rfl
  | cons v l ih => intro o w; rw [sets, ih, World.cell?_setCell_other _ _ _ _ (fun e => hp (by rw [← e]))]
theorem sets_heap (l : List Value) {k : Nat} (hk : k ≠ b) : ∀ (o : Nat) (w : World), (sets b o l w).heap[k]? = w.heap[k]? := by
  induction l with
  | nil => intro o w; rfl
  | cons v l ih => intro o w; rw [sets, ih]; exact Below.heap_setCell w ⟨b, o, none⟩ v k hk
theorem Bx.sets_far (h : Bx w b t xs) {g : Nat} (hp : b ≠ g) (l : List Value) (o : Nat) : Bx (sets g o l w) b t xs := by unfold Bx at h ⊢; rw [sets_heap l hp]; exact h
def setl : Nat → List Value → Array Value → Array Value
  | _, [], xs => xs
  | o, v :: l, xs => setl (o + 1) l (xs.setIfInBounds o v)
theorem Bx.sets (l : List Value) : ∀ (o : Nat) (w : World) (xs : Array Value), Bx w b t xs → Bx (sets b o l w) b t (setl o l xs) := by
  induction l with
  | nil => intro o w xs h; exact h
  | cons v l ih => intro o w xs h; rw [Tm.sets, setl]; exact ih _ _ _ (h.set o v)
end
theorem setl_hist (x0 x1 x2 x3 x4 x5 x6 x7 x8 x9 a0 a1 a2 a3 a4 a5 a6 a7 a8 a9 : Value) : setl 0 [a0, a1, a2, a3, a4, a5, a6, a7, a8, a9] #[x0, x1, x2, x3, x4, x5, x6, x7, x8, x9] = #[a0, a1, a2, a3, a4, a5, a6, a7, a8, a9] := by simp [setl]
/-- A history stored into a box. -/
abbrev puth (b : Nat) (h : Hr) (w : World) : World := sets b 0 [.int .i64 h.id, .int .i64 h.bk, .int .i64 h.s.1, .int .i64 h.s.2, .int .i64 h.r.k, .int .i64 h.r.v, .int .i64 h.r.a, .int .i64 h.r.z, .slice h.A h.n h.c, .slice h.B h.m h.d] w
theorem Bx.puth {w : World} {b : Nat} {h' : Hr} (H : Bx w b 33 (hc h')) (h : Hr) : Bx (puth b h w) b 33 (hc h) := by
  have := H.sets [.int .i64 h.id, .int .i64 h.bk, .int .i64 h.s.1, .int .i64 h.s.2, .int .i64 h.r.k, .int .i64 h.r.v, .int .i64 h.r.a, .int .i64 h.r.z, .slice h.A h.n h.c, .slice h.B h.m h.d] 0
  rwa [setl_hist] at this

end Tm
end Go.Proofs.Ytcnlllamldlnmaa
