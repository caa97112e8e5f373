/-
  What holds on which days: plain mathematics of slices. Conditions: those of each theorem. No model.
-/
import Derived.Test.YtjmbccdcnmmhgaaMa
import Derived.Test.YtjmbccdcnmmhgaaAg
import Derived.Test.YtjmbccdcnmmhgaaPt
namespace Go.Proofs.Ytjmbccdcnmmhgaa
open Ba Cv Sp Te Ag
namespace Sl
set_option linter.unusedVariables false

instance : DecidableEq Ri := fun a b => decidable_of_iff (a.k = b.k ∧ a.v = b.v ∧ a.a = b.a ∧ a.z = b.z) (by cases a; cases b; simp)
instance : DecidableEq Co := fun a b => decidable_of_iff (a.p = b.p ∧ a.l = b.l ∧ a.g = b.g ∧ a.d = b.d ∧ a.s = b.s) (by cases a; cases b; simp)
/-- What holds: on or off, a risk, covers. -/
structure Hd where
  on : Bool
  r : Ri
  cs : List Co
instance : DecidableEq Hd := fun a b => decidable_of_iff (a.on = b.on ∧ a.r = b.r ∧ a.cs = b.cs) (by cases a; cases b; simp)
/-- A slice. -/
structure Sc where
  s : Sp
  h : Hd
  y : Int
instance : DecidableEq Sc := fun a b => decidable_of_iff (a.s = b.s ∧ a.h = b.h ∧ a.y = b.y) (by cases a; cases b; simp)
def zhd : Hd := ⟨false, zri, []⟩
def zsc : Sc := ⟨(0, 0), zhd, 0⟩

/-- What holds behind a change. -/
def don (s : Hd) (c : Ch) : Hd := if c.kd = 1 then ⟨s.on, c.r, s.cs⟩ else if c.kd = 2 then ⟨s.on, s.r, c.cs⟩ else if c.kd = 3 then ⟨false, s.r, s.cs⟩ else if c.kd = 4 then ⟨true, s.r, s.cs⟩ else s
/-- The changes that are done by a day. -/
def ups (o : List Ch) (d : Int) : List Ch := o.filter fun c => decide (c.dy ≤ d)
/-- What holds on a day. -/
def hld (i : Hd) (o : List Ch) (d : Int) : Hd := (ups o d).foldl don i
theorem ups_same {o : List Ch} {a b : Int} (hab : a ≤ b) (h : ∀ c ∈ o, ¬ (a < c.dy ∧ c.dy ≤ b)) : ups o b = ups o a := by
  unfold ups
  refine List.filter_congr fun c hc => ?_
  have := h c hc
  exact decide_eq_decide.2 (by omega)
theorem hld_same {i : Hd} {o : List Ch} {a b : Int} (hab : a ≤ b) (h : ∀ c ∈ o, ¬ (a < c.dy ∧ c.dy ≤ b)) : hld i o b = hld i o a := by unfold hld; rw [ups_same hab h]
/-- Of changes in order of their days those that are done are a beginning. -/
theorem ups_take {o : List Ch} {d : Int} {p : Nat} (h1 : ∀ c ∈ o.take p, c.dy ≤ d) (h2 : ∀ c ∈ o.drop p, d < c.dy) : ups o d = o.take p := by
  unfold ups
  conv => lhs; rw [← List.take_append_drop p o]
  rw [List.filter_append, List.filter_eq_self.2 (fun c hc => decide_eq_true (h1 c hc)), List.filter_eq_nil_iff.2 (fun c hc => by have := h2 c hc; simp; omega), List.append_nil]
theorem rise_drop {o : List Ch} (h : o.Pairwise fun a b => a.dy ≤ b.dy) {p : Nat} {d : Int} (hp : ∀ c, o[p]? = some c → d < c.dy) : ∀ c ∈ o.drop p, d < c.dy := by
  intro c hc
  rcases Nat.lt_or_ge p o.length with hl | hl
  · have h' : (o.drop p).Pairwise fun a b => a.dy ≤ b.dy := h.sublist (List.drop_sublist p o)
    rw [List.drop_eq_getElem_cons hl] at hc h'
    have h0 := hp _ (List.getElem?_eq_getElem hl)
    rcases List.mem_cons.1 hc with rfl | hc
    · exact h0
    · have := (List.pairwise_cons.1 h').1 c hc; omega
  · rw [List.drop_of_length_le hl] at hc; cases hc

/-- Spans from f up to t, on end, in each of which g is one, and on neighbours not. -/
structure Cutd (g : Int → Hd) (f t : Int) (L : List (Sp × Hd)) : Prop where
  ch : Chain f t (L.map Prod.fst)
  is : ∀ x ∈ L, ∀ d, x.1.1 ≤ d → d < x.1.2 → g d = x.2
  nb : ∀ (i : Nat) (x y : Sp × Hd), L[i]? = some x → L[i + 1]? = some y → x.2 ≠ y.2
section
variable {g : Int → Hd} {f m t : Int} {L : List (Sp × Hd)}
theorem Cutd.nil : Cutd g f f [] := ⟨rfl, (fun x hx => by cases hx), (fun i x y h => by simp at h)⟩
theorem Cutd.one {h : Hd} (hm : f < m) (hg : ∀ d, f ≤ d → d < m → g d = h) : Cutd g f m [((f, m), h)] :=
  ⟨⟨rfl, hm, rfl⟩, (fun x hx => by rw [List.mem_singleton] at hx; subst hx; exact hg), (fun i x y h0 h1 => by simp at h1)⟩
theorem Cutd.more {h : Hd} {x : Sp × Hd} (H : Cutd g f m (L ++ [x])) (hm : m < t) (hg : ∀ d, m ≤ d → d < t → g d = h) (hx : x.2 ≠ h) : Cutd g f t ((L ++ [x]) ++ [((m, t), h)]) := by
  refine ⟨?_, ?_, ?_⟩
  · rw [List.map_append]; exact H.ch.snoc hm
  · intro y hy
    rcases List.mem_append.1 hy with hy | hy
    · exact H.is y hy
    · rw [List.mem_singleton] at hy; subst hy; exact hg
  · intro i y z h0 h1
    have hl : i + 1 < (L ++ [x] ++ [((m, t), h)]).length := (List.getElem?_eq_some_iff.1 h1).1
    simp only [List.length_append, List.length_singleton] at hl
    rcases Nat.lt_or_ge (i + 1) (L ++ [x]).length with hi | hi
    · rw [List.getElem?_append_left hi] at h1
      rw [List.getElem?_append_left (by omega)] at h0
      exact H.nb i y z h0 h1
    · simp only [List.length_append, List.length_singleton] at hi
      obtain rfl : i = L.length := by omega
      rw [List.getElem?_append_left (by simp), List.getElem?_append_right (Nat.le_refl _), Nat.sub_self] at h0
      rw [List.getElem?_append_right (by simp)] at h1
      simp at h0 h1
      subst h0 h1
      exact hx
theorem Chain.len {m t : Int} : ∀ {xs : List Sp} {f a : Int}, Chain f m (xs ++ [(a, m)]) → m < t → Chain f t (xs ++ [(a, t)])
  | [], f, a, h, hm => ⟨h.1, by have := h.2.1; simp at this ⊢; omega, rfl⟩
  | x :: xs, f, a, h, hm => ⟨h.1, h.2.1, Chain.len h.2.2 hm⟩
theorem Chain.end_ {m b : Int} : ∀ {xs : List Sp} {f a : Int}, Chain f m (xs ++ [(a, b)]) → b = m
  | [], f, a, h => h.2.2
  | x :: xs, f, a, h => Chain.end_ h.2.2
theorem Cutd.longer {h : Hd} {a b : Int} (H : Cutd g f m (L ++ [((a, b), h)])) (hm : m < t) (hg : ∀ d, m ≤ d → d < t → g d = h) : Cutd g f t (L ++ [((a, t), h)]) := by
  have hc := H.ch
  rw [List.map_append] at hc
  obtain rfl : b = m := Chain.end_ hc
  refine ⟨?_, ?_, ?_⟩
  · rw [List.map_append]; exact Chain.len hc hm
  · intro y hy
    rcases List.mem_append.1 hy with hy | hy
    · exact H.is y (List.mem_append_left _ hy)
    · rw [List.mem_singleton] at hy; subst hy
      intro d h1 h2
      rcases Int.lt_or_le d b with h3 | h3
      · exact H.is _ (List.mem_append_right _ (List.mem_singleton.2 rfl)) d h1 h3
      · exact hg d h3 h2
  · intro i y z h0 h1
    have hl : i + 1 < (L ++ [((a, t), h)]).length := (List.getElem?_eq_some_iff.1 h1).1
    simp only [List.length_append, List.length_singleton] at hl
    rw [List.getElem?_append_left (by omega)] at h0
    rcases Nat.lt_or_ge (i + 1) L.length with hi | hi
    · rw [List.getElem?_append_left hi] at h1
      exact H.nb i y z (by rw [List.getElem?_append_left (by omega)]; exact h0) (by rw [List.getElem?_append_left hi]; exact h1)
    · rw [List.getElem?_append_right hi] at h1
      have e : i + 1 = L.length := by omega
      rw [e, Nat.sub_self] at h1
      simp at h1
      subst h1
      exact H.nb i y ((a, b), h) (by rw [List.getElem?_append_left (by omega)]; exact h0) (by rw [e, List.getElem?_append_right (Nat.le_refl _), Nat.sub_self]; rfl)
theorem Cutd.tail {x : Sp × Hd} (H : Cutd g f t (x :: L)) : Cutd g x.1.2 t L :=
  ⟨H.ch.2.2, fun y hy => H.is y (List.mem_cons_of_mem _ hy), fun i y z h0 h1 => H.nb (i + 1) y z (by simpa using h0) (by simpa using h1)⟩
theorem Cutd.head {x : Sp × Hd} (H : Cutd g f t (x :: L)) : x.1.1 = f ∧ f < x.1.2 ∧ x.1.2 ≤ t ∧ g f = x.2 := by
  have h1 : x.1.1 = f := H.ch.1
  have h2 : x.1.1 < x.1.2 := H.ch.2.1
  have h3 : x.1.2 ≤ t := H.tail.ch.le
  exact ⟨h1, by omega, h3, by rw [← h1]; exact H.is x (List.mem_cons_self) _ (Int.le_refl _) h2⟩
/-- There is one such. -/
theorem Cutd.unique : ∀ {L M : List (Sp × Hd)} {f : Int}, Cutd g f t L → Cutd g f t M → L = M
  | [], [], _, _, _ => rfl
  | [], y :: M, f, H, K => by have := K.head; have h : f = t := H.ch; omega
  | x :: L, [], f, H, K => by have := H.head; have h : f = t := K.ch; omega
  | x :: L, y :: M, f, H, K => by
    have hx := H.head
    have hy := K.head
    have key : ∀ {x y : Sp × Hd} {L M : List (Sp × Hd)}, Cutd g f t (x :: L) → Cutd g f t (y :: M) → ¬ x.1.2 < y.1.2 := by
      intro x y L M H K hlt
      have hx := H.head
      have hy := K.head
      cases L with
      | nil => have h : x.1.2 = t := H.tail.ch; omega
      | cons z L =>
        have hz := H.tail.head
        have h1 := H.nb 0 x z rfl rfl
        have h2 : g x.1.2 = y.2 := K.is y List.mem_cons_self _ (by omega) hlt
        exact h1 (by rw [← hx.2.2.2, hy.2.2.2, ← h2, hz.2.2.2])
    have e : x.1.2 = y.1.2 := by
      have := key H K
      have := key K H
      omega
    have e2 : x = y := Prod.ext (Prod.ext (by rw [hx.1, hy.1]) e) (by rw [← hx.2.2.2, hy.2.2.2])
    subst e2
    rw [Cutd.unique H.tail K.tail]
theorem Cutd.mem (H : Cutd g f t L) {d : Int} (h1 : f ≤ d) (h2 : d < t) : ∃ x ∈ L, x.1.1 ≤ d ∧ d < x.1.2 ∧ x.2 = g d := by
  induction L generalizing f with
  | nil => have h : f = t := H.ch; omega
  | cons x L ih =>
    have hx := H.head
    by_cases hd : d < x.1.2
    · exact ⟨x, List.mem_cons_self, by omega, hd, (H.is x List.mem_cons_self d (by omega) hd).symm⟩
    · obtain ⟨y, hy, r⟩ := ih H.tail (by omega)
      exact ⟨y, List.mem_cons_of_mem _ hy, r⟩
/-- Only what holds ahead of t plays a part. -/
theorem Cutd.congr {k : Int → Hd} (H : Cutd g f t L) (h : ∀ d, f ≤ d → d < t → g d = k d) : Cutd k f t L :=
  ⟨H.ch, fun x hx d h1 h2 => by
    have := H.ch.mem x.1 (List.mem_map.2 ⟨x, hx, rfl⟩)
    rw [← h d (by omega) (by omega)]; exact H.is x hx d h1 h2, H.nb⟩
end

/-- One slice more: the last one is longer, if the same holds. -/
def lng (L : List (Sp × Hd)) (z : Sp) (h : Hd) : List (Sp × Hd) := match L.getLast? with
  | some x => if x.2 = h then L.dropLast ++ [((x.1.1, z.2), h)] else L ++ [(z, h)]
  | none => [(z, h)]
theorem lng_nil (z : Sp) (h : Hd) : lng [] z h = [(z, h)] := rfl
theorem lng_same {L : List (Sp × Hd)} {x : Sp × Hd} {z : Sp} : lng (L ++ [x]) z x.2 = L ++ [((x.1.1, z.2), x.2)] := by simp [lng]
theorem lng_more {L : List (Sp × Hd)} {x : Sp × Hd} {z : Sp} {h : Hd} (hx : x.2 ≠ h) : lng (L ++ [x]) z h = (L ++ [x]) ++ [(z, h)] := by simp [lng, hx]
theorem lng_cutd {g : Int → Hd} {f : Int} {L : List (Sp × Hd)} {z : Sp} {h : Hd} (H : Cutd g f z.1 L) (hz : z.1 < z.2) (hg : ∀ d, z.1 ≤ d → d < z.2 → g d = h) : Cutd g f z.2 (lng L z h) := by
  rcases List.eq_nil_or_concat L with rfl | ⟨M, x, rfl⟩
  · have e : f = z.1 := H.ch
    subst e
    exact Cutd.one hz hg
  · rw [List.concat_eq_append] at H ⊢
    by_cases hx : x.2 = h
    · subst hx
      rw [lng_same]
      obtain ⟨⟨a, b⟩, c⟩ := x
      exact H.longer hz hg
    · rw [lng_more hx]
      exact H.more hz hg hx
theorem lng_len (L : List (Sp × Hd)) (z : Sp) (h : Hd) : (lng L z h).length ≤ L.length + 1 := by
  rcases List.eq_nil_or_concat L with rfl | ⟨M, x, rfl⟩
  · simp [lng]
  · rw [List.concat_eq_append]
    by_cases hx : x.2 = h
    · subst hx; rw [lng_same]; simp
    · rw [lng_more hx]; simp

/-- Inside a part no change comes up. -/
theorem chain_apart {f t : Int} : ∀ {zs : List Sp} {f : Int}, Chain f t zs → ∀ x ∈ zs, ∀ y ∈ zs, x.1 < y.1 → x.2 ≤ y.1
  | [], f, h, x, hx => by cases hx
  | z :: zs, f, h, x, hx => by
    intro y hy hlt
    have h0 := h.1; have h1 := h.2.1
    have hm := Chain.mem h.2.2
    rcases List.mem_cons.1 hx with ex | kx
    · subst ex
      rcases List.mem_cons.1 hy with ey | ky
      · subst ey; omega
      · exact (hm y ky).1
    · rcases List.mem_cons.1 hy with ey | ky
      · subst ey
        have := hm x kx; omega
      · exact chain_apart (f := z.2) h.2.2 x kx y ky hlt
theorem part_quiet {s : Sp} {ds : List Int} {zs : List Sp} (P : Parted s ds zs) (hs : has s = true) {z : Sp} (hz : z ∈ zs) {x : Int} (hx : x ∈ ds) : ¬ (z.1 < x ∧ x < z.2) := by
  rintro ⟨h1, h2⟩
  have hm := (P.chain hs).mem z hz
  obtain ⟨y, hy, e⟩ := (P.cuts hs x).2 (.inr ⟨hx, by omega, by omega⟩)
  have := chain_apart (f := s.1) (P.chain hs) z hz y hy (by omega)
  omega

/-- The first code of what is on. -/
def bad (q : Ri → List Co → Int × Int) : List (Sp × Hd) → Int
  | [] => 0
  | x :: l => if x.2.on = true ∧ (q x.2.r x.2.cs).2 ≠ 0 then (q x.2.r x.2.cs).2 else bad q l
/-- What a year costs is told. -/
def prc (q : Ri → List Co → Int × Int) (x : Sp × Hd) : Sc := ⟨x.1, x.2, if x.2.on = true then (q x.2.r x.2.cs).1 else 0⟩
theorem bad_off {q : Ri → List Co → Int × Int} {x : Sp × Hd} {l : List (Sp × Hd)} (h : x.2.on = false) : bad q (x :: l) = bad q l := by rw [bad, if_neg (by rw [h]; simp)]
theorem bad_ok {q : Ri → List Co → Int × Int} {x : Sp × Hd} {l : List (Sp × Hd)} (h : (q x.2.r x.2.cs).2 = 0) : bad q (x :: l) = bad q l := by rw [bad, if_neg (by rw [h]; simp)]
theorem bad_is {q : Ri → List Co → Int × Int} {x : Sp × Hd} {l : List (Sp × Hd)} (h : x.2.on = true) (h2 : (q x.2.r x.2.cs).2 ≠ 0) : bad q (x :: l) = (q x.2.r x.2.cs).2 := by rw [bad, if_pos ⟨h, h2⟩]
theorem prc_off {q : Ri → List Co → Int × Int} {x : Sp × Hd} (h : x.2.on = false) : prc q x = ⟨x.1, x.2, 0⟩ := by rw [prc, if_neg (by rw [h]; simp)]
theorem prc_on {q : Ri → List Co → Int × Int} {x : Sp × Hd} (h : x.2.on = true) : prc q x = ⟨x.1, x.2, (q x.2.r x.2.cs).1⟩ := by rw [prc, if_pos h]
theorem bad_zero {q : Ri → List Co → Int × Int} {l : List (Sp × Hd)} (h : bad q l = 0) : ∀ x ∈ l, x.2.on = true → (q x.2.r x.2.cs).2 = 0 := by
  induction l with
  | nil => intro x hx; cases hx
  | cons y l ih =>
    intro x hx hon
    by_cases hy : y.2.on = true ∧ (q y.2.r y.2.cs).2 ≠ 0
    · rw [bad, if_pos hy] at h; exact absurd h hy.2
    · rw [bad, if_neg hy] at h
      rcases List.mem_cons.1 hx with rfl | hx
      · by_cases h0 : (q x.2.r x.2.cs).2 = 0
        · exact h0
        · exact absurd ⟨hon, h0⟩ hy
      · exact ih h x hx hon

/-- Slices can be made of a history. -/
def hrt (h : Hi) : Bool := te h.s h.r h.cs && (decide (h.hs.length ≤ 2000) && h.hs.all fun c => rch c && inn h.s c.dy)
theorem hrt_iff {h : Hi} : hrt h = true ↔ te h.s h.r h.cs = true ∧ h.hs.length ≤ 2000 ∧ ∀ c ∈ h.hs, rch c = true ∧ inn h.s c.dy = true := by
  unfold hrt; simp [List.all_eq_true]
/-- The changes by their places. -/
def ordl (hs : List Ch) (o : List Int) : List Ch := o.map fun x => (hs[x.toNat]?).getD zch
def ini (h : Hi) : Hd := ⟨true, h.r, h.cs⟩
theorem ordl_len (hs : List Ch) (o : List Int) : (ordl hs o).length = o.length := by simp [ordl]
theorem key_getD (hs : List Ch) (x : Int) : key hs x = ((hs[x.toNat]?).getD zch).dy := by
  unfold key; cases hs[x.toNat]? <;> rfl
theorem ordl_rise {hs : List Ch} {o : List Int} (h : Ag.Ord hs o) : (ordl hs o).Pairwise fun a b => a.dy ≤ b.dy := by
  unfold ordl
  rw [List.pairwise_map]
  refine h.2.imp fun {a b} hab => ?_
  unfold St.lt at hab
  rw [key_getD, key_getD] at hab
  omega
theorem ord_at {hs : List Ch} {o : List Int} (h : Ag.Ord hs o) {x : Int} (hx : x ∈ o) : 0 ≤ x ∧ x < hs.length := plc_mem.1 (h.mem hx)
theorem ordl_get {hs : List Ch} {o : List Int} {k : Nat} {x : Int} {c : Ch} (hx : o[k]? = some x) (hc : hs[x.toNat]? = some c) : (ordl hs o)[k]? = some c := by
  unfold ordl; rw [List.getElem?_map, hx]; simp [hc]
theorem ordl_mem {hs : List Ch} {o : List Int} (h : Ag.Ord hs o) {c : Ch} : c ∈ ordl hs o ↔ c ∈ hs := by
  unfold ordl
  rw [List.mem_map]
  constructor
  · rintro ⟨x, hx, rfl⟩
    have := ord_at h hx
    have hl : x.toNat < hs.length := by omega
    rw [List.getElem?_eq_getElem hl]
    exact List.getElem_mem hl
  · intro hc
    obtain ⟨k, hk, rfl⟩ := List.mem_iff_getElem.1 hc
    refine ⟨(k : Int), h.1.mem_iff.2 (plc_mem.2 ⟨by omega, by omega⟩), ?_⟩
    rw [Int.toNat_natCast, List.getElem?_eq_getElem hk]; rfl
end Sl
end Go.Proofs.Ytjmbccdcnmmhgaa
