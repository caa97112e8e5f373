/-
  The statement SlicesOrder holds: for every input the call returns true, and each argument reads afterwards as it read before. Conditions: none beside those that the row itself bears.
-/
import Derived.Test.YtkdhcloaeifbdaaGreatKTurn12
namespace Go.Proofs.YtkdhcloaeifbdaaGreat
open Go.RowKit Ba Cv Sp Te Ag Tf Sl Tm
namespace Slc
set_option linter.unusedVariables false

theorem own_lowC {w : World} {base base' n c : Nat} {A : Option Addr} {xs : List Tm.Rw} (h : Tm.Own w base A n c xs) (hb : base' ≤ base) : Tm.Own w base' A n c xs := by
  refine ⟨h.1, ?_⟩
  rcases h.2 with h | ⟨g, cap, cur, e, hb2, r⟩
  · exact .inl h
  · exact .inr ⟨g, cap, cur, e, Nat.le_trans hb hb2, r⟩
theorem own_farC {w : World} {base n c : Nat} {A : Option Addr} {rs : List Tm.Rw} (h : Tm.Own w base A n c rs) {a : Addr} (hp : a.block < base) (u : Value) : Tm.Own (w.setCell a u) base A n c rs := by
  refine ⟨h.1, ?_⟩
  rcases h.2 with h | ⟨g, cap, cur, e, hb, hh, r⟩
  · exact .inl h
  · exact .inr ⟨g, cap, cur, e, hb, (Below.heap_setCell w a u g (by omega)).trans hh, r⟩
theorem own_fitsC {w : World} {base n c : Nat} {A : Option Addr} {xs : List Tm.Rw} (h : Tm.Own w base A n c xs) : n ≤ c ∧ (A = none → n = 0 ∧ c = 0) := by
  rcases h.2 with ⟨e, hn⟩ | ⟨g, cap, cur, e, _, _, hnc, _⟩
  · injection e with e1 e2 e3; exact ⟨by omega, fun _ => ⟨hn, e3⟩⟩
  · injection e with e1 e2 e3; subst e3; exact ⟨hnc, fun h0 => by rw [e1] at h0; cases h0⟩
def bkr (a b : Tm.Rw) : Tm.Rw := ⟨bkd a.v b.v, a.A, a.n, a.c⟩
/-- So many are turned round. -/
def rvs (rs : List Tm.Rw) (k : Nat) : List Tm.Rw := List.zipWith bkr (rs.reverse.take k) (rs.take k)
theorem rvs_next {rs : List Tm.Rw} {k : Nat} {a b : Tm.Rw} (ha : rs.reverse[k]? = some a) (hb : rs[k]? = some b) : rvs rs (k + 1) = rvs rs k ++ [bkr a b] := by
  unfold rvs
  have l1 := (List.getElem?_eq_some_iff.1 ha).1
  have l2 := (List.getElem?_eq_some_iff.1 hb).1
  rw [take_get ha, take_get hb, List.zipWith_append (by rw [List.length_take, List.length_take]; omega)]
  rfl
theorem rvs_all {rs : List Tm.Rw} {k : Nat} (h : rs.length ≤ k) : (rvs rs k).map Tm.Rw.v = List.zipWith bkd (rs.map Tm.Rw.v).reverse (rs.map Tm.Rw.v) := by
  unfold rvs
  rw [List.take_of_length_le (by simpa using h), List.take_of_length_le h, List.map_zipWith, ← List.map_reverse, List.zipWith_map]
  rfl
theorem rvs_mem {rs : List Tm.Rw} {k : Nat} {q : Tm.Rw} (h : q ∈ rvs rs k) : ∃ a ∈ rs, q.A = a.A ∧ q.n = a.n ∧ q.v.cs = a.v.cs := by
  unfold rvs at h
  obtain ⟨i, hi, rfl⟩ := List.mem_iff_getElem.1 h
  rw [List.length_zipWith] at hi
  refine ⟨(rs.reverse.take k)[i]'(by omega), ?_, ?_⟩
  · exact List.mem_reverse.1 (List.mem_of_mem_take (List.getElem_mem _))
  · rw [List.getElem_zipWith]; exact ⟨rfl, rfl, rfl⟩
abbrev hturn (h : Hr) (A : Option Addr) (c k : Nat) : Hr := ⟨h.id, h.bk, h.s, h.r, h.A, h.n, h.c, h.cs, A, k, c, rvs h.rs k⟩
/-- What holds while the changes are turned round. -/
structure OJ (w : World) (h : Hr) (T : Option Addr) (nt ct g7 base : Nat) (W : World) (k : Nat) (A : Option Addr) (c : Nat) : Prop where
  o : O2 w W h T nt ct
  lo : w.heap.size + 2 ≤ g7 ∧ g7 < base ∧ base ≤ W.heap.size
  z : Bx W g7 31 (hc (hturn h A c k))
  r : Tm.Own W base A k c (rvs h.rs k)
theorem OJ.next {w W W' : World} {h : Hr} {T A : Option Addr} {nt ct g7 base k c : Nat} (H : OJ w h T nt ct g7 base W k A c) (hb : Below W.heap.size W W') : OJ w h T nt ct g7 base W' k A c := ⟨H.o.next hb, ⟨H.lo.1, H.lo.2.1, Nat.le_trans H.lo.2.2 hb.size⟩, H.z.keep hb, H.r.below hb⟩
theorem OJ.app {w W W' : World} {h : Hr} {T A A' : Option Addr} {nt ct g7 base k c c' : Nat} {a b : Tm.Rw} (H : OJ w h T nt ct g7 base W k A c) (ha : h.rs.reverse[k]? = some a) (hb : h.rs[k]? = some b) (ho : Tm.Own W' base A' (k + 1) c' (rvs h.rs k ++ [bkr a b])) (hg : W.grownBy W' (Value.slice A k c).ownBlock) : OJ w h T nt ct g7 base (W'.setCell ⟨g7, 9, none⟩ (.slice A' (k + 1) c')) (k + 1) A' c' := by
  obtain ⟨l1, l2, l3⟩ := H.lo
  have hne : ∀ b, b < base → some b ≠ (Value.slice A k c).ownBlock := fun b hb e => by have := (H.r.lt b e.symm).1; omega
  have hk : ∀ b, b < base → W'.heap[b]? = W.heap[b]? := fun b h1 => hg.block b (by omega) (hne b h1)
  have hB : Below w.heap.size w W' := H.o.b.grown hg H.o.b.size (fun j hj => by have := (H.r.lt j hj).1; have := H.o.b.size; omega)
  have hz : Bx W' g7 31 (hc (hturn h A c k)) := (hk _ (by omega)).trans H.z
  refine ⟨⟨sets_below [.slice A' (k + 1) c'] (by omega) 9 W' hB, ?_, ?_⟩, ⟨l1, l2, by rw [World.size_setCell]; exact Nat.le_trans l3 hg.size⟩, ?_, ?_⟩
  · exact Bx.far ((hk _ (by omega)).trans H.o.x) (by simp only; omega) _
  · exact Bx.far ((hk _ (by omega)).trans H.o.y) (by simp only; omega) _
  · exact hz.set 9 _
  · rw [rvs_next ha hb]; exact own_farC ho l2 _
theorem OJ.z2 {w W W' : World} {h : Hr} {T A : Option Addr} {nt ct g7 base k c : Nat} (H : OJ w h T nt ct g7 base W k A c) (hg : W.grownBy W' (Value.slice A k c).ownBlock) : Bx W' g7 31 (hc (hturn h A c k)) :=
  (hg.block g7 (Nat.lt_of_lt_of_le H.lo.2.1 H.lo.2.2) (fun e => by have h1 := (H.r.lt g7 e.symm).1; have h2 := H.lo.2.1; omega)).trans H.z
theorem hm_turn {w W : World} {h : Hr} {A : Option Addr} {c base : Nat} (M : HM w (· < w.heap.size) h) (hb : Below w.heap.size w W) (hO : Tm.Own W base A h.m c (rvs h.rs h.m)) : HM W (· < W.heap.size) (hturn h A c h.m) :=
  ⟨(M.below hb).t, hO.raws.keep (fun _ _ => rfl) (fun b hb => hb.2), fun r hr => by
    obtain ⟨a, ha, e1, e2, e3⟩ := rvs_mem hr
    rw [e1, e2, e3]; exact (M.below hb).k a ha⟩
theorem hs_turn {W : World} {h : Hr} {A : Option Addr} {c base : Nat} (S : HS h) (hO : Tm.Own W base A h.m c (rvs h.rs h.m)) : HS (hturn h A c h.m) :=
  ⟨S.n, S.m, (fun r hr => by
    obtain ⟨a, ha, e1, e2, e3⟩ := rvs_mem hr
    rw [e2]; exact S.k a ha), (own_fitsC hO).2, (own_fitsC hO).1⟩
theorem hv_turn {h : Hr} {A : Option Addr} {c : Nat} (hl : h.rs.length = h.m) : (hturn h A c h.m).v = ⟨h.id, h.bk, h.s, h.r, h.cs, List.zipWith bkd h.v.hs.reverse h.v.hs⟩ := by
  show Hi.mk _ _ _ _ _ ((rvs h.rs h.m).map Tm.Rw.v) = _
  rw [rvs_all (Nat.le_of_eq hl)]; rfl
theorem pair_of {hs : List Ch} (H : ∀ (i p : Nat) (a b : Ch), p < i → hs[i]? = some a → hs[p]? = some b → b.dy ≠ a.dy) : hs.Pairwise fun a b => a.dy ≠ b.dy := by
  rw [List.pairwise_iff_getElem]
  intro i j hi hj hij
  exact H j i _ _ hij (List.getElem?_eq_getElem hj) (List.getElem?_eq_getElem hi)
set_option maxRecDepth 100000 in
set_option maxHeartbeats 4000000 in
theorem walk_SlicesOrder {w : World} (h : Hr) (G : GivenH w h) (T : Option Addr) (nt ct : Nat) (vs : List Trf.Rw) (GT : Trf.GivenT w T nt ct vs) : Calls Tryz.prog 6 #[hg h, Trf.tg T nt ct] w (Yes w true) := by
  obtain ⟨W, hW⟩ : ∃ W, (w.alloc (.cells (hc h) 31)).alloc (.cells #[.slice T nt ct] 34) = W := ⟨_, rfl⟩
  have H0 := Lib.hid (show O2 w W h T nt ct by rw [← hW]; exact O2.start w h T nt ct)
  have HW := Lib.hid hW
  have HG := Lib.hid G
  have HGT := Lib.hid GT
  clear hW G GT
  go_enter Tryz.func6, Tryz.ntmps6
  go_upto_region 1 with fail
  rw [HW.out]
  clear HW
  go_wp2_with fail
  refine (awake12 _).mono ?_
  rintro e w1 ⟨rfl, hb1⟩
  have H1 := Lib.hid (H0.out.next hb1)
  clear hb1 H0
  have x0 := H1.out.x.c 0
  have x1 := H1.out.x.c 1
  have x2 := H1.out.x.c 2
  have x3 := H1.out.x.c 3
  have x4 := H1.out.x.c 4
  have x5 := H1.out.x.c 5
  have x6 := H1.out.x.c 6
  have x7 := H1.out.x.c 7
  have x8 := H1.out.x.c 8
  have x9 := H1.out.x.c 9
  simp at x0 x1 x2 x3 x4 x5 x6 x7 x8 x9
  have y0 := H1.out.y.c 0
  simp at y0
  have C := Lib.hid (few12 h T nt ct vs w1 (gh_below HG.out H1.out.b) (gt_below HGT.out H1.out.b))
  go_wp2_with fail
  refine C.out.mono ?_
  rintro e w2 ⟨b, rfl, hb2, hs⟩
  have H2 := Lib.hid (H1.out.next hb2)
  have HS0 := Lib.hid hs
  clear hb2 hs C x0 x1 x2 x3 x4 x5 x6 x7 x8 x9 y0 H1
  cases b
  · go_wp2
    go_ret
    exact ⟨rfl, H2.out.b⟩
  have HS := Lib.hid (HS0.out rfl)
  clear HS0
  have HM60 := Lib.hid HS.out.m
  have hm60 := HS.out.m
  obtain ⟨Bv, hBv⟩ : ∃ Bv, h.B = Bv := ⟨_, rfl⟩
  have HBv := Lib.hid hBv
  obtain ⟨W3, hW3⟩ : ∃ W3, w2.alloc (.cells (hc ⟨h.id, h.bk, h.s, h.r, h.A, h.n, h.c, h.cs, none, 0, 0, []⟩) 31) = W3 := ⟨_, rfl⟩
  have hal : Below w2.heap.size w2 W3 := hW3 ▸ alloc_ _ _
  obtain ⟨g7, hg7⟩ : ∃ g7, w2.heap.size = g7 := ⟨_, rfl⟩
  obtain ⟨base, hbase⟩ : ∃ base, W3.heap.size = base := ⟨_, rfl⟩
  have HJ0 := Lib.hid (show OJ w h T nt ct g7 base W3 0 none 0 from
    ⟨H2.out.next hal, ⟨by rw [← hg7]; exact H2.out.y.lt, by rw [← hg7, ← hbase, ← hW3]; simp, Nat.le_of_eq hbase.symm⟩, by rw [← hg7, ← hW3]; exact Bx.new _ _ _, Tm.Own.nil⟩)
  have HW3 := Lib.hid hW3
  have x0 := H2.out.x.c 0
  have x1 := H2.out.x.c 1
  have x2 := H2.out.x.c 2
  have x3 := H2.out.x.c 3
  have x4 := H2.out.x.c 4
  have x5 := H2.out.x.c 5
  have x6 := H2.out.x.c 6
  have x7 := H2.out.x.c 7
  have x8 := H2.out.x.c 8
  have x9 := H2.out.x.c 9
  simp at x0 x1 x2 x3 x4 x5 x6 x7 x8 x9
  have y0 := H2.out.y.c 0
  simp at y0
  clear hal hW3 hbase
  go_upto_region 7 with fail
  rw [HW3.out]
  clear HW3 hg7 x0 x1 x2 x3 x4 x5 x6 x7 x8 x9 y0 H2
  have x0 := HJ0.out.o.x.c 0
  have x1 := HJ0.out.o.x.c 1
  have x2 := HJ0.out.o.x.c 2
  have x3 := HJ0.out.o.x.c 3
  have x4 := HJ0.out.o.x.c 4
  have x5 := HJ0.out.o.x.c 5
  have x6 := HJ0.out.o.x.c 6
  have x7 := HJ0.out.o.x.c 7
  have x8 := HJ0.out.o.x.c 8
  have x9 := HJ0.out.o.x.c 9
  simp at x0 x1 x2 x3 x4 x5 x6 x7 x8 x9
  have y0 := HJ0.out.o.y.c 0
  simp at y0
  rw [hBv] at x9
  clear hBv
  obtain ⟨e0, he0⟩ : ∃ e0 : Int, (h.m : Int) - 1 = e0 := ⟨_, rfl⟩
  have hw0 : wrap64 e0 = e0 := IntWalk.wrap64_in _ ⟨by omega, by omega⟩
  have HE0 := Lib.hid he0
  have he1 : e0 + 0 + 1 = (h.m : Int) := by omega
  go_wp2
  clear x0 x1 x2 x3 x4 x5 x6 x7 x8 x9 y0
  go_loopw [8] (fun vi w' => ∃ (k : Nat) (e : Int) (W : World) (A : Option Addr) (c : Nat), e + k + 1 = (h.m : Int) ∧ -1 ≤ e ∧ vi = .int .i64 e ∧ W = w' ∧ Hid (OJ w h T nt ct g7 base W k A c) ∧ Hid (∀ (i p : Nat) (a b : Ch), h.m ≤ i + k → p < i → h.v.hs[i]? = some a → h.v.hs[p]? = some b → b.dy ≠ a.dy)) (fun vi _ => (intOf vi + 1).toNat)
  case atStart => exact ⟨0, e0, _, none, 0, by omega, by omega, rfl, rfl, HJ0, Lib.hid (fun i p a b h1 _ h3 _ => by
    have := (List.getElem?_eq_some_iff.1 h3).1
    have h4 : h.v.hs.length = h.m := by show (h.rs.map Tm.Rw.v).length = _; rw [List.length_map]; exact HG.out.M.r.1
    omega)⟩
  case round =>
    obtain ⟨k, e, W, A, c, hek, hem, rfl, rfl, HJ, HD⟩ := hrel
    clear HJ0 he1 hw0 he0
    by_cases hlt : k < h.m
    · obtain ⟨ii, hii⟩ : ∃ ii : Nat, e = (ii : Int) := ⟨e.toNat, by omega⟩
      subst hii
      have hsum : ii + k + 1 = h.m := by omega
      obtain ⟨p, hp⟩ : ∃ p : Nat, h.m = p + 1 := ⟨h.m - 1, by omega⟩
      obtain ⟨ad, a, hB, hbl, ha, Na, hca, hva⟩ := (HG.out.M.below HJ.out.o.b).get (show ii < h.m by omega)
      obtain ⟨ad2, b, hB2, hbl2, hb, Nb, hcb, hvb⟩ := (HG.out.M.below HJ.out.o.b).get hlt
      rw [hB] at hB2
      obtain rfl := Option.some.inj hB2
      rw [HBv.out] at hB
      subst hB
      have hrl : h.rs.length = h.m := HG.out.M.r.1
      have HRA := Lib.hid (show h.rs.reverse[k]? = some a by rw [List.getElem?_reverse (by omega), show h.rs.length - 1 - k = ii by omega]; exact ha)
      have HRB := Lib.hid hb
      have HVA := Lib.hid hva
      have HSUM := Lib.hid hsum
      have hki : (k : Int) < (h.m : Int) := by omega
      have hii2 : (ii : Int) < (h.m : Int) := by omega
      have hp1 : (h.m : Int) - 1 = (p : Int) := by omega
      have hq1 : (p : Int) - (ii : Int) = (k : Int) := by omega
      have hpb : -9223372036854775808 ≤ (h.m : Int) - 1 ∧ (h.m : Int) - 1 ≤ 9223372036854775807 := ⟨by omega, by omega⟩
      have hpb2 : -9223372036854775808 ≤ (p : Int) ∧ (p : Int) ≤ 9223372036854775807 := ⟨by omega, by omega⟩
      have hkb2 : -9223372036854775808 ≤ (k : Int) ∧ (k : Int) ≤ 9223372036854775807 := ⟨by omega, by omega⟩
      have HP := Lib.hid hp
      have t0 : decide ((0 : Int) ≤ (ii : Int)) = true := decide_eq_true (by omega)
      clear hp
      have hp4 : wrap64 (p : Int) = (p : Int) := IntWalk.wrap64_in _ hpb2
      have hq2 : wrap64 (k : Int) = (k : Int) := IntWalk.wrap64_in _ hkb2
      clear hpb hpb2 hkb2
      have hb1 : (ad.add (ii * 9)).block < W.heap.size := by rw [add_block]; exact hbl
      have hb2 : (ad.add (k * 9)).block < W.heap.size := by rw [add_block]; exact hbl
      have hlb0 : w.heap.size < W.heap.size := HJ.out.o.x.lt
      obtain ⟨W2, hW2⟩ : ∃ W2, W.alloc (.cells (Tm.vc (bkr a b)) 52) = W2 := ⟨_, rfl⟩
      have hal : Below W.heap.size W W2 := hW2 ▸ alloc_ _ _
      have HJ2 := Lib.hid (HJ.out.next hal)
      have HC2 := Lib.hid (show Bx W2 W.heap.size 52 (Tm.vc (bkr a b)) by rw [← hW2]; exact Bx.new _ _ _)
      have HW2 := Lib.hid (show W.alloc (.cells #[.int .i64 b.v.bk, .int .i64 a.v.dy, .int .i64 a.v.kd, .int .i64 a.v.r.k, .int .i64 a.v.r.v, .int .i64 a.v.r.a, .int .i64 a.v.r.z, .slice a.A a.n a.c, .int .i64 a.v.wy] 52) = W2 from hW2)
      have HBL := Lib.hid hbl
      have x0 := HJ.out.o.x.c 0
      have x1 := HJ.out.o.x.c 1
      have x2 := HJ.out.o.x.c 2
      have x3 := HJ.out.o.x.c 3
      have x4 := HJ.out.o.x.c 4
      have x5 := HJ.out.o.x.c 5
      have x6 := HJ.out.o.x.c 6
      have x7 := HJ.out.o.x.c 7
      have x8 := HJ.out.o.x.c 8
      have x9 := HJ.out.o.x.c 9
      simp at x0 x1 x2 x3 x4 x5 x6 x7 x8 x9
      have y0 := HJ.out.o.y.c 0
      simp at y0
      rw [HBv.out] at x9
      obtain ⟨a0, a1, a2, a3, a4, a5, a6, a7, a8⟩ := Na
      have b0 := Nb.c0
      clear hbl hbl2 ha hb Nb hca hcb hva hvb hW2 hal hrl hB2
      go_upto_region 12 with fail
      rw [HW2.out]
      obtain ⟨g9, hg9⟩ : ∃ g9, W.heap.size = g9 := ⟨_, rfl⟩
      have hlb : w.heap.size < g9 := by rw [← hg9]; exact HJ.out.o.x.lt
      rw [hg9] at HC2 ⊢
      clear hg9
      clear hlb hlb0 HW2 a0 a1 a2 a3 a4 a5 a6 a7 a8 b0 x0 x1 x2 x3 x4 x5 x6 x7 x8 x9 y0 hb1 hb2
      go_wp2
      go_loopw [10] (fun vi w' => ∃ (jj : Nat) (W5 : World), jj ≤ ii ∧ vi = .int .i64 (jj : Int) ∧ W5 = w' ∧ Hid (OJ w h T nt ct g7 base W5 k A c) ∧ Hid (Bx W5 g9 52 (Tm.vc (bkr a b))) ∧ Hid (∀ (q : Nat) (b : Ch), q < jj → h.v.hs[q]? = some b → b.dy ≠ a.v.dy)) (fun vi _ => ii - (intOf vi).toNat)
      case atStart => exact ⟨0, _, Nat.zero_le _, rfl, rfl, HJ2, HC2, Lib.hid (fun q b hq => by omega)⟩
      case round =>
        obtain ⟨jj, W5, hjj, rfl, rfl, HJ5, HC5, HD5⟩ := hrel
        clear HJ2 HC2
        by_cases hlt2 : jj < ii
        · obtain ⟨ad', b', hB', hbl', hb', Nb', _, hvb'⟩ := (HG.out.M.below HJ5.out.o.b).get (show jj < h.m by have := HSUM.out; omega)
          have hB'' := HBv.out.symm.trans hB'
          obtain rfl := Option.some.inj hB''
          have t1 : decide ((jj : Int) < (ii : Int)) = true := decide_eq_true (by omega)
          have t1' : decide (jj < ii) = true := decide_eq_true hlt2
          have hjm : (jj : Int) < (h.m : Int) := by have := HSUM.out; omega
          have hjm2 : jj < h.m := by have := HSUM.out; omega
          have HVB := Lib.hid hvb'
          have HB := Lib.hid (show (ad.add (jj * 9)).block < W5.heap.size by rw [add_block]; exact hbl')
          obtain ⟨y, hy⟩ : ∃ y, b'.v.dy = y := ⟨_, rfl⟩
          obtain ⟨z, hz⟩ : ∃ z, a.v.dy = z := ⟨_, rfl⟩
          have n1 : ∀ p : Ext W5, p.W.cell? ⟨(ad.add (jj * 9)).block, (ad.add (jj * 9)).off + 1, none⟩ = some (.int .i64 y) := fun p => by
            rw [← hy]; exact (Nb'.keep (w' := p.W) (fun a ha => p.b.cell (by rw [ha]; exact HB.out))).c1
          have c1 : ∀ p : Ext W5, p.W.cell? ⟨g9, 1, none⟩ = some (.int .i64 z) := fun p => by rw [← hz]; exact HC5.out.ext p 1
          have x9 : ∀ p : Ext W5, p.W.cell? ⟨w.heap.size, 9, none⟩ = some (.slice (some ad) h.m h.d) := fun p => by rw [← HBv.out]; exact HJ5.out.o.x.ext p 9
          have HYZ := Lib.hid (And.intro hy hz)
          clear hB' hb' Nb' hvb' hbl' hy hz hB'' HJ
          go_upto_region 15 with fail
          have ne : Nonempty (Ext W5) := ⟨⟨W5, Below.refl _ _⟩⟩
          refine quietE (by kernel_rfl) (by kernel_rfl) ?_
          repeat (first | go_big_quiet_skip | quiet_step (first
            | fail))
          refine wpQuiet_nil ?_
          rintro _ ⟨p, rfl⟩
          have HJ6 := Lib.hid (HJ5.out.next p.b)
          have HC6 := Lib.hid (HC5.out.keep p.b)
          generalize p.W = W6 at HJ6 HC6 ⊢
          clear n1 c1 x9 HJ5 HC5 HB ne
          by_cases hdd : y = z
          · have t2 : decide (y = z) = true := decide_eq_true hdd
            have t2' : (y == z) = true := beq_iff_eq.2 hdd
            go_wp2
            go_ret
            exact ⟨rfl, HJ6.out.o.b⟩
          · have t2 : decide (y = z) = false := decide_eq_false hdd
            have t2' : (y == z) = false := beq_eq_false_iff_ne.2 hdd
            have HD6 := Lib.hid (show ∀ (q : Nat) (b : Ch), q < jj + 1 → h.v.hs[q]? = some b → b.dy ≠ a.v.dy from fun q b hq hb => by
              by_cases hqj : q = jj
              · subst hqj
                rw [HVB.out] at hb
                obtain rfl := Option.some.inj hb
                rw [HYZ.out.1, HYZ.out.2]; exact hdd
              · exact HD5.out q b (by omega) hb)
            clear hdd
            go_wp2
            go_roundw
            case rel => exact ⟨jj + 1, W6, by omega, by go_num, rfl, HJ6, HC6, HD6⟩
            case measure => simp [intOf]; omega
        · obtain rfl : jj = ii := by omega
          have t1 : decide ((jj : Int) < (jj : Int)) = false := decide_eq_false (by omega)
          have t1' : decide (jj < jj) = false := decide_eq_false (by omega)
          have hlo := HJ5.out.lo
          have hbs := Nat.le_trans HJ5.out.o.b.size (Nat.le_refl _)
          clear HJ
          have cc0 := HC5.out.c 0
          have cc1 := HC5.out.c 1
          have cc2 := HC5.out.c 2
          have cc3 := HC5.out.c 3
          have cc4 := HC5.out.c 4
          have cc5 := HC5.out.c 5
          have cc6 := HC5.out.c 6
          have cc7 := HC5.out.c 7
          have cc8 := HC5.out.c 8
          simp at cc0 cc1 cc2 cc3 cc4 cc5 cc6 cc7 cc8
          have z9 := HJ5.out.z.c 9
          simp at z9
          go_wp2_with (at_builtin; go_loud (refine Tm.wpList_app _ rfl _ _ rfl base A k c (rvs h.rs k) rfl (HJ5.out.r.below (alloc_ _ _)) (fun j => W5.heap.size ≤ j ∧ j < (W5.alloc (.cells (Tm.vc (bkr a b)) 52)).heap.size) (some ⟨W5.heap.size, 0, none⟩) 1 1 [bkr a b] rfl (Tm.Own.one W5 (bkr a b)).raws (fun e => by cases e) (k + 1) rfl (by have := HM60.out; omega) (by simp; omega) ?_); intro A5 c5 w5 hO5 hg5; have HO5 := Lib.hid hO5; have HG5 := Lib.hid hg5; clear hO5 hg5; have HJ6 := Lib.hid (HJ5.out.next (alloc_ W5 (.cells (Tm.vc (bkr a b)) 52))); have HZ6 := Lib.hid (HJ6.out.z2 HG5.out); have fz := HZ6.out.f 9; have z9' := HZ6.out.c 9; simp at z9')
          have HJ7 := Lib.hid (HJ6.out.app HRA.out HRB.out HO5.out HG5.out)
          clear cc0 cc1 cc2 cc3 cc4 cc5 cc6 cc7 cc8 z9 HJ5 HC5
          have HD7 := Lib.hid (show ∀ (i p : Nat) (a b : Ch), h.m ≤ i + (k + 1) → p < i → h.v.hs[i]? = some a → h.v.hs[p]? = some b → b.dy ≠ a.dy from fun i p a2 b2 h1 h2 h3 h4 => by
            by_cases hi : h.m ≤ i + k
            · exact HD.out i p a2 b2 hi h2 h3 h4
            · obtain rfl : i = jj := by have := HSUM.out; omega
              rw [HVA.out] at h3
              obtain rfl := Option.some.inj h3
              exact HD5.out p b2 h2 h4)
          go_wp2
          go_roundw
          case rel => exact ⟨k + 1, (jj : Int) - 1, _, A5, c5, by have := HSUM.out; omega, by omega, by go_num, rfl, HJ7, HD7⟩
          case measure => simp [intOf]
    · obtain rfl : k = h.m := by omega
      have t0 : decide ((0 : Int) ≤ e) = false := decide_eq_false (by omega)
      have HPW := Lib.hid (show h.v.hs.Pairwise fun a b => a.dy ≠ b.dy from pair_of fun i p a b hp h1 h2 => HD.out i p a b (by omega) hp h1 h2)
      have H7 := Lib.hid HJ.out.o
      have HX7 := Lib.hid HJ.out.z
      have HO7 := Lib.hid HJ.out.r
      have HMX := Lib.hid (hm_turn HG.out.M H7.out.b HO7.out)
      have HSX := Lib.hid (hs_turn (HS.out.hs HG.out) HO7.out)
      obtain ⟨hx, hhx⟩ : ∃ hx, hturn h A c h.m = hx := ⟨_, rfl⟩
      have HVX := Lib.hid (show hx.v = ⟨h.id, h.bk, h.s, h.r, h.cs, List.zipWith bkd h.v.hs.reverse h.v.hs⟩ by rw [← hhx]; exact hv_turn (HG.out.M.r.1))
      have HMN := Lib.hid (show hx.m ≤ 100 by rw [← hhx]; show h.m ≤ 100; have := HM60.out; omega)
      rw [hhx] at HX7 HMX HSX
      clear hhx HO7 HD HJ
      have x0 := H7.out.x.c 0
      have x1 := H7.out.x.c 1
      have x2 := H7.out.x.c 2
      have x3 := H7.out.x.c 3
      have x4 := H7.out.x.c 4
      have x5 := H7.out.x.c 5
      have x6 := H7.out.x.c 6
      have x7 := H7.out.x.c 7
      have x8 := H7.out.x.c 8
      have x9 := H7.out.x.c 9
      simp at x0 x1 x2 x3 x4 x5 x6 x7 x8 x9
      have y0 := H7.out.y.c 0
      simp at y0
      have C := Lib.hid (of_ h T nt ct vs W (HG.out.M.below H7.out.b) (HS.out.hs HG.out) (Nat.le_trans HS.out.m (by omega)) (HS.out.vers (gt_below HGT.out H7.out.b)) (Nat.le_trans HS.out.t (by omega)))
      go_wp2_with fail
      refine C.out.mono ?_
      rintro e w8 ⟨A7, n7, c7, rs7, cd7, rfl, hs7, hn7, hi7, hb8⟩
      have H8 := Lib.hid (H7.out.next hb8)
      have HL7 := Lib.hid hs7
      have HIS7 := Lib.hid hi7
      have HX8 := Lib.hid (HX7.out.keep hb8)
      have HMX8 := Lib.hid (HMX.out.below hb8)
      clear hb8 hs7 hi7 C x0 x1 x2 x3 x4 x5 x6 x7 x8 x9 y0 H7 HX7 HMX
      have C := Lib.hid (of_ hx T nt ct vs w8 HMX8.out HSX.out HMN.out (HS.out.vers (gt_below HGT.out H8.out.b)) (Nat.le_trans HS.out.t (by omega)))
      have y0 := H8.out.y.c 0
      simp at y0
      have z0 := HX8.out.c 0
      have z1 := HX8.out.c 1
      have z2 := HX8.out.c 2
      have z3 := HX8.out.c 3
      have z4 := HX8.out.c 4
      have z5 := HX8.out.c 5
      have z6 := HX8.out.c 6
      have z7 := HX8.out.c 7
      have z8 := HX8.out.c 8
      have z9 := HX8.out.c 9
      simp at z0 z1 z2 z3 z4 z5 z6 z7 z8 z9
      go_wp2_with fail
      refine C.out.mono ?_
      rintro e w9 ⟨A8, n8, c8, rs8, cd8, rfl, hs8, hn8, hi8, hb9⟩
      have H9 := Lib.hid (H8.out.next hb9)
      have HL7b := Lib.hid (HL7.out.below hb9)
      have HL8 := Lib.hid hs8
      have HT := Lib.hid (HIS7.out.turn hi8 HPW.out (by rw [HVX.out]; rfl) (by rw [HVX.out]; rfl) (by rw [HVX.out]; rfl) (by rw [HVX.out]))
      clear hb9 hs8 hi8 C y0 z0 z1 z2 z3 z4 z5 z6 z7 z8 z9 H8 HL7 HX8 HMX8
      obtain ⟨rfl, he⟩ := HT.out
      have CA := Lib.hid (all_ A7 A8 n7 n8 c7 c8 rs7 rs8 w9 HL7b.out HL8.out (by omega) (by omega))
      rw [decide_eq_true he] at CA
      clear he
      have te : decide (cd7 = cd7) = true := decide_eq_true rfl
      go_wp2_with fail
      refine CA.out.mono ?_
      rintro e w10 ⟨rfl, hb10⟩
      have H10 := Lib.hid (H9.out.next hb10)
      clear hb10 CA
      go_wp2
      go_ret
      exact ⟨rfl, H10.out.b⟩

end Slc
end Go.Proofs.YtkdhcloaeifbdaaGreat
namespace Go.Proofs.YtkdhcloaeifbdaaGreat.slicesOrder
open Go.ChangeShapes Go.WideShapes Go.ChangeAt Go.RowKit Ba Cv Sp Te Ag Tf Sl Slc
set_option linter.unusedVariables false


set_option maxRecDepth 100000 in
theorem lifted (os : Os) (started : os.Started) (H : Type) (enc : TypeId × Value → H) :
    ReturnsInHanded {} Tryz.checked os 6 .any (Rows.slicesOrderSpec.pre6 enc Tryz.prog Tryz.f6 Rows.slicesOrderRow.domain false) (Rows.slicesOrderSpec.post enc Tryz.prog Tryz.f6 false true false false) := by
  refine returnsInHanded_of_change_sized (C := Tryz.checked) Slc.own started (by kernel_rfl) Tryz.func6
    (ChangeSpec.witness6 (enc := enc) (C := Tryz.checked) false ⟨#[], #[.agg #[.int .i64 0, .int .i64 0, .int .i64 0, .int .i64 0, .int .i64 0, .int .i64 0, .int .i64 0, .int .i64 0, .slice none 0 0, .slice none 0 0], .agg #[.slice none 0 0]], []⟩ 8 (by kernel_rfl) (by kernel_rfl) (by kernel_rfl) (by kernel_rfl)) ?_
  intro W base args ds gs before hval0 hW hcnd hsz0 _
  have hval : ∀ (j : Nat) t v, Tryz.f6.params[j]? = some t → args[j]? = some v → Value.okWide Tryz.prog W .any base t v := hval0
  have hW' := hW
  have hsz : (DataW.weightsEach Tryz.prog (Tryz.f6.params.toList ++ Rows.slicesOrderSpec.plain.varTypes Tryz.prog) (ds ++ gs)).all (· ≤ reachBytes) = true := hsz0
  obtain ⟨p, q, hA0, hV, rfl, hfz, hnd⟩ := hW
  have hA : DataW.TrodAll enc Tryz.prog W 0 (fun _ => true) true Tryz.f6.params.toList args.toList ds p := hA0
  rw [Tryz.params6] at hA hval hsz
  obtain ⟨v0, vs0, d0, ds0, p0, q0, hargs, rfl, rfl, h0, r0⟩ := trodAll_cons hA
  obtain ⟨v1, vs1, d1, ds1, p1, q1, rfl, rfl, rfl, h1, r1⟩ := trodAll_cons r0
  obtain ⟨rfl, rfl, rfl⟩ := trodAll_nil r1
  obtain rfl : args = #[v0, v1] := by cases args; simp_all
  obtain ⟨rfl, rfl⟩ := trodVars_none hV
  have k0 := h0
  have lt0 : ∀ x ∈ p0, x.block < W.heap.size := by obtain ⟨m, hm⟩ := k0; exact DataW.trod_lt m _ _ _ hm
  obtain ⟨y0, rfl, g0⟩ := Slc.open_history (hval 0 31 v0 rfl rfl) h0 (fun k hk => of_decide_eq_true (List.all_eq_true.1 hsz _ (DataW.weights_mem_each (j := 0) rfl rfl k hk)))
  have k1 := h1
  have lt1 : ∀ x ∈ p1, x.block < W.heap.size := by obtain ⟨m, hm⟩ := k1; exact DataW.trod_lt m _ _ _ hm
  obtain ⟨A1, n1, c1, s1, rfl, g1⟩ := Slc.open_tariff (hval 1 34 v1 rfl rfl) h1 (fun k hk => of_decide_eq_true (List.all_eq_true.1 hsz _ (DataW.weights_mem_each (j := 1) rfl rfl k hk)))
  clear hA0 hval0 hsz hsz0
  refine (Slc.walk_SlicesOrder y0 g0 A1 n1 c1 s1 g1).mono fun e W' ⟨he, bel⟩ => ?_
  subst he
  exact ⟨_, rfl, _, _, _, [], _, [], hW', trodAll_mk1 (shut_bool Tryz.underlying4 _), (trodAll_cons_mk (Below.trod Slc.laidOut (by kernel_rfl) (of_decide_eq_true (by kernel_rfl)) k0 bel lt0) (trodAll_cons_mk (Below.trod Slc.laidOut (by kernel_rfl) (of_decide_eq_true (by kernel_rfl)) k1 bel lt1) trodAll_mk0)), rfl, bel.frame _, fun h => by cases h⟩

theorem over : Rows.slicesOrderRow.holds Tryz.pinned (OpenSpec.ofChange Rows.slicesOrderSpec) :=
  OpenClaim.holds_of_wide 6 Tryz.f6 rfl rfl rfl rfl rfl rfl rfl ⟨rfl, rfl, rfl, rfl, rfl⟩ rfl rfl rfl rfl rfl (by kernel_rfl) Tryz.func6 (by kernel_rfl)
    (of_decide_eq_true (by kernel_rfl)) (by unfold Func.isWrapper; first | (rw [if_pos (by decide +kernel)]; kernel_rfl) | (rw [if_neg (by decide +kernel)]; exact ⟨rfl, rfl⟩))
    (fun os started H enc _ => lifted os started H enc)

theorem proved : Rows.SlicesOrderSaid := over
end Go.Proofs.YtkdhcloaeifbdaaGreat.slicesOrder
