/-
  Put and History of package change. Conditions: the history and the change read as meant, lists are short.
-/
import Derived.Test.YtplenoaajokpjaaGreatMRi
import Derived.Test.YtplenoaajokpjaaGreatMPl
import Derived.Test.YtplenoaajokpjaaGreatKInv
import Derived.Deep.RegionHeld
namespace Go.Proofs.YtplenoaajokpjaaGreat
open Go.RowKit Ba Cv Sp Te Ag
namespace Tm
set_option linter.unusedVariables false
def CopiesC (w : World) (m : Nat) (xs : List Co) (e : Ending) (w' : World) : Prop := ∃ A c, e = .returned (.slice A m c) ∧ COwn w' w.heap.size A m c xs ∧ Below w.heap.size w w'
set_option maxHeartbeats 1000000 in
theorem clone_covers (L : Option Addr) (m c : Nat) (xs : List Co) (ok : Nat → Prop) (w : World) (hS : Cvs w ok L m xs) (hok : ∀ b, ok b → b < w.heap.size) (hn : m ≤ 3000) :
  Calls Tryz.prog 32 #[.slice L m c] w (CopiesC w m xs) := by
 cases L with
 | none =>
  obtain rfl : m = 0 := hS.noroom; have hx : xs = [] := List.eq_nil_of_length_eq_zero hS.1; subst hx; clear hS; have q : ∀ (w : World) (a : Option Addr) (n c n' c' : Nat), (binOp .eql 30 (.slice a n c) (.slice none n' c')).run Tryz.prog w = .ok (.bool a.isNone) w := fun w a n c n' c' => Lib.run_eql_slice_nil w _ _ a n c n' c' Tryz.underlying30
  go_enter Tryz.func32, Tryz.ntmps32; go_wp2; go_ret; exact ⟨none, 0, rfl, COwn.nil, Below.refl _ _⟩
 | some ad =>
  have HS := Lib.hid hS; have HK := Lib.hid hok; clear hS hok; have q : ∀ (w : World) (a : Option Addr) (n c n' c' : Nat), (binOp .eql 30 (.slice a n c) (.slice none n' c')).run Tryz.prog w = .ok (.bool a.isNone) w := fun w a n c n' c' => Lib.run_eql_slice_nil w _ _ a n c n' c' Tryz.underlying30
  go_enter Tryz.func32, Tryz.ntmps32
  go_wp2_with (at_builtin; refine wpList_app_c _ rfl (.tmp 5) (.tmp 6) rfl w.heap.size (some ⟨w.heap.size, 0, none⟩) 0 0 [] rfl (COwn.made w) ok (some ad) m c xs rfl (HS.out.keep (ok' := ok) (fun p hp => (alloc_ w _).cell (HK.out _ hp)) fun _ h => h) (fun e => by cases e) m (Nat.zero_add m) (by omega) (by simp) ?_; intro A2 c2 w2 hO2 hg2; have HO2 := Lib.hid hO2; have HG2 := Lib.hid hg2; clear hO2 hg2)
  go_wp2; go_ret; refine ⟨A2, c2, rfl, by have := HO2.out; rwa [List.nil_append] at this, ((Below.refl _ _).alloc (Nat.le_refl _) _).grown HG2.out (by simp) (fun j hj => ?_)⟩; simp [Value.ownBlock] at hj; omega
def CopiesR (w : World) (m : Nat) (xs : List Rw) (e : Ending) (w' : World) : Prop := ∃ A c, e = .returned (.slice A m c) ∧ Own w' w.heap.size A m c xs ∧ Below w.heap.size w w'
set_option maxHeartbeats 1000000 in
theorem clone_changes (L : Option Addr) (m c : Nat) (xs : List Rw) (ok : Nat → Prop) (w : World) (hS : Raws w ok L m xs) (hok : ∀ b, ok b → b < w.heap.size) (hn : m ≤ 3000) :
  Calls Tryz.prog 44 #[.slice L m c] w (CopiesR w m xs) := by
 cases L with
 | none =>
  obtain rfl : m = 0 := hS.noroom; have hx : xs = [] := List.eq_nil_of_length_eq_zero hS.1; subst hx; clear hS; have q : ∀ (w : World) (a : Option Addr) (n c n' c' : Nat), (binOp .eql 33 (.slice a n c) (.slice none n' c')).run Tryz.prog w = .ok (.bool a.isNone) w := fun w a n c n' c' => Lib.run_eql_slice_nil w _ _ a n c n' c' Tryz.underlying33
  go_enter Tryz.func44, Tryz.ntmps44; go_wp2; go_ret; exact ⟨none, 0, rfl, Own.nil, Below.refl _ _⟩
 | some ad =>
  have HS := Lib.hid hS; have HK := Lib.hid hok; clear hS hok; have q : ∀ (w : World) (a : Option Addr) (n c n' c' : Nat), (binOp .eql 33 (.slice a n c) (.slice none n' c')).run Tryz.prog w = .ok (.bool a.isNone) w := fun w a n c n' c' => Lib.run_eql_slice_nil w _ _ a n c n' c' Tryz.underlying33
  go_enter Tryz.func44, Tryz.ntmps44
  go_wp2_with (at_builtin; refine wpList_app _ rfl (.tmp 5) (.tmp 6) rfl w.heap.size (some ⟨w.heap.size, 0, none⟩) 0 0 [] rfl (Own.made w) ok (some ad) m c xs rfl (HS.out.keep (ok' := ok) (fun p hp => (alloc_ w _).cell (HK.out _ hp)) fun _ h => h) (fun e => by cases e) m (Nat.zero_add m) (by omega) (by simp) ?_; intro A2 c2 w2 hO2 hg2; have HO2 := Lib.hid hO2; have HG2 := Lib.hid hg2; clear hO2 hg2)
  go_wp2; go_ret; refine ⟨A2, c2, rfl, by have := HO2.out; rwa [List.nil_append] at this, ((Below.refl _ _).alloc (Nat.le_refl _) _).grown HG2.out (by simp) (fun j hj => ?_)⟩; simp [Value.ownBlock] at hj; omega
theorem Own.fits {w : World} {base n c : Nat} {A : Option Addr} {xs : List Rw} (h : Own w base A n c xs) : n ≤ c ∧ (A = none → n = 0 ∧ c = 0) := by
 rcases h.2 with ⟨e, hn⟩ | ⟨g, cap, cur, e, _, _, hnc, _⟩
 ·injection e with e1 e2 e3; exact ⟨by omega, fun _ => ⟨hn, e3⟩⟩
 ·injection e with e1 e2 e3; subst e3; exact ⟨hnc, fun h0 => by rw [e1] at h0; cases h0⟩
theorem Own.low {w : World} {base base' n c : Nat} {A : Option Addr} {xs : List Rw} (h : Own w base A n c xs) (hb : base' ≤ base) : Own w base' A n c xs := by
 refine ⟨h.1, ?_⟩; rcases h.2 with h | ⟨g, cap, cur, e, hb2, r⟩
 ·exact .inl h
 ·exact .inr ⟨g, cap, cur, e, Nat.le_trans hb hb2, r⟩
theorem Own.form {w : World} {base n c : Nat} {A : Option Addr} {xs : List Rw} (h : Own w base A n c xs) (hn : 0 < n) : ∃ g, A = some ⟨g, 0, none⟩ ∧ base ≤ g ∧ g < w.heap.size := by
 rcases h.2 with ⟨e, h0⟩ | ⟨g, cap, cur, e, hb, hh, _⟩
 ·omega
 ·injection e with e1 e2 e3
  refine ⟨g, e1, hb, ?_⟩; rcases Nat.lt_or_ge g w.heap.size with hlt | hge
  ·exact hlt
  ·rw [Array.getElem?_eq_none hge] at hh; cases hh
theorem cel_set (A : Option Addr) (c : Nat) : ∀ (rs : List Rw) (i : Nat) (r : Rw), rs[i]? = some r → cel (rs.set i ⟨r.v, A, r.n, c⟩) = (cel rs).set (i * 9 + 7) (.slice A r.n c)
 | [], i, r, h => by simp at h
 | y :: ys, 0, r, h => by
  simp at h; subst h; rw [List.set_cons_zero, show ∀ z : Rw, z :: ys = [z] ++ ys from fun _ => rfl, cel_append, cel_one, show y :: ys = [y] ++ ys from rfl, cel_append, cel_one]; rw [List.set_append_left _ _ (by show 0 * 9 + 7 < 9; omega)]; rfl
 | y :: ys, i + 1, r, h => by
  simp at h; rw [List.set_cons_succ, show ∀ (z : Rw) (zs : List Rw), z :: zs = [z] ++ zs from fun _ _ => rfl, cel_append, cel_one, show y :: ys = [y] ++ ys from rfl, cel_append, cel_one, cel_set A c ys i r h]; rw [List.set_append_right _ _ (by show 9 ≤ (i + 1) * 9 + 7; omega)]
  congr 2
  show i * 9 + 7 = (i + 1) * 9 + 7 - 9
  omega
theorem Own.put {w : World} {base n c g i : Nat} {rs : List Rw} {r : Rw} (h : Own w base (some ⟨g, 0, none⟩) n c rs) (hr : rs[i]? = some r) (A : Option Addr) (k : Nat) : Own (w.setCell ⟨g, i * 9 + 7, none⟩ (.slice A r.n k)) base (some ⟨g, 0, none⟩) n c (rs.set i ⟨r.v, A, r.n, k⟩) := by
 refine ⟨by have := h.1; rw [cel_length] at this ⊢; rw [List.length_set]; exact this, ?_⟩; rcases h.2 with ⟨e, _⟩ | ⟨g', cap, cur, e, hb, hh, hnc, hm, hs, ht⟩
 ·cases e
 ·injection e with e1 e2 e3
  injection e1 with e1
  injection e1 with e1
  subst e1 e3; refine .inr ⟨g, c, cur.setIfInBounds (i * 9 + 7) (.slice A r.n k), rfl, hb, heap_setCell_same w g _ _ _ _ hh, hnc, hm, by simpa using hs, ?_⟩; rw [Array.toList_setIfInBounds, List.take_set, ht, cel_set A k rs i r hr]
end Tm
end Go.Proofs.YtplenoaajokpjaaGreat
namespace Go.Proofs.YtplenoaajokpjaaGreat
open Go.RowKit Ba Cv Sp Te Ag
namespace Tm
set_option linter.unusedVariables false
theorem Own.far {w : World} {base n c : Nat} {A : Option Addr} {rs : List Rw} (h : Own w base A n c rs) {a : Addr} (hp : a.block < base) (u : Value) : Own (w.setCell a u) base A n c rs := by
 refine ⟨h.1, ?_⟩; rcases h.2 with h | ⟨g, cap, cur, e, hb, hh, r⟩
 ·exact .inl h
 ·exact .inr ⟨g, cap, cur, e, hb, (Below.heap_setCell w a u g (by omega)).trans hh, r⟩
theorem Raws.at {w : World} {ok : Nat → Prop} {g n j : Nat} {rs : List Rw} {r : Rw} (h : Raws w ok (some ⟨g, 0, none⟩) n rs) (hr : rs[j]? = some r) : Nin w ⟨g, j * 9, none⟩ r := by
 obtain ⟨ad, e, _, hc⟩ := h.2 (by have := h.1; have := (List.getElem?_eq_some_iff.1 hr).1; omega); injection e with e
 subst e; have := hc j r hr; rwa [Addr.add_lit, Nat.zero_add] at this
theorem Own.frozen {w : World} {base n c g : Nat} {rs : List Rw} (h : Own w base (some ⟨g, 0, none⟩) n c rs) (o : Nat) : w.frozen? ⟨g, o, none⟩ = false := by
 rcases h.2 with ⟨e, _⟩ | ⟨g', cap, cur, e, _, hh, _⟩
 ·cases e
 ·injection e with e; injection e with e; injection e with e
  subst e; simp [World.frozen?, hh]
def Hr.withA (h : Hr) (A : Option Addr) (c : Nat) : Hr := ⟨h.id, h.bk, h.s, h.r, A, h.n, c, h.cs, h.B, h.m, h.d, h.rs⟩
def Hr.withB (h : Hr) (B : Option Addr) (d : Nat) (rs : List Rw) : Hr := ⟨h.id, h.bk, h.s, h.r, h.A, h.n, h.c, h.cs, B, h.m, d, rs⟩
structure O0 (w W : World) (h : Hr) : Prop where
 b : Below w.heap.size w W
 x : Bx W w.heap.size 35 (hc h)
 y : Bx W (w.heap.size + 1) 35 zhc
theorem O0.start (w : World) (h : Hr) : O0 w ((w.alloc (.cells (hc h) 35)).alloc (.cells zhc 35)) h := by
 refine ⟨(alloc_ _ _).alloc (by simp) _, (Bx.new _ _ _).alloc _, ?_⟩; have := Bx.new (w.alloc (.cells (hc h) 35)) 35 zhc; rw [World.size_alloc] at this; exact this
theorem O0.next {w W W' : World} {h : Hr} (H : O0 w W h) (hb : Below W.heap.size W W') : O0 w W' h := ⟨H.b.trans (hb.mono H.b.size), H.x.keep hb, H.y.keep hb⟩
theorem O0.lt {w W : World} {h : Hr} (H : O0 w W h) : w.heap.size + 2 ≤ W.heap.size := H.y.lt
theorem O0.setA {w W : World} {h : Hr} (H : O0 w W h) (A : Option Addr) (c : Nat) : O0 w (W.setCell ⟨w.heap.size, 8, none⟩ (.slice A h.n c)) (h.withA A c) :=
 ⟨H.b.setCell (p := ⟨w.heap.size, 8, none⟩) (Nat.le_refl _) _, H.x.set 8 _, H.y.far (by show w.heap.size + 1 ≠ w.heap.size; omega) _⟩
theorem O0.setB {w W : World} {h : Hr} (H : O0 w W h) (B : Option Addr) (d : Nat) (rs : List Rw) : O0 w (W.setCell ⟨w.heap.size, 9, none⟩ (.slice B h.m d)) (h.withB B d rs) :=
 ⟨H.b.setCell (p := ⟨w.heap.size, 9, none⟩) (Nat.le_refl _) _, H.x.set 9 _, H.y.far (by show w.heap.size + 1 ≠ w.heap.size; omega) _⟩
theorem O0.far {w W : World} {h : Hr} (H : O0 w W h) {g : Nat} (hg : w.heap.size + 2 ≤ g) (o : Nat) (u : Value) : O0 w (W.setCell ⟨g, o, none⟩ u) h :=
 ⟨H.b.setCell (p := ⟨g, o, none⟩) (by show w.heap.size ≤ g; omega) _, H.x.far (by show w.heap.size ≠ g; omega) _, H.y.far (by show w.heap.size + 1 ≠ g; omega) _⟩
def nb (w W : World) (h : Hr) (b : Nat) : Prop := w.heap.size + 2 ≤ b ∧ b < W.heap.size ∧ some b ≠ (Value.slice h.B h.m h.d).ownBlock
structure OL (w W : World) (h : Hr) (i : Nat) : Prop where
 o : O0 w W h
 t : Cvs W (nb w W h) h.A h.n h.cs
 r : Own W (w.heap.size + 2) h.B h.m h.d h.rs
 k : ∀ j r, h.rs[j]? = some r → Cvs W (fun b => (i ≤ j ∧ b < w.heap.size) ∨ nb w W h b) r.A r.n r.v.cs
 n : ∀ r ∈ h.rs, r.n ≤ 3000
theorem OL.next {w W W' : World} {h : Hr} {i : Nat} (H : OL w W h i) (hb : Below W.heap.size W W') : OL w W' h i := by
 have hs := H.o.b.size; refine ⟨H.o.next hb, H.t.keep (fun p hp => hb.cell hp.2.1) fun b hb' => ⟨hb'.1, Nat.lt_of_lt_of_le hb'.2.1 hb.size, hb'.2.2⟩, H.r.below hb, fun j r hr => (H.k j r hr).keep (fun p hp => hb.cell ?_) fun b hb' => ?_, H.n⟩
 ·rcases hp with hp | hp
  ·omega
  ·exact hp.2.1
 ·rcases hb' with hb' | hb'
  ·exact .inl hb'
  ·exact .inr ⟨hb'.1, Nat.lt_of_lt_of_le hb'.2.1 hb.size, hb'.2.2⟩
theorem OL.put {w W W' : World} {h : Hr} {i g : Nat} {r : Rw} (H : OL w W h i) (hB : h.B = some ⟨g, 0, none⟩) (hr : h.rs[i]? = some r) (hb : Below W.heap.size W W') {A : Option Addr} {c : Nat} (hc : COwn W' W.heap.size A r.n c r.v.cs) :
  OL w (W'.setCell ⟨g, i * 9 + 7, none⟩ (.slice A r.n c)) (h.withB h.B h.d (h.rs.set i ⟨r.v, A, r.n, c⟩)) (i + 1) := by
 have H' := H.next hb
 have hg : w.heap.size + 2 ≤ g ∧ g < W.heap.size := by
  have h1 := H.r.lt g (by rw [hB]; rfl); exact h1
 have hls := H.o.lt; have hr' := H'.r; rw [hB] at hr'; have hrow : (Value.slice h.B h.m h.d).ownBlock = some g := by rw [hB]; rfl
 have keep : ∀ (p : Addr), p.block ≠ g → (W'.setCell ⟨g, i * 9 + 7, none⟩ (.slice A r.n c)).cell? p = W'.cell? p := fun p hp => World.cell?_setCell_other _ _ _ _ fun e => hp (by rw [← e])
 have nbn : ∀ b, nb w W' h b → b ≠ g := fun b hb' e => hb'.2.2 (by rw [hrow, e])
 refine ⟨⟨?_, ?_, ?_⟩, H'.t.keep (fun p hp => keep p (nbn _ hp)) fun b hb' => ⟨hb'.1, by simpa using hb'.2.1, hb'.2.2⟩, ?_, fun j x hx => ?_, fun x hx => ?_⟩
 ·exact (H'.o.far hg.1 _ _).b
 ·exact (H'.o.far hg.1 _ _).x
 ·exact (H'.o.far hg.1 _ _).y
 ·show Own _ _ h.B _ _ _
  rw [hB]; exact hr'.put hr A c
 ·have hx' : (h.rs.set i ⟨r.v, A, r.n, c⟩)[j]? = some x := hx; have hil := (List.getElem?_eq_some_iff.1 hr).1; by_cases hij : j = i
  ·subst hij; rw [List.getElem?_set_self hil] at hx'; injection hx' with hx'
   subst hx'; refine hc.row.keep (fun p hp => keep p (by omega)) fun b hb' => .inr ⟨by omega, by simpa using hb'.2, fun e => ?_⟩
   have e' : some b = some g := e.trans hrow; injection e' with e'
   omega
  ·rw [List.getElem?_set_ne (Ne.symm hij)] at hx'; refine (H'.k j x hx').keep (fun p hp => keep p ?_) fun b hb' => ?_
   ·rcases hp with hp | hp
    ·omega
    ·exact nbn _ hp
   ·rcases hb' with hb' | hb'
    ·exact .inl ⟨by omega, hb'.2⟩
    ·exact .inr ⟨hb'.1, by simpa using hb'.2.1, hb'.2.2⟩
 ·rcases List.mem_or_eq_of_mem_set hx with hx | rfl
  ·exact H.n x hx
  ·exact H.n r (List.mem_of_getElem? hr)
theorem OL.v {h : Hr} {i : Nat} {r : Rw} (hr : h.rs[i]? = some r) (A : Option Addr) (c : Nat) : (h.withB h.B h.d (h.rs.set i ⟨r.v, A, r.n, c⟩)).v = h.v := by
 have : (h.rs.set i ⟨r.v, A, r.n, c⟩).map Rw.v = h.rs.map Rw.v := by
  rw [List.map_set]; show (h.rs.map Rw.v).set i r.v = h.rs.map Rw.v
  obtain ⟨hi, e⟩ := List.getElem?_eq_some_iff.1 hr; have hi2 : i < (h.rs.map Rw.v).length := by simpa using hi
  have e2 : (h.rs.map Rw.v)[i] = r.v := by simp [e]
  rw [← e2]; exact List.set_getElem_self hi2
 unfold Hr.v Hr.withB; simp only [this]
structure Ows (w : World) (h : Hr) (w' : World) (h' : Hr) : Prop where
 v : h'.v = h.v
 n : h'.n = h.n
 m : h'.m = h.m
 r : Own w' w.heap.size h'.B h'.m h'.d h'.rs
 t : Cvs w' (fun b => w.heap.size ≤ b ∧ b < w'.heap.size ∧ some b ≠ (Value.slice h'.B h'.m h'.d).ownBlock) h'.A h'.n h'.cs
 k : ∀ r ∈ h'.rs, Cvs w' (fun b => w.heap.size ≤ b ∧ b < w'.heap.size ∧ some b ≠ (Value.slice h'.B h'.m h'.d).ownBlock) r.A r.n r.v.cs
 kn : ∀ r ∈ h'.rs, r.n ≤ 3000
 b : Below w.heap.size w w'
def OwnsH (w : World) (h : Hr) (e : Ending) (w' : World) : Prop := ∃ h', e = .returned (hg h') ∧ Ows w h w' h'
theorem OL.done {w W : World} {h : Hr} (H : OL w W h h.m) : OL w W h h.m ∧ ∀ r ∈ h.rs, Cvs W (nb w W h) r.A r.n r.v.cs := by
 refine ⟨H, fun r hr => ?_⟩; obtain ⟨j, hj⟩ := List.mem_iff_getElem?.1 hr; refine (H.k j r hj).keep (fun _ _ => rfl) fun b hb => ?_
 rcases hb with hb | hb
 ·have := (List.getElem?_eq_some_iff.1 hj).1; have := H.r.len; omega
 ·exact hb
theorem OL.out {w W : World} {h h0 : Hr} (H : OL w W h h.m) (hv : h.v = h0.v) (hn : h.n = h0.n) (hm : h.m = h0.m) (l : List Value) : Ows w h0 (sets (w.heap.size + 1) 0 l W) h := by
 obtain ⟨H, hk⟩ := H.done; have keep : ∀ (p : Addr), p.block ≠ w.heap.size + 1 → (sets (w.heap.size + 1) 0 l W).cell? p = W.cell? p := fun p hp => sets_other l hp 0 W
 have hsz : (sets (w.heap.size + 1) 0 l W).heap.size = W.heap.size := sets_size l 0 W
 have kk : ∀ {A : Option Addr} {n : Nat} {cs : List Co}, Cvs W (nb w W h) A n cs → Cvs (sets (w.heap.size + 1) 0 l W) (fun b => w.heap.size ≤ b ∧ b < (sets (w.heap.size + 1) 0 l W).heap.size ∧ some b ≠ (Value.slice h.B h.m h.d).ownBlock) A n cs := fun C =>
  C.keep (fun p hp => keep p (by have := hp.1; omega)) fun b hb => ⟨by have := hb.1; omega, by rw [hsz]; exact hb.2.1, hb.2.2⟩
 refine ⟨hv, hn, hm, ?_, kk H.t, fun r hr => kk (hk r hr), H.n, sets_below l (by omega) 0 W H.o.b⟩; have hr := H.r; refine ⟨hr.1, ?_⟩; rcases hr.2 with h | ⟨g, cap, cur, e, hb, hh, q⟩
 ·exact .inl h
 ·exact .inr ⟨g, cap, cur, e, by omega, (sets_heap l (by omega) 0 W).trans hh, q⟩
structure RO (w W : World) (h : Hr) (i g q : Nat) (r : Rw) (L : Nat → Bool) (w' : World) (v23 v24 v25 v26 v27 v28 v29 v30 : Value) (A : Option Addr) (c : Nat) : Prop where
 f0 : L 0 = true → v23 = .pointer (some ⟨w.heap.size, 9, none⟩)
 f1 : L 1 = true → v24 = .slice (some ⟨g, 0, none⟩) h.m h.d
 f2 : L 2 = true → v25 = .int .i64 (i : Int)
 f3 : L 3 = true → v26 = .pointer (some ⟨q, 7, none⟩)
 f4 : L 4 = true → v27 = .slice r.A r.n r.c
 f5 : L 5 = true → v28 = .slice A r.n c ∧ (L 8 = false → COwn w' W.heap.size A r.n c r.v.cs)
 f6 : L 6 = true → v29 = .pointer (some ⟨g, i * 9, none⟩)
 f7 : L 7 = true → v30 = .pointer (some ⟨g, i * 9 + 7, none⟩)
 b : L 8 = false → Below W.heap.size W w'
 s : L 8 = true → ∃ w3, Below W.heap.size W w3 ∧ COwn w3 W.heap.size A r.n c r.v.cs ∧ w' = w3.setCell ⟨g, i * 9 + 7, none⟩ (.slice A r.n c)
 d : L 8 = true → ∀ j, j < 6 → L j = true
section
variable {w W w' w2 : World} {h : Hr} {i g q c : Nat} {r : Rw} {L : Nat → Bool} {v23 v24 v25 v26 v27 v28 v29 v30 : Value} {A : Option Addr}
theorem RO.no (H : RO w W h i g q r L w' v23 v24 v25 v26 v27 v28 v29 v30 A c) {j : Nat} (hj : j < 6) (hL : L j = false) : L 8 = false := by
 cases h8 : L 8
 ·rfl
 ·rw [H.d h8 j hj] at hL; cases hL
theorem RO.dd (H : RO w W h i g q r L w' v23 v24 v25 v26 v27 v28 v29 v30 A c) {j0 : Nat} (h8 : L 8 = true) : ∀ j, j < 6 → (j == j0 || L j) = true := fun j hj => by rw [H.d h8 j hj, Bool.or_true]
theorem RO.s0 (H : RO w W h i g q r L w' v23 v24 v25 v26 v27 v28 v29 v30 A c) : RO w W h i g q r (fun j => j == 0 || L j) w' (.pointer (some ⟨w.heap.size, 9, none⟩)) v24 v25 v26 v27 v28 v29 v30 A c := ⟨fun _ => rfl, H.f1, H.f2, H.f3, H.f4, H.f5, H.f6, H.f7, H.b, H.s, fun h8 => H.dd h8⟩
theorem RO.s1 (H : RO w W h i g q r L w' v23 v24 v25 v26 v27 v28 v29 v30 A c) : RO w W h i g q r (fun j => j == 1 || L j) w' v23 (.slice (some ⟨g, 0, none⟩) h.m h.d) v25 v26 v27 v28 v29 v30 A c := ⟨H.f0, fun _ => rfl, H.f2, H.f3, H.f4, H.f5, H.f6, H.f7, H.b, H.s, fun h8 => H.dd h8⟩
theorem RO.s2 (H : RO w W h i g q r L w' v23 v24 v25 v26 v27 v28 v29 v30 A c) : RO w W h i g q r (fun j => j == 2 || L j) w' v23 v24 (.int .i64 (i : Int)) v26 v27 v28 v29 v30 A c := ⟨H.f0, H.f1, fun _ => rfl, H.f3, H.f4, H.f5, H.f6, H.f7, H.b, H.s, fun h8 => H.dd h8⟩
theorem RO.s3 (H : RO w W h i g q r L w' v23 v24 v25 v26 v27 v28 v29 v30 A c) : RO w W h i g q r (fun j => j == 3 || L j) w' v23 v24 v25 (.pointer (some ⟨q, 7, none⟩)) v27 v28 v29 v30 A c := ⟨H.f0, H.f1, H.f2, fun _ => rfl, H.f4, H.f5, H.f6, H.f7, H.b, H.s, fun h8 => H.dd h8⟩
theorem RO.s4 (H : RO w W h i g q r L w' v23 v24 v25 v26 v27 v28 v29 v30 A c) : RO w W h i g q r (fun j => j == 4 || L j) w' v23 v24 v25 v26 (.slice r.A r.n r.c) v28 v29 v30 A c := ⟨H.f0, H.f1, H.f2, H.f3, fun _ => rfl, H.f5, H.f6, H.f7, H.b, H.s, fun h8 => H.dd h8⟩
theorem RO.s6 (H : RO w W h i g q r L w' v23 v24 v25 v26 v27 v28 v29 v30 A c) : RO w W h i g q r (fun j => j == 6 || L j) w' v23 v24 v25 v26 v27 v28 (.pointer (some ⟨g, i * 9, none⟩)) v30 A c := ⟨H.f0, H.f1, H.f2, H.f3, H.f4, H.f5, fun _ => rfl, H.f7, H.b, H.s, fun h8 => H.dd h8⟩
theorem RO.s7 (H : RO w W h i g q r L w' v23 v24 v25 v26 v27 v28 v29 v30 A c) : RO w W h i g q r (fun j => j == 7 || L j) w' v23 v24 v25 v26 v27 v28 v29 (.pointer (some ⟨g, i * 9 + 7, none⟩)) A c := ⟨H.f0, H.f1, H.f2, H.f3, H.f4, H.f5, H.f6, fun _ => rfl, H.b, H.s, fun h8 => H.dd h8⟩
theorem RO.s5 (H : RO w W h i g q r L w' v23 v24 v25 v26 v27 v28 v29 v30 A c) (h8 : L 8 = false) (hb : Below w'.heap.size w' w2) {A2 : Option Addr} {c2 : Nat} (hc : COwn w2 w'.heap.size A2 r.n c2 r.v.cs) : RO w W h i g q r (fun j => j == 5 || L j) w2 v23 v24 v25 v26 v27 (.slice A2 r.n c2) v29 v30 A2 c2 := by
 have hbw := H.b h8
 have low : COwn w2 W.heap.size A2 r.n c2 r.v.cs := by
  refine ⟨hc.1, ?_⟩; rcases hc.2 with hc | ⟨g, cap, cur, e, hb2, q⟩
  ·exact .inl hc
  ·exact .inr ⟨g, cap, cur, e, Nat.le_trans hbw.size hb2, q⟩
 exact ⟨H.f0, H.f1, H.f2, H.f3, H.f4, fun _ => ⟨rfl, fun _ => low⟩, H.f6, H.f7, fun _ => hbw.trans (hb.mono hbw.size), (fun l => by have l' : L 8 = true := l; rw [h8] at l'; cases l'), (fun l => by have l' : L 8 = true := l; rw [h8] at l'; cases l')⟩
theorem RO.s8 (H : RO w W h i g q r L w' v23 v24 v25 v26 v27 v28 v29 v30 A c) (h8 : L 8 = false) (hd : ∀ j, j < 6 → L j = true) : RO w W h i g q r (fun j => j == 8 || L j) (w'.setCell ⟨g, i * 9 + 7, none⟩ (.slice A r.n c)) v23 v24 v25 v26 v27 v28 v29 v30 A c :=
 ⟨H.f0, H.f1, H.f2, H.f3, H.f4, fun l => ⟨(H.f5 l).1, (fun l8 => by cases l8)⟩, H.f6, H.f7, (fun l => by cases l), fun _ => ⟨w', H.b h8, (H.f5 (hd 5 (by omega))).2 h8, rfl⟩, fun _ j hj => by
  show (j == 8 || L j) = true
  rw [hd j hj, Bool.or_true]⟩
end
set_option maxRecDepth 100000 in
set_option maxHeartbeats 4000000 in
theorem own_ (h : Hr) (w : World) (M : HM w (· < w.heap.size) h) (S : HS h) : Calls Tryz.prog 31 #[hg h] w (OwnsH w h) := by
 obtain ⟨W0, hW0⟩ : ∃ W0, (w.alloc (.cells (hc h) 35)).alloc (.cells zhc 35) = W0 := ⟨_, rfl⟩; have H0 := Lib.hid (show O0 w W0 h by rw [← hW0]; exact O0.start w h); have HW := Lib.hid hW0; have HM0 := Lib.hid M; have HSS := Lib.hid S; clear hW0 M S; go_enter Tryz.func31, Tryz.ntmps31
 go_wp2_with fail
 rw [HW.out]; clear HW; refine (clone_covers h.A h.n h.c h.cs _ W0 (HM0.out.t.keep (fun p hp => H0.out.b.cell hp) fun _ h => h) (fun b hb => Nat.lt_of_lt_of_le hb H0.out.b.size) HSS.out.n).mono ?_; rintro e w1 ⟨A1, c1, rfl, hO1, hb1⟩; have H1 := Lib.hid ((H0.out.next hb1).setA A1 c1)
 have HT := Lib.hid (show Cvs (w1.setCell ⟨w.heap.size, 8, none⟩ (.slice A1 h.n c1)) (fun b => w.heap.size + 2 ≤ b ∧ b < (w1.setCell ⟨w.heap.size, 8, none⟩ (.slice A1 h.n c1)).heap.size) A1 h.n h.cs from
  hO1.row.keep (fun p hp => World.cell?_setCell_other _ _ _ _ fun e => by have := H0.out.lt; rw [← e] at hp; simp only at hp; omega) fun b hb => ⟨by have := H0.out.lt; omega, by simpa using hb.2⟩)
 have x8 := (H0.out.next hb1).x.c 8; have f8 := (H0.out.next hb1).x.f 8; have x9 := (H0.out.next hb1).x.c 9; simp at x8 x9; obtain ⟨W1, hW1⟩ : ∃ W1, w1.setCell ⟨w.heap.size, 8, none⟩ (.slice A1 h.n c1) = W1 := ⟨_, rfl⟩; rw [hW1] at H1 HT; have HW1 := Lib.hid hW1; clear hW1 hO1 hb1 H0
 go_wp2_with fail
 rw [HW1.out]; clear HW1 x8 f8 x9; refine (clone_changes h.B h.m h.d h.rs _ W1 (HM0.out.r.keep (fun p hp => H1.out.b.cell hp) fun _ h => h) (fun b hb => Nat.lt_of_lt_of_le hb H1.out.b.size) (by have := HSS.out.m; omega)).mono ?_; rintro e w2 ⟨B1, d1, rfl, hO2, hb2⟩; have H2 := Lib.hid (show O0 w (w2.setCell ⟨w.heap.size, 9, none⟩ (.slice B1 h.m d1)) ((h.withA A1 c1).withB B1 d1 h.rs) from (H1.out.next hb2).setB B1 d1 h.rs); have x9 := (H1.out.next hb2).x.c 9; have f9 := (H1.out.next hb2).x.f 9; simp [Hr.withA] at x9
 have HL := Lib.hid (show OL w (w2.setCell ⟨w.heap.size, 9, none⟩ (.slice B1 h.m d1)) ((h.withA A1 c1).withB B1 d1 h.rs) 0 from by
  have hlt1 := H1.out.lt; have hr2 : Own (w2.setCell ⟨w.heap.size, 9, none⟩ (.slice B1 h.m d1)) (w.heap.size + 2) B1 h.m d1 h.rs := (hO2.far (by show w.heap.size < W1.heap.size; omega) _).low hlt1; have nrow : ∀ b, b < W1.heap.size → some b ≠ (Value.slice B1 h.m d1).ownBlock := fun b hb e => by have := hO2.lt b e.symm; omega
  have far : ∀ p : Addr, p.block ≠ w.heap.size → (w2.setCell ⟨w.heap.size, 9, none⟩ (.slice B1 h.m d1)).cell? p = w2.cell? p := fun p hp => World.cell?_setCell_other _ _ _ _ fun e => hp (by rw [← e])
  refine ⟨H2.out, HT.out.keep (fun p hp => (far p (by omega)).trans (hb2.cell hp.2)) fun b hb => ⟨hb.1, by have := hb2.size; have := hb.2; simp; omega, nrow b hb.2⟩, hr2, fun j r hr => ?_, fun r hr => HSS.out.k r hr⟩; refine (HM0.out.k r (List.mem_of_getElem? hr)).keep (fun p hp => ?_) fun b hb => .inl ⟨Nat.zero_le _, hb⟩
  exact (far p (by omega)).trans ((hb2.cell (Nat.lt_of_lt_of_le hp H1.out.b.size)).trans (H1.out.b.cell hp)))
 obtain ⟨W2, hW2⟩ : ∃ W2, w2.setCell ⟨w.heap.size, 9, none⟩ (.slice B1 h.m d1) = W2 := ⟨_, rfl⟩; rw [hW2] at H2 HL; have HW2 := Lib.hid hW2; have y9 := H2.out.x.c 9; simp [Hr.withB, Hr.withA] at y9; have hmm := HSS.out.m; have HV := Lib.hid (show ((h.withA A1 c1).withB B1 d1 h.rs).v = h.v from rfl); clear hW2 hO2 hb2 H1 HT HM0 H2
 go_wp2_with fail
 rw [HW2.out]; clear HW2 x9 f9
 go_loopw [18] (fun vi w' => ∃ (i : Nat) (W : World) (h' : Hr), i ≤ h.m ∧ vi = .int .i64 (i : Int) ∧ W = w' ∧ Hid (h'.B = B1 ∧ h'.d = d1 ∧ h'.v = h.v ∧ h'.n = h.n ∧ h'.m = h.m ∧ OL w W h' i)) (fun vi _ => h.m - (intOf vi).toNat)
 case atStart => exact ⟨0, W2, _, Nat.zero_le _, rfl, rfl, Lib.hid ⟨rfl, rfl, HV.out, rfl, rfl, HL.out⟩⟩
 case round =>
  obtain ⟨i, W, k, him, rfl, rfl, HK⟩ := hrel; clear HL y9 HV; by_cases hlt : i < h.m
  ·obtain ⟨kB, kd, kv, kn, km, HL⟩ := HK.out; obtain ⟨r, hr⟩ : ∃ r, k.rs[i]? = some r := ⟨_, List.getElem?_eq_getElem (by have := HL.r.len; omega)⟩; obtain ⟨g, hg0, _, _⟩ := HL.r.form (by omega); rw [kB] at hg0; subst hg0; have hro := HL.r; rw [kB] at hro; have hn := hro.raws.at hr; obtain ⟨c0, c1', c2', c3', c4', c5', c6', c7', c8'⟩ := hn; simp only at c0 c1' c2' c3' c4' c5' c6' c7' c8'; have hlt2 : (i : Int) < (h.m : Int) := by omega
   obtain ⟨W', hW'⟩ : ∃ W', W.alloc (.cells (vc r) 52) = W' := ⟨_, rfl⟩; have HH := Lib.hid (show OL w W' k i from hW' ▸ HL.next (alloc_ _ _)); have HQ := Lib.hid (show Bx W' W.heap.size 52 (vc r) from hW' ▸ Bx.new _ _ _); have HRI := Lib.hid hr; have HBB := Lib.hid kB; have HKK := Lib.hid (And.intro kd (And.intro kv (And.intro kn km))); have HW3 := Lib.hid hW'; have HLT := Lib.hid hlt; clear hr hro kB kv kn HL HK hW' hlt
   go_wp2_with fail
   rw [HW3.out]; clear HW3 c0 c1' c2' c3' c4' c5' c6' c7' c8'; clear kd km; have hlt3 : (i : Int) < (k.m : Int) := by have := HKK.out.2.2.2; have := HLT.out; omega
   refine wp_region_steps (fun L_ a_ w_ => ∃ (v23 v24 v25 v26 v27 v28 v29 v30 : Value) (A2 : Option Addr) (c2 : Nat), a_ = { tmps := #[hg h, .pointer (some ⟨w.heap.size, 0, none⟩), .pointer (some ⟨w.heap.size + 1, 0, none⟩), .int .i64 (i : Int), .pointer (some ⟨W.heap.size, 0, none⟩), .pointer (some ⟨w.heap.size, 2, none⟩), .pointer (some ⟨w.heap.size, 8, none⟩), .slice h.A h.n h.c, .slice A1 h.n c1, .pointer (some ⟨w.heap.size, 2, none⟩), .pointer (some ⟨w.heap.size, 8, none⟩), .pointer (some ⟨w.heap.size, 9, none⟩), .slice h.B h.m h.d, .slice (some ⟨g, 0, none⟩) h.m d1, .pointer (some ⟨w.heap.size, 9, none⟩), .pointer (some ⟨w.heap.size, 9, none⟩), .slice (some ⟨g, 0, none⟩) h.m d1, .int .i64 (h.m : Int), .int .i64 (i : Int), .bool true, .int .i64 (i : Int), .pointer (some ⟨g, i * 9, none⟩), vg r, v23, v24, v25, v26, v27, v28, v29, v30, u31, undef], defers := [] } ∧ Hid (RO w W' k i g W.heap.size r L_ w_ v23 v24 v25 v26 v27 v28 v29 v30 A2 c2)) (by kernel_rfl) (by kernel_rfl) ?_ (AllSteps.cons ?_ (AllSteps.cons ?_ (AllSteps.cons ?_ (AllSteps.cons ?_ (AllSteps.cons ?_ (AllSteps.cons ?_ (AllSteps.cons ?_ (AllSteps.cons ?_ (AllSteps.cons ?_ AllSteps.nil))))))))) ?_
   ·exact ⟨_, _, _, _, _, _, _, _, none, 0, rfl, Lib.hid ⟨(fun h => by cases h), (fun h => by cases h), (fun h => by cases h), (fun h => by cases h), (fun h => by cases h), (fun h => by cases h), (fun h => by cases h), (fun h => by cases h), fun _ => ⟨rfl, rfl, rfl, Nat.le_refl _, fun _ _ => rfl⟩, (fun h => by cases h), (fun h => by cases h)⟩⟩
   ·rintro L_ a_ w_ hL hd ⟨v23, v24, v25, v26, v27, v28, v29, v30, A2, c2, rfl, HR⟩ K hK; clear hd; go_simp; exact hK.out _ _ ⟨_, _, _, _, _, _, _, _, A2, c2, rfl, Lib.hid (HR.out.s0)⟩
   ·rintro L_ a_ w_ hL hd ⟨v23, v24, v25, v26, v27, v28, v29, v30, A2, c2, rfl, HR⟩ K hK; have e0 := HR.out.f0 (hd ⟨0, .data⟩ (by simp) rfl); subst e0; have HB3 := HR.out.b (HR.out.no (by omega) hL); have c9 := (HH.out.next HB3).o.x.c 9; simp at c9; rw [HBB.out] at c9; clear HB3; clear hd; go_simp; exact hK.out _ _ ⟨_, _, _, _, _, _, _, _, A2, c2, rfl, Lib.hid (HR.out.s1)⟩
   ·rintro L_ a_ w_ hL hd ⟨v23, v24, v25, v26, v27, v28, v29, v30, A2, c2, rfl, HR⟩ K hK; clear hd; go_simp; exact hK.out _ _ ⟨_, _, _, _, _, _, _, _, A2, c2, rfl, Lib.hid (HR.out.s2)⟩
   ·rintro L_ a_ w_ hL hd ⟨v23, v24, v25, v26, v27, v28, v29, v30, A2, c2, rfl, HR⟩ K hK; clear hd; go_simp; exact hK.out _ _ ⟨_, _, _, _, _, _, _, _, A2, c2, rfl, Lib.hid (HR.out.s3)⟩
   ·rintro L_ a_ w_ hL hd ⟨v23, v24, v25, v26, v27, v28, v29, v30, A2, c2, rfl, HR⟩ K hK; have e3 := HR.out.f3 (hd ⟨3, .data⟩ (by simp) rfl); subst e3; have HB3 := HR.out.b (HR.out.no (by omega) hL); have c7 := (HQ.out.keep HB3).c 7; simp at c7; clear HB3; clear hd; go_simp; exact hK.out _ _ ⟨_, _, _, _, _, _, _, _, A2, c2, rfl, Lib.hid (HR.out.s4)⟩
   ·rintro L_ a_ w_ hL hd ⟨v23, v24, v25, v26, v27, v28, v29, v30, A2, c2, rfl, HR⟩ K hK; have e4 := HR.out.f4 (hd ⟨4, .data⟩ (by simp) rfl); subst e4; have h8 := HR.out.no (by omega) hL; have C := Lib.hid (clone_covers r.A r.n r.c r.v.cs _ w_ ((HH.out.next (HR.out.b h8)).k i r HRI.out) (fun b hb => by have := (HH.out.next (HR.out.b h8)).o.b.size; rcases hb with hb | hb; omega; exact hb.2.1) (HH.out.n r (List.mem_of_getElem? HRI.out))); clear hd; go_simp; refine C.out.mono ?_; rintro e w5 ⟨A5, c5, rfl, hO5, hb5⟩; have HR2 := Lib.hid (HR.out.s5 h8 hb5 hO5); clear hb5 hO5 C h8
    try go_simp
    exact hK.out _ _ ⟨_, _, _, _, _, _, _, _, A5, c5, rfl, Lib.hid (HR2.out)⟩
   ·rintro L_ a_ w_ hL hd ⟨v23, v24, v25, v26, v27, v28, v29, v30, A2, c2, rfl, HR⟩ K hK; have e1 := HR.out.f1 (hd ⟨1, .data⟩ (by simp) rfl); subst e1; have e2 := HR.out.f2 (hd ⟨2, .data⟩ (by simp) rfl); subst e2; clear hd; go_simp; exact hK.out _ _ ⟨_, _, _, _, _, _, _, _, A2, c2, rfl, Lib.hid (HR.out.s6)⟩
   ·rintro L_ a_ w_ hL hd ⟨v23, v24, v25, v26, v27, v28, v29, v30, A2, c2, rfl, HR⟩ K hK; have e6 := HR.out.f6 (hd ⟨6, .data⟩ (by simp) rfl); subst e6; clear hd; go_simp; exact hK.out _ _ ⟨_, _, _, _, _, _, _, _, A2, c2, rfl, Lib.hid (HR.out.s7)⟩
   ·rintro L_ a_ w_ hL hd ⟨v23, v24, v25, v26, v27, v28, v29, v30, A2, c2, rfl, HR⟩ K hK; have q0 : L_ 0 = true := hd ⟨0, .phase⟩ (by simp) rfl; have q1 : L_ 1 = true := hd ⟨1, .phase⟩ (by simp) rfl; have q2 : L_ 2 = true := hd ⟨2, .phase⟩ (by simp) rfl; have q3 : L_ 3 = true := hd ⟨3, .phase⟩ (by simp) rfl; have q4 : L_ 4 = true := hd ⟨4, .phase⟩ (by simp) rfl; have q5 : L_ 5 = true := hd ⟨5, .data⟩ (by simp) rfl
    have hall : ∀ j, j < 6 → L_ j = true := fun j hj => by
     match j, hj with
     | 0, _ => exact q0
     | 1, _ => exact q1
     | 2, _ => exact q2
     | 3, _ => exact q3
     | 4, _ => exact q4
     | 5, _ => exact q5
    have e5 := (HR.out.f5 q5).1; subst e5; have e7 := HR.out.f7 (hd ⟨7, .data⟩ (by simp) rfl); subst e7; have h8 : L_ 8 = false := hL; have HB3 := HR.out.b h8; have HO3 := (HH.out.next HB3).r; rw [HBB.out] at HO3; have f7 := HO3.frozen (i * 9 + 7); have c7 := (HO3.raws.at HRI.out).c7; clear hd HO3 HB3 q0 q1 q2 q3 q4 q5; go_simp; exact hK.out _ _ ⟨_, _, _, _, _, _, _, _, A2, c2, rfl, Lib.hid (HR.out.s8 h8 hall)⟩
   ·rintro L_ a_ w_ hall ⟨v23, v24, v25, v26, v27, v28, v29, v30, A2, c2, rfl, HR⟩; obtain ⟨w3, hb3, hc3, hw3⟩ := HR.out.s (hall 8 (by simp)); have HN := Lib.hid (HH.out.put HBB.out HRI.out hb3 hc3); rw [← hw3] at HN; have HVV := Lib.hid (OL.v HRI.out A2 c2); clear hall hb3 hc3 hw3; dsimp only [Exit.inBlock, Exit.then]; go_step; go_wp2; go_roundw
    case rel => exact ⟨i + 1, w_, k.withB k.B k.d (k.rs.set i ⟨r.v, A2, r.n, c2⟩), by have := HLT.out; omega, by go_num, rfl, Lib.hid ⟨HBB.out, HKK.out.1, HVV.out.trans HKK.out.2.1, HKK.out.2.2.1, HKK.out.2.2.2, HN.out⟩⟩
    case measure => have := HLT.out; simp [intOf]; omega
  ·obtain rfl : i = h.m := by omega
   have hge : ¬ ((h.m : Nat) : Int) < (h.m : Int) := by omega
   obtain ⟨kB, kd, kv, kn, km, HL⟩ := HK.out; have hx := HL.o.x; have hy := HL.o.y; have hly := hy.lt; have hlx := hx.lt; have HLM := Lib.hid (show OL w W k k.m by rw [km]; exact HL); have HKV := Lib.hid (And.intro kv (And.intro kn km)); have x0 := hx.c 0; have x1 := hx.c 1; have x2 := hx.c 2; have x3 := hx.c 3; have x4 := hx.c 4; have x5 := hx.c 5; have x6 := hx.c 6; have x7 := hx.c 7; have x8 := hx.c 8; have x9 := hx.c 9; simp at x0 x1 x2 x3 x4 x5 x6 x7 x8 x9; have HY := Lib.hid hy; have y0 := hy.c 0; have y1 := hy.c 1; have y2 := hy.c 2; have y3 := hy.c 3; have y4 := hy.c 4; have y5 := hy.c 5; have y6 := hy.c 6; have y7 := hy.c 7; have y8 := hy.c 8; have y9 := hy.c 9; simp at y0 y1 y2 y3 y4 y5 y6 y7 y8 y9; have fy0 := hy.f 0; have fy1 := hy.f 1; have fy2 := hy.f 2; have fy3 := hy.f 3; have fy4 := hy.f 4; have fy5 := hy.f 5; have fy6 := hy.f 6; have fy7 := hy.f 7; have fy8 := hy.f 8; have fy9 := hy.f 9; clear hx hy kB kd kv kn km HL HK hlt; go_wp2; change bodyPost _ _ _ _ _ (puth (w.heap.size + 1) k W); have hz := (show Bx W (w.heap.size + 1) 35 (hc zhr) from HY.out).puth k; have z0 := hz.c 0; have z1 := hz.c 1; have z2 := hz.c 2; have z3 := hz.c 3; have z4 := hz.c 4; have z5 := hz.c 5; have z6 := hz.c 6; have z7 := hz.c 7; have z8 := hz.c 8; have z9 := hz.c 9; simp at z0 z1 z2 z3 z4 z5 z6 z7 z8 z9; exact bodyPost_ret (v := hg k) (by simp [results, Tryz.results31, go_sem, z0, z1, z2, z3, z4, z5, z6, z7, z8, z9]) rfl ⟨k, rfl, HLM.out.out HKV.out.1 HKV.out.2.1 HKV.out.2.2 _⟩
end Tm
end Go.Proofs.YtplenoaajokpjaaGreat
namespace Go.Proofs.YtplenoaajokpjaaGreat
open Go.RowKit Ba Cv Sp Te Ag
namespace Tm
set_option linter.unusedVariables false
structure TX (w W : World) (s : Sp) (r : Ri) (A : Option Addr) (n c : Nat) : Prop where
 b : Below w.heap.size w W
 x : Bx W w.heap.size 32 (tc s r A n c)
theorem TX.next {w W W' : World} {s : Sp} {r : Ri} {A : Option Addr} {n c : Nat} (h : TX w W s r A n c) (hb : Below W.heap.size W W') : TX w W' s r A n c := ⟨h.b.trans (hb.mono h.b.size), h.x.keep hb⟩
theorem TX.start (w : World) (s : Sp) (r : Ri) (A : Option Addr) (n c : Nat) : TX w (w.alloc (.cells (tc s r A n c) 32)) s r A n c := ⟨alloc_ _ _, Bx.new _ _ _⟩
structure Res (w : World) (v : Hi) (w' : World) (h : Hr) : Prop where
 v : h.v = v
 m : HM w' (fun b => w.heap.size ≤ b ∧ b < w'.heap.size) h
 s : HS h
 b : Below w.heap.size w w'
def Gives (w : World) (v : Hi) (code : Int) (e : Ending) (w' : World) : Prop := ∃ h, e = .returned (.tuple #[hg h, .int .i64 code]) ∧ Res w v w' h
theorem Res.zero {w W : World} {p : Nat} (hb : Below w.heap.size w W) (hp : w.heap.size ≤ p) (l : List Value) : Res w zhi (sets p 0 l W) zhr := ⟨rfl, zhr_mean _ _, zhr_sm, sets_below l hp 0 W hb⟩
theorem Ows.smalls {w w' : World} {h h' : Hr} (H : Ows w h w' h') (S : HS h) : HS h' :=
 ⟨by rw [H.n]; exact S.n, by rw [H.m]; exact S.m, H.kn, H.r.fits.2, H.r.fits.1⟩
theorem Res.own {w W w1 : World} {p : Nat} {h h' : Hr} {v : Hi} (hb : Below w.heap.size w W) (hp : w.heap.size ≤ p) (hlt : p < W.heap.size) (H : Ows W h w1 h') (S : HS h) (hv : h.v = v) (l : List Value) : Res w v (sets p 0 l w1) h' := by
 have hs := hb.size; have keep : ∀ (q : Addr), W.heap.size ≤ q.block → (sets p 0 l w1).cell? q = w1.cell? q := fun q hq => sets_other l (by omega) 0 w1
 have hsz := sets_size (b := p) l 0 w1
 have kk : ∀ {A : Option Addr} {n : Nat} {cs : List Co} {f : Nat → Prop}, Cvs w1 (fun b => W.heap.size ≤ b ∧ b < w1.heap.size ∧ f b) A n cs → Cvs (sets p 0 l w1) (fun b => w.heap.size ≤ b ∧ b < (sets p 0 l w1).heap.size) A n cs := fun C =>
  C.keep (fun q hq => keep q hq.1) fun b hb => ⟨by omega, by rw [hsz]; exact hb.2.1⟩
 refine ⟨H.v.trans hv, ⟨kk H.t, ?_, fun r hr => kk (H.k r hr)⟩, H.smalls S, sets_below l hp 0 w1 (hb.trans (H.b.mono hs))⟩; exact H.r.raws.keep (fun q hq => keep q hq.1) fun b hb => ⟨by omega, by rw [hsz]; exact hb.2⟩
end Tm
end Go.Proofs.YtplenoaajokpjaaGreat
namespace Go.Proofs.YtplenoaajokpjaaGreat
open Go.RowKit Ba Cv Sp Te Ag
namespace Tm
set_option linter.unusedVariables false
set_option maxRecDepth 100000 in
set_option maxHeartbeats 2000000 in
theorem lastBooked (h : Hr) (w : World) (M : HM w (· < w.heap.size) h) (hm : h.m ≤ 3000) : Calls Tryz.prog 43 #[hg h] w fun e w' => e = .returned (.int .i64 (last h.bk h.v.hs)) ∧ Below w.heap.size w w' := by
 have hl := M.len; by_cases h0 : h.m = 0
 ·rw [last_zero (by omega)]; have t1 : decide (0 < (h.m : Int)) = false := decide_eq_false (by omega); have t1n : decide (0 < h.m) = false := decide_eq_false (by omega); have t2 : ((h.m : Int) == 0) = true := by rw [beq_iff_eq]; omega
  clear hl M hm h0; go_enter Tryz.func43, Tryz.ntmps43; go_wp2; go_ret; exact ⟨rfl, alloc_ _ _⟩
 ·obtain ⟨k, hk⟩ : ∃ k, h.m = k + 1 := ⟨h.m - 1, by omega⟩; obtain ⟨ad, r, hB, hb, hr, hn, _, hv⟩ := M.get (k := k) (by omega); rw [last_get hv (by omega)]; have hn' := hn.keep (w' := w.alloc (.cells (hc h) 35)) fun p hp => (alloc_ w (.cells (hc h) 35)).cell (by rw [hp, add_block]; exact hb)
  have c0 := hn'.c0; have e1 : (h.m : Int) - 1 = (k : Int) := by omega
  have t1 : decide (0 < (h.m : Int)) = true := decide_eq_true (by omega); have t1n : decide (0 < h.m) = true := decide_eq_true (by omega); have t2 : ((h.m : Int) == 0) = false := by rw [beq_eq_false_iff_ne]; omega
  have b1 : (k : Int) < (h.m : Int) := by omega
  have hk3 : k ≤ 3000 := by omega
  have hlb : ad.block < w.heap.size + 1 := by omega
  clear hl hk hr hn hn' hv h0 M; go_enter Tryz.func43, Tryz.ntmps43; go_wp2; go_ret; exact ⟨rfl, alloc_ _ _⟩
set_option maxRecDepth 100000 in
set_option maxHeartbeats 4000000 in
theorem refusal (h : Hr) (w : World) (M : HM w (· < w.heap.size) h) (hm : h.m ≤ 3000) (r : Rw) (hS : Cvs w (· < w.heap.size) r.A r.n r.v.cs) (hn : r.n ≤ 3000) : Calls Tryz.prog 30 #[hg h, vg r] w (fun e w' => e = .returned (.int .i64 (code h.s h.bk h.v.hs r.v)) ∧ Below w.heap.size w w') := by
 obtain ⟨W, hW⟩ : ∃ W, (w.alloc (.cells (hc h) 35)).alloc (.cells (vc r) 52) = W := ⟨_, rfl⟩; have H0 := Lib.hid (show HC w W h r by rw [← hW]; exact HC.start w h r); have HW := Lib.hid hW; clear hW; obtain ⟨cd, hcd⟩ : ∃ cd, code h.s h.bk h.v.hs r.v = cd := ⟨_, rfl⟩; rw [hcd]; have HCD := Lib.hid hcd; have HLL := Lib.hid M.len; have C1 := Lib.hid (right0 r W (hS.below H0.out.h.b) (by unfold maxLen; omega)); have C2 := fun w => Lib.hid (span_in h.s r.v.dy w)
 have C3 := fun (W' : World) (hb : Below w.heap.size w W') => Lib.hid (lastBooked h W' (M.below hb) hm)
 have HC3 := Lib.hid C3; clear C3 hcd M hS hn; have hx := H0.out.h.x; have hy := H0.out.y; have x0 := hx.c 0; have x1 := hx.c 1; have x2 := hx.c 2; have x3 := hx.c 3; have x4 := hx.c 4; have x5 := hx.c 5; have x6 := hx.c 6; have x7 := hx.c 7; have x8 := hx.c 8; have x9 := hx.c 9; simp at x0 x1 x2 x3 x4 x5 x6 x7 x8 x9; have y0 := hy.c 0; have y1 := hy.c 1; have y2 := hy.c 2; have y3 := hy.c 3; have y4 := hy.c 4; have y5 := hy.c 5; have y6 := hy.c 6; have y7 := hy.c 7; have y8 := hy.c 8; simp at y0 y1 y2 y3 y4 y5 y6 y7 y8; have hlx := hx.lt; have hly := hy.lt; clear hx hy; cases hq : rch r.v
 ·have HQ := Lib.hid (show cd = 1 by rw [← HCD.out]; exact code_arg (by rw [hq]; rfl)); rw [hq] at C1; clear hq HC3; go_enter Tryz.func30, Tryz.ntmps30
  go_wp2_with fail
  rw [HW.out]; refine C1.out.mono ?_; rintro e w1 ⟨rfl, hb1⟩; have H1 := Lib.hid (H0.out.next hb1); clear hb1; go_wp2; go_ret; exact ⟨by rw [HQ.out]; rfl, H1.out.h.b⟩
 rw [hq] at C1; cases hi : inn h.s r.v.dy
 ·have HQ := Lib.hid (show cd = 1 by rw [← HCD.out]; exact code_arg (by rw [hi]; simp)); rw [hi] at C2; clear hq HC3 hi; go_enter Tryz.func30, Tryz.ntmps30
  go_wp2_with fail
  rw [HW.out]; refine C1.out.mono ?_; rintro e w1 ⟨rfl, hb1⟩; have H1 := Lib.hid (H0.out.next hb1); have hx := H1.out.h.x; have hy := H1.out.y; have u2 := hx.c 2; have u3 := hx.c 3; simp at u2 u3; have v1 := hy.c 1; simp at v1; clear hb1 hx hy x0 x1 x2 x3 x4 x5 x6 x7 x8 x9 y0 y1 y2 y3 y4 y5 y6 y7 y8
  go_wp2_with fail
  refine (C2 _).out.mono ?_; rintro e w2 ⟨rfl, hb2⟩; have H2 := Lib.hid (H1.out.next hb2); clear hb2; go_wp2; go_ret; exact ⟨by rw [HQ.out]; rfl, H2.out.h.b⟩
 rw [hi] at C2; have HG := Lib.hid (show (rch r.v && inn h.s r.v.dy) = true by rw [hq, hi]; rfl); obtain ⟨lb, hlb⟩ : ∃ lb, last h.bk h.v.hs = lb := ⟨_, rfl⟩; rw [hlb] at HC3; have HLB := Lib.hid hlb; clear hq hi hlb; have go : ∀ (P : Prop), P → P := fun _ h => h
 clear go; by_cases h1 : r.v.bk < lb
 ·have t1 : decide (r.v.bk < lb) = true := decide_eq_true h1; have HQ := Lib.hid (show cd = 4 by rw [← HCD.out]; exact code_order HG.out (by rw [HLB.out]; exact h1)); clear h1; go_enter Tryz.func30, Tryz.ntmps30
  go_wp2_with fail
  rw [HW.out]; refine C1.out.mono ?_; rintro e w1 ⟨rfl, hb1⟩; have H1 := Lib.hid (H0.out.next hb1); have hx := H1.out.h.x; have hy := H1.out.y; have u2 := hx.c 2; have u3 := hx.c 3; simp at u2 u3; have v1 := hy.c 1; simp at v1; clear hb1 hx hy x0 x1 x2 x3 x4 x5 x6 x7 x8 x9 y0 y1 y2 y3 y4 y5 y6 y7 y8
  go_wp2_with fail
  refine (C2 _).out.mono ?_; rintro e w2 ⟨rfl, hb2⟩; have H2 := Lib.hid (H1.out.next hb2); clear hb2 u2 u3 v1
  go_wp2_with fail
  have x0 : ∀ p : Ext w2, p.W.cell? ⟨w.heap.size, 0, none⟩ = some (.int .i64 h.id) := fun p => H2.out.h.x.ext p 0
  have x1 : ∀ p : Ext w2, p.W.cell? ⟨w.heap.size, 1, none⟩ = some (.int .i64 h.bk) := fun p => H2.out.h.x.ext p 1
  have x2 : ∀ p : Ext w2, p.W.cell? ⟨w.heap.size, 2, none⟩ = some (.int .i64 h.s.1) := fun p => H2.out.h.x.ext p 2
  have x3 : ∀ p : Ext w2, p.W.cell? ⟨w.heap.size, 3, none⟩ = some (.int .i64 h.s.2) := fun p => H2.out.h.x.ext p 3
  have x4 : ∀ p : Ext w2, p.W.cell? ⟨w.heap.size, 4, none⟩ = some (.int .i64 h.r.k) := fun p => H2.out.h.x.ext p 4
  have x5 : ∀ p : Ext w2, p.W.cell? ⟨w.heap.size, 5, none⟩ = some (.int .i64 h.r.v) := fun p => H2.out.h.x.ext p 5
  have x6 : ∀ p : Ext w2, p.W.cell? ⟨w.heap.size, 6, none⟩ = some (.int .i64 h.r.a) := fun p => H2.out.h.x.ext p 6
  have x7 : ∀ p : Ext w2, p.W.cell? ⟨w.heap.size, 7, none⟩ = some (.int .i64 h.r.z) := fun p => H2.out.h.x.ext p 7
  have x8 : ∀ p : Ext w2, p.W.cell? ⟨w.heap.size, 8, none⟩ = some (.slice h.A h.n h.c) := fun p => H2.out.h.x.ext p 8
  have x9 : ∀ p : Ext w2, p.W.cell? ⟨w.heap.size, 9, none⟩ = some (.slice h.B h.m h.d) := fun p => H2.out.h.x.ext p 9
  have y0 : ∀ p : Ext w2, p.W.cell? ⟨w.heap.size + 1, 0, none⟩ = some (.int .i64 r.v.bk) := fun p => H2.out.y.ext p 0
  have CL := fun (p : Ext w2) => HC3.out p.W (H2.out.h.b.trans (p.b.mono H2.out.h.b.size))
  have ne : Nonempty (Ext w2) := ⟨⟨w2, Below.refl _ _⟩⟩; refine quietE (by kernel_rfl) (by kernel_rfl) ?_
  repeat (first | go_big_quiet_skip | quiet_step (first
   | (go_at_call 43; with_reducible exact ext_of (CL _).out)
   | fail))
  refine wpQuiet_nil ?_; rintro _ ⟨p, rfl⟩; have H3 := Lib.hid (H2.out.next p.b); generalize p.W = w3 at H3 ⊢; clear CL ne x0 x1 x2 x3 x4 x5 x6 x7 x8 x9 y0; have x9 := H3.out.h.x.c 9; simp at x9
  try rw [t1]
  go_wp2; go_ret; exact ⟨by rw [HQ.out]; rfl, H3.out.h.b⟩
 have t1 : decide (r.v.bk < lb) = false := decide_eq_false h1; by_cases h2 : 2000 ≤ h.m
 ·have t2 : decide (2000 ≤ (h.m : Int)) = true := decide_eq_true (by omega); have t2n : decide (2000 ≤ h.m) = true := decide_eq_true h2; have HQ := Lib.hid (show cd = 2 by rw [← HCD.out]; exact code_bound HG.out (by rw [HLB.out]; exact h1) (by rw [HLL.out]; exact h2)); clear h1 h2; go_enter Tryz.func30, Tryz.ntmps30
  go_wp2_with fail
  rw [HW.out]; refine C1.out.mono ?_; rintro e w1 ⟨rfl, hb1⟩; have H1 := Lib.hid (H0.out.next hb1); have hx := H1.out.h.x; have hy := H1.out.y; have u2 := hx.c 2; have u3 := hx.c 3; simp at u2 u3; have v1 := hy.c 1; simp at v1; clear hb1 hx hy x0 x1 x2 x3 x4 x5 x6 x7 x8 x9 y0 y1 y2 y3 y4 y5 y6 y7 y8
  go_wp2_with fail
  refine (C2 _).out.mono ?_; rintro e w2 ⟨rfl, hb2⟩; have H2 := Lib.hid (H1.out.next hb2); clear hb2 u2 u3 v1
  go_wp2_with fail
  have x0 : ∀ p : Ext w2, p.W.cell? ⟨w.heap.size, 0, none⟩ = some (.int .i64 h.id) := fun p => H2.out.h.x.ext p 0
  have x1 : ∀ p : Ext w2, p.W.cell? ⟨w.heap.size, 1, none⟩ = some (.int .i64 h.bk) := fun p => H2.out.h.x.ext p 1
  have x2 : ∀ p : Ext w2, p.W.cell? ⟨w.heap.size, 2, none⟩ = some (.int .i64 h.s.1) := fun p => H2.out.h.x.ext p 2
  have x3 : ∀ p : Ext w2, p.W.cell? ⟨w.heap.size, 3, none⟩ = some (.int .i64 h.s.2) := fun p => H2.out.h.x.ext p 3
  have x4 : ∀ p : Ext w2, p.W.cell? ⟨w.heap.size, 4, none⟩ = some (.int .i64 h.r.k) := fun p => H2.out.h.x.ext p 4
  have x5 : ∀ p : Ext w2, p.W.cell? ⟨w.heap.size, 5, none⟩ = some (.int .i64 h.r.v) := fun p => H2.out.h.x.ext p 5
  have x6 : ∀ p : Ext w2, p.W.cell? ⟨w.heap.size, 6, none⟩ = some (.int .i64 h.r.a) := fun p => H2.out.h.x.ext p 6
  have x7 : ∀ p : Ext w2, p.W.cell? ⟨w.heap.size, 7, none⟩ = some (.int .i64 h.r.z) := fun p => H2.out.h.x.ext p 7
  have x8 : ∀ p : Ext w2, p.W.cell? ⟨w.heap.size, 8, none⟩ = some (.slice h.A h.n h.c) := fun p => H2.out.h.x.ext p 8
  have x9 : ∀ p : Ext w2, p.W.cell? ⟨w.heap.size, 9, none⟩ = some (.slice h.B h.m h.d) := fun p => H2.out.h.x.ext p 9
  have y0 : ∀ p : Ext w2, p.W.cell? ⟨w.heap.size + 1, 0, none⟩ = some (.int .i64 r.v.bk) := fun p => H2.out.y.ext p 0
  have CL := fun (p : Ext w2) => HC3.out p.W (H2.out.h.b.trans (p.b.mono H2.out.h.b.size))
  have ne : Nonempty (Ext w2) := ⟨⟨w2, Below.refl _ _⟩⟩; refine quietE (by kernel_rfl) (by kernel_rfl) ?_
  repeat (first | go_big_quiet_skip | quiet_step (first
   | (go_at_call 43; with_reducible exact ext_of (CL _).out)
   | fail))
  refine wpQuiet_nil ?_; rintro _ ⟨p, rfl⟩; have H3 := Lib.hid (H2.out.next p.b); generalize p.W = w3 at H3 ⊢; clear CL ne x0 x1 x2 x3 x4 x5 x6 x7 x8 x9 y0; have x9 := H3.out.h.x.c 9; simp at x9
  try rw [t1]
  go_wp2; go_ret; exact ⟨by rw [HQ.out]; rfl, H3.out.h.b⟩
 ·have t2 : decide (2000 ≤ (h.m : Int)) = false := decide_eq_false (by omega); have t2n : decide (2000 ≤ h.m) = false := decide_eq_false h2; have HQ := Lib.hid (show cd = 0 by rw [← HCD.out]; exact code_ok HG.out (by rw [HLB.out]; exact h1) (by rw [HLL.out]; exact h2)); clear h1 h2; go_enter Tryz.func30, Tryz.ntmps30
  go_wp2_with fail
  rw [HW.out]; refine C1.out.mono ?_; rintro e w1 ⟨rfl, hb1⟩; have H1 := Lib.hid (H0.out.next hb1); have hx := H1.out.h.x; have hy := H1.out.y; have u2 := hx.c 2; have u3 := hx.c 3; simp at u2 u3; have v1 := hy.c 1; simp at v1; clear hb1 hx hy x0 x1 x2 x3 x4 x5 x6 x7 x8 x9 y0 y1 y2 y3 y4 y5 y6 y7 y8
  go_wp2_with fail
  refine (C2 _).out.mono ?_; rintro e w2 ⟨rfl, hb2⟩; have H2 := Lib.hid (H1.out.next hb2); clear hb2 u2 u3 v1
  go_wp2_with fail
  have x0 : ∀ p : Ext w2, p.W.cell? ⟨w.heap.size, 0, none⟩ = some (.int .i64 h.id) := fun p => H2.out.h.x.ext p 0
  have x1 : ∀ p : Ext w2, p.W.cell? ⟨w.heap.size, 1, none⟩ = some (.int .i64 h.bk) := fun p => H2.out.h.x.ext p 1
  have x2 : ∀ p : Ext w2, p.W.cell? ⟨w.heap.size, 2, none⟩ = some (.int .i64 h.s.1) := fun p => H2.out.h.x.ext p 2
  have x3 : ∀ p : Ext w2, p.W.cell? ⟨w.heap.size, 3, none⟩ = some (.int .i64 h.s.2) := fun p => H2.out.h.x.ext p 3
  have x4 : ∀ p : Ext w2, p.W.cell? ⟨w.heap.size, 4, none⟩ = some (.int .i64 h.r.k) := fun p => H2.out.h.x.ext p 4
  have x5 : ∀ p : Ext w2, p.W.cell? ⟨w.heap.size, 5, none⟩ = some (.int .i64 h.r.v) := fun p => H2.out.h.x.ext p 5
  have x6 : ∀ p : Ext w2, p.W.cell? ⟨w.heap.size, 6, none⟩ = some (.int .i64 h.r.a) := fun p => H2.out.h.x.ext p 6
  have x7 : ∀ p : Ext w2, p.W.cell? ⟨w.heap.size, 7, none⟩ = some (.int .i64 h.r.z) := fun p => H2.out.h.x.ext p 7
  have x8 : ∀ p : Ext w2, p.W.cell? ⟨w.heap.size, 8, none⟩ = some (.slice h.A h.n h.c) := fun p => H2.out.h.x.ext p 8
  have x9 : ∀ p : Ext w2, p.W.cell? ⟨w.heap.size, 9, none⟩ = some (.slice h.B h.m h.d) := fun p => H2.out.h.x.ext p 9
  have y0 : ∀ p : Ext w2, p.W.cell? ⟨w.heap.size + 1, 0, none⟩ = some (.int .i64 r.v.bk) := fun p => H2.out.y.ext p 0
  have CL := fun (p : Ext w2) => HC3.out p.W (H2.out.h.b.trans (p.b.mono H2.out.h.b.size))
  have ne : Nonempty (Ext w2) := ⟨⟨w2, Below.refl _ _⟩⟩; refine quietE (by kernel_rfl) (by kernel_rfl) ?_
  repeat (first | go_big_quiet_skip | quiet_step (first
   | (go_at_call 43; with_reducible exact ext_of (CL _).out)
   | fail))
  refine wpQuiet_nil ?_; rintro _ ⟨p, rfl⟩; have H3 := Lib.hid (H2.out.next p.b); generalize p.W = w3 at H3 ⊢; clear CL ne x0 x1 x2 x3 x4 x5 x6 x7 x8 x9 y0; have x9 := H3.out.h.x.c 9; simp at x9
  try rw [t1]
  go_wp2; go_ret; exact ⟨by rw [HQ.out]; rfl, H3.out.h.b⟩
end Tm
end Go.Proofs.YtplenoaajokpjaaGreat
namespace Go.Proofs.YtplenoaajokpjaaGreat
open Go.RowKit Ba Cv Sp Te Ag
namespace Tm
set_option linter.unusedVariables false
def phi (h : Hi) (c : Ch) : Hi := if code h.s h.bk h.hs c = 0 then ⟨h.id, h.bk, h.s, h.r, h.cs, h.hs ++ [c]⟩ else zhi
theorem Own.of {w w' : World} {base n c : Nat} {A : Option Addr} {rs : List Rw} (h : Own w base A n c rs) (hk : ∀ k, base ≤ k → w'.heap[k]? = w.heap[k]?) : Own w' base A n c rs := by
 refine ⟨h.1, ?_⟩; rcases h.2 with h | ⟨g, cap, cur, e, hb, hh, q⟩
 ·exact .inl h
 ·exact .inr ⟨g, cap, cur, e, hb, (hk g hb).trans hh, q⟩
structure P3 (w W : World) (k : Hr) (r : Rw) : Prop where
 b : Below w.heap.size w W
 x : Bx W w.heap.size 35 (hc k)
 y : Bx W (w.heap.size + 1) 52 (vc r)
 z : Bx W (w.heap.size + 2) 35 zhc
section
variable {w W W' : World} {k : Hr} {r : Rw}
theorem P3.next (h : P3 w W k r) (hb : Below W.heap.size W W') : P3 w W' k r := ⟨h.b.trans (hb.mono h.b.size), h.x.keep hb, h.y.keep hb, h.z.keep hb⟩
theorem P3.lt (h : P3 w W k r) : w.heap.size + 3 ≤ W.heap.size := h.z.lt
theorem P3.start (w : World) (k : Hr) (r : Rw) : P3 w (((w.alloc (.cells (hc k) 35)).alloc (.cells (vc r) 52)).alloc (.cells zhc 35)) k r := by
 refine ⟨((alloc_ _ _).alloc (by simp) _).alloc (by simp; omega) _, ((Bx.new _ _ _).alloc _).alloc _, ?_, ?_⟩
 ·have := (Bx.new (w.alloc (.cells (hc k) 35)) 52 (vc r)).alloc (.cells zhc 35); rw [World.size_alloc] at this; exact this
 ·have := Bx.new ((w.alloc (.cells (hc k) 35)).alloc (.cells (vc r) 52)) 35 zhc; rw [World.size_alloc, World.size_alloc] at this; exact this
theorem P3.puth (h : P3 w W k r) (k' : Hr) : P3 w (puth w.heap.size k' W) k' r :=
 ⟨sets_below _ (Nat.le_refl _) 0 W h.b, h.x.puth k', h.y.sets_far (by omega) _ 0, h.z.sets_far (by omega) _ 0⟩
theorem P3.cov (h : P3 w W k r) (A : Option Addr) (c : Nat) : P3 w (W.setCell ⟨w.heap.size + 1, 7, none⟩ (.slice A r.n c)) k ⟨r.v, A, r.n, c⟩ :=
 ⟨h.b.setCell (p := ⟨w.heap.size + 1, 7, none⟩) (by show w.heap.size ≤ w.heap.size + 1; omega) _, h.x.far (by show w.heap.size ≠ w.heap.size + 1; omega) _, h.y.set 7 _, h.z.far (by show w.heap.size + 2 ≠ w.heap.size + 1; omega) _⟩
def Hr.more (k : Hr) (B : Option Addr) (m d : Nat) (rs : List Rw) : Hr := ⟨k.id, k.bk, k.s, k.r, k.A, k.n, k.c, k.cs, B, m, d, rs⟩
theorem P3.chg (h : P3 w W k r) (B : Option Addr) (m d : Nat) (rs : List Rw) : P3 w (W.setCell ⟨w.heap.size, 9, none⟩ (.slice B m d)) (k.more B m d rs) r :=
 ⟨h.b.setCell (p := ⟨w.heap.size, 9, none⟩) (Nat.le_refl _) _, h.x.set 9 _, h.y.far (by show w.heap.size + 1 ≠ w.heap.size; omega) _, h.z.far (by show w.heap.size + 2 ≠ w.heap.size; omega) _⟩
end
def nq (lo : Nat) (W : World) (k : Hr) (b : Nat) : Prop := lo ≤ b ∧ b < W.heap.size ∧ some b ≠ (Value.slice k.B k.m k.d).ownBlock
structure PQ (w : World) (lo : Nat) (W : World) (k : Hr) (r : Rw) : Prop where
 p : P3 w W k r
 l0 : w.heap.size + 3 ≤ lo
 l1 : lo ≤ W.heap.size
 o : Own W lo k.B k.m k.d k.rs
 t : Cvs W (nq lo W k) k.A k.n k.cs
 q : ∀ x ∈ k.rs, Cvs W (nq lo W k) x.A x.n x.v.cs
section
variable {w W W' : World} {lo : Nat} {k : Hr} {r : Rw}
theorem PQ.start {h : Hr} (hp : P3 w W h r) (H : Ows W h W' k) : PQ w W.heap.size (puth w.heap.size k W') k r := by
 have hlt := hp.lt; have hp' := (hp.next H.b).puth k; have keep : ∀ q : Addr, W.heap.size ≤ q.block → (puth w.heap.size k W').cell? q = W'.cell? q := fun q hq => sets_other _ (by omega) 0 W'
 have hsz : (puth w.heap.size k W').heap.size = W'.heap.size := sets_size _ 0 W'
 have kk : ∀ {A : Option Addr} {n : Nat} {cs : List Co}, Cvs W' (fun b => W.heap.size ≤ b ∧ b < W'.heap.size ∧ some b ≠ (Value.slice k.B k.m k.d).ownBlock) A n cs → Cvs (puth w.heap.size k W') (nq W.heap.size (puth w.heap.size k W') k) A n cs := fun C =>
  C.keep (fun q hq => keep q hq.1) fun b hb => ⟨hb.1, by rw [hsz]; exact hb.2.1, hb.2.2⟩
 exact ⟨hp', hlt, by rw [hsz]; exact H.b.size, H.r.of fun g hg => sets_heap _ (by omega) 0 W', kk H.t, fun x hx => kk (H.k x hx)⟩
theorem PQ.next (H : PQ w lo W k r) (hb : Below W.heap.size W W') : PQ w lo W' k r := by
 have kk : ∀ {A : Option Addr} {n : Nat} {cs : List Co}, Cvs W (nq lo W k) A n cs → Cvs W' (nq lo W' k) A n cs := fun C =>
  C.keep (fun q hq => hb.cell hq.2.1) fun b hb' => ⟨hb'.1, Nat.lt_of_lt_of_le hb'.2.1 hb.size, hb'.2.2⟩
 exact ⟨H.p.next hb, H.l0, Nat.le_trans H.l1 hb.size, H.o.below hb, kk H.t, fun x hx => kk (H.q x hx)⟩
theorem PQ.cov (H : PQ w lo W k r) (hb : Below W.heap.size W W') {A : Option Addr} {c : Nat} (hc : COwn W' W.heap.size A r.n c r.v.cs) :
  PQ w lo (W'.setCell ⟨w.heap.size + 1, 7, none⟩ (.slice A r.n c)) k ⟨r.v, A, r.n, c⟩ ∧ Cvs (W'.setCell ⟨w.heap.size + 1, 7, none⟩ (.slice A r.n c)) (nq lo (W'.setCell ⟨w.heap.size + 1, 7, none⟩ (.slice A r.n c)) k) A r.n r.v.cs := by
 have H' := H.next hb; have hlo := H.l0; have hhi := H.l1; have keep : ∀ q : Addr, lo ≤ q.block → (W'.setCell ⟨w.heap.size + 1, 7, none⟩ (.slice A r.n c)).cell? q = W'.cell? q := fun q hq => World.cell?_setCell_other _ _ _ _ fun e => by rw [← e] at hq; simp only at hq; omega
 have kk : ∀ {A' : Option Addr} {n : Nat} {cs : List Co}, Cvs W' (nq lo W' k) A' n cs → Cvs (W'.setCell ⟨w.heap.size + 1, 7, none⟩ (.slice A r.n c)) (nq lo (W'.setCell ⟨w.heap.size + 1, 7, none⟩ (.slice A r.n c)) k) A' n cs := fun C =>
  C.keep (fun q hq => keep q hq.1) fun b hb' => ⟨hb'.1, by simpa using hb'.2.1, hb'.2.2⟩
 refine ⟨⟨H'.p.cov A c, hlo, by simpa using H'.l1, H'.o.far (by show w.heap.size + 1 < lo; omega) _, kk H'.t, fun x hx => kk (H'.q x hx)⟩, ?_⟩; refine kk (hc.row.keep (fun _ _ => rfl) fun b hb' => ⟨by omega, hb'.2, fun e => ?_⟩); have := H.o.lt b e.symm; omega
theorem PQ.app (H : PQ w lo W k r) (hc : Cvs W (nq lo W k) r.A r.n r.v.cs) {o : Obj} {B : Option Addr} {d : Nat} (hO : Own W' lo B (k.m + 1) d (k.rs ++ [r])) (hg : (W.alloc o).grownBy W' (Value.slice k.B k.m k.d).ownBlock) :
  P3 w W' k r := by
 have Ha := H.next (alloc_ W o); have row : ∀ g, (Value.slice k.B k.m k.d).ownBlock = some g → lo ≤ g := fun g hg => (H.o.lt g hg).1
 have hlo := H.l0; have blk : ∀ b, b < lo → b < (W.alloc o).heap.size → W'.heap[b]? = (W.alloc o).heap[b]? := fun b hb hb2 => hg.block b hb2 fun e => by have := row b e.symm; omega
 have hal : (W.alloc o).heap.size = W.heap.size + 1 := World.size_alloc _ _; have hhi := H.l1; refine ⟨⟨hg.os.trans Ha.p.b.os, hg.tape.trans Ha.p.b.tape, hg.output.trans Ha.p.b.output, Nat.le_trans Ha.p.b.size hg.size, fun b hb => (blk b (by omega) (by omega)).trans (Ha.p.b.block b hb)⟩, ?_, ?_, ?_⟩
 ·exact (blk _ (by omega) (by omega)).trans Ha.p.x
 ·exact (blk _ (by omega) (by omega)).trans Ha.p.y
 ·exact (blk _ (by omega) (by omega)).trans Ha.p.z
theorem PQ.out (H : PQ w lo W k r) (hc : Cvs W (nq lo W k) r.A r.n r.v.cs) (hs : ∀ x ∈ k.rs, x.n ≤ 3000) (hn : k.n ≤ 3000) (hm : k.m < 2000) (hr : r.n ≤ 3000) {o : Obj} {B : Option Addr} {d : Nat} (hO : Own W' lo B (k.m + 1) d (k.rs ++ [r])) (hg : (W.alloc o).grownBy W' (Value.slice k.B k.m k.d).ownBlock)
  (l : List Value) {v : Hi} (hv : (k.more B (k.m + 1) d (k.rs ++ [r])).v = v) : Res w v (sets (w.heap.size + 2) 0 l (W'.setCell ⟨w.heap.size, 9, none⟩ (.slice B (k.m + 1) d))) (k.more B (k.m + 1) d (k.rs ++ [r])) := by
 have P := H.app hc hO hg; have hlo := H.l0; have hhi := H.l1; have hal : (W.alloc o).heap.size = W.heap.size + 1 := World.size_alloc _ _; have hs2 := sets_size (b := w.heap.size + 2) l 0 (W'.setCell ⟨w.heap.size, 9, none⟩ (.slice B (k.m + 1) d)); have hsz : (W'.setCell ⟨w.heap.size, 9, none⟩ (.slice B (k.m + 1) d)).heap.size = W'.heap.size := by simp
 have keep : ∀ q : Addr, lo ≤ q.block → (sets (w.heap.size + 2) 0 l (W'.setCell ⟨w.heap.size, 9, none⟩ (.slice B (k.m + 1) d))).cell? q = W'.cell? q := fun q hq =>
  (sets_other l (by omega) 0 _).trans (World.cell?_setCell_other _ _ _ _ fun e => by rw [← e] at hq; simp only at hq; omega)
 have kk : ∀ {A : Option Addr} {n : Nat} {cs : List Co}, Cvs W (nq lo W k) A n cs → Cvs (sets (w.heap.size + 2) 0 l (W'.setCell ⟨w.heap.size, 9, none⟩ (.slice B (k.m + 1) d))) (fun b => w.heap.size ≤ b ∧ b < (sets (w.heap.size + 2) 0 l (W'.setCell ⟨w.heap.size, 9, none⟩ (.slice B (k.m + 1) d))).heap.size) A n cs := fun C =>
  C.keep (fun q hq => (keep q hq.1).trans ((World.cell?_of_block (hg.block q.block (by have := hq.2.1; omega) hq.2.2)).trans ((alloc_ W o).cell hq.2.1))) fun b hb => ⟨by have := hb.1; omega, by rw [hs2, hsz]; have := hb.2.1; have := hg.size; omega⟩
 refine ⟨hv, ⟨kk H.t, hO.raws.keep (fun q hq => keep q hq.1) fun b hb => ⟨by omega, by rw [hs2, hsz]; exact hb.2⟩, fun x hx => ?_⟩, ⟨hn, by show k.m + 1 ≤ 2000; omega, fun x hx => ?_, hO.fits.2, hO.fits.1⟩, ?_⟩
 ·rcases List.mem_append.1 hx with hx | hx
  ·exact kk (H.q x hx)
  ·simp at hx; subst hx; exact kk hc
 ·rcases List.mem_append.1 hx with hx | hx
  ·exact hs x hx
  ·simp at hx; subst hx; exact hr
 ·exact sets_below l (by omega) 0 _ (P.b.setCell (p := ⟨w.heap.size, 9, none⟩) (Nat.le_refl _) _)
end
theorem more_v {h k : Hr} {r : Rw} {B : Option Addr} {d : Nat} (hv : k.v = h.v) (A : Option Addr) (c : Nat) : (k.more B (k.m + 1) d (k.rs ++ [(⟨r.v, A, r.n, c⟩ : Rw)])).v = ⟨h.v.id, h.v.bk, h.v.s, h.v.r, h.v.cs, h.v.hs ++ [r.v]⟩ := by
 rw [← hv]; simp [Hr.v, Hr.more]
theorem raws_one {w : World} {b : Nat} {r : Rw} (hx : Bx w b 52 (vc r)) : Raws w (· = b) (some ⟨b, 0, none⟩) 1 [r] := by
 refine ⟨rfl, fun _ => ⟨_, rfl, rfl, fun j x hx2 => ?_⟩⟩
 match j, hx2 with
 | 0, hx2 =>
  simp at hx2; subst hx2; rw [Addr.add_lit]; exact ⟨hx.c 0, hx.c 1, hx.c 2, hx.c 3, hx.c 4, hx.c 5, hx.c 6, hx.c 7, hx.c 8⟩
set_option maxRecDepth 100000 in
set_option maxHeartbeats 8000000 in
theorem put_ (h : Hr) (r : Rw) (w : World) (M : HM w (· < w.heap.size) h) (S : HS h) (hS : Cvs w (· < w.heap.size) r.A r.n r.v.cs) (hn : r.n ≤ 3000) : Calls Tryz.prog 18 #[hg h, vg r] w (Gives w (phi h.v r.v) (code h.s h.bk h.v.hs r.v)) := by
 obtain ⟨W, hW⟩ : ∃ W, ((w.alloc (.cells (hc h) 35)).alloc (.cells (vc r) 52)).alloc (.cells zhc 35) = W := ⟨_, rfl⟩; have H0 := Lib.hid (show P3 w W h r by rw [← hW]; exact P3.start w h r); have HW := Lib.hid hW; have HM0 := Lib.hid M; have HSS := Lib.hid S; have HCC := Lib.hid (And.intro hS hn); have C1 := Lib.hid (refusal h W (M.below H0.out.b) (by have := S.m; omega) r (hS.below H0.out.b) hn); have hin := code_in h.s h.bk h.v.hs r.v; obtain ⟨cd, hcd⟩ : ∃ cd, code h.s h.bk h.v.hs r.v = cd := ⟨_, rfl⟩; have hphi : phi h.v r.v = if cd = 0 then ⟨h.v.id, h.v.bk, h.v.s, h.v.r, h.v.cs, h.v.hs ++ [r.v]⟩ else zhi := by rw [← hcd]; rfl
 rw [hphi]; rw [hcd] at C1 hin ⊢; have HCD := Lib.hid hcd; clear hW M S hS hn hcd hphi; have hx := H0.out.x; have hy := H0.out.y; have x0 := hx.c 0; have x1 := hx.c 1; have x2 := hx.c 2; have x3 := hx.c 3; have x4 := hx.c 4; have x5 := hx.c 5; have x6 := hx.c 6; have x7 := hx.c 7; have x8 := hx.c 8; have x9 := hx.c 9; simp at x0 x1 x2 x3 x4 x5 x6 x7 x8 x9; have y0 := hy.c 0; have y1 := hy.c 1; have y2 := hy.c 2; have y3 := hy.c 3; have y4 := hy.c 4; have y5 := hy.c 5; have y6 := hy.c 6; have y7 := hy.c 7; have y8 := hy.c 8; simp at y0 y1 y2 y3 y4 y5 y6 y7 y8; have hlx := hx.lt; have hly := hy.lt; clear hx hy; by_cases h0 : cd = 0
 ·subst h0; rw [if_pos rfl]; have HLM := Lib.hid (show h.m < 2000 by have := (code_zero.1 HCD.out).2.2; have := HM0.out.len; omega); clear hin; go_enter Tryz.func18, Tryz.ntmps18
  go_wp2_with fail
  rw [HW.out]; clear HW; refine C1.out.mono ?_; rintro e w1 ⟨rfl, hb1⟩; have H1 := Lib.hid (H0.out.next hb1); clear hb1 x0 x1 x2 x3 x4 x5 x6 x7 x8 x9 y0 y1 y2 y3 y4 y5 y6 y7 y8 H0 hlx hly C1; have hx := H1.out.x; have x0 := hx.c 0; have x1 := hx.c 1; have x2 := hx.c 2; have x3 := hx.c 3; have x4 := hx.c 4; have x5 := hx.c 5; have x6 := hx.c 6; have x7 := hx.c 7; have x8 := hx.c 8; have x9 := hx.c 9; simp at x0 x1 x2 x3 x4 x5 x6 x7 x8 x9; have hlx := hx.lt; clear hx
  go_wp2_with fail
  refine (own_ h w1 (HM0.out.below H1.out.b) HSS.out).mono ?_; rintro e w2 ⟨k, rfl, hk⟩; have HO := Lib.hid hk; have H2 := Lib.hid (H1.out.next hk.b); have HK := Lib.hid (PQ.start H1.out hk); clear hk x0 x1 x2 x3 x4 x5 x6 x7 x8 x9 hlx; have hx := H2.out.x; have x0 := hx.c 0; have x1 := hx.c 1; have x2 := hx.c 2; have x3 := hx.c 3; have x4 := hx.c 4; have x5 := hx.c 5; have x6 := hx.c 6; have x7 := hx.c 7; have x8 := hx.c 8; have x9 := hx.c 9; simp at x0 x1 x2 x3 x4 x5 x6 x7 x8 x9; have fx0 := hx.f 0; have fx1 := hx.f 1; have fx2 := hx.f 2; have fx3 := hx.f 3; have fx4 := hx.f 4; have fx5 := hx.f 5; have fx6 := hx.f 6; have fx7 := hx.f 7; have fx8 := hx.f 8; have fx9 := hx.f 9; have hlx := hx.lt; clear hx
  go_upto_region 5 with (fail)
  change Code.wp _ _ _ _ (puth w.heap.size k w2); obtain ⟨W2, hW2⟩ : ∃ W2, puth w.heap.size k w2 = W2 := ⟨_, rfl⟩; rw [hW2] at HK ⊢; clear x0 x1 x2 x3 x4 x5 x6 x7 x8 x9 fx0 fx1 fx2 fx3 fx4 fx5 fx6 fx7 fx8 fx9 hlx H2 hW2; have hy := HK.out.p.y; have y0 := hy.c 0; have y1 := hy.c 1; have y2 := hy.c 2; have y3 := hy.c 3; have y4 := hy.c 4; have y5 := hy.c 5; have y6 := hy.c 6; have y7 := hy.c 7; have y8 := hy.c 8; simp at y0 y1 y2 y3 y4 y5 y6 y7 y8; have fy7 := hy.f 7; have hly := hy.lt; clear hy
  go_wp2_with fail
  refine (clone_covers r.A r.n r.c r.v.cs _ W2 ((HCC.out.1.below HK.out.p.b).keep (fun _ _ => rfl) fun _ h => h) (fun b hb => hb) HCC.out.2).mono ?_; rintro e w3 ⟨A3, c3, rfl, hO3, hb3⟩; have HP3 := Lib.hid (HK.out.next hb3).p; have HK3 := Lib.hid (HK.out.cov hb3 hO3); clear hO3 hb3 y0 y1 y2 y3 y4 y5 y6 y7 y8 fy7 hly; have hy := HP3.out.y; have y7 := hy.c 7; have fy7 := hy.f 7; have hly := hy.lt; simp at y7; clear hy
  go_upto_region 6 with (fail)
  obtain ⟨W3, hW3⟩ : ∃ W3, w3.setCell ⟨w.heap.size + 1, 7, none⟩ (.slice A3 r.n c3) = W3 := ⟨_, rfl⟩; rw [hW3] at HK3 ⊢; clear y7 fy7 hly HP3 hW3 HK; have hx := HK3.out.1.p.x; have hy := HK3.out.1.p.y; have x9 := hx.c 9; have fx9 := hx.f 9; have hlx := hx.lt; simp at x9; have y0 := hy.c 0; have y1 := hy.c 1; have y2 := hy.c 2; have y3 := hy.c 3; have y4 := hy.c 4; have y5 := hy.c 5; have y6 := hy.c 6; have y7 := hy.c 7; have y8 := hy.c 8; simp at y0 y1 y2 y3 y4 y5 y6 y7 y8; have hly := hy.lt; have hkb : k.m ≤ 3000 := by have := HLM.out; have := HO.out.m; omega
  clear hx hy
  go_upto_region 7 with (at_builtin; refine wpList_app _ rfl _ _ rfl w1.heap.size k.B k.m k.d k.rs rfl (HK3.out.1.o.below (alloc_ _ _)) (· = W3.heap.size) (some ⟨W3.heap.size, 0, none⟩) 1 1 [⟨r.v, A3, r.n, c3⟩] rfl (raws_one (Bx.new W3 52 (vc ⟨r.v, A3, r.n, c3⟩))) (fun e => by cases e) (k.m + 1) rfl (by omega) (Nat.le_trans HK3.out.1.l1 (alloc_ W3 (.cells (vc ⟨r.v, A3, r.n, c3⟩) 52)).size) ?_; intro B4 d4 w4 hO4 hg4; have HO4 := Lib.hid hO4; have HG4 := Lib.hid hg4; have HP4 := Lib.hid (HK3.out.1.app HK3.out.2 hO4 hg4); have x9' := HP4.out.x.c 9; have fx9' := HP4.out.x.f 9; have hlx' := HP4.out.x.lt; simp at x9'; clear hO4 hg4)
  have H7 := Lib.hid (HP4.out.chg B4 (k.m + 1) d4 (k.rs ++ [⟨r.v, A3, r.n, c3⟩])); have HR := Lib.hid (fun l => HK3.out.1.out HK3.out.2 HO.out.kn (by rw [HO.out.n]; exact HSS.out.n) (by have := HLM.out; have := HO.out.m; omega) HCC.out.2 HO4.out HG4.out l (more_v HO.out.v A3 c3)); obtain ⟨W7, hW7⟩ : ∃ W7, w4.setCell ⟨w.heap.size, 9, none⟩ (.slice B4 (k.m + 1) d4) = W7 := ⟨_, rfl⟩; rw [hW7] at H7 HR ⊢; obtain ⟨k7, hk7⟩ : ∃ k7, k.more B4 (k.m + 1) d4 (k.rs ++ [⟨r.v, A3, r.n, c3⟩]) = k7 := ⟨_, rfl⟩; rw [hk7] at H7 HR; clear x9' fx9' hlx' x9 fx9 hlx y0 y1 y2 y3 y4 y5 y6 y7 y8 hly hkb HP4 HO4 HG4 HK3 hW7 hk7; have hx := H7.out.x; have hz := H7.out.z; have x0 := hx.c 0; have x1 := hx.c 1; have x2 := hx.c 2; have x3 := hx.c 3; have x4 := hx.c 4; have x5 := hx.c 5; have x6 := hx.c 6; have x7 := hx.c 7; have x8 := hx.c 8; have x9 := hx.c 9; simp at x0 x1 x2 x3 x4 x5 x6 x7 x8 x9; have z0 := hz.c 0; have z1 := hz.c 1; have z2 := hz.c 2; have z3 := hz.c 3; have z4 := hz.c 4; have z5 := hz.c 5; have z6 := hz.c 6; have z7 := hz.c 7; have z8 := hz.c 8; have z9 := hz.c 9; simp at z0 z1 z2 z3 z4 z5 z6 z7 z8 z9; have fz0 := hz.f 0; have fz1 := hz.f 1; have fz2 := hz.f 2; have fz3 := hz.f 3; have fz4 := hz.f 4; have fz5 := hz.f 5; have fz6 := hz.f 6; have fz7 := hz.f 7; have fz8 := hz.f 8; have fz9 := hz.f 9; have hlx := hx.lt; have hlz := hz.lt; clear hx hz; go_wp2; change bodyPost _ _ _ _ _ (puth (w.heap.size + 2) k7 W7); have hq := (show Bx W7 (w.heap.size + 2) 35 (hc zhr) from H7.out.z).puth k7; clear x0 x1 x2 x3 x4 x5 x6 x7 x8 x9 z0 z1 z2 z3 z4 z5 z6 z7 z8 z9 fz0 fz1 fz2 fz3 fz4 fz5 fz6 fz7 fz8 fz9 hlx hlz; have z0 := hq.c 0; have z1 := hq.c 1; have z2 := hq.c 2; have z3 := hq.c 3; have z4 := hq.c 4; have z5 := hq.c 5; have z6 := hq.c 6; have z7 := hq.c 7; have z8 := hq.c 8; have z9 := hq.c 9; simp at z0 z1 z2 z3 z4 z5 z6 z7 z8 z9; exact bodyPost_ret (v := .tuple #[hg k7, .int .i64 0]) (by simp [results, Tryz.results18, go_sem, z0, z1, z2, z3, z4, z5, z6, z7, z8, z9]) rfl ⟨k7, rfl, HR.out _⟩
 ·rw [if_neg h0]; have t1 : (cd == 0) = false := by rw [beq_eq_false_iff_ne]; exact h0
  have t2 : (cd != 0) = true := by rw [bne_iff_ne]; exact h0
  clear h0 hin; go_enter Tryz.func18, Tryz.ntmps18
  go_wp2_with fail
  rw [HW.out]; clear HW; refine C1.out.mono ?_; rintro e w1 ⟨rfl, hb1⟩; have H1 := Lib.hid (H0.out.next hb1); clear hb1 x0 x1 x2 x3 x4 x5 x6 x7 x8 x9 y0 y1 y2 y3 y4 y5 y6 y7 y8 H0 hlx hly C1; have hz := H1.out.z; have z0 := hz.c 0; have z1 := hz.c 1; have z2 := hz.c 2; have z3 := hz.c 3; have z4 := hz.c 4; have z5 := hz.c 5; have z6 := hz.c 6; have z7 := hz.c 7; have z8 := hz.c 8; have z9 := hz.c 9; simp at z0 z1 z2 z3 z4 z5 z6 z7 z8 z9; have fz0 := hz.f 0; have fz1 := hz.f 1; have fz2 := hz.f 2; have fz3 := hz.f 3; have fz4 := hz.f 4; have fz5 := hz.f 5; have fz6 := hz.f 6; have fz7 := hz.f 7; have fz8 := hz.f 8; have fz9 := hz.f 9; have hlz := hz.lt; clear hz; go_wp2; change bodyPost _ _ _ _ _ (puth (w.heap.size + 2) zhr w1); have hq := (show Bx w1 (w.heap.size + 2) 35 (hc zhr) from H1.out.z).puth zhr; clear z0 z1 z2 z3 z4 z5 z6 z7 z8 z9 fz0 fz1 fz2 fz3 fz4 fz5 fz6 fz7 fz8 fz9 hlz; have z0 := hq.c 0; have z1 := hq.c 1; have z2 := hq.c 2; have z3 := hq.c 3; have z4 := hq.c 4; have z5 := hq.c 5; have z6 := hq.c 6; have z7 := hq.c 7; have z8 := hq.c 8; have z9 := hq.c 9; simp at z0 z1 z2 z3 z4 z5 z6 z7 z8 z9; exact bodyPost_ret (v := .tuple #[hg zhr, .int .i64 cd]) (by simp [results, Tryz.results18, go_sem, z0, z1, z2, z3, z4, z5, z6, z7, z8, z9]) rfl ⟨zhr, rfl, Res.zero H1.out.b (by omega) _⟩
end Tm
end Go.Proofs.YtplenoaajokpjaaGreat
namespace Go.Proofs.YtplenoaajokpjaaGreat
open Go.RowKit Ba Cv Sp Te Ag
namespace Tm
set_option linter.unusedVariables false
def Hr.upto (h : Hr) (i : Nat) : Hr := ⟨h.id, h.bk, h.s, h.r, h.A, h.n, h.c, h.cs, h.B, i, h.d, h.rs.take i⟩
theorem HM.upto {w : World} {ok : Nat → Prop} {h : Hr} (M : HM w ok h) {i : Nat} (hi : i ≤ h.m) : HM w ok (h.upto i) := by
 refine ⟨M.t, ⟨by show (h.rs.take i).length = i; rw [List.length_take, M.r.1]; omega, fun hn => ?_⟩, fun r hr => M.k r (List.mem_of_mem_take hr)⟩; obtain ⟨ad, e, hb, hc⟩ := M.r.2 (by have : 0 < i := hn; omega); refine ⟨ad, e, hb, fun j r hj => hc j r ?_⟩; have hj' : (h.rs.take i)[j]? = some r := hj; rw [List.getElem?_take] at hj'; split at hj'
 ·exact hj'
 ·cases hj'
theorem upto_hs (h : Hr) (i : Nat) : (h.upto i).v.hs = h.v.hs.take i := by simp [Hr.v, Hr.upto]
theorem nine_cells {w w' : World} {a : Addr} {r : Rw} (hn : Nin w a r) (hb : Below w.heap.size w w') (ha : a.block < w.heap.size) : Nin w' a r := hn.keep fun p hp => hb.cell (by rw [hp]; exact ha)
end Tm
end Go.Proofs.YtplenoaajokpjaaGreat
