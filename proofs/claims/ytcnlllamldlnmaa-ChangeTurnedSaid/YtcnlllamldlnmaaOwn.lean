/-
  own of package change: a history whose lists are nobody else's. Conditions: the history reads as meant, its lists are short.
-/
import Derived.Test.YtcnlllamldlnmaaCopy
namespace Go.Proofs.Ytcnlllamldlnmaa
open Go.RowKit Ba Cv Sp Te Ag
namespace Tm
set_option linter.unusedVariables false

theorem Own.far {w : World} {base n c : Nat} {A : Option Addr} {rs : List Rw} (h : Own w base A n c rs) {a : Addr} (hp : a.block < base) (u : Value) : Own (w.setCell a u) base A n c rs := by
  refine ⟨h.1, ?_⟩
  rcases h.2 with h | ⟨g, cap, cur, e, hb, hh, r⟩
  · exact .inl h
  · exact .inr ⟨g, cap, cur, e, hb, (Below.heap_setCell w a u g (by omega)).trans hh, r⟩
theorem Raws.at {w : World} {ok : Nat → Prop} {g n j : Nat} {rs : List Rw} {r : Rw} (h : Raws w ok (some ⟨g, 0, none⟩) n rs) (hr : rs[j]? = some r) : Nin w ⟨g, j * 9, none⟩ r := by
  obtain ⟨ad, e, _, hc⟩ := h.2 (by have := h.1; have := (List.getElem?_eq_some_iff.1 hr).1; omega)
  injection e with e
  subst e
  have := hc j r hr
  rwa [Addr.add_lit, Nat.zero_add] at this
theorem Own.frozen {w : World} {base n c g : Nat} {rs : List Rw} (h : Own w base (some ⟨g, 0, none⟩) n c rs) (o : Nat) : w.frozen? ⟨g, o, none⟩ = false := by
  rcases h.2 with ⟨e, _⟩ | ⟨g', cap, cur, e, _, hh, _⟩
  · cases e
  · injection e with e; injection e with e; injection e with e
    subst e
    simp [World.frozen?, hh]
def Hr.withA (h : Hr) (A : Option Addr) (c : Nat) : Hr := ⟨h.id, h.bk, h.s, h.r, A, h.n, c, h.cs, h.B, h.m, h.d, h.rs⟩
def Hr.withB (h : Hr) (B : Option Addr) (d : Nat) (rs : List Rw) : Hr := ⟨h.id, h.bk, h.s, h.r, h.A, h.n, h.c, h.cs, B, h.m, d, rs⟩
/-- The box, and the result's. -/
structure O0 (w W : World) (h : Hr) : Prop where
  b : Below w.heap.size w W
  x : Bx W w.heap.size 33 (hc h)
  y : Bx W (w.heap.size + 1) 33 zhc
theorem O0.start (w : World) (h : Hr) : O0 w ((w.alloc (.cells (hc h) 33)).alloc (.cells zhc 33)) h := by
  refine ⟨(alloc_ _ _).alloc (by simp) _, (Bx.new _ _ _).alloc _, ?_⟩
  have := Bx.new (w.alloc (.cells (hc h) 33)) 33 zhc
  rw [World.size_alloc] at this
  exact this
theorem O0.next {w W W' : World} {h : Hr} (H : O0 w W h) (hb : Below W.heap.size W W') : O0 w W' h := ⟨H.b.trans (hb.mono H.b.size), H.x.keep hb, H.y.keep hb⟩
theorem O0.lt {w W : World} {h : Hr} (H : O0 w W h) : w.heap.size + 2 ≤ W.heap.size := H.y.lt
theorem O0.setA {w W : World} {h : Hr} (H : O0 w W h) (A : Option Addr) (c : Nat) : O0 w (W.setCell ⟨w.heap.size, 8, none⟩ (.slice A h.n c)) (h.withA A c) :=
  ⟨H.b.setCell (p := ⟨w.heap.size, 8, none⟩) (Nat.le_refl _) _, H.x.set 8 _, H.y.far (by show w.heap.size + 1 ≠ w.heap.size; omega) _⟩
theorem O0.setB {w W : World} {h : Hr} (H : O0 w W h) (B : Option Addr) (d : Nat) (rs : List Rw) : O0 w (W.setCell ⟨w.heap.size, 9, none⟩ (.slice B h.m d)) (h.withB B d rs) :=
  ⟨H.b.setCell (p := ⟨w.heap.size, 9, none⟩) (Nat.le_refl _) _, H.x.set 9 _, H.y.far (by show w.heap.size + 1 ≠ w.heap.size; omega) _⟩
theorem O0.far {w W : World} {h : Hr} (H : O0 w W h) {g : Nat} (hg : w.heap.size + 2 ≤ g) (o : Nat) (u : Value) : O0 w (W.setCell ⟨g, o, none⟩ u) h :=
  ⟨H.b.setCell (p := ⟨g, o, none⟩) (by show w.heap.size ≤ g; omega) _, H.x.far (by show w.heap.size ≠ g; omega) _, H.y.far (by show w.heap.size + 1 ≠ g; omega) _⟩

/-- Memory that is new, and not the row's. -/
def nb (w W : World) (h : Hr) (b : Nat) : Prop := w.heap.size + 2 ≤ b ∧ b < W.heap.size ∧ some b ≠ (Value.slice h.B h.m h.d).ownBlock
/-- Within the loop: the first so many changes have covers of their own. -/
structure OL (w W : World) (h : Hr) (i : Nat) : Prop where
  o : O0 w W h
  t : Cvs W (nb w W h) h.A h.n h.cs
  r : Own W (w.heap.size + 2) h.B h.m h.d h.rs
  k : ∀ j r, h.rs[j]? = some r → Cvs W (fun b => (i ≤ j ∧ b < w.heap.size) ∨ nb w W h b) r.A r.n r.v.cs
  n : ∀ r ∈ h.rs, r.n ≤ 3000
theorem OL.next {w W W' : World} {h : Hr} {i : Nat} (H : OL w W h i) (hb : Below W.heap.size W W') : OL w W' h i := by
  have hs := H.o.b.size
  refine ⟨H.o.next hb, H.t.keep (fun p hp => hb.cell hp.2.1) fun b hb' => ⟨hb'.1, Nat.lt_of_lt_of_le hb'.2.1 hb.size, hb'.2.2⟩, H.r.below hb, fun j r hr => (H.k j r hr).keep (fun p hp => hb.cell ?_) fun b hb' => ?_, H.n⟩
  · rcases hp with hp | hp
    · omega
    · exact hp.2.1
  · rcases hb' with hb' | hb'
    · exact .inl hb'
    · exact .inr ⟨hb'.1, Nat.lt_of_lt_of_le hb'.2.1 hb.size, hb'.2.2⟩
/-- The change i gets covers of its own. -/
theorem OL.put {w W W' : World} {h : Hr} {i g : Nat} {r : Rw} (H : OL w W h i) (hB : h.B = some ⟨g, 0, none⟩) (hr : h.rs[i]? = some r) (hb : Below W.heap.size W W') {A : Option Addr} {c : Nat} (hc : COwn W' W.heap.size A r.n c r.v.cs) :
    OL w (W'.setCell ⟨g, i * 9 + 7, none⟩ (.slice A r.n c)) (h.withB h.B h.d (h.rs.set i ⟨r.v, A, r.n, c⟩)) (i + 1) := by
  have H' := H.next hb
  have hg : w.heap.size + 2 ≤ g ∧ g < W.heap.size := by
    have h1 := H.r.lt g (by rw [hB]; rfl)
    exact h1
  have hls := H.o.lt
  have hr' := H'.r
  rw [hB] at hr'
  have hrow : (Value.slice h.B h.m h.d).ownBlock = some g := by rw [hB]; rfl
  have keep : ∀ (p : Addr), p.block ≠ g → (W'.setCell ⟨g, i * 9 + 7, none⟩ (.slice A r.n c)).cell? p = W'.cell? p := fun p hp => World.cell?_setCell_other _ _ _ _ fun e => hp (by rw [← e])
  have nbn : ∀ b, nb w W' h b → b ≠ g := fun b hb' e => hb'.2.2 (by rw [hrow, e])
  refine ⟨⟨?_, ?_, ?_⟩, H'.t.keep (fun p hp => keep p (nbn _ hp)) fun b hb' => ⟨hb'.1, by simpa using hb'.2.1, hb'.2.2⟩, ?_, fun j x hx => ?_, fun x hx => ?_⟩
  · exact (H'.o.far hg.1 _ _).b
  · exact (H'.o.far hg.1 _ _).x
  · exact (H'.o.far hg.1 _ _).y
  · show Own _ _ h.B _ _ _
    rw [hB]
    exact hr'.put hr A c
  · have hx' : (h.rs.set i ⟨r.v, A, r.n, c⟩)[j]? = some x := hx
    have hil := (List.getElem?_eq_some_iff.1 hr).1
    by_cases hij : j = i
    · subst hij
      rw [List.getElem?_set_self hil] at hx'
      injection hx' with hx'
      subst hx'
      refine hc.row.keep (fun p hp => keep p (by omega)) fun b hb' => .inr ⟨by omega, by simpa using hb'.2, fun e => ?_⟩
      have e' : some b = some g := e.trans hrow
      injection e' with e'
      omega
    · rw [List.getElem?_set_ne (Ne.symm hij)] at hx'
      refine (H'.k j x hx').keep (fun p hp => keep p ?_) fun b hb' => ?_
      · rcases hp with hp | hp
        · omega
        · exact nbn _ hp
      · rcases hb' with hb' | hb'
        · exact .inl ⟨by omega, hb'.2⟩
        · exact .inr ⟨hb'.1, by simpa using hb'.2.1, hb'.2.2⟩
  · rcases List.mem_or_eq_of_mem_set hx with hx | rfl
    · exact H.n x hx
    · exact H.n r (List.mem_of_getElem? hr)
theorem OL.v {h : Hr} {i : Nat} {r : Rw} (hr : h.rs[i]? = some r) (A : Option Addr) (c : Nat) : (h.withB h.B h.d (h.rs.set i ⟨r.v, A, r.n, c⟩)).v = h.v := by
  have : (h.rs.set i ⟨r.v, A, r.n, c⟩).map Rw.v = h.rs.map Rw.v := by
    rw [List.map_set]
    show (h.rs.map Rw.v).set i r.v = h.rs.map Rw.v
    obtain ⟨hi, e⟩ := List.getElem?_eq_some_iff.1 hr
    have hi2 : i < (h.rs.map Rw.v).length := by simpa using hi
    have e2 : (h.rs.map Rw.v)[i] = r.v := by simp [e]
    rw [← e2]
    exact List.set_getElem_self hi2
  unfold Hr.v Hr.withB
  simp only [this]

/-- What own gives: the same, in memory of the call's own. -/
structure Ows (w : World) (h : Hr) (w' : World) (h' : Hr) : Prop where
  v : h'.v = h.v
  n : h'.n = h.n
  m : h'.m = h.m
  r : Own w' w.heap.size h'.B h'.m h'.d h'.rs
  t : Cvs w' (fun b => w.heap.size ≤ b ∧ b < w'.heap.size ∧ some b ≠ (Value.slice h'.B h'.m h'.d).ownBlock) h'.A h'.n h'.cs
  k : ∀ r ∈ h'.rs, Cvs w' (fun b => w.heap.size ≤ b ∧ b < w'.heap.size ∧ some b ≠ (Value.slice h'.B h'.m h'.d).ownBlock) r.A r.n r.v.cs
  kn : ∀ r ∈ h'.rs, r.n ≤ 3000
  b : Below w.heap.size w w'
def OwnsH (w : World) (h : Hr) (e : Ending) (w' : World) : Prop := ∃ h', e = .returned (hg h') ∧ Ows w h w' h'
theorem OL.done {w W : World} {h : Hr} (H : OL w W h h.m) : OL w W h h.m ∧ ∀ r ∈ h.rs, Cvs W (nb w W h) r.A r.n r.v.cs := by
  refine ⟨H, fun r hr => ?_⟩
  obtain ⟨j, hj⟩ := List.mem_iff_getElem?.1 hr
  refine (H.k j r hj).keep (fun _ _ => rfl) fun b hb => ?_
  rcases hb with hb | hb
  · have := (List.getElem?_eq_some_iff.1 hj).1
    have := H.r.len
    omega
  · exact hb
/-- The result is stored. -/
theorem OL.out {w W : World} {h h0 : Hr} (H : OL w W h h.m) (hv : h.v = h0.v) (hn : h.n = h0.n) (hm : h.m = h0.m) (l : List Value) : Ows w h0 (sets (w.heap.size + 1) 0 l W) h := by
  obtain ⟨H, hk⟩ := H.done
  have keep : ∀ (p : Addr), p.block ≠ w.heap.size + 1 → (sets (w.heap.size + 1) 0 l W).cell? p = W.cell? p := fun p hp => sets_other l hp 0 W
  have hsz : (sets (w.heap.size + 1) 0 l W).heap.size = W.heap.size := sets_size l 0 W
  have kk : ∀ {A : Option Addr} {n : Nat} {cs : List Co}, Cvs W (nb w W h) A n cs → Cvs (sets (w.heap.size + 1) 0 l W) (fun b => w.heap.size ≤ b ∧ b < (sets (w.heap.size + 1) 0 l W).heap.size ∧ some b ≠ (Value.slice h.B h.m h.d).ownBlock) A n cs := fun C =>
    C.keep (fun p hp => keep p (by have := hp.1; omega)) fun b hb => ⟨by have := hb.1; omega, by rw [hsz]; exact hb.2.1, hb.2.2⟩
  refine ⟨hv, hn, hm, ?_, kk H.t, fun r hr => kk (hk r hr), H.n, sets_below l (by omega) 0 W H.o.b⟩
  have hr := H.r
  refine ⟨hr.1, ?_⟩
  rcases hr.2 with h | ⟨g, cap, cur, e, hb, hh, q⟩
  · exact .inl h
  · exact .inr ⟨g, cap, cur, e, by omega, (sets_heap l (by omega) 0 W).trans hh, q⟩

/-- Within the region that gives a change covers of its own. -/
structure RO (w W : World) (h : Hr) (i g q : Nat) (r : Rw) (L : Nat → Bool) (w' : World) (v23 v24 v25 v26 v27 v28 v29 v30 : Value) (A : Option Addr) (c : Nat) : Prop where
  f0 : L 0 = true → v23 = .pointer (some ⟨w.heap.size, 9, none⟩)
  f1 : L 1 = true → v24 = .slice (some ⟨g, 0, none⟩) h.m h.d
  f2 : L 2 = true → v25 = .int .i64 (i : Int)
  f3 : L 3 = true → v26 = .pointer (some ⟨q, 7, none⟩)
  f4 : L 4 = true → v27 = .slice r.A r.n r.c
  f5 : L 5 = true → v28 = .slice A r.n c ∧ (L 8 = false → COwn w' W.heap.size A r.n c r.v.cs)
  f6 : L 6 = true → v29 = .pointer (some ⟨g, i * 9, none⟩)
  f7 : L 7 = true → v30 = .pointer (some ⟨g, i * 9 + 7, none⟩)
  b : L 8 = false → Below W.heap.size W w'
  s : L 8 = true → ∃ w3, Below W.heap.size W w3 ∧ COwn w3 W.heap.size A r.n c r.v.cs ∧ w' = w3.setCell ⟨g, i * 9 + 7, none⟩ (.slice A r.n c)
  d : L 8 = true → ∀ j, j < 6 → L j = true
section
variable {w W w' w2 : World} {h : Hr} {i g q c : Nat} {r : Rw} {L : Nat → Bool} {v23 v24 v25 v26 v27 v28 v29 v30 : Value} {A : Option Addr}
theorem RO.no (H : RO w W h i g q r L w' v23 v24 v25 v26 v27 v28 v29 v30 A c) {j : Nat} (hj : j < 6) (hL : L j = false) : L 8 = false := by
  cases h8 : L 8
  · rfl
  · rw [H.d h8 j hj] at hL; cases hL
theorem RO.dd (H : RO w W h i g q r L w' v23 v24 v25 v26 v27 v28 v29 v30 A c) {j0 : Nat} (h8 : L 8 = true) : ∀ j, j < 6 → (j == j0 || L j) = true := fun j hj => by rw [H.d h8 j hj, Bool.or_true]
theorem RO.s0 (H : RO w W h i g q r L w' v23 v24 v25 v26 v27 v28 v29 v30 A c) : RO w W h i g q r (fun j => j == 0 || L j) w' (.pointer (some ⟨w.heap.size, 9, none⟩)) v24 v25 v26 v27 v28 v29 v30 A c := ⟨fun _ => rfl, H.f1, H.f2, H.f3, H.f4, H.f5, H.f6, H.f7, H.b, H.s, fun h8 => H.dd h8⟩
theorem RO.s1 (H : RO w W h i g q r L w' v23 v24 v25 v26 v27 v28 v29 v30 A c) : RO w W h i g q r (fun j => j == 1 || L j) w' v23 (.slice (some ⟨g, 0, none⟩) h.m h.d) v25 v26 v27 v28 v29 v30 A c := ⟨H.f0, fun _ => rfl, H.f2, H.f3, H.f4, H.f5, H.f6, H.f7, H.b, H.s, fun h8 => H.dd h8⟩
theorem RO.s2 (H : RO w W h i g q r L w' v23 v24 v25 v26 v27 v28 v29 v30 A c) : RO w W h i g q r (fun j => j == 2 || L j) w' v23 v24 (.int .i64 (i : Int)) v26 v27 v28 v29 v30 A c := ⟨H.f0, H.f1, fun _ => rfl, H.f3, H.f4, H.f5, H.f6, H.f7, H.b, H.s, fun h8 => H.dd h8⟩
theorem RO.s3 (H : RO w W h i g q r L w' v23 v24 v25 v26 v27 v28 v29 v30 A c) : RO w W h i g q r (fun j => j == 3 || L j) w' v23 v24 v25 (.pointer (some ⟨q, 7, none⟩)) v27 v28 v29 v30 A c := ⟨H.f0, H.f1, H.f2, fun _ => rfl, H.f4, H.f5, H.f6, H.f7, H.b, H.s, fun h8 => H.dd h8⟩
theorem RO.s4 (H : RO w W h i g q r L w' v23 v24 v25 v26 v27 v28 v29 v30 A c) : RO w W h i g q r (fun j => j == 4 || L j) w' v23 v24 v25 v26 (.slice r.A r.n r.c) v28 v29 v30 A c := ⟨H.f0, H.f1, H.f2, H.f3, fun _ => rfl, H.f5, H.f6, H.f7, H.b, H.s, fun h8 => H.dd h8⟩
theorem RO.s6 (H : RO w W h i g q r L w' v23 v24 v25 v26 v27 v28 v29 v30 A c) : RO w W h i g q r (fun j => j == 6 || L j) w' v23 v24 v25 v26 v27 v28 (.pointer (some ⟨g, i * 9, none⟩)) v30 A c := ⟨H.f0, H.f1, H.f2, H.f3, H.f4, H.f5, fun _ => rfl, H.f7, H.b, H.s, fun h8 => H.dd h8⟩
theorem RO.s7 (H : RO w W h i g q r L w' v23 v24 v25 v26 v27 v28 v29 v30 A c) : RO w W h i g q r (fun j => j == 7 || L j) w' v23 v24 v25 v26 v27 v28 v29 (.pointer (some ⟨g, i * 9 + 7, none⟩)) A c := ⟨H.f0, H.f1, H.f2, H.f3, H.f4, H.f5, H.f6, fun _ => rfl, H.b, H.s, fun h8 => H.dd h8⟩
theorem RO.s5 (H : RO w W h i g q r L w' v23 v24 v25 v26 v27 v28 v29 v30 A c) (h8 : L 8 = false) (hb : Below w'.heap.size w' w2) {A2 : Option Addr} {c2 : Nat} (hc : COwn w2 w'.heap.size A2 r.n c2 r.v.cs) : RO w W h i g q r (fun j => j == 5 || L j) w2 v23 v24 v25 v26 v27 (.slice A2 r.n c2) v29 v30 A2 c2 := by
  have hbw := H.b h8
  have low : COwn w2 W.heap.size A2 r.n c2 r.v.cs := by
    refine ⟨hc.1, ?_⟩
    rcases hc.2 with hc | ⟨g, cap, cur, e, hb2, q⟩
    · exact .inl hc
    · exact .inr ⟨g, cap, cur, e, Nat.le_trans hbw.size hb2, q⟩
  exact ⟨H.f0, H.f1, H.f2, H.f3, H.f4, fun _ => ⟨rfl, fun _ => low⟩, H.f6, H.f7, fun _ => hbw.trans (hb.mono hbw.size), (fun l => by have l' : L 8 = true := l; rw [h8] at l'; cases l'), (fun l => by have l' : L 8 = true := l; rw [h8] at l'; cases l')⟩
theorem RO.s8 (H : RO w W h i g q r L w' v23 v24 v25 v26 v27 v28 v29 v30 A c) (h8 : L 8 = false) (hd : ∀ j, j < 6 → L j = true) : RO w W h i g q r (fun j => j == 8 || L j) (w'.setCell ⟨g, i * 9 + 7, none⟩ (.slice A r.n c)) v23 v24 v25 v26 v27 v28 v29 v30 A c :=
  ⟨H.f0, H.f1, H.f2, H.f3, H.f4, fun l => ⟨(H.f5 l).1, (fun l8 => by cases l8)⟩, H.f6, H.f7, (fun l => by cases l), fun _ => ⟨w', H.b h8, (H.f5 (hd 5 (by omega))).2 h8, rfl⟩, fun _ j hj => by
    show (j == 8 || L j) = true
    rw [hd j hj, Bool.or_true]⟩
end

set_option maxRecDepth 100000 in
set_option maxHeartbeats 4000000 in
theorem own_ (h : Hr) (w : World) (M : HM w (· < w.heap.size) h) (S : HS h) : Calls Try.prog 35 #[hg h] w (OwnsH w h) := by
  obtain ⟨W0, hW0⟩ : ∃ W0, (w.alloc (.cells (hc h) 33)).alloc (.cells zhc 33) = W0 := ⟨_, rfl⟩
  have H0 := Lib.hid (show O0 w W0 h by rw [← hW0]; exact O0.start w h)
  have HW := Lib.hid hW0
  have HM0 := Lib.hid M
  have HSS := Lib.hid S
  clear hW0 M S
  go_enter Try.func35, Try.ntmps35
  go_wp2_with fail
  rw [HW.out]
  clear HW
  refine (clone_covers h.A h.n h.c h.cs _ W0 (HM0.out.t.keep (fun p hp => H0.out.b.cell hp) fun _ h => h) (fun b hb => Nat.lt_of_lt_of_le hb H0.out.b.size) HSS.out.n).mono ?_
  rintro e w1 ⟨A1, c1, rfl, hO1, hb1⟩
  have H1 := Lib.hid ((H0.out.next hb1).setA A1 c1)
  have HT := Lib.hid (show Cvs (w1.setCell ⟨w.heap.size, 8, none⟩ (.slice A1 h.n c1)) (fun b => w.heap.size + 2 ≤ b ∧ b < (w1.setCell ⟨w.heap.size, 8, none⟩ (.slice A1 h.n c1)).heap.size) A1 h.n h.cs from
    hO1.row.keep (fun p hp => World.cell?_setCell_other _ _ _ _ fun e => by have := H0.out.lt; rw [← e] at hp; simp only at hp; omega) fun b hb => ⟨by have := H0.out.lt; omega, by simpa using hb.2⟩)
  have x8 := (H0.out.next hb1).x.c 8
  have f8 := (H0.out.next hb1).x.f 8
  have x9 := (H0.out.next hb1).x.c 9
  simp at x8 x9
  obtain ⟨W1, hW1⟩ : ∃ W1, w1.setCell ⟨w.heap.size, 8, none⟩ (.slice A1 h.n c1) = W1 := ⟨_, rfl⟩
  rw [hW1] at H1 HT
  have HW1 := Lib.hid hW1
  clear hW1 hO1 hb1 H0
  go_wp2_with fail
  rw [HW1.out]
  clear HW1 x8 f8 x9
  refine (clone_changes h.B h.m h.d h.rs _ W1 (HM0.out.r.keep (fun p hp => H1.out.b.cell hp) fun _ h => h) (fun b hb => Nat.lt_of_lt_of_le hb H1.out.b.size) (by have := HSS.out.m; omega)).mono ?_
  rintro e w2 ⟨B1, d1, rfl, hO2, hb2⟩
  have H2 := Lib.hid (show O0 w (w2.setCell ⟨w.heap.size, 9, none⟩ (.slice B1 h.m d1)) ((h.withA A1 c1).withB B1 d1 h.rs) from (H1.out.next hb2).setB B1 d1 h.rs)
  have x9 := (H1.out.next hb2).x.c 9
  have f9 := (H1.out.next hb2).x.f 9
  simp [Hr.withA] at x9
  have HL := Lib.hid (show OL w (w2.setCell ⟨w.heap.size, 9, none⟩ (.slice B1 h.m d1)) ((h.withA A1 c1).withB B1 d1 h.rs) 0 from by
    have hlt1 := H1.out.lt
    have hr2 : Own (w2.setCell ⟨w.heap.size, 9, none⟩ (.slice B1 h.m d1)) (w.heap.size + 2) B1 h.m d1 h.rs := (hO2.far (by show w.heap.size < W1.heap.size; omega) _).low hlt1
    have nrow : ∀ b, b < W1.heap.size → some b ≠ (Value.slice B1 h.m d1).ownBlock := fun b hb e => by have := hO2.lt b e.symm; omega
    have far : ∀ p : Addr, p.block ≠ w.heap.size → (w2.setCell ⟨w.heap.size, 9, none⟩ (.slice B1 h.m d1)).cell? p = w2.cell? p := fun p hp => World.cell?_setCell_other _ _ _ _ fun e => hp (by rw [← e])
    refine ⟨H2.out, HT.out.keep (fun p hp => (far p (by omega)).trans (hb2.cell hp.2)) fun b hb => ⟨hb.1, by have := hb2.size; have := hb.2; simp; omega, nrow b hb.2⟩, hr2, fun j r hr => ?_, fun r hr => HSS.out.k r hr⟩
    refine (HM0.out.k r (List.mem_of_getElem? hr)).keep (fun p hp => ?_) fun b hb => .inl ⟨Nat.zero_le _, hb⟩
    exact (far p (by omega)).trans ((hb2.cell (Nat.lt_of_lt_of_le hp H1.out.b.size)).trans (H1.out.b.cell hp)))
  obtain ⟨W2, hW2⟩ : ∃ W2, w2.setCell ⟨w.heap.size, 9, none⟩ (.slice B1 h.m d1) = W2 := ⟨_, rfl⟩
  rw [hW2] at H2 HL
  have HW2 := Lib.hid hW2
  have y9 := H2.out.x.c 9
  simp [Hr.withB, Hr.withA] at y9
  have hmm := HSS.out.m
  have HV := Lib.hid (show ((h.withA A1 c1).withB B1 d1 h.rs).v = h.v from rfl)
  clear hW2 hO2 hb2 H1 HT HM0 H2
  go_wp2_with fail
  rw [HW2.out]
  clear HW2 x9 f9
  go_loopw [18] (fun vi w' => ∃ (i : Nat) (W : World) (h' : Hr), i ≤ h.m ∧ vi = .int .i64 (i : Int) ∧ W = w' ∧ Hid (h'.B = B1 ∧ h'.d = d1 ∧ h'.v = h.v ∧ h'.n = h.n ∧ h'.m = h.m ∧ OL w W h' i)) (fun vi _ => h.m - (intOf vi).toNat)
  case atStart => exact ⟨0, W2, _, Nat.zero_le _, rfl, rfl, Lib.hid ⟨rfl, rfl, HV.out, rfl, rfl, HL.out⟩⟩
  case round =>
    obtain ⟨i, W, k, him, rfl, rfl, HK⟩ := hrel
    clear HL y9 HV
    by_cases hlt : i < h.m
    · obtain ⟨kB, kd, kv, kn, km, HL⟩ := HK.out
      obtain ⟨r, hr⟩ : ∃ r, k.rs[i]? = some r := ⟨_, List.getElem?_eq_getElem (by have := HL.r.len; omega)⟩
      obtain ⟨g, hg0, _, _⟩ := HL.r.form (by omega)
      rw [kB] at hg0
      subst hg0
      have hro := HL.r
      rw [kB] at hro
      have hn := hro.raws.at hr
      obtain ⟨c0, c1', c2', c3', c4', c5', c6', c7', c8'⟩ := hn
      simp only at c0 c1' c2' c3' c4' c5' c6' c7' c8'
      have hlt2 : (i : Int) < (h.m : Int) := by omega
      obtain ⟨W', hW'⟩ : ∃ W', W.alloc (.cells (vc r) 26) = W' := ⟨_, rfl⟩
      have HH := Lib.hid (show OL w W' k i from hW' ▸ HL.next (alloc_ _ _))
      have HQ := Lib.hid (show Bx W' W.heap.size 26 (vc r) from hW' ▸ Bx.new _ _ _)
      have HRI := Lib.hid hr
      have HBB := Lib.hid kB
      have HKK := Lib.hid (And.intro kd (And.intro kv (And.intro kn km)))
      have HW3 := Lib.hid hW'
      have HLT := Lib.hid hlt
      clear hr hro kB kv kn HL HK hW' hlt
      go_wp2_with fail
      rw [HW3.out]
      clear HW3 c0 c1' c2' c3' c4' c5' c6' c7' c8'
      clear kd km
      have hlt3 : (i : Int) < (k.m : Int) := by have := HKK.out.2.2.2; have := HLT.out; omega
      refine wp_region_steps (fun L_ a_ w_ => ∃ (v23 v24 v25 v26 v27 v28 v29 v30 : Value) (A2 : Option Addr) (c2 : Nat), a_ = { tmps := #[hg h, .pointer (some ⟨w.heap.size, 0, none⟩), .pointer (some ⟨w.heap.size + 1, 0, none⟩), .int .i64 (i : Int), .pointer (some ⟨W.heap.size, 0, none⟩), .pointer (some ⟨w.heap.size, 2, none⟩), .pointer (some ⟨w.heap.size, 8, none⟩), .slice h.A h.n h.c, .slice A1 h.n c1, .pointer (some ⟨w.heap.size, 2, none⟩), .pointer (some ⟨w.heap.size, 8, none⟩), .pointer (some ⟨w.heap.size, 9, none⟩), .slice h.B h.m h.d, .slice (some ⟨g, 0, none⟩) h.m d1, .pointer (some ⟨w.heap.size, 9, none⟩), .pointer (some ⟨w.heap.size, 9, none⟩), .slice (some ⟨g, 0, none⟩) h.m d1, .int .i64 (h.m : Int), .int .i64 (i : Int), .bool true, .int .i64 (i : Int), .pointer (some ⟨g, i * 9, none⟩), vg r, v23, v24, v25, v26, v27, v28, v29, v30, u31, undef], defers := [] } ∧ Hid (RO w W' k i g W.heap.size r L_ w_ v23 v24 v25 v26 v27 v28 v29 v30 A2 c2)) (by kernel_rfl) (by kernel_rfl) ?_ (AllSteps.cons ?_ (AllSteps.cons ?_ (AllSteps.cons ?_ (AllSteps.cons ?_ (AllSteps.cons ?_ (AllSteps.cons ?_ (AllSteps.cons ?_ (AllSteps.cons ?_ (AllSteps.cons ?_ AllSteps.nil))))))))) ?_
      · exact ⟨_, _, _, _, _, _, _, _, none, 0, rfl, Lib.hid ⟨(fun h => by cases h), (fun h => by cases h), (fun h => by cases h), (fun h => by cases h), (fun h => by cases h), (fun h => by cases h), (fun h => by cases h), (fun h => by cases h), fun _ => ⟨rfl, rfl, rfl, Nat.le_refl _, fun _ _ => rfl⟩, (fun h => by cases h), (fun h => by cases h)⟩⟩
      · rintro L_ a_ w_ hL hd ⟨v23, v24, v25, v26, v27, v28, v29, v30, A2, c2, rfl, HR⟩ K hK
        clear hd
        go_simp
        exact hK.out _ _ ⟨_, _, _, _, _, _, _, _, A2, c2, rfl, Lib.hid (HR.out.s0)⟩
      · rintro L_ a_ w_ hL hd ⟨v23, v24, v25, v26, v27, v28, v29, v30, A2, c2, rfl, HR⟩ K hK
        have e0 := HR.out.f0 (hd ⟨0, .data⟩ (by simp) rfl)
        subst e0
        have HB3 := HR.out.b (HR.out.no (by omega) hL)
        have c9 := (HH.out.next HB3).o.x.c 9
        simp at c9
        rw [HBB.out] at c9
        clear HB3
        clear hd
        go_simp
        exact hK.out _ _ ⟨_, _, _, _, _, _, _, _, A2, c2, rfl, Lib.hid (HR.out.s1)⟩
      · rintro L_ a_ w_ hL hd ⟨v23, v24, v25, v26, v27, v28, v29, v30, A2, c2, rfl, HR⟩ K hK
        clear hd
        go_simp
        exact hK.out _ _ ⟨_, _, _, _, _, _, _, _, A2, c2, rfl, Lib.hid (HR.out.s2)⟩
      · rintro L_ a_ w_ hL hd ⟨v23, v24, v25, v26, v27, v28, v29, v30, A2, c2, rfl, HR⟩ K hK
        clear hd
        go_simp
        exact hK.out _ _ ⟨_, _, _, _, _, _, _, _, A2, c2, rfl, Lib.hid (HR.out.s3)⟩
      · rintro L_ a_ w_ hL hd ⟨v23, v24, v25, v26, v27, v28, v29, v30, A2, c2, rfl, HR⟩ K hK
        have e3 := HR.out.f3 (hd ⟨3, .data⟩ (by simp) rfl)
        subst e3
        have HB3 := HR.out.b (HR.out.no (by omega) hL)
        have c7 := (HQ.out.keep HB3).c 7
        simp at c7
        clear HB3
        clear hd
        go_simp
        exact hK.out _ _ ⟨_, _, _, _, _, _, _, _, A2, c2, rfl, Lib.hid (HR.out.s4)⟩
      · rintro L_ a_ w_ hL hd ⟨v23, v24, v25, v26, v27, v28, v29, v30, A2, c2, rfl, HR⟩ K hK
        have e4 := HR.out.f4 (hd ⟨4, .data⟩ (by simp) rfl)
        subst e4
        have h8 := HR.out.no (by omega) hL
        have C := Lib.hid (clone_covers r.A r.n r.c r.v.cs _ w_ ((HH.out.next (HR.out.b h8)).k i r HRI.out) (fun b hb => by have := (HH.out.next (HR.out.b h8)).o.b.size; rcases hb with hb | hb; omega; exact hb.2.1) (HH.out.n r (List.mem_of_getElem? HRI.out)))
        clear hd
        go_simp
        refine C.out.mono ?_
        rintro e w5 ⟨A5, c5, rfl, hO5, hb5⟩
        have HR2 := Lib.hid (HR.out.s5 h8 hb5 hO5)
        clear hb5 hO5 C h8
        try go_simp
        exact hK.out _ _ ⟨_, _, _, _, _, _, _, _, A5, c5, rfl, Lib.hid (HR2.out)⟩
      · rintro L_ a_ w_ hL hd ⟨v23, v24, v25, v26, v27, v28, v29, v30, A2, c2, rfl, HR⟩ K hK
        have e1 := HR.out.f1 (hd ⟨1, .data⟩ (by simp) rfl)
        subst e1
        have e2 := HR.out.f2 (hd ⟨2, .data⟩ (by simp) rfl)
        subst e2
        clear hd
        go_simp
        exact hK.out _ _ ⟨_, _, _, _, _, _, _, _, A2, c2, rfl, Lib.hid (HR.out.s6)⟩
      · rintro L_ a_ w_ hL hd ⟨v23, v24, v25, v26, v27, v28, v29, v30, A2, c2, rfl, HR⟩ K hK
        have e6 := HR.out.f6 (hd ⟨6, .data⟩ (by simp) rfl)
        subst e6
        clear hd
        go_simp
        exact hK.out _ _ ⟨_, _, _, _, _, _, _, _, A2, c2, rfl, Lib.hid (HR.out.s7)⟩
      · rintro L_ a_ w_ hL hd ⟨v23, v24, v25, v26, v27, v28, v29, v30, A2, c2, rfl, HR⟩ K hK
        have q0 : L_ 0 = true := hd ⟨0, .phase⟩ (by simp) rfl
        have q1 : L_ 1 = true := hd ⟨1, .phase⟩ (by simp) rfl
        have q2 : L_ 2 = true := hd ⟨2, .phase⟩ (by simp) rfl
        have q3 : L_ 3 = true := hd ⟨3, .phase⟩ (by simp) rfl
        have q4 : L_ 4 = true := hd ⟨4, .phase⟩ (by simp) rfl
        have q5 : L_ 5 = true := hd ⟨5, .data⟩ (by simp) rfl
        have hall : ∀ j, j < 6 → L_ j = true := fun j hj => by
          match j, hj with
          | 0, _ => exact q0
          | 1, _ => exact q1
          | 2, _ => exact q2
          | 3, _ => exact q3
          | 4, _ => exact q4
          | 5, _ => exact q5
        have e5 := (HR.out.f5 q5).1
        subst e5
        have e7 := HR.out.f7 (hd ⟨7, .data⟩ (by simp) rfl)
        subst e7
        have h8 : L_ 8 = false := hL
        have HB3 := HR.out.b h8
        have HO3 := (HH.out.next HB3).r
        rw [HBB.out] at HO3
        have f7 := HO3.frozen (i * 9 + 7)
        have c7 := (HO3.raws.at HRI.out).c7
        clear hd HO3 HB3 q0 q1 q2 q3 q4 q5
        go_simp
        exact hK.out _ _ ⟨_, _, _, _, _, _, _, _, A2, c2, rfl, Lib.hid (HR.out.s8 h8 hall)⟩
      · rintro L_ a_ w_ hall ⟨v23, v24, v25, v26, v27, v28, v29, v30, A2, c2, rfl, HR⟩
        obtain ⟨w3, hb3, hc3, hw3⟩ := HR.out.s (hall 8 (by simp))
        have HN := Lib.hid (HH.out.put HBB.out HRI.out hb3 hc3)
        rw [← hw3] at HN
        have HVV := Lib.hid (OL.v HRI.out A2 c2)
        clear hall hb3 hc3 hw3
        dsimp only [Exit.inBlock, Exit.then]
        go_step
        go_wp2
        go_roundw
        case rel => exact ⟨i + 1, w_, k.withB k.B k.d (k.rs.set i ⟨r.v, A2, r.n, c2⟩), by have := HLT.out; omega, by go_num, rfl, Lib.hid ⟨HBB.out, HKK.out.1, HVV.out.trans HKK.out.2.1, HKK.out.2.2.1, HKK.out.2.2.2, HN.out⟩⟩
        case measure => have := HLT.out; simp [intOf]; omega
    · obtain rfl : i = h.m := by omega
      have hge : ¬ ((h.m : Nat) : Int) < (h.m : Int) := by omega
      obtain ⟨kB, kd, kv, kn, km, HL⟩ := HK.out
      have hx := HL.o.x
      have hy := HL.o.y
      have hly := hy.lt
      have hlx := hx.lt
      have HLM := Lib.hid (show OL w W k k.m by rw [km]; exact HL)
      have HKV := Lib.hid (And.intro kv (And.intro kn km))
      have x0 := hx.c 0
      have x1 := hx.c 1
      have x2 := hx.c 2
      have x3 := hx.c 3
      have x4 := hx.c 4
      have x5 := hx.c 5
      have x6 := hx.c 6
      have x7 := hx.c 7
      have x8 := hx.c 8
      have x9 := hx.c 9
      simp at x0 x1 x2 x3 x4 x5 x6 x7 x8 x9
      have HY := Lib.hid hy
      have y0 := hy.c 0
      have y1 := hy.c 1
      have y2 := hy.c 2
      have y3 := hy.c 3
      have y4 := hy.c 4
      have y5 := hy.c 5
      have y6 := hy.c 6
      have y7 := hy.c 7
      have y8 := hy.c 8
      have y9 := hy.c 9
      simp at y0 y1 y2 y3 y4 y5 y6 y7 y8 y9
      have fy0 := hy.f 0
      have fy1 := hy.f 1
      have fy2 := hy.f 2
      have fy3 := hy.f 3
      have fy4 := hy.f 4
      have fy5 := hy.f 5
      have fy6 := hy.f 6
      have fy7 := hy.f 7
      have fy8 := hy.f 8
      have fy9 := hy.f 9
      clear hx hy kB kd kv kn km HL HK hlt
      go_wp2
      change bodyPost _ _ _ _ _ (puth (w.heap.size + 1) k W)
      have hz := (show Bx W (w.heap.size + 1) 33 (hc zhr) from HY.out).puth k
      have z0 := hz.c 0
      have z1 := hz.c 1
      have z2 := hz.c 2
      have z3 := hz.c 3
      have z4 := hz.c 4
      have z5 := hz.c 5
      have z6 := hz.c 6
      have z7 := hz.c 7
      have z8 := hz.c 8
      have z9 := hz.c 9
      simp at z0 z1 z2 z3 z4 z5 z6 z7 z8 z9
      exact bodyPost_ret (v := hg k) (by simp [results, Try.results35, go_sem, z0, z1, z2, z3, z4, z5, z6, z7, z8, z9]) rfl ⟨k, rfl, HLM.out.out HKV.out.1 HKV.out.2.1 HKV.out.2.2 _⟩

end Tm
end Go.Proofs.Ytcnlllamldlnmaa
