/-
  Order of package change. Conditions: those of each theorem.
-/
import Derived.Test.YtkdhcloaeifbdaaGreatKPlaces
namespace Go.Proofs.YtkdhcloaeifbdaaGreat
open Go.RowKit Ba Cv Sp Te Ag
namespace Tm
set_option linter.unusedVariables false

theorem isNaN (x : Int) (w : World) : Calls Tryz.prog 111 #[.int .i64 x] w fun e w' => e = .returned (.bool false) ∧ w = w' := by
  go_enter Tryz.func111, Tryz.ntmps111
  go_wp2
  go_ret
  exact ⟨rfl, rfl⟩

set_option maxHeartbeats 1000000 in
theorem compare (x y : Int) (w : World) : Calls Tryz.prog 90 #[.int .i64 x, .int .i64 y] w fun e w' => e = .returned (.int .i64 (St.cf x y)) ∧ w = w' := by
  have C := fun a w => Lib.hid (isNaN a w)
  by_cases h1 : x < y
  · have e : St.cf x y = -1 := by simp [St.cf, h1]
    have t1 : decide (x < y) = true := by simpa using h1
    rw [e]
    clear e h1
    go_enter Tryz.func90, Tryz.ntmps90
    go_wp2_with (go_at_call 111; refine (C _ _).out.mono ?_; rintro e w' ⟨rfl, rfl⟩)
    go_ret
    exact ⟨rfl, rfl⟩
  · have t1 : decide (x < y) = false := by simpa using h1
    by_cases h2 : y < x
    · have e : St.cf x y = 1 := by simp [St.cf, h1, h2]
      have t2 : decide (y < x) = true := by simpa using h2
      rw [e]
      clear e h1 h2
      go_enter Tryz.func90, Tryz.ntmps90
      go_wp2_with (go_at_call 111; refine (C _ _).out.mono ?_; rintro e w' ⟨rfl, rfl⟩)
      go_ret
      exact ⟨rfl, rfl⟩
    · have e : St.cf x y = 0 := by simp [St.cf, h1, h2]
      have t2 : decide (y < x) = false := by simpa using h2
      rw [e]
      clear e h1 h2
      go_enter Tryz.func90, Tryz.ntmps90
      go_wp2_with (go_at_call 111; refine (C _ _).out.mono ?_; rintro e w' ⟨rfl, rfl⟩)
      go_ret
      exact ⟨rfl, rfl⟩


theorem key_at {h : Hr} {k : Nat} {r : Rw} (hv : h.v.hs[k]? = some r.v) {x : Int} (hx : x.toNat = k) : key h.v.hs x = r.v.dy := by
  unfold key
  rw [hx, hv]
set_option maxRecDepth 100000 in
set_option maxHeartbeats 2000000 in
theorem closure (h : Hr) (p : Nat) (x y : Int) (W : World) (M : HM W (· < W.heap.size) h) (hp : Bx W p 31 (hc h)) (hm : h.m ≤ 3000) (hx : 0 ≤ x ∧ x < h.m) (hy : 0 ≤ y ∧ y < h.m) :
    Calls Tryz.prog 89 #[.int .i64 x, .int .i64 y, .pointer (some ⟨p, 0, none⟩)] W fun e w' => e = .returned (.int .i64 (St.cf (key h.v.hs x) (key h.v.hs y))) ∧ Below W.heap.size W w' := by
  obtain ⟨k1, e1⟩ : ∃ k1, x.toNat = k1 := ⟨_, rfl⟩
  obtain ⟨k2, e2⟩ : ∃ k2, y.toNat = k2 := ⟨_, rfl⟩
  obtain ⟨ad, r1, hB, hb, _, n1, _, v1⟩ := M.get (k := k1) (by omega)
  obtain ⟨ad', r2, hB', _, _, n2, _, v2⟩ := M.get (k := k2) (by omega)
  rw [hB] at hB'
  injection hB' with hB'
  subst hB'
  rw [key_at v1 e1, key_at v2 e2]
  have CC := fun w => Lib.hid (compare r1.v.dy r2.v.dy w)
  have c9 : ∀ q : Ext W, q.W.cell? ⟨p, 9, none⟩ = some (.slice (some ad) h.m h.d) := fun q => by have := hp.ext q 9; rw [this]; simp [hB]
  have d1 : ∀ q : Ext W, q.W.cell? ⟨(ad.add (k1 * 9)).block, (ad.add (k1 * 9)).off + 1, none⟩ = some (.int .i64 r1.v.dy) := fun q => (n1.keep fun a ha => q.b.cell (by rw [ha, add_block]; exact hb)).c1
  have d2 : ∀ q : Ext W, q.W.cell? ⟨(ad.add (k2 * 9)).block, (ad.add (k2 * 9)).off + 1, none⟩ = some (.int .i64 r2.v.dy) := fun q => (n2.keep fun a ha => q.b.cell (by rw [ha, add_block]; exact hb)).c1
  have x1 := hx.1
  have x2 := hx.2
  have x3 : IntKind.i64.wrap x = x := (IntWalk.i64_left _).trans (IntWalk.wrap64_in _ ⟨by omega, by omega⟩)
  have y1 := hy.1
  have y2 := hy.2
  have y3 : IntKind.i64.wrap y = y := (IntWalk.i64_left _).trans (IntWalk.wrap64_in _ ⟨by omega, by omega⟩)
  have CE : ∀ q : Ext W, Hid (Calls Tryz.prog 90 #[.int .i64 r1.v.dy, .int .i64 r2.v.dy] q.W fun e w' => e = .returned (.int .i64 (St.cf r1.v.dy r2.v.dy)) ∧ Below q.W.heap.size q.W w') := fun q => Lib.hid ((CC q.W).out.mono fun e w' ⟨he, hw⟩ => ⟨he, hw ▸ Below.refl _ _⟩)
  generalize St.cf r1.v.dy r2.v.dy = cv at CE ⊢
  clear M hp hB hb n1 n2 v1 v2 hx hy CC hm
  have ne : Nonempty (Ext W) := ⟨⟨W, Below.refl _ _⟩⟩
  go_enter Tryz.func89, Tryz.ntmps89
  go_wp2_with fail
  refine quietE (by kernel_rfl) (by kernel_rfl) ?_
  repeat (first | go_big_quiet_skip | quiet_step (first
    | (go_at_call 90; with_reducible exact ext_of (CE _).out)
    | fail))
  refine wpQuiet_nil ?_
  rintro _ ⟨q, rfl⟩
  have HB := Lib.hid q.b
  generalize q.W = W1 at HB ⊢
  clear ne c9 d1 d2 CE
  go_wp2
  go_ret
  exact ⟨rfl, HB.out⟩

set_option maxHeartbeats 1000000 in
theorem insertion_nil (V : Value) (w : World) : Calls Tryz.prog 119 #[.slice none 0 0, .int .i64 0, .int .i64 0, V] w fun e w' => e = .returned (.tuple #[]) ∧ w = w' := by
  go_enter Tryz.func119, Tryz.ntmps119
  go_wp2
  go_loopw [8] (fun vi w' => vi = .int .i64 1 ∧ w = w') (fun _ _ => 0)
  case atStart => exact ⟨rfl, rfl⟩
  case round =>
    obtain ⟨rfl, rfl⟩ := hrel
    go_wp2
    go_end0
    exact ⟨rfl, rfl⟩
set_option maxHeartbeats 1000000 in
theorem stable_nil (V : Value) (w : World) : Calls Tryz.prog 110 #[.slice none 0 0, .int .i64 0, V] w fun e w' => e = .returned (.tuple #[]) ∧ w = w' := by
  have C := fun w => Lib.hid (insertion_nil V w)
  go_enter Tryz.func110, Tryz.ntmps110
  go_wp2
  go_loopw [7, 8] (fun va vb w' => va = .int .i64 0 ∧ vb = .int .i64 20 ∧ w = w') (fun _ _ _ => 0)
  case atStart => exact ⟨rfl, rfl, rfl⟩
  case round =>
    obtain ⟨rfl, rfl, rfl⟩ := hrel
    go_wp2_with fail
    refine (C _).out.mono ?_
    rintro e w1 ⟨rfl, rfl⟩
    go_wp2
    go_loopw [6] (fun vs w' => vs = .int .i64 20 ∧ w = w') (fun _ _ => 0)
    case atStart => exact ⟨rfl, rfl⟩
    case round =>
      obtain ⟨rfl, rfl⟩ := hrel
      go_wp2
      go_end0
      exact ⟨rfl, rfl⟩
set_option maxHeartbeats 1000000 in
theorem sort_nil (V : Value) (w : World) : Calls Tryz.prog 88 #[.slice none 0 0, V] w fun e w' => e = .returned (.tuple #[]) ∧ w = w' := by
  have C := fun w => Lib.hid (stable_nil V w)
  go_enter Tryz.func88, Tryz.ntmps88
  go_wp2_with fail
  refine (C _).out.mono ?_
  rintro e w1 ⟨rfl, rfl⟩
  go_wp2
  go_end0
  exact ⟨rfl, rfl⟩

/-- What Order tells. -/
def OrdTo (w : World) (hs : List Ch) (m : Nat) (e : Ending) (w' : World) : Prop := ∃ A c o, e = .returned (.slice A m c) ∧ Ins w' (fun b => w.heap.size ≤ b ∧ b < w'.heap.size) A m o ∧ Ag.Ord hs o ∧ Below w.heap.size w w' ∧ m ≤ c
theorem At.of {w : World} {base n c g : Nat} {xs : List Int} (h : IOwn w base (some ⟨g, 0, none⟩) n c xs) (hg : g < w.heap.size) : At w ⟨g, 0, none⟩ xs w := by
  refine ⟨World.grownBy.refl w _, fun j x hx => ?_, fun j hj => ?_, hg⟩
  · obtain ⟨ad, e, _, hc⟩ := h.row.2 (by have := h.len; have := (List.getElem?_eq_some_iff.1 hx).1; omega)
    injection e with e
    subst e
    exact hc j x hx
  · rw [Addr.add_lit]; exact h.frozen _
/-- The places so far. -/
structure OS (w W : World) (h : Hr) (k : Nat) (A : Option Addr) (c : Nat) : Prop where
  x : HX w W h
  o : IOwn W (w.heap.size + 1) A k c (plc k)
  z : k = 0 → A = none ∧ c = 0
theorem HM.apart {w W : World} {h : Hr} {g : Nat} (M : HM w (· < w.heap.size) h) (hg : w.heap.size ≤ g) (hk : ∀ b, b < w.heap.size → W.heap[b]? = w.heap[b]?) (hs : w.heap.size ≤ W.heap.size) : HM W (· < W.heap.size) h :=
  M.keep (fun p hp => World.cell?_of_block (hk p.block hp)) fun b hb => by omega

set_option maxRecDepth 100000 in
set_option maxHeartbeats 4000000 in
theorem order_ (h : Hr) (w : World) (M : HM w (· < w.heap.size) h) (hm : h.m ≤ 2001) : Calls Tryz.prog 54 #[hg h] w (OrdTo w h.v.hs h.m) := by
  have H0 := Lib.hid (show OS w (w.alloc (.cells (hc h) 31)) h 0 none 0 from ⟨HX.start w h, IOwn.nil, fun _ => ⟨rfl, rfl⟩⟩)
  have HM0 := Lib.hid M
  have HLE := Lib.hid M.len
  clear M
  go_enter Tryz.func54, Tryz.ntmps54
  go_wp2
  go_loopw [3, 8] (fun vs vi w' => ∃ (k : Nat) (A : Option Addr) (c : Nat) (W : World), k ≤ h.m ∧ vs = .slice A k c ∧ vi = .int .i64 (k : Int) ∧ W = w' ∧ Hid (OS w W h k A c)) (fun _ vi _ => h.m - (intOf vi).toNat)
  case atStart => exact ⟨0, none, 0, _, Nat.zero_le _, rfl, rfl, rfl, H0⟩
  case round =>
    clear H0
    obtain ⟨k, A, c, W, hk, rfl, rfl, rfl, H⟩ := hrel
    by_cases hlt : k < h.m
    · have hlt2 : (k : Int) < (h.m : Int) := by omega
      have HLT := Lib.hid hlt
      have hsz := H.out.x.x.lt
      clear hlt
      go_wp2_with (at_builtin; refine wpList_app_i _ rfl _ _ rfl (w.heap.size + 1) A k c (plc k) rfl (H.out.o.below (alloc_ _ _)) (· = W.heap.size) (some ⟨W.heap.size, 0, none⟩) 1 1 [(k : Int)] rfl (ins_one (Bx.new W 3 #[.int .i64 (k : Int)])) (fun e => by cases e) (k + 1) rfl (by omega) (by simp; omega) ?_; intro A4 c4 w4 hO4 hg4; have HO4 := Lib.hid hO4; have HG4 := Lib.hid hg4; clear hO4 hg4)
      have HN := Lib.hid (show OS w w4 h (k + 1) A4 c4 from by
        have ha := H.out.x.next (alloc_ W (.cells #[.int .i64 (k : Int)] 3))
        have hlo : ∀ g, (Value.slice A k c).ownBlock = some g → w.heap.size + 1 ≤ g := fun g hg => (H.out.o.lt g hg).1
        have hg := HG4.out
        have hsa : (W.alloc (.cells #[.int .i64 (k : Int)] 3)).heap.size = W.heap.size + 1 := World.size_alloc _ _
        refine ⟨⟨(ha.b).grown hg ha.b.size fun j hj => by have := hlo j hj; omega, ?_⟩, by rw [plc_next]; exact HO4.out, fun e => by omega⟩
        exact (hg.block w.heap.size (by omega) fun e => by have := hlo _ e.symm; omega).trans ha.x)
      clear HO4 HG4 H
      go_roundw
      case rel => exact ⟨k + 1, A4, c4, w4, by have := HLT.out; omega, rfl, by go_num, rfl, HN⟩
      case measure => have := HLT.out; simp [intOf]; omega
    · obtain rfl : k = h.m := by omega
      have t1 : decide (((h.m : Nat) : Int) < (h.m : Int)) = false := by simp
      have hmf : ∀ (fn : Fn) (first cap : Array Value) (w : World), (Instr.makeFunc fn first cap).run Tryz.prog w = .ok (.func fn first cap) w := fun _ _ _ _ => rfl
      by_cases h0 : h.m = 0
      · obtain ⟨rfl, rfl⟩ := H.out.z h0
        have C := Lib.hid (show Calls Tryz.prog 88 #[.slice none h.m 0, .func (.func 89) #[] #[.pointer (some ⟨w.heap.size, 0, none⟩)]] W (fun e w' => e = .returned (.tuple #[]) ∧ W = w') by rw [h0]; exact sort_nil _ W)
        have HR := Lib.hid (show OrdTo w h.v.hs h.m (.returned (.slice none h.m 0)) W from ⟨none, 0, [], rfl, by rw [h0]; exact Ins.nil, by unfold Ag.Ord; rw [HLE.out, h0]; exact St.Good.nil, H.out.x.b, Nat.le_of_eq h0⟩)
        clear h0 H hlt
        go_wp2_with fail
        refine C.out.mono ?_
        rintro e w1 ⟨rfl, rfl⟩
        go_wp2
        go_ret
        exact HR.out
      · obtain ⟨g, rfl, hg1, hg2⟩ := H.out.o.form (by omega)
        have CL : Clo W ⟨g, 0, none⟩ (key h.v.hs) (fun x => 0 ≤ x ∧ x < h.m) (.pointer (some ⟨w.heap.size, 0, none⟩)) := by
          intro W' x y hg hx hy
          have hsz := H.out.x.b.size
          have hgs := hg.size
          have hlx := H.out.x.x.lt
          refine closure h w.heap.size x y W' (HM0.out.apart (g := g) (by omega) (fun b hb => ?_) (by omega)) ?_ (by omega) hx hy
          · exact (hg.block b (by omega) fun e => by injection e with e; simp only at e; omega).trans (H.out.x.b.block b hb)
          · exact (hg.block w.heap.size (by omega) fun e => by injection e with e; simp only at e; omega).trans H.out.x.x
        have C := Lib.hid (sortStable W ⟨g, 0, none⟩ h.m c (key h.v.hs) _ (.pointer (some ⟨w.heap.size, 0, none⟩)) (plc h.m) W (At.of H.out.o hg2) (plc_len _) (by omega) (plc_rise _) (fun x hx => plc_mem.1 hx) CL)
        have HF := Lib.hid (H.out.o.fits.1)
        have HG := Lib.hid (And.intro hg1 (And.intro hg2 H.out.x.b))
        clear CL hg1 hg2 H hlt h0
        go_wp2_with fail
        refine C.out.mono ?_
        rintro e w1 ⟨rfl, S, hS, hA⟩
        have HA := Lib.hid hA
        have HSg := Lib.hid hS
        clear hS hA C
        go_wp2
        go_ret
        have hl : S.length = h.m := by rw [HSg.out.len, plc_len]
        refine ⟨some ⟨g, 0, none⟩, c, S, rfl, ⟨hl, fun _ => ⟨_, rfl, ⟨by have := HG.out.1; show w.heap.size ≤ g; omega, Nat.lt_of_lt_of_le HG.out.2.1 HA.out.g.size⟩, HA.out.c⟩⟩, by unfold Ag.Ord; rw [HLE.out]; exact HSg.out, ?_, HF.out⟩
        exact (HG.out.2.2).grown HA.out.g HG.out.2.2.size fun j hj => by injection hj with hj; simp only at hj; have := HG.out.1; omega

end Tm
end Go.Proofs.YtkdhcloaeifbdaaGreat
