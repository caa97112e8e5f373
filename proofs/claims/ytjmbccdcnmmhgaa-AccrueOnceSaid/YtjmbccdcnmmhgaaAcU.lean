/-
  Upto, Written, Between and Curve of package accrue. Conditions: the slices lie as they read; there are 1100 at most.
-/
import Derived.Test.YtjmbccdcnmmhgaaAcD
import Derived.Test.YtjmbccdcnmmhgaaAcE
import Derived.Test.YtjmbccdcnmmhgaaInv
namespace Go.Proofs.Ytjmbccdcnmmhgaa
open Go.RowKit Ba Cv Sp Te Ag Sl Tm Slc
namespace Acr
set_option linter.unusedVariables false

/-- What a worked answer, or its code, is. -/
def UcTo (w : World) (v k : Int) (e : Ending) (w' : World) : Prop := (k = 0 ∧ e = .returned (.int .i64 v) ∨ k ≠ 0 ∧ e = pnc k) ∧ Below w.heap.size w w'
/-- A step as it comes of curve. -/
def Stq (w : World) (l : List Sc) (x : Value) : Prop := ∃ A m c V d ps, x = Stp.sg A m c V m d ∧ Stp.Sr w w.heap.size A V m ps ∧ m ≤ 10000 ∧ Crv l ps
theorem Stq.keep {w w' : World} {l : List Sc} {x : Value} (h : Stq w l x) (hb : Below w.heap.size w w') : Stq w' l x := by
  obtain ⟨A, m, c, V, d, ps, rfl, hS, hm, hC⟩ := h
  exact ⟨A, m, c, V, d, ps, rfl, hS.keep_ hb, hm, hC⟩
theorem CvYes.stq {w w' : World} {l : List Sc} {A V : Option Addr} {c d : Nat} {ps : List Stm.Pr} (hO : Stp.OwnS w' w.heap.size A ps.length c V ps.length d (fst ps) (snd ps)) (hC : Crv l ps) (hl : ps.length ≤ 10000) : Stq w' l (Stp.sg A ps.length c V ps.length d) :=
  ⟨A, _, c, V, d, ps, rfl, hO.sx, hl, hC⟩
theorem up_no {l : List Sc} {d : Int} (h : may l = false) : upc l d = 1 := by unfold upc; rw [if_neg (by rw [h]; decide)]
theorem up_over {l : List Sc} {d : Int} (h : may l = true) (h2 : 4000000000000000000 < ern l d) : upc l d = 5 := by unfold upc; rw [if_pos h, if_neg (by omega)]
theorem up_yes {l : List Sc} {d : Int} (h : may l = true) (h2 : ern l d ≤ 4000000000000000000) : upc l d = 0 ∧ upv l d = hf (ern l d) := ⟨upc_ok h h2, upv_ok (upc_ok h h2)⟩
structure UR (W : World) (A : Option Addr) (n c : Nat) (l : List Sc) (d : Int) (L : Nat → Bool) (w' : World) (x3 x4 x5 x6 x2 : Value) : Prop where
  b : Below W.heap.size W w'
  f0 : L 0 = true → x3 = .slice A n c
  f1 : L 1 = true → may l = true ∧ Stq w' l x4
  f2 : L 2 = true → x5 = .int .i64 d
  f3 : L 3 = true → upc l d = 0 ∧ x6 = .int .i64 (upv l d)
  f4 : L 4 = true → upc l d = 0 ∧ x2 = .int .i64 (upv l d)
theorem UR.up {W : World} {A : Option Addr} {n c : Nat} {l : List Sc} {d : Int} {L : Nat → Bool} {w' w2 : World} {x3 x4 x5 x6 x2 : Value} (H : UR W A n c l d L w' x3 x4 x5 x6 x2) (hb : Below w'.heap.size w' w2) : UR W A n c l d L w2 x3 x4 x5 x6 x2 :=
  ⟨H.b.trans (hb.mono H.b.size), H.f0, fun z => ⟨(H.f1 z).1, (H.f1 z).2.keep hb⟩, H.f2, H.f3, H.f4⟩
theorem UR.s0 {W : World} {A : Option Addr} {n c : Nat} {l : List Sc} {d : Int} {L : Nat → Bool} {w' : World} {x3 x4 x5 x6 x2 : Value} (H : UR W A n c l d L w' x3 x4 x5 x6 x2) {z : Value} (k : z = .slice A n c) : UR W A n c l d (fun j => j == 0 || L j) w' z x4 x5 x6 x2 := ⟨H.b, fun _ => k, H.f1, H.f2, H.f3, H.f4⟩
theorem UR.s1 {W : World} {A : Option Addr} {n c : Nat} {l : List Sc} {d : Int} {L : Nat → Bool} {w' : World} {x3 x4 x5 x6 x2 : Value} (H : UR W A n c l d L w' x3 x4 x5 x6 x2) {z : Value} (k : may l = true ∧ Stq w' l z) : UR W A n c l d (fun j => j == 1 || L j) w' x3 z x5 x6 x2 := ⟨H.b, H.f0, fun _ => k, H.f2, H.f3, H.f4⟩
theorem UR.s2 {W : World} {A : Option Addr} {n c : Nat} {l : List Sc} {d : Int} {L : Nat → Bool} {w' : World} {x3 x4 x5 x6 x2 : Value} (H : UR W A n c l d L w' x3 x4 x5 x6 x2) {z : Value} (k : z = .int .i64 d) : UR W A n c l d (fun j => j == 2 || L j) w' x3 x4 z x6 x2 := ⟨H.b, H.f0, H.f1, fun _ => k, H.f3, H.f4⟩
theorem UR.s3 {W : World} {A : Option Addr} {n c : Nat} {l : List Sc} {d : Int} {L : Nat → Bool} {w' : World} {x3 x4 x5 x6 x2 : Value} (H : UR W A n c l d L w' x3 x4 x5 x6 x2) {z : Value} (k : upc l d = 0 ∧ z = .int .i64 (upv l d)) : UR W A n c l d (fun j => j == 3 || L j) w' x3 x4 x5 z x2 := ⟨H.b, H.f0, H.f1, H.f2, fun _ => k, H.f4⟩
theorem UR.s4 {W : World} {A : Option Addr} {n c : Nat} {l : List Sc} {d : Int} {L : Nat → Bool} {w' : World} {x3 x4 x5 x6 x2 : Value} (H : UR W A n c l d L w' x3 x4 x5 x6 x2) {z : Value} (k : upc l d = 0 ∧ z = .int .i64 (upv l d)) : UR W A n c l d (fun j => j == 4 || L j) w' x3 x4 x5 x6 z := ⟨H.b, H.f0, H.f1, H.f2, H.f3, fun _ => k⟩
theorem curve1 {l l' : List Sc} {f : FuncId} {args : Array Value} {w : World} (h : l = l') (C : Calls Try.prog f args w (CvTo w l)) : Calls Try.prog f args w (CvTo w l') := h ▸ C
set_option maxRecDepth 100000 in
set_option maxHeartbeats 4000000 in
theorem upto1 (p q : Nat) (A : Option Addr) (n c : Nat) (rs : List Rw) (d : Int) (W : World) (hp : Bx W p 22 #[.slice A n c]) (hq : Bx W q 3 #[.int .i64 d]) (G : Raws W (· < W.heap.size) A n rs) (hn : n ≤ 1100) (hd : -9223372036854775808 ≤ d ∧ d ≤ 9223372036854775807) :
    Calls Try.prog 18 #[.pointer (some ⟨p, 0, none⟩), .pointer (some ⟨q, 0, none⟩)] W (UcTo W (upv (rs.map Rw.v) d) (upc (rs.map Rw.v) d)) := by
  have HP := Lib.hid hp
  have HQ := Lib.hid hq
  have HG := Lib.hid G
  have HN := Lib.hid hn
  have HD := Lib.hid hd
  clear hp hq G hn hd
  obtain ⟨l, hl⟩ : ∃ l, rs.map Rw.v = l := ⟨_, rfl⟩
  have HLL := Lib.hid hl
  rw [hl]
  clear hl
  go_enter Try.func18, Try.ntmps18
  go_upto_region 1 with fail
  refine wp_region_steps (fun L_ a_ w_ => ∃ (x3 x4 x5 x6 x2 : Value), a_ = { tmps := #[.pointer (some ⟨p, 0, none⟩), .pointer (some ⟨q, 0, none⟩), x2, x3, x4, x5, x6], defers := [] } ∧ Hid (UR W A n c l d L_ w_ x3 x4 x5 x6 x2)) (by kernel_rfl) (by kernel_rfl) ?_ (AllSteps.cons ?_ (AllSteps.cons ?_ (AllSteps.cons ?_ (AllSteps.cons ?_ (AllSteps.cons ?_ AllSteps.nil))))) ?_
  · exact ⟨_, _, _, _, _, rfl, Lib.hid ⟨⟨rfl, rfl, rfl, Nat.le_refl _, fun _ _ => rfl⟩, (fun h => by cases h), (fun h => by cases h), (fun h => by cases h), (fun h => by cases h), (fun h => by cases h)⟩⟩
  · rintro L_ a_ w_ hL hd ⟨x3, x4, x5, x6, x2, rfl, HR⟩ K hK
    have c0 := (HP.out.below HR.out.b HP.out.lt).c 0
    simp at c0
    clear hd
    go_simp
    exact hK.out _ _ ⟨_, _, _, _, _, rfl, Lib.hid (HR.out.s0 rfl)⟩
  · rintro L_ a_ w_ hL hd ⟨x3, x4, x5, x6, x2, rfl, HR⟩ K hK
    have e0 := HR.out.f0 (hd ⟨0, .data⟩ (by simp) rfl)
    subst e0
    clear hd
    go_simp
    refine (curve1 HLL.out (curve_ A n c rs w_ (HG.out.below HR.out.b) HN.out)).mono ?_
    rintro e w1 (⟨hm, A2, c2, V2, d2, ps, rfl, hO, hC, hl, hb⟩ | ⟨hm, rfl, hb⟩)
    rotate_left
    · exact ⟨rfl, .inr ⟨by rw [up_no hm]; decide, by rw [up_no hm]⟩, HR.out.b.trans (hb.mono HR.out.b.size)⟩
    try go_simp
    exact hK.out _ _ ⟨_, _, _, _, _, rfl, Lib.hid ((HR.out.up hb).s1 ⟨hm, CvYes.stq hO hC hl⟩)⟩
  · rintro L_ a_ w_ hL hd ⟨x3, x4, x5, x6, x2, rfl, HR⟩ K hK
    have c0 := (HQ.out.below HR.out.b HQ.out.lt).c 0
    simp at c0
    clear hd
    go_simp
    exact hK.out _ _ ⟨_, _, _, _, _, rfl, Lib.hid (HR.out.s2 rfl)⟩
  · rintro L_ a_ w_ hL hd ⟨x3, x4, x5, x6, x2, rfl, HR⟩ K hK
    obtain ⟨hmay, A2, m, c2, V2, d2, ps, e4, hS, hm, hC⟩ := HR.out.f1 (hd ⟨1, .data⟩ (by simp) rfl)
    subst e4
    have e2 := HR.out.f2 (hd ⟨2, .data⟩ (by simp) rfl)
    subst e2
    clear hd
    go_simp
    refine (earned_ w_ A2 m c2 V2 d2 l ps d hS hm hC (may_iff.1 hmay).2 HD.out).mono ?_
    rintro e w1 ⟨⟨hx, rfl⟩ | ⟨hx, rfl⟩, hb⟩
    rotate_left
    · exact ⟨rfl, .inr ⟨by rw [up_over hmay hx]; decide, by rw [up_over hmay hx]⟩, HR.out.b.trans (hb.mono HR.out.b.size)⟩
    try go_simp
    exact hK.out _ _ ⟨_, _, _, _, _, rfl, Lib.hid ((HR.out.up hb).s3 ⟨(up_yes hmay hx).1, by rw [(up_yes hmay hx).2]⟩)⟩
  · rintro L_ a_ w_ hL hd ⟨x3, x4, x5, x6, x2, rfl, HR⟩ K hK
    have e3 := HR.out.f3 (hd ⟨3, .data⟩ (by simp) rfl)
    obtain ⟨k3, rfl⟩ := e3
    clear hd
    go_simp
    exact hK.out _ _ ⟨_, _, _, _, _, rfl, Lib.hid (HR.out.s4 ⟨k3, rfl⟩)⟩
  rintro L_ a_ w_ hall ⟨x3, x4, x5, x6, x2, rfl, HR⟩
  obtain ⟨k1, rfl⟩ := HR.out.f4 (hall 4 (by decide))
  dsimp only [Exit.then]
  go_wp2
  go_ret
  exact ⟨.inl ⟨k1, rfl⟩, HR.out.b⟩

theorem btc_no {l : List Sc} {z : Int × Int} (h : may l = false) : btc l z = 1 := by unfold btc; rw [if_neg (by rw [h]; decide)]
theorem btc_rt {l : List Sc} {z : Int × Int} (h : may l = true) (h2 : rt z = false) : btc l z = 1 := by unfold btc; rw [if_pos h, if_neg (by rw [h2]; decide)]
theorem btc_over {l : List Sc} {z : Int × Int} (h : may l = true) (h2 : rt z = true) (h3 : 4000000000000000000 < ern l z.2) : btc l z = 5 := by rw [btc_ok h h2, up_over h h3]
theorem btc_yes {l : List Sc} {z : Int × Int} (h : may l = true) (h2 : rt z = true) (h3 : ern l z.2 ≤ 4000000000000000000) : btc l z = 0 ∧ btv l z = hf (ern l z.2) - hf (ern l z.1) :=
  have e : btc l z = 0 := by rw [btc_ok h h2]; exact upc_ok h h3
  ⟨e, btv_ok e⟩
theorem hf_inU {n : Int} (h0 : 0 ≤ n) (h1 : n ≤ 4000000000000000000) : 0 ≤ hf n ∧ hf n ≤ 10958904109589042 := by unfold hf; omega
structure BR (W : World) (A : Option Addr) (m c : Nat) (V : Option Addr) (d : Nat) (l : List Sc) (q : Nat) (s1 s2 : Int) (L : Nat → Bool) (w' : World) (x9 x10 x11 x12 x13 x14 x15 x16 x17 x2 : Value) : Prop where
  b : Below W.heap.size W w'
  f0 : L 0 = true → x9 = Stp.sg A m c V m d
  f1 : L 1 = true → x10 = .pointer (some ⟨q, 1, none⟩)
  f2 : L 2 = true → x11 = .int .i64 s2
  f3 : L 3 = true → ern l s2 ≤ 4000000000000000000 ∧ x12 = .int .i64 (hf (ern l s2))
  f4 : L 4 = true → x13 = Stp.sg A m c V m d
  f5 : L 5 = true → x14 = .pointer (some ⟨q, 0, none⟩)
  f6 : L 6 = true → x15 = .int .i64 s1
  f7 : L 7 = true → ern l s2 ≤ 4000000000000000000 ∧ x16 = .int .i64 (hf (ern l s1))
  f8 : L 8 = true → ern l s2 ≤ 4000000000000000000 ∧ x17 = .int .i64 (hf (ern l s2) - hf (ern l s1))
  f9 : L 9 = true → ern l s2 ≤ 4000000000000000000 ∧ x2 = .int .i64 (hf (ern l s2) - hf (ern l s1))
theorem BR.up {W : World} {A : Option Addr} {m c : Nat} {V : Option Addr} {d : Nat} {l : List Sc} {q : Nat} {s1 s2 : Int} {L : Nat → Bool} {w' w2 : World} {x9 x10 x11 x12 x13 x14 x15 x16 x17 x2 : Value} (H : BR W A m c V d l q s1 s2 L w' x9 x10 x11 x12 x13 x14 x15 x16 x17 x2) (hb : Below w'.heap.size w' w2) : BR W A m c V d l q s1 s2 L w2 x9 x10 x11 x12 x13 x14 x15 x16 x17 x2 :=
  ⟨H.b.trans (hb.mono H.b.size), H.f0, H.f1, H.f2, H.f3, H.f4, H.f5, H.f6, H.f7, H.f8, H.f9⟩
theorem BR.s0 {W : World} {A : Option Addr} {m c : Nat} {V : Option Addr} {d : Nat} {l : List Sc} {q : Nat} {s1 s2 : Int} {L : Nat → Bool} {w' : World} {x9 x10 x11 x12 x13 x14 x15 x16 x17 x2 : Value} (H : BR W A m c V d l q s1 s2 L w' x9 x10 x11 x12 x13 x14 x15 x16 x17 x2) {z : Value} (k : z = Stp.sg A m c V m d) : BR W A m c V d l q s1 s2 (fun j => j == 0 || L j) w' z x10 x11 x12 x13 x14 x15 x16 x17 x2 := ⟨H.b, fun _ => k, H.f1, H.f2, H.f3, H.f4, H.f5, H.f6, H.f7, H.f8, H.f9⟩
theorem BR.s1 {W : World} {A : Option Addr} {m c : Nat} {V : Option Addr} {d : Nat} {l : List Sc} {q : Nat} {s1 s2 : Int} {L : Nat → Bool} {w' : World} {x9 x10 x11 x12 x13 x14 x15 x16 x17 x2 : Value} (H : BR W A m c V d l q s1 s2 L w' x9 x10 x11 x12 x13 x14 x15 x16 x17 x2) {z : Value} (k : z = .pointer (some ⟨q, 1, none⟩)) : BR W A m c V d l q s1 s2 (fun j => j == 1 || L j) w' x9 z x11 x12 x13 x14 x15 x16 x17 x2 := ⟨H.b, H.f0, fun _ => k, H.f2, H.f3, H.f4, H.f5, H.f6, H.f7, H.f8, H.f9⟩
theorem BR.s2 {W : World} {A : Option Addr} {m c : Nat} {V : Option Addr} {d : Nat} {l : List Sc} {q : Nat} {s1 s2 : Int} {L : Nat → Bool} {w' : World} {x9 x10 x11 x12 x13 x14 x15 x16 x17 x2 : Value} (H : BR W A m c V d l q s1 s2 L w' x9 x10 x11 x12 x13 x14 x15 x16 x17 x2) {z : Value} (k : z = .int .i64 s2) : BR W A m c V d l q s1 s2 (fun j => j == 2 || L j) w' x9 x10 z x12 x13 x14 x15 x16 x17 x2 := ⟨H.b, H.f0, H.f1, fun _ => k, H.f3, H.f4, H.f5, H.f6, H.f7, H.f8, H.f9⟩
theorem BR.s3 {W : World} {A : Option Addr} {m c : Nat} {V : Option Addr} {d : Nat} {l : List Sc} {q : Nat} {s1 s2 : Int} {L : Nat → Bool} {w' : World} {x9 x10 x11 x12 x13 x14 x15 x16 x17 x2 : Value} (H : BR W A m c V d l q s1 s2 L w' x9 x10 x11 x12 x13 x14 x15 x16 x17 x2) {z : Value} (k : ern l s2 ≤ 4000000000000000000 ∧ z = .int .i64 (hf (ern l s2))) : BR W A m c V d l q s1 s2 (fun j => j == 3 || L j) w' x9 x10 x11 z x13 x14 x15 x16 x17 x2 := ⟨H.b, H.f0, H.f1, H.f2, fun _ => k, H.f4, H.f5, H.f6, H.f7, H.f8, H.f9⟩
theorem BR.s4 {W : World} {A : Option Addr} {m c : Nat} {V : Option Addr} {d : Nat} {l : List Sc} {q : Nat} {s1 s2 : Int} {L : Nat → Bool} {w' : World} {x9 x10 x11 x12 x13 x14 x15 x16 x17 x2 : Value} (H : BR W A m c V d l q s1 s2 L w' x9 x10 x11 x12 x13 x14 x15 x16 x17 x2) {z : Value} (k : z = Stp.sg A m c V m d) : BR W A m c V d l q s1 s2 (fun j => j == 4 || L j) w' x9 x10 x11 x12 z x14 x15 x16 x17 x2 := ⟨H.b, H.f0, H.f1, H.f2, H.f3, fun _ => k, H.f5, H.f6, H.f7, H.f8, H.f9⟩
theorem BR.s5 {W : World} {A : Option Addr} {m c : Nat} {V : Option Addr} {d : Nat} {l : List Sc} {q : Nat} {s1 s2 : Int} {L : Nat → Bool} {w' : World} {x9 x10 x11 x12 x13 x14 x15 x16 x17 x2 : Value} (H : BR W A m c V d l q s1 s2 L w' x9 x10 x11 x12 x13 x14 x15 x16 x17 x2) {z : Value} (k : z = .pointer (some ⟨q, 0, none⟩)) : BR W A m c V d l q s1 s2 (fun j => j == 5 || L j) w' x9 x10 x11 x12 x13 z x15 x16 x17 x2 := ⟨H.b, H.f0, H.f1, H.f2, H.f3, H.f4, fun _ => k, H.f6, H.f7, H.f8, H.f9⟩
theorem BR.s6 {W : World} {A : Option Addr} {m c : Nat} {V : Option Addr} {d : Nat} {l : List Sc} {q : Nat} {s1 s2 : Int} {L : Nat → Bool} {w' : World} {x9 x10 x11 x12 x13 x14 x15 x16 x17 x2 : Value} (H : BR W A m c V d l q s1 s2 L w' x9 x10 x11 x12 x13 x14 x15 x16 x17 x2) {z : Value} (k : z = .int .i64 s1) : BR W A m c V d l q s1 s2 (fun j => j == 6 || L j) w' x9 x10 x11 x12 x13 x14 z x16 x17 x2 := ⟨H.b, H.f0, H.f1, H.f2, H.f3, H.f4, H.f5, fun _ => k, H.f7, H.f8, H.f9⟩
theorem BR.s7 {W : World} {A : Option Addr} {m c : Nat} {V : Option Addr} {d : Nat} {l : List Sc} {q : Nat} {s1 s2 : Int} {L : Nat → Bool} {w' : World} {x9 x10 x11 x12 x13 x14 x15 x16 x17 x2 : Value} (H : BR W A m c V d l q s1 s2 L w' x9 x10 x11 x12 x13 x14 x15 x16 x17 x2) {z : Value} (k : ern l s2 ≤ 4000000000000000000 ∧ z = .int .i64 (hf (ern l s1))) : BR W A m c V d l q s1 s2 (fun j => j == 7 || L j) w' x9 x10 x11 x12 x13 x14 x15 z x17 x2 := ⟨H.b, H.f0, H.f1, H.f2, H.f3, H.f4, H.f5, H.f6, fun _ => k, H.f8, H.f9⟩
theorem BR.s8 {W : World} {A : Option Addr} {m c : Nat} {V : Option Addr} {d : Nat} {l : List Sc} {q : Nat} {s1 s2 : Int} {L : Nat → Bool} {w' : World} {x9 x10 x11 x12 x13 x14 x15 x16 x17 x2 : Value} (H : BR W A m c V d l q s1 s2 L w' x9 x10 x11 x12 x13 x14 x15 x16 x17 x2) {z : Value} (k : ern l s2 ≤ 4000000000000000000 ∧ z = .int .i64 (hf (ern l s2) - hf (ern l s1))) : BR W A m c V d l q s1 s2 (fun j => j == 8 || L j) w' x9 x10 x11 x12 x13 x14 x15 x16 z x2 := ⟨H.b, H.f0, H.f1, H.f2, H.f3, H.f4, H.f5, H.f6, H.f7, fun _ => k, H.f9⟩
theorem BR.s9 {W : World} {A : Option Addr} {m c : Nat} {V : Option Addr} {d : Nat} {l : List Sc} {q : Nat} {s1 s2 : Int} {L : Nat → Bool} {w' : World} {x9 x10 x11 x12 x13 x14 x15 x16 x17 x2 : Value} (H : BR W A m c V d l q s1 s2 L w' x9 x10 x11 x12 x13 x14 x15 x16 x17 x2) {z : Value} (k : ern l s2 ≤ 4000000000000000000 ∧ z = .int .i64 (hf (ern l s2) - hf (ern l s1))) : BR W A m c V d l q s1 s2 (fun j => j == 9 || L j) w' x9 x10 x11 x12 x13 x14 x15 x16 x17 z := ⟨H.b, H.f0, H.f1, H.f2, H.f3, H.f4, H.f5, H.f6, H.f7, H.f8, fun _ => k⟩
set_option maxRecDepth 100000 in
set_option maxHeartbeats 4000000 in
theorem between1 (p q : Nat) (A : Option Addr) (n c0 : Nat) (rs : List Rw) (s1 s2 : Int) (W : World) (hp : Bx W p 22 #[.slice A n c0]) (hq : Bx W q 30 #[.int .i64 s1, .int .i64 s2]) (G : Raws W (· < W.heap.size) A n rs) (hn : n ≤ 1100) (hd : (-9223372036854775808 ≤ s1 ∧ s1 ≤ 9223372036854775807) ∧ (-9223372036854775808 ≤ s2 ∧ s2 ≤ 9223372036854775807)) :
    Calls Try.prog 21 #[.pointer (some ⟨p, 0, none⟩), .pointer (some ⟨q, 0, none⟩)] W (UcTo W (btv (rs.map Rw.v) (s1, s2)) (btc (rs.map Rw.v) (s1, s2))) := by
  have HP := Lib.hid hp
  have HQ := Lib.hid hq
  have HG := Lib.hid G
  have HN := Lib.hid hn
  have HD := Lib.hid hd
  have CC := Lib.hid (curve_ A n c0 rs W G hn)
  have CS := fun w => Lib.hid (span_right (s1, s2) w)
  clear G hn hd
  obtain ⟨l, hl⟩ : ∃ l, rs.map Rw.v = l := ⟨_, rfl⟩
  rw [hl] at CC ⊢
  clear hl
  have p0 := hp.c 0
  simp at p0
  clear hp hq
  go_enter Try.func21, Try.ntmps21
  go_wp2_with fail
  refine CC.out.mono ?_
  rintro e w1 (⟨hm, A2, c2, V2, d2, ps, rfl, hO, hC, hl, hb⟩ | ⟨hm, rfl, hb⟩)
  rotate_left
  · go_wp2
    exact ⟨rfl, .inr ⟨by rw [btc_no hm]; decide, by rw [btc_no hm]⟩, hb⟩
  obtain ⟨m, hm2⟩ : ∃ m, ps.length = m := ⟨_, rfl⟩
  rw [hm2] at hO hl ⊢
  clear hm2 CC p0
  have HMY := Lib.hid hm
  have HM := Lib.hid hl
  have HC := Lib.hid hC
  have HB1 := Lib.hid hb
  obtain ⟨W2, hW2⟩ : ∃ W2, w1.alloc (.cells #[.slice A2 m c2, .slice V2 m d2] 38) = W2 := ⟨_, rfl⟩
  have hb2 : Below w1.heap.size w1 W2 := hW2 ▸ alloc_ _ _
  have HS2 := Lib.hid (show Stp.Sr W2 W2.heap.size A2 V2 m ps from Stp.Sr.keep_ hO.sx hb2)
  have HF2 := Lib.hid (show Stp.Bx W2 w1.heap.size 38 (.slice A2 m c2) (.slice V2 m d2) from hW2 ▸ Stp.Bx.new w1 _ _ _)
  have HB2 := Lib.hid (hb.trans (hb2.mono hb.size))
  have HW2 := Lib.hid hW2
  have HQ2 := Lib.hid (HQ.out.below HB2.out HQ.out.lt)
  have q0 := HQ2.out.c 0
  have q1 := HQ2.out.c 1
  simp at q0 q1
  clear hm hl hC hb hb2 hW2 hO
  go_upto_region 2 with fail
  rw [HW2.out]
  obtain ⟨g, hg⟩ : ∃ g, w1.heap.size = g := ⟨_, rfl⟩
  rw [hg] at HF2 ⊢
  clear hg HW2
  go_wp2_with fail
  refine (CS _).out.mono ?_
  rintro e W3 ⟨rfl, hb⟩
  have HB3 := Lib.hid (HB2.out.trans (hb.mono HB2.out.size))
  have HQ3 := Lib.hid (HQ2.out.keep hb)
  have HF := Lib.hid (HF2.out.keep hb)
  have HST := Lib.hid (HS2.out.keep_ hb)
  clear hb CS q0 q1
  cases hrt : rt (s1, s2)
  · have CN := fun w => Lib.hid (need_no 1 w)
    go_wp2_with fail
    refine (CN _).out.mono ?_
    rintro e' w' ⟨rfl, rfl⟩
    go_wp2
    exact ⟨rfl, .inr ⟨by rw [btc_rt HMY.out hrt]; decide, by rw [btc_rt HMY.out hrt]⟩, HB3.out⟩
  have HRT := Lib.hid hrt
  have CN := fun w => Lib.hid (need_yes 1 w)
  clear hrt
  go_upto_region 3 with (go_at_call 22; refine (CN _).out.mono ?_; rintro e w' ⟨rfl, rfl⟩)
  refine wp_region_steps (fun L_ a_ w_ => ∃ (x9 x10 x11 x12 x13 x14 x15 x16 x17 x2 : Value), a_ = { tmps := #[.pointer (some ⟨p, 0, none⟩), .pointer (some ⟨q, 0, none⟩), x2, .pointer (some ⟨g, 0, none⟩), .slice A n c0, .agg #[.slice A2 m c2, .slice V2 m d2], .agg #[.int .i64 s1, .int .i64 s2], .bool true, .tuple #[], x9, x10, x11, x12, x13, x14, x15, x16, x17], defers := [] } ∧ Hid (BR W3 A2 m c2 V2 d2 l q s1 s2 L_ w_ x9 x10 x11 x12 x13 x14 x15 x16 x17 x2)) (by kernel_rfl) (by kernel_rfl) ?_ (AllSteps.cons ?_ (AllSteps.cons ?_ (AllSteps.cons ?_ (AllSteps.cons ?_ (AllSteps.cons ?_ (AllSteps.cons ?_ (AllSteps.cons ?_ (AllSteps.cons ?_ (AllSteps.cons ?_ (AllSteps.cons ?_ AllSteps.nil)))))))))) ?_
  · exact ⟨_, _, _, _, _, _, _, _, _, _, rfl, Lib.hid ⟨⟨rfl, rfl, rfl, Nat.le_refl _, fun _ _ => rfl⟩, (fun h => by cases h), (fun h => by cases h), (fun h => by cases h), (fun h => by cases h), (fun h => by cases h), (fun h => by cases h), (fun h => by cases h), (fun h => by cases h), (fun h => by cases h), (fun h => by cases h)⟩⟩
  · rintro L_ a_ w_ hL hd ⟨x9, x10, x11, x12, x13, x14, x15, x16, x17, x2, rfl, HR⟩ K hK
    have c0 := (HF.out.below HR.out.b HF.out.lt).c0
    have c1 := (HF.out.below HR.out.b HF.out.lt).c1
    clear hd
    go_simp
    exact hK.out _ _ ⟨_, _, _, _, _, _, _, _, _, _, rfl, Lib.hid (HR.out.s0 rfl)⟩
  · rintro L_ a_ w_ hL hd ⟨x9, x10, x11, x12, x13, x14, x15, x16, x17, x2, rfl, HR⟩ K hK
    clear hd
    go_simp
    exact hK.out _ _ ⟨_, _, _, _, _, _, _, _, _, _, rfl, Lib.hid (HR.out.s1 rfl)⟩
  · rintro L_ a_ w_ hL hd ⟨x9, x10, x11, x12, x13, x14, x15, x16, x17, x2, rfl, HR⟩ K hK
    have e1 := HR.out.f1 (hd ⟨1, .data⟩ (by simp) rfl)
    subst e1
    have c0 := (HQ3.out.below HR.out.b HQ3.out.lt).c 1
    simp at c0
    clear hd
    go_simp
    exact hK.out _ _ ⟨_, _, _, _, _, _, _, _, _, _, rfl, Lib.hid (HR.out.s2 rfl)⟩
  · rintro L_ a_ w_ hL hd ⟨x9, x10, x11, x12, x13, x14, x15, x16, x17, x2, rfl, HR⟩ K hK
    have e0 := HR.out.f0 (hd ⟨0, .data⟩ (by simp) rfl)
    subst e0
    have e2 := HR.out.f2 (hd ⟨2, .data⟩ (by simp) rfl)
    subst e2
    clear hd
    go_simp
    refine (earned_ w_ A2 m c2 V2 d2 l ps s2 (HST.out.keep_ HR.out.b) HM.out HC.out (may_iff.1 HMY.out).2 (by have := HD.out; omega)).mono ?_
    rintro e w1 ⟨⟨hx, rfl⟩ | ⟨hx, rfl⟩, hb⟩
    rotate_left
    · exact ⟨rfl, .inr ⟨by rw [btc_over HMY.out HRT.out hx]; decide, by rw [btc_over HMY.out HRT.out hx]⟩, HB3.out.trans ((HR.out.b.trans (hb.mono HR.out.b.size)).mono HB3.out.size)⟩
    try go_simp
    exact hK.out _ _ ⟨_, _, _, _, _, _, _, _, _, _, rfl, Lib.hid ((HR.out.up hb).s3 ⟨hx, rfl⟩)⟩
  · rintro L_ a_ w_ hL hd ⟨x9, x10, x11, x12, x13, x14, x15, x16, x17, x2, rfl, HR⟩ K hK
    have c0 := (HF.out.below HR.out.b HF.out.lt).c0
    have c1 := (HF.out.below HR.out.b HF.out.lt).c1
    clear hd
    go_simp
    exact hK.out _ _ ⟨_, _, _, _, _, _, _, _, _, _, rfl, Lib.hid (HR.out.s4 rfl)⟩
  · rintro L_ a_ w_ hL hd ⟨x9, x10, x11, x12, x13, x14, x15, x16, x17, x2, rfl, HR⟩ K hK
    clear hd
    go_simp
    exact hK.out _ _ ⟨_, _, _, _, _, _, _, _, _, _, rfl, Lib.hid (HR.out.s5 rfl)⟩
  · rintro L_ a_ w_ hL hd ⟨x9, x10, x11, x12, x13, x14, x15, x16, x17, x2, rfl, HR⟩ K hK
    have e5 := HR.out.f5 (hd ⟨5, .data⟩ (by simp) rfl)
    subst e5
    have c0 := (HQ3.out.below HR.out.b HQ3.out.lt).c 0
    simp at c0
    clear hd
    go_simp
    exact hK.out _ _ ⟨_, _, _, _, _, _, _, _, _, _, rfl, Lib.hid (HR.out.s6 rfl)⟩
  · rintro L_ a_ w_ hL hd ⟨x9, x10, x11, x12, x13, x14, x15, x16, x17, x2, rfl, HR⟩ K hK
    have k3 := (HR.out.f3 (hd ⟨3, .chain⟩ (by simp) rfl)).1
    have e4 := HR.out.f4 (hd ⟨4, .data⟩ (by simp) rfl)
    subst e4
    have e6 := HR.out.f6 (hd ⟨6, .data⟩ (by simp) rfl)
    subst e6
    clear hd
    go_simp
    refine (earned_ w_ A2 m c2 V2 d2 l ps s1 (HST.out.keep_ HR.out.b) HM.out HC.out (may_iff.1 HMY.out).2 (by have := HD.out; omega)).mono ?_
    rintro e w1 ⟨⟨hx, rfl⟩ | ⟨hx, rfl⟩, hb⟩
    rotate_left
    · exact absurd (ern_mono (may_iff.1 HMY.out).2 ((rt_iff _).1 HRT.out).2.1) (by simp only; omega)
    try go_simp
    exact hK.out _ _ ⟨_, _, _, _, _, _, _, _, _, _, rfl, Lib.hid ((HR.out.up hb).s7 ⟨k3, rfl⟩)⟩
  · rintro L_ a_ w_ hL hd ⟨x9, x10, x11, x12, x13, x14, x15, x16, x17, x2, rfl, HR⟩ K hK
    obtain ⟨k3, e3⟩ := HR.out.f3 (hd ⟨3, .data⟩ (by simp) rfl)
    subst e3
    obtain ⟨_, e7⟩ := HR.out.f7 (hd ⟨7, .data⟩ (by simp) rfl)
    subst e7
    have hw := IntWalk.i64_in (hf (ern l s2) - hf (ern l s1)) (by have h1 := hf_inU (ern_nonneg (may_iff.1 HMY.out).2) k3; have h2 := hf_inU (ern_nonneg (may_iff.1 HMY.out).2) (Int.le_trans (ern_mono (may_iff.1 HMY.out).2 ((rt_iff (s1, s2)).1 HRT.out).2.1) k3); simp only at h2; omega)
    clear hd
    go_simp
    exact hK.out _ _ ⟨_, _, _, _, _, _, _, _, _, _, rfl, Lib.hid (HR.out.s8 ⟨k3, rfl⟩)⟩
  · rintro L_ a_ w_ hL hd ⟨x9, x10, x11, x12, x13, x14, x15, x16, x17, x2, rfl, HR⟩ K hK
    obtain ⟨k3, e8⟩ := HR.out.f8 (hd ⟨8, .data⟩ (by simp) rfl)
    subst e8
    clear hd
    go_simp
    exact hK.out _ _ ⟨_, _, _, _, _, _, _, _, _, _, rfl, Lib.hid (HR.out.s9 ⟨k3, rfl⟩)⟩
  rintro L_ a_ w_ hall ⟨x9, x10, x11, x12, x13, x14, x15, x16, x17, x2, rfl, HR⟩
  obtain ⟨k1, rfl⟩ := HR.out.f9 (hall 9 (by decide))
  dsimp only [Exit.then]
  go_wp2
  go_ret
  exact ⟨.inl ⟨(btc_yes HMY.out HRT.out k1).1, congrArg (fun z => Ending.returned (.int .i64 z)) (btc_yes HMY.out HRT.out k1).2.symm⟩, HB3.out.trans (HR.out.b.mono HB3.out.size)⟩

theorem answer_uc (k : FuncId) (cap : Array Value) (v c : Int) (w : World) (hen : ∀ args w, (callFunc k args).run Try.prog w = .ok (.enter k args) w) (h0 : c ≠ 0 → v = 0)
    (HC : Calls Try.prog k cap (w.alloc (.cells #[.int .i64 0] 24)) (UcTo (w.alloc (.cells #[.int .i64 0] 24)) v c)) :
    Calls Try.prog 17 #[.func (.func k) #[] cap] w fun e w' => e = .returned (.tuple #[.int .i64 v, .int .i64 c]) ∧ Below w.heap.size w w' := by
  have hs : (w.alloc (.cells #[.int .i64 0] 24)).heap.size = w.heap.size + 1 := World.size_alloc _ _
  by_cases hc : c = 0
  · subst hc
    refine answer_yes k cap v w hen (HC.mono ?_)
    rintro e w' ⟨⟨_, he⟩ | ⟨hn, _⟩, hb⟩
    · exact ⟨he, by rw [hs] at hb; exact hb⟩
    · exact absurd rfl hn
  · obtain rfl := h0 hc
    refine answer_no k cap c w hen (HC.mono ?_)
    rintro e w' ⟨⟨h, _⟩ | ⟨_, he⟩, hb⟩
    · exact absurd h hc
    · exact ⟨he, by rw [hs] at hb; exact hb⟩
theorem upv_no {l : List Sc} {d : Int} (h : upc l d ≠ 0) : upv l d = 0 := by unfold upv; rw [if_neg h]
theorem btv_no {l : List Sc} {z : Int × Int} (h : btc l z ≠ 0) : btv l z = 0 := by unfold btv; rw [if_neg h]
theorem enters_upto : ∀ args w, (callFunc 18 args).run Try.prog w = .ok (.enter 18 args) w := enters_of Try.func18 (by kernel_rfl) rfl
theorem enters_between : ∀ args w, (callFunc 21 args).run Try.prog w = .ok (.enter 21 args) w := enters_of Try.func21 (by kernel_rfl) rfl
theorem enters_curve : ∀ args w, (callFunc 26 args).run Try.prog w = .ok (.enter 26 args) w := enters_of Try.func26 (by kernel_rfl) rfl
set_option maxRecDepth 100000 in
set_option maxHeartbeats 4000000 in
theorem upto_ : UpC := by
  intro A n c rs d w S hn hf hd
  obtain ⟨W, hW⟩ : ∃ W, (w.alloc (.cells #[.slice A n c] 22)).alloc (.cells #[.int .i64 d] 3) = W := ⟨_, rfl⟩
  have hb : Below w.heap.size w W := hW ▸ ((Below.refl _ w).alloc (Nat.le_refl _) _).alloc (by simp) _
  have hp : Bx W w.heap.size 22 #[.slice A n c] := hW ▸ (Bx.new w _ _).alloc _
  have hq : Bx W (w.heap.size + 1) 3 #[.int .i64 d] := by
    have h := Bx.new (w.alloc (.cells #[.slice A n c] 22)) 3 #[.int .i64 d]
    rw [hW, World.size_alloc] at h
    exact h
  have hmf : ∀ (fn : Fn) (first cap : Array Value) (w : World), (Instr.makeFunc fn first cap).run Try.prog w = .ok (.func fn first cap) w := fun _ _ _ _ => rfl
  have hba := alloc_ W (.cells #[.int .i64 0] 24)
  have C := Lib.hid (answer_uc 18 #[.pointer (some ⟨w.heap.size, 0, none⟩), .pointer (some ⟨w.heap.size + 1, 0, none⟩)] (upv (rs.map Rw.v) d) (upc (rs.map Rw.v) d) W enters_upto upv_no (upto1 w.heap.size (w.heap.size + 1) A n c rs d _ (hp.alloc _) (hq.alloc _) ((S.below hb).below hba) hn hd))
  have HB := Lib.hid hb
  have HW := Lib.hid hW
  clear S hn hp hq hb hW hba hf hd
  obtain ⟨x, hx⟩ : ∃ x, upv (rs.map Rw.v) d = x := ⟨_, rfl⟩
  obtain ⟨y, hy⟩ : ∃ y, upc (rs.map Rw.v) d = y := ⟨_, rfl⟩
  rw [hx, hy] at C
  unfold UpTo
  rw [hx, hy]
  clear hx hy
  go_enter Try.func9, Try.ntmps9
  go_upto_region 1 with fail
  rw [HW.out]
  go_wp2_with fail
  refine C.out.mono ?_
  rintro e w1 ⟨rfl, hb⟩
  go_wp2
  go_ret2
  exact ⟨rfl, HB.out.trans (hb.mono HB.out.size)⟩
set_option maxRecDepth 100000 in
set_option maxHeartbeats 4000000 in
theorem between_ : BtC := by
  intro A n c rs s w S hn hf hd1 hd2
  obtain ⟨s1, s2⟩ := s
  simp only at hd1 hd2
  obtain ⟨W, hW⟩ : ∃ W, (w.alloc (.cells #[.slice A n c] 22)).alloc (.cells #[.int .i64 s1, .int .i64 s2] 30) = W := ⟨_, rfl⟩
  have hb : Below w.heap.size w W := hW ▸ ((Below.refl _ w).alloc (Nat.le_refl _) _).alloc (by simp) _
  have hp : Bx W w.heap.size 22 #[.slice A n c] := hW ▸ (Bx.new w _ _).alloc _
  have hq : Bx W (w.heap.size + 1) 30 #[.int .i64 s1, .int .i64 s2] := by
    have h := Bx.new (w.alloc (.cells #[.slice A n c] 22)) 30 #[.int .i64 s1, .int .i64 s2]
    rw [hW, World.size_alloc] at h
    exact h
  have hmf : ∀ (fn : Fn) (first cap : Array Value) (w : World), (Instr.makeFunc fn first cap).run Try.prog w = .ok (.func fn first cap) w := fun _ _ _ _ => rfl
  have hba := alloc_ W (.cells #[.int .i64 0] 24)
  have C := Lib.hid (answer_uc 21 #[.pointer (some ⟨w.heap.size, 0, none⟩), .pointer (some ⟨w.heap.size + 1, 0, none⟩)] (btv (rs.map Rw.v) (s1, s2)) (btc (rs.map Rw.v) (s1, s2)) W enters_between btv_no (between1 w.heap.size (w.heap.size + 1) A n c rs s1 s2 _ (hp.alloc _) (hq.alloc _) ((S.below hb).below hba) hn ⟨hd1, hd2⟩))
  have HB := Lib.hid hb
  have HW := Lib.hid hW
  clear S hn hp hq hb hW hba hf hd1 hd2
  obtain ⟨x, hx⟩ : ∃ x, btv (rs.map Rw.v) (s1, s2) = x := ⟨_, rfl⟩
  obtain ⟨y, hy⟩ : ∃ y, btc (rs.map Rw.v) (s1, s2) = y := ⟨_, rfl⟩
  rw [hx, hy] at C
  unfold BtTo
  rw [hx, hy]
  clear hx hy
  go_enter Try.func11, Try.ntmps11
  go_upto_region 1 with fail
  rw [HW.out]
  go_wp2_with fail
  refine C.out.mono ?_
  rintro e w1 ⟨rfl, hb⟩
  go_wp2
  go_ret2
  exact ⟨rfl, HB.out.trans (hb.mono HB.out.size)⟩
set_option maxRecDepth 100000 in
set_option maxHeartbeats 4000000 in
theorem written_ : WrC := by
  intro A n c rs w S hn hf
  have C := Lib.hid (upto_ A n c rs 292195 w S hn hf (by omega))
  clear S hn hf
  unfold UpTo at C ⊢
  obtain ⟨x, hx⟩ : ∃ x, upv (rs.map Rw.v) 292195 = x := ⟨_, rfl⟩
  obtain ⟨y, hy⟩ : ∃ y, upc (rs.map Rw.v) 292195 = y := ⟨_, rfl⟩
  rw [hx, hy] at C ⊢
  clear hx hy
  go_enter Try.func8, Try.ntmps8
  go_wp2_with fail
  refine C.out.mono ?_
  rintro e w1 ⟨rfl, hb⟩
  go_wp2
  go_ret2
  exact ⟨rfl, hb⟩
set_option maxRecDepth 100000 in
set_option maxHeartbeats 4000000 in
theorem curve11 (p : Nat) (A : Option Addr) (n c : Nat) (rs : List Rw) (W : World) (hp : Bx W p 22 #[.slice A n c]) (G : Raws W (· < W.heap.size) A n rs) (hn : n ≤ 1100) :
    Calls Try.prog 26 #[.pointer (some ⟨p, 0, none⟩)] W (CvTo W (rs.map Rw.v)) := by
  obtain ⟨W2, hW⟩ : ∃ W2, W.alloc (.cells #[.slice none 0 0, .slice none 0 0] 38) = W2 := ⟨_, rfl⟩
  have hb : Below W.heap.size W W2 := hW ▸ alloc_ _ _
  have hs : W2.heap.size = W.heap.size + 1 := by rw [← hW]; simp
  have HR := Lib.hid (show Stp.Bx W2 W.heap.size 38 (.slice none 0 0) (.slice none 0 0) from hW ▸ Stp.Bx.new W _ _ _)
  have C := Lib.hid (curve_ A n c rs W2 (G.below hb) hn)
  have c0 := (hp.keep hb).c 0
  simp at c0
  have HB := Lib.hid hb
  have HS := Lib.hid hs
  have HW := Lib.hid hW
  obtain ⟨l, hl⟩ : ∃ l, rs.map Rw.v = l := ⟨_, rfl⟩
  rw [hl] at C ⊢
  clear hl hp G hn hb hs hW
  go_enter Try.func26, Try.ntmps26
  go_upto_region 1 with fail
  rw [HW.out]
  go_wp2_with fail
  refine C.out.mono ?_
  rintro e w1 (⟨hm, A2, c2, V2, d2, ps, rfl, hO, hC, hl, hb⟩ | ⟨hm, rfl, hb⟩)
  · have hR := HR.out.below hb (by have := HS.out; omega)
    have g0 := hR.c0
    have g1 := hR.c1
    have g2 := hR.f 0
    have g3 := hR.f 1
    have Z := (hR.set0 (.slice A2 ps.length c2)).set1 (.slice V2 ps.length d2)
    have HO := Lib.hid hO
    have HB1 := Lib.hid (HB.out.trans (hb.mono HB.out.size))
    have HC := Lib.hid hC
    have HL := Lib.hid hl
    clear hO hb hC hl hR C c0
    go_wp2
    have hs := HS.out
    have O1 := HO.out.far (p := ⟨W.heap.size, 0, none⟩) (Stp.low_ne HO.out.a (by simp; omega)) (Stp.low_ne HO.out.v (by simp; omega)) (.slice A2 ps.length c2)
    have O2 := O1.far (p := ⟨W.heap.size, 1, none⟩) (Stp.low_ne O1.a (by simp; omega)) (Stp.low_ne O1.v (by simp; omega)) (.slice V2 ps.length d2)
    exact bodyPost_ret (v := Stp.sg A2 ps.length c2 V2 ps.length d2) (by simp [results, Try.results26, go_sem, Z.c0, Z.c1]) rfl (.inl ⟨hm, A2, c2, V2, d2, ps, rfl, O2.low (by omega), HC.out, HL.out, (HB1.out.setCell (by simp) _).setCell (by simp) _⟩)
  · go_wp2
    exact ⟨rfl, .inr ⟨hm, rfl, HB.out.trans (hb.mono HB.out.size)⟩⟩
set_option maxRecDepth 100000 in
set_option maxHeartbeats 4000000 in
theorem curveC : CuC := by
  intro A n c rs w S hn hf
  obtain ⟨W, hW⟩ : ∃ W, (w.alloc (.cells #[.slice A n c] 22)).alloc (.cells #[.slice none 0 0, .slice none 0 0] 38) = W := ⟨_, rfl⟩
  have hb : Below w.heap.size w W := hW ▸ ((Below.refl _ w).alloc (Nat.le_refl _) _).alloc (by simp) _
  have hs : W.heap.size = w.heap.size + 2 := by rw [← hW]; simp
  have hp : Bx W w.heap.size 22 #[.slice A n c] := hW ▸ (Bx.new w _ _).alloc _
  have hq : Stp.Bx W (w.heap.size + 1) 38 (.slice none 0 0) (.slice none 0 0) := by
    have h := Stp.Bx.new (w.alloc (.cells #[.slice A n c] 22)) 38 (.slice none 0 0) (.slice none 0 0)
    rw [hW, World.size_alloc] at h
    exact h
  have hmf : ∀ (fn : Fn) (first cap : Array Value) (w : World), (Instr.makeFunc fn first cap).run Try.prog w = .ok (.func fn first cap) w := fun _ _ _ _ => rfl
  have hba : Below W.heap.size W (anW W) := anW_below W
  have hsa : (anW W).heap.size = W.heap.size + 2 := by simp
  obtain ⟨l, hl⟩ : ∃ l, rs.map Rw.v = l := ⟨_, rfl⟩
  have CC := curve11 w.heap.size A n c rs (anW W) (hp.keep hba) ((S.below hb).below hba) hn
  rw [hl] at CC ⊢
  have HB := Lib.hid hb
  have HW := Lib.hid hW
  have HS := Lib.hid hs
  have HQ := Lib.hid hq
  cases hm : may l
  · have C := Lib.hid (answerS_no 26 #[.pointer (some ⟨w.heap.size, 0, none⟩)] 1 W enters_curve (CC.mono (by
      rintro e w' (⟨h, _⟩ | ⟨_, he, hb⟩)
      · rw [hm] at h; cases h
      · rw [hsa] at hb; exact ⟨he, hb⟩)))
    clear S hn hf hp hq hb hW hba hl CC hs hsa
    have HM := Lib.hid hm
    clear hm
    go_enter Try.func14, Try.ntmps14
    go_upto_region 1 with fail
    rw [HW.out]
    go_wp2_with fail
    refine C.out.mono ?_
    rintro e w1 ⟨rfl, hb⟩
    have hR := HQ.out.below hb (by have := HS.out; omega)
    have g0 := hR.c0
    have g1 := hR.c1
    have g2 := hR.f 0
    have g3 := hR.f 1
    have Z := (hR.set0 (.slice none 0 0)).set1 (.slice none 0 0)
    have HB1 := Lib.hid (HB.out.trans (hb.mono HB.out.size))
    clear hb hR C
    go_wp2
    exact bodyPost_ret (v := .tuple #[Stp.sg none 0 0 none 0 0, .int .i64 1]) (by simp [results, Try.results14, go_sem, Z.c0, Z.c1]) rfl ⟨none, 0, 0, none, 0, 1, rfl, by rw [HM.out]; rfl, (fun h => by rw [HM.out] at h; cases h), (HB1.out.setCell (by simp) _).setCell (by simp) _⟩
  · have C := Lib.hid (answerS_yes 26 #[.pointer (some ⟨w.heap.size, 0, none⟩)] W (fun A n c V d w1 => ∃ ps, Stp.OwnS w1 (W.heap.size + 2) A n c V n d (fst ps) (snd ps) ∧ n ≤ 10000 ∧ Crv l ps) (fun A n c V d w1 p u hp ⟨ps, hO, h1, h2⟩ => ⟨ps, hO.far (Stp.low_ne hO.a hp) (Stp.low_ne hO.v hp) u, h1, h2⟩) enters_curve (CC.mono (by
      rintro e w' (⟨_, A2, c2, V2, d2, ps, he, hO, hC, hl, hb⟩ | ⟨h, _⟩)
      · rw [hsa] at hb hO; exact ⟨A2, _, c2, V2, d2, he, ⟨ps, hO, hl, hC⟩, hb⟩
      · rw [hm] at h; cases h)))
    clear S hn hf hp hq hb hW hba hl CC hs hsa
    have HM := Lib.hid hm
    clear hm
    go_enter Try.func14, Try.ntmps14
    go_upto_region 1 with fail
    rw [HW.out]
    go_wp2_with fail
    refine C.out.mono ?_
    rintro e w1 ⟨A2, m, c2, V2, d2, rfl, ⟨ps, hO, hl, hC⟩, hb⟩
    have hR := HQ.out.below hb (by have := HS.out; omega)
    have g0 := hR.c0
    have g1 := hR.c1
    have g2 := hR.f 0
    have g3 := hR.f 1
    have Z := (hR.set0 (.slice A2 m c2)).set1 (.slice V2 m d2)
    have HB1 := Lib.hid (HB.out.trans (hb.mono HB.out.size))
    have HO := Lib.hid hO
    have HC := Lib.hid hC
    have HL := Lib.hid hl
    clear hb hR C hO hC hl
    go_wp2
    have hs := HS.out
    have O1 := HO.out.far (p := ⟨w.heap.size + 1, 0, none⟩) (Stp.low_ne HO.out.a (by simp; omega)) (Stp.low_ne HO.out.v (by simp; omega)) (.slice A2 m c2)
    have O2 := O1.far (p := ⟨w.heap.size + 1, 1, none⟩) (Stp.low_ne O1.a (by simp; omega)) (Stp.low_ne O1.v (by simp; omega)) (.slice V2 m d2)
    exact bodyPost_ret (v := .tuple #[Stp.sg A2 m c2 V2 m d2, .int .i64 0]) (by simp [results, Try.results14, go_sem, Z.c0, Z.c1]) rfl ⟨A2, m, c2, V2, d2, 0, rfl, by rw [HM.out]; rfl, (fun h => ⟨ps, O2.sx, HL.out, HC.out⟩), (HB1.out.setCell (by simp) _).setCell (by simp) _⟩

end Acr
end Go.Proofs.Ytjmbccdcnmmhgaa
