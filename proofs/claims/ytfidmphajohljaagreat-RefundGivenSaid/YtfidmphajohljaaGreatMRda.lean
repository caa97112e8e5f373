/-
  The parts Rf, Rm, R15e, R15c, R15p, R15m, R15a of this proof. Conditions: those of each theorem.
-/
import Derived.Test.YtfidmphajohljaaGreatHq
import Derived.Test.YtfidmphajohljaaGreatKAcP
import Derived.Test.YtfidmphajohljaaGreatKNu
import Derived.Test.YtfidmphajohljaaGreatMOb
import Derived.Test.YtfidmphajohljaaGreatMAcB
import Derived.Test.YtfidmphajohljaaGreatKChP
import Derived.Test.YtfidmphajohljaaGreatKInv
import Derived.Test.YtfidmphajohljaaGreatMFw
set_option maxRecDepth 100000
set_option maxHeartbeats 4000000
set_option linter.unusedVariables false
namespace Go.Proofs.YtfidmphajohljaaGreat
open Go.RowKit Ba Cv Sp Te Ag Tf Sl Tm Slc
namespace Rfd
def tk (c : Ch) : Bool := decide (c.kd = 3 ∨ c.kd = 4)
def sh (c : Ch) : Bool := decide (c.kd = 3 ∧ c.wy = 1)
def chg (hs : List Ch) (z : Int) : Ch := (hs[z.toNat]?).getD zch
def lt (hs : List Ch) (o : List Int) : Option Int := (o.filter fun z => tk (chg hs z)).getLast?
def wo (h : Hi) (z : Int) : Hi := ⟨h.id, h.bk, h.s, h.r, h.cs, h.hs.eraseIdx z.toNat⟩
def wi (h : Hi) (c : Ch) : Hi := ⟨h.id, h.bk, h.s, h.r, h.cs, h.hs ++ [c]⟩
def kq (ss : List Sc) (s : Int × Int) (v k : Int) : Prop := if Acr.btc ss s = 0 then v = Num.evV (Acr.btv ss s) 1000 10000 ∧ k = Num.evE (Acr.btv ss s) 1000 10000 else v = 0 ∧ k = Acr.btc ss s
theorem kq_one {ss : List Sc} {s : Int × Int} {v k v2 k2 : Int} (h : kq ss s v k) (g : kq ss s v2 k2) : v = v2 ∧ k = k2 := by
 unfold kq at h g; split at h
 ·rename_i e
  rw [if_pos e] at g; exact ⟨h.1.trans g.1.symm, h.2.trans g.2.symm⟩
 ·rename_i e
  rw [if_neg e] at g; exact ⟨h.1.trans g.1.symm, h.2.trans g.2.symm⟩
inductive KpIs (h : Hi) (vs : List Ve) (v k : Int) : Prop where
 | bad (ss : List Sc) (c : Int) (h0 : OfIs h vs c ss) (h1 : c ≠ 0) (h2 : v = 0) (h3 : k = c)
 | none (ss : List Sc) (h0 : OfIs h vs 0 ss) (o : List Int) (ho : Ag.Ord h.hs o) (h1 : ∀ z, lt h.hs o = some z → sh (chg h.hs z) = false) (h2 : v = 0) (h3 : k = 0)
 | some (ss : List Sc) (h0 : OfIs h vs 0 ss) (o : List Int) (ho : Ag.Ord h.hs o) (z : Int) (hz : lt h.hs o = some z) (h1 : sh (chg h.hs z) = true) (s2 : List Sc) (c : Int) (h2 : OfIs (wo h z) vs c s2) (h3 : c ≠ 0 → v = 0 ∧ k = c) (h4 : c = 0 → kq s2 ((chg h.hs z).dy, h.s.2) v k)
section
variable {h : Hi} {vs : List Ve} {v k v2 k2 : Int}
theorem KpIs.one (H : KpIs h vs v k) (K : KpIs h vs v2 k2) : v = v2 ∧ k = k2 := by
 cases H with
 | bad ss c h0 h1 h2 h3 =>
  cases K with
  | bad ss' c' k0 k1 k2 k3 => exact ⟨h2.trans k2.symm, h3.trans ((h0.one k0).1.trans k3.symm)⟩
  | none ss' k0 _ _ _ _ _ => exact absurd (h0.one k0).1 h1
  | some ss' k0 _ _ _ _ _ _ _ _ _ _ => exact absurd (h0.one k0).1 h1
 | none ss h0 o ho h1 h2 h3 =>
  cases K with
  | bad ss' c' k0 k1 k2 k3 => exact absurd (k0.one h0).1 k1
  | none ss' k0 _ _ _ k2 k3 => exact ⟨h2.trans k2.symm, h3.trans k3.symm⟩
  | some ss' k0 o' ko z hz k1 s2 c k2 k3 k4 =>
   obtain rfl : o = o' := St.Good.one ho ko; have := h1 z hz; rw [k1] at this; cases this
 | some ss h0 o ho z hz h1 s2 c h2 h3 h4 =>
  cases K with
  | bad ss' c' k0 k1 k2 k3 => exact absurd (k0.one h0).1 k1
  | none ss' k0 o' ko k1 k2 k3 =>
   obtain rfl : o = o' := St.Good.one ho ko; have := k1 z hz; rw [h1] at this; cases this
  | some ss' k0 o' ko z' hz' k1 s2' c' k2 k3 k4 =>
   obtain rfl : o = o' := St.Good.one ho ko; obtain rfl : z = z' := Option.some.inj (hz.symm.trans hz'); obtain ⟨rfl, rfl⟩ := h2.one k2; by_cases hc : c = 0
   ·exact kq_one (h4 hc) (k4 hc)
   ·exact ⟨(h3 hc).1.trans (k3 hc).1.symm, (h3 hc).2.trans (k3 hc).2.symm⟩
end
def dq (ss : List Sc) (a v k : Int) : Prop := if Acr.upc ss 292195 = 0 then (if Acr.upv ss 292195 + a ≤ 4000000000000000000 then v = Acr.upv ss 292195 + a ∧ k = 0 else v = 0 ∧ k = 5) else v = 0 ∧ k = Acr.upc ss 292195
theorem dq_one {ss : List Sc} {a v k v2 k2 : Int} (h : dq ss a v k) (g : dq ss a v2 k2) : v = v2 ∧ k = k2 := by
 unfold dq at h g; split at h
 ·rename_i e
  rw [if_pos e] at g; split at h
  ·rename_i e
   rw [if_pos e] at g; exact ⟨h.1.trans g.1.symm, h.2.trans g.2.symm⟩
  ·rename_i e
   rw [if_neg e] at g; exact ⟨h.1.trans g.1.symm, h.2.trans g.2.symm⟩
 ·rename_i e
  rw [if_neg e] at g; exact ⟨h.1.trans g.1.symm, h.2.trans g.2.symm⟩
structure DuIs (h : Hi) (vs : List Ve) (v k : Int) : Prop where
 is : ∃ a c, KpIs h vs a c ∧ (c ≠ 0 → v = 0 ∧ k = c) ∧ (c = 0 → ∃ ss, OfIs h vs 0 ss ∧ dq ss a v k)
theorem DuIs.one {h : Hi} {vs : List Ve} {v k v2 k2 : Int} (H : DuIs h vs v k) (K : DuIs h vs v2 k2) : v = v2 ∧ k = k2 := by
 obtain ⟨a, c, h0, h1, h2⟩ := H.is; obtain ⟨a', c', k0, k1, k2⟩ := K.is; obtain ⟨rfl, rfl⟩ := h0.one k0; by_cases hc : c = 0
 ·obtain ⟨ss, e1, e2⟩ := h2 hc; obtain ⟨ss', f1, f2⟩ := k2 hc; obtain ⟨_, rfl⟩ := e1.one f1; exact dq_one e2 f2
 ·exact ⟨(h1 hc).1.trans (k1 hc).1.symm, (h1 hc).2.trans (k1 hc).2.symm⟩
structure GiIs (h : Hi) (vs : List Ve) (c : Ch) (v k : Int) : Prop where
 no : Ag.code h.s h.bk h.hs c ≠ 0 → v = 0 ∧ k = Ag.code h.s h.bk h.hs c
 yes : Ag.code h.s h.bk h.hs c = 0 → ∃ a x, DuIs h vs a x ∧ (x ≠ 0 → v = 0 ∧ k = x) ∧ (x = 0 → ∃ b y, DuIs (wi h c) vs b y ∧ (y ≠ 0 → v = 0 ∧ k = y) ∧ (y = 0 → v = a - b ∧ k = 0))
theorem GiIs.one {h : Hi} {vs : List Ve} {c : Ch} {v k v2 k2 : Int} (H : GiIs h vs c v k) (K : GiIs h vs c v2 k2) : v = v2 ∧ k = k2 := by
 by_cases hc : Ag.code h.s h.bk h.hs c = 0
 ·obtain ⟨a, x, h0, h1, h2⟩ := H.yes hc; obtain ⟨a', x', k0, k1, k2⟩ := K.yes hc; obtain ⟨rfl, rfl⟩ := h0.one k0; by_cases hx : x = 0
  ·obtain ⟨b, y, e0, e1, e2⟩ := h2 hx; obtain ⟨b', y', f0, f1, f2⟩ := k2 hx; obtain ⟨rfl, rfl⟩ := e0.one f0; by_cases hy : y = 0
   ·exact ⟨(e2 hy).1.trans (f2 hy).1.symm, (e2 hy).2.trans (f2 hy).2.symm⟩
   ·exact ⟨(e1 hy).1.trans (f1 hy).1.symm, (e1 hy).2.trans (f1 hy).2.symm⟩
  ·exact ⟨(h1 hx).1.trans (k1 hx).1.symm, (h1 hx).2.trans (k1 hx).2.symm⟩
 ·exact ⟨(H.no hc).1.trans (K.no hc).1.symm, (H.no hc).2.trans (K.no hc).2.symm⟩
theorem DuIs.zero {h : Hi} {vs : List Ve} {v k : Int} (H : DuIs h vs v k) (hk : k ≠ 0) : v = 0 := by
 obtain ⟨a, c, h0, h1, h2⟩ := H.is; by_cases hc : c = 0
 ·obtain ⟨ss, e1, e2⟩ := h2 hc; unfold dq at e2; split at e2
  ·split at e2
   ·exact absurd e2.2 hk
   ·exact e2.1
  ·exact e2.1
 ·exact (h1 hc).1
theorem bp_bd {x : Int} (h0 : 0 ≤ x) (h1 : x ≤ 4000000000000000000) : Num.evE x 1000 10000 = 0 ∧ 0 ≤ Num.evV x 1000 10000 ∧ Num.evV x 1000 10000 ≤ x / 10 + 1 := by
 obtain ⟨n, rfl⟩ := Int.eq_ofNat_of_zero_le h0
 have hq : Num.quo Num.nearB n 1000 10000 ≤ n / 10 + 1 := by
  unfold Num.quo; rw [show n * 1000 / 10000 = n / 10 by omega]; split <;> omega
 unfold Num.evE Num.evV; rw [show (1000 : Int) = ((1000 : Nat) : Int) from rfl, show (10000 : Int) = ((10000 : Nat) : Int) from rfl, Num.nums_ok (by omega) (by omega)]; exact ⟨rfl, by simp only; omega, by simp only; omega⟩
theorem least {h : Hi} {vs : List Ve} {d : Int} (D : DuIs h vs d 0) : ∃ a ss, KpIs h vs a 0 ∧ OfIs h vs 0 ss ∧ Acr.upc ss 292195 = 0 ∧ d = Acr.upv ss 292195 + a ∧ 0 ≤ a ∧ (a ≠ 0 → ∃ o z s2, Ag.Ord h.hs o ∧ lt h.hs o = some z ∧ OfIs (wo h z) vs 0 s2 ∧ Acr.upc s2 292195 = 0 ∧ a ≤ Acr.upv s2 292195 / 10 + 1) := by
 obtain ⟨a, c, g0, g1, g2⟩ := D.is
 have hc : c = 0 := by
  by_cases hc : c = 0
  ·exact hc
  ·exact absurd (g1 hc).2.symm hc
 subst hc; obtain ⟨ss, e1, e2⟩ := g2 rfl; clear g1 g2; unfold dq at e2; split at e2
 ·rename_i eu
  split at e2
  ·refine ⟨a, ss, g0, e1, eu, e2.1, ?_⟩; cases g0 with
   | bad ss c h0 h1 h2 h3 => exact absurd h3.symm h1
   | none ss h0 o ho h1 h2 h3 => exact ⟨by omega, fun ha => absurd h2 ha⟩
   | some ss' h0 o ho z hz h1 s2 c h2 h3 h4 =>
    by_cases hc : c = 0
    ·have hk := h4 hc; subst hc; unfold kq at hk; split at hk
     ·rename_i eb
      obtain ⟨rfl, _⟩ := hk; have hb := Acr.btc_may eb; have hsp := hrt_span h2.ok.1; have hen := Acr.policy_ends h2 hb.1; have hu := Acr.upc_may hb.2.2; have hT : Acr.ern s2 h.s.2 = Acr.ern s2 292195 := hen.2; have hu2 : Acr.upc s2 292195 = 0 := Acr.upc_ok hb.1 (by rw [← hT]; exact hu.2); have hr := (Acr.may_iff.1 hb.1).2; have hv := Acr.btv_ok eb; have h5 := Acr.hf_mono (Acr.ern_mono hr ((rt_iff _).1 hb.2.1).2.1); have h6 : 0 ≤ Acr.hf (Acr.ern s2 (chg h.hs z).dy) := by rw [← Acr.hf_zero]; exact Acr.hf_mono (Acr.ern_nonneg hr)
      have h7 : Acr.hf (Acr.ern s2 h.s.2) = Acr.upv s2 292195 := by rw [Acr.upv_ok hu2, hT]
      simp only at hv h5
      have h8 : Acr.upv s2 292195 ≤ 4000000000000000000 := by
       rw [Acr.upv_ok hu2]; have := (Acr.upc_may hu2).2; have := Acr.ern_nonneg hr (d := 292195); unfold Acr.hf; omega
      obtain ⟨_, b2, b3⟩ := bp_bd (x := Acr.btv s2 ((chg h.hs z).dy, h.s.2)) (by omega) (by omega); exact ⟨b2, fun _ => ⟨o, z, s2, ho, hz, h2, hu2, by omega⟩⟩
     ·rename_i eb
      exact absurd hk.2.symm eb
    ·exact absurd (h3 hc).2.symm hc
  ·omega
 ·rename_i eu
  exact absurd e2.2.symm eu
theorem chg_mem {hs : List Ch} {z : Int} (h0 : 0 ≤ z) (h1 : z < hs.length) : chg hs z ∈ hs := by
 unfold chg; rw [List.getElem?_eq_getElem (by omega)]; exact List.getElem_mem _
end Rfd
end Go.Proofs.YtfidmphajohljaaGreat
namespace Go.Proofs.YtfidmphajohljaaGreat
open Go.RowKit Ba Cv Sp Te Ag Tf Sl Tm
open Slc (OfIs OfTo Sls O2)
namespace Rfd
def tv (q : Option Int) : Int := q.getD (-1)
def ltk (hs : List Ch) (o : List Int) (k : Nat) : Option Int := lt hs (o.take k)
theorem ltk_more {hs : List Ch} {o : List Int} {k : Nat} {z : Int} (h : o[k]? = some z) : ltk hs o (k + 1) = if tk (chg hs z) = true then some z else ltk hs o k := by
 unfold ltk lt; rw [Stm.take_more h, List.filter_append]; split
 ·rename_i e
  rw [show List.filter (fun z => tk (chg hs z)) [z] = [z] by simp [e], List.getLast?_append]; rfl
 ·rename_i e
  rw [show List.filter (fun z => tk (chg hs z)) [z] = [] by simp [e], List.append_nil]
theorem ltk_all {hs : List Ch} {o : List Int} {k : Nat} (h : o.length ≤ k) : ltk hs o k = lt hs o := by unfold ltk; rw [List.take_of_length_le h]
theorem er_map {α β : Type} (f : α → β) : ∀ (l : List α) (k : Nat), (l.eraseIdx k).map f = (l.map f).eraseIdx k
 | [], _ => rfl
 | _ :: _, 0 => rfl
 | x :: l, k + 1 => congrArg (f x :: ·) (er_map f l k)
def WoTo (w : World) (h : Hr) (j : Nat) (e : Ending) (w' : World) : Prop := ∃ k : Hr, e = .returned (hg k) ∧ k.v = wo h.v (j : Int) ∧ HM w' (· < w'.heap.size) k ∧ HS k ∧ k.m ≤ h.m ∧ (k.n = h.n ∧ ∀ r ∈ k.rs, r ∈ h.rs) ∧ Below w.heap.size w w'
theorem lt_at {hs : List Ch} {o : List Int} (H : Ag.Ord hs o) {z : Int} (h : lt hs o = some z) : 0 ≤ z ∧ z < hs.length := by
 unfold lt at h; exact ord_at H (List.mem_filter.1 (List.mem_of_getLast? h)).1
theorem bt_bd {l : List Sc} {s : Int × Int} (h : Acr.btc l s = 0) : -9223372036854775808 ≤ Acr.btv l s ∧ Acr.btv l s ≤ 9223372036854775807 := by
 cases hm : Acr.may l
 ·rw [Acr.btc_no (z := s) hm] at h; cases h
 cases hr : rt s
 ·rw [Acr.btc_rt hm hr] at h; cases h
 rw [Acr.btv_ok h]; rw [Acr.btc_ok hm hr] at h; have hup := (Acr.upc_may h).2; have hle := Acr.ern_mono (Acr.may_iff.1 hm).2 ((rt_iff s).1 hr).2.1; have b1 := Acr.hf_inU (Acr.ern_nonneg (Acr.may_iff.1 hm).2 (d := s.2)) hup; have b2 := Acr.hf_inU (Acr.ern_nonneg (Acr.may_iff.1 hm).2 (d := s.1)) (by omega); omega
def KpTo (w : World) (h : Hi) (vs : List Ve) (e : Ending) (w' : World) : Prop := ∃ v k, e = .returned (.tuple #[.int .i64 v, .int .i64 k]) ∧ KpIs h vs v k ∧ Below w.heap.size w w'
def ext0 (v : Value) : Value := match v with | .tuple xs => xs[0]! | _ => v
def ext1 (v : Value) : Value := match v with | .tuple xs => xs[1]! | _ => v
structure Arg (w : World) (h : Hr) (T : Option Addr) (nt : Nat) (vs : List Trf.Rw) : Prop where
 m : HM w (· < w.heap.size) h
 s : HS h
 hm : h.m ≤ 100
 hn : h.n ≤ 1000 ∧ ∀ r ∈ h.rs, r.n ≤ 1000
 v : Trf.Vers w T nt vs
 hv : nt ≤ 1000
theorem Arg.below {w w' : World} {h : Hr} {T : Option Addr} {nt : Nat} {vs : List Trf.Rw} (H : Arg w h T nt vs) (hb : Below w.heap.size w w') : Arg w' h T nt vs := ⟨H.m.below hb, H.s, H.hm, H.hn, H.v.below hb, H.hv⟩
structure K7 (w : World) (h : Hr) (T : Option Addr) (nt ct j : Nat) (vs : List Ve) (L : Nat → Bool) (w' : World) (v45 v46 v47 v48 v49 v44 v50 v51 v9 v10 : Value) : Prop where
 o : O2 w w' h T nt ct
 f0 : L 0 = true → v45 = hg h
 f1 : L 1 = true → v46 = .int .i64 (j : Int)
 f2 : L 2 = true → ∃ k : Hr, v47 = hg k ∧ k.v = wo h.v (j : Int) ∧ HM w' (· < w'.heap.size) k ∧ HS k ∧ k.m ≤ h.m ∧ (k.n = h.n ∧ ∀ r ∈ k.rs, r ∈ h.rs)
 f3 : L 3 = true → v48 = Trf.tg T nt ct
 f4 : L 4 = true → ∃ A n c rs code, v49 = .tuple #[.slice A n c, .int .i64 code] ∧ Sls w' A n rs ∧ n ≤ 1100 ∧ n ≤ c ∧ OfIs (wo h.v (j : Int)) vs code (rs.map Slc.Rw.v)
 f5 : L 5 = true → v44 = v49
 f6 : L 6 = true → v50 = ext0 v49
 f7 : L 7 = true → v51 = ext1 v49
 f8 : L 8 = true → v9 = ext0 v49
 f9 : L 9 = true → v10 = ext1 v49
 d5_4 : L 5 = true → L 4 = true
 d6_4 : L 6 = true → L 4 = true
 d7_4 : L 7 = true → L 4 = true
 d8_4 : L 8 = true → L 4 = true
 d9_4 : L 9 = true → L 4 = true
section
variable {w : World} {h : Hr} {T : Option Addr} {nt ct j : Nat} {vs : List Ve} {L : Nat → Bool} {w' w2 : World} {v45 v46 v47 v48 v49 v44 v50 v51 v9 v10 : Value}
theorem K7.up (H : K7 w h T nt ct j vs L w' v45 v46 v47 v48 v49 v44 v50 v51 v9 v10) (hb : Below w'.heap.size w' w2) : K7 w h T nt ct j vs L w2 v45 v46 v47 v48 v49 v44 v50 v51 v9 v10 :=
 ⟨H.o.next hb, H.f0, H.f1, (fun l => by obtain ⟨k, e, a, b, c⟩ := H.f2 l; exact ⟨k, e, a, b.below hb, c⟩), H.f3, (fun l => by obtain ⟨A, n, c, rs, code, e, a, b⟩ := H.f4 l; exact ⟨A, n, c, rs, code, e, a.below hb, b⟩), H.f5, H.f6, H.f7, H.f8, H.f9, H.d5_4, H.d6_4, H.d7_4, H.d8_4, H.d9_4⟩
theorem K7.s0 (H : K7 w h T nt ct j vs L w' v45 v46 v47 v48 v49 v44 v50 v51 v9 v10) {z : Value} (k : z = hg h) : K7 w h T nt ct j vs (fun j => j == 0 || L j) w' z v46 v47 v48 v49 v44 v50 v51 v9 v10 := ⟨H.o, fun _ => k, H.f1, H.f2, H.f3, H.f4, H.f5, H.f6, H.f7, H.f8, H.f9, H.d5_4, H.d6_4, H.d7_4, H.d8_4, H.d9_4⟩
theorem K7.s1 (H : K7 w h T nt ct j vs L w' v45 v46 v47 v48 v49 v44 v50 v51 v9 v10) {z : Value} (k : z = .int .i64 (j : Int)) : K7 w h T nt ct j vs (fun j => j == 1 || L j) w' v45 z v47 v48 v49 v44 v50 v51 v9 v10 := ⟨H.o, H.f0, fun _ => k, H.f2, H.f3, H.f4, H.f5, H.f6, H.f7, H.f8, H.f9, H.d5_4, H.d6_4, H.d7_4, H.d8_4, H.d9_4⟩
theorem K7.s2 (H : K7 w h T nt ct j vs L w' v45 v46 v47 v48 v49 v44 v50 v51 v9 v10) {z : Value} (k : ∃ k : Hr, z = hg k ∧ k.v = wo h.v (j : Int) ∧ HM w' (· < w'.heap.size) k ∧ HS k ∧ k.m ≤ h.m ∧ (k.n = h.n ∧ ∀ r ∈ k.rs, r ∈ h.rs)) : K7 w h T nt ct j vs (fun j => j == 2 || L j) w' v45 v46 z v48 v49 v44 v50 v51 v9 v10 := ⟨H.o, H.f0, H.f1, fun _ => k, H.f3, H.f4, H.f5, H.f6, H.f7, H.f8, H.f9, H.d5_4, H.d6_4, H.d7_4, H.d8_4, H.d9_4⟩
theorem K7.s3 (H : K7 w h T nt ct j vs L w' v45 v46 v47 v48 v49 v44 v50 v51 v9 v10) {z : Value} (k : z = Trf.tg T nt ct) : K7 w h T nt ct j vs (fun j => j == 3 || L j) w' v45 v46 v47 z v49 v44 v50 v51 v9 v10 := ⟨H.o, H.f0, H.f1, H.f2, fun _ => k, H.f4, H.f5, H.f6, H.f7, H.f8, H.f9, H.d5_4, H.d6_4, H.d7_4, H.d8_4, H.d9_4⟩
theorem K7.s4 (H : K7 w h T nt ct j vs L w' v45 v46 v47 v48 v49 v44 v50 v51 v9 v10) {z : Value} (k : ∃ A n c rs code, z = .tuple #[.slice A n c, .int .i64 code] ∧ Sls w' A n rs ∧ n ≤ 1100 ∧ n ≤ c ∧ OfIs (wo h.v (j : Int)) vs code (rs.map Slc.Rw.v)) (hf : L 4 = false) : K7 w h T nt ct j vs (fun j => j == 4 || L j) w' v45 v46 v47 v48 z v44 v50 v51 v9 v10 := ⟨H.o, H.f0, H.f1, H.f2, H.f3, fun _ => k, fun l => absurd (H.d5_4 l) (by rw [hf]; decide), fun l => absurd (H.d6_4 l) (by rw [hf]; decide), fun l => absurd (H.d7_4 l) (by rw [hf]; decide), fun l => absurd (H.d8_4 l) (by rw [hf]; decide), fun l => absurd (H.d9_4 l) (by rw [hf]; decide), fun _ => rfl, fun _ => rfl, fun _ => rfl, fun _ => rfl, fun _ => rfl⟩
theorem K7.s5 (H : K7 w h T nt ct j vs L w' v45 v46 v47 v48 v49 v44 v50 v51 v9 v10) {z : Value} (k : z = v49) (d5_45 : L 4 = true) : K7 w h T nt ct j vs (fun j => j == 5 || L j) w' v45 v46 v47 v48 v49 z v50 v51 v9 v10 := ⟨H.o, H.f0, H.f1, H.f2, H.f3, H.f4, fun _ => k, H.f6, H.f7, H.f8, H.f9, fun _ => d5_45, H.d6_4, H.d7_4, H.d8_4, H.d9_4⟩
theorem K7.s6 (H : K7 w h T nt ct j vs L w' v45 v46 v47 v48 v49 v44 v50 v51 v9 v10) {z : Value} (k : z = ext0 v49) (d6_46 : L 4 = true) : K7 w h T nt ct j vs (fun j => j == 6 || L j) w' v45 v46 v47 v48 v49 v44 z v51 v9 v10 := ⟨H.o, H.f0, H.f1, H.f2, H.f3, H.f4, H.f5, fun _ => k, H.f7, H.f8, H.f9, H.d5_4, fun _ => d6_46, H.d7_4, H.d8_4, H.d9_4⟩
theorem K7.s7 (H : K7 w h T nt ct j vs L w' v45 v46 v47 v48 v49 v44 v50 v51 v9 v10) {z : Value} (k : z = ext1 v49) (d7_47 : L 4 = true) : K7 w h T nt ct j vs (fun j => j == 7 || L j) w' v45 v46 v47 v48 v49 v44 v50 z v9 v10 := ⟨H.o, H.f0, H.f1, H.f2, H.f3, H.f4, H.f5, H.f6, fun _ => k, H.f8, H.f9, H.d5_4, H.d6_4, fun _ => d7_47, H.d8_4, H.d9_4⟩
theorem K7.s8 (H : K7 w h T nt ct j vs L w' v45 v46 v47 v48 v49 v44 v50 v51 v9 v10) {z : Value} (k : z = ext0 v49) (d8_48 : L 4 = true) : K7 w h T nt ct j vs (fun j => j == 8 || L j) w' v45 v46 v47 v48 v49 v44 v50 v51 z v10 := ⟨H.o, H.f0, H.f1, H.f2, H.f3, H.f4, H.f5, H.f6, H.f7, fun _ => k, H.f9, H.d5_4, H.d6_4, H.d7_4, fun _ => d8_48, H.d9_4⟩
theorem K7.s9 (H : K7 w h T nt ct j vs L w' v45 v46 v47 v48 v49 v44 v50 v51 v9 v10) {z : Value} (k : z = ext1 v49) (d9_49 : L 4 = true) : K7 w h T nt ct j vs (fun j => j == 9 || L j) w' v45 v46 v47 v48 v49 v44 v50 v51 v9 z := ⟨H.o, H.f0, H.f1, H.f2, H.f3, H.f4, H.f5, H.f6, H.f7, H.f8, fun _ => k, H.d5_4, H.d6_4, H.d7_4, H.d8_4, fun _ => d9_49⟩
end
theorem bt_bd2 {l : List Sc} {s : Int × Int} (h : Acr.btc l s = 0) : 0 ≤ Acr.btv l s ∧ Acr.btv l s ≤ 10958904109589042 := by
 cases hm : Acr.may l
 ·rw [Acr.btc_no (z := s) hm] at h; cases h
 cases hr : rt s
 ·rw [Acr.btc_rt hm hr] at h; cases h
 rw [Acr.btv_ok h]; rw [Acr.btc_ok hm hr] at h; have hup := (Acr.upc_may h).2; have hle := Acr.ern_mono (Acr.may_iff.1 hm).2 ((rt_iff s).1 hr).2.1; have b1 := Acr.hf_inU (Acr.ern_nonneg (Acr.may_iff.1 hm).2 (d := s.2)) hup; have b2 := Acr.hf_inU (Acr.ern_nonneg (Acr.may_iff.1 hm).2 (d := s.1)) (by omega); unfold Acr.hf at b1 b2 ⊢; omega
theorem up_bd {l : List Sc} {d : Int} (h : Acr.upc l d = 0) : 0 ≤ Acr.upv l d ∧ Acr.upv l d ≤ 10958904109589042 := by
 obtain ⟨hm, hup⟩ := Acr.upc_may h; rw [Acr.upv_ok h]; exact Acr.hf_inU (Acr.ern_nonneg (Acr.may_iff.1 hm).2 (d := d)) hup
theorem KpIs.bd {h : Hi} {vs : List Ve} {v k : Int} (H : KpIs h vs v k) : 0 ≤ v ∧ v ≤ 10958904109589042 := by
 cases H with
 | bad ss c h0 h1 h2 h3 => omega
 | none ss h0 o ho h1 h2 h3 => omega
 | some ss h0 o ho z hz h1 s2 c h2 h3 h4 =>
  by_cases hc : c = 0
  ·have := h4 hc; unfold kq at this; split at this
   ·rename_i e
    obtain ⟨b1, b2⟩ := bt_bd2 e; obtain ⟨_, c1, c2⟩ := bp_bd b1 (by omega); rw [this.1]; omega
   ·omega
  ·have := h3 hc; omega
theorem KpIs.of {h : Hi} {vs : List Ve} {v : Int} (H : KpIs h vs v 0) : ∃ ss, OfIs h vs 0 ss := by
 cases H with
 | bad ss c h0 h1 h2 h3 => exact absurd h3.symm h1
 | none ss h0 o ho h1 h2 h3 => exact ⟨ss, h0⟩
 | some ss h0 o ho z hz h1 s2 c h2 h3 h4 => exact ⟨ss, h0⟩
def DuTo (w : World) (h : Hi) (vs : List Ve) (e : Ending) (w' : World) : Prop := ∃ v k, e = .returned (.tuple #[.int .i64 v, .int .i64 k]) ∧ DuIs h vs v k ∧ Below w.heap.size w w'
structure G3 (w W : World) (h : Hr) (T : Option Addr) (n c : Nat) (r : Rw) : Prop where
 b : Below w.heap.size w W
 x : Bx W w.heap.size 31 (hc h)
 y : Bx W (w.heap.size + 1) 34 #[.slice T n c]
 z : Bx W (w.heap.size + 2) 41 (vc r)
theorem G3.next {w W W' : World} {h : Hr} {T : Option Addr} {n c : Nat} {r : Rw} (H : G3 w W h T n c r) (hb : Below W.heap.size W W') : G3 w W' h T n c r := ⟨H.b.trans (hb.mono H.b.size), H.x.keep hb, H.y.keep hb, H.z.keep hb⟩
theorem G3.start (w : World) (h : Hr) (T : Option Addr) (n c : Nat) (r : Rw) : G3 w (((w.alloc (.cells (hc h) 31)).alloc (.cells #[.slice T n c] 34)).alloc (.cells (vc r) 41)) h T n c r := by
 refine ⟨((alloc_ _ _).alloc (by simp) _).alloc (by simp; omega) _, ((Bx.new _ _ _).alloc _).alloc _, ?_, ?_⟩
 ·have := (Bx.new (w.alloc (.cells (hc h) 31)) 34 #[.slice T n c]).alloc (.cells (vc r) 41); rw [World.size_alloc] at this; exact this
 ·have := Bx.new ((w.alloc (.cells (hc h) 31)).alloc (.cells #[.slice T n c] 34)) 41 (vc r); rw [World.size_alloc, World.size_alloc] at this; exact this
theorem Arg.of {w : World} {k : Hr} {T : Option Addr} {nt : Nat} {vs : List Trf.Rw} (M : HM w (· < w.heap.size) k) (S : HS k) (V : Trf.Vers w T nt vs) (hv : nt ≤ 1000) (h1 : k.v.hs.length ≤ 100) (h2 : k.v.cs.length ≤ 1000) (h3 : ∀ c ∈ k.v.hs, c.cs.length ≤ 1000) : Arg w k T nt vs :=
 ⟨M, S, by rw [← M.len]; exact h1, ⟨by rw [← M.t.1]; exact h2, fun r hr => by rw [← (M.k r hr).1]; exact h3 _ (List.mem_map.2 ⟨r, hr, rfl⟩)⟩, V, hv⟩
def GiTo (w : World) (h : Hi) (vs : List Ve) (c : Ch) (e : Ending) (w' : World) : Prop := ∃ v k, e = .returned (.tuple #[.int .i64 v, .int .i64 k]) ∧ GiIs h vs c v k ∧ Below w.heap.size w w'
theorem DuIs.zz {h : Hi} {vs : List Ve} {v k : Int} (H : DuIs h vs v k) : 0 ≤ v ∧ v ≤ 4000000000000000000 := by
 obtain ⟨a, c, h0, h1, h2⟩ := H.is; by_cases hc : c = 0
 ·obtain ⟨ss, e1, e2⟩ := h2 hc; have := h0.bd; unfold dq at e2; split at e2
  ·rename_i e
   have := up_bd e; split at e2 <;> omega
  ·omega
 ·have := h1 hc; omega
end Rfd
end Go.Proofs.YtfidmphajohljaaGreat
namespace Go.Proofs.YtfidmphajohljaaGreat
open Go.RowKit Ba Cv Sp Te Ag Tf Sl Tm
namespace Rfd
def blk (v : Value) : Nat := match v with | .pointer (some a) => a.block | _ => 0
/-- Put called, its result taken apart, a box made, the history stored, the code. -/
structure Pc (D : Nat) (hv : Hi) (cd : Int) (lc lm l0 l1 la ls lz : Bool) (w' : World) (t m a b p c : Value) : Prop where
  tc : lc = true → ∃ (k : Hr) (B E : Nat), t = .tuple #[hg k, .int .i64 cd] ∧ k.v = hv ∧ HM w' (fun x => B ≤ x ∧ x < E) k ∧ HS k ∧ E ≤ w'.heap.size ∧ (la = true → blk p < B ∨ E ≤ blk p)
  tm : lm = true → lc = true ∧ m = t
  t0 : l0 = true → lc = true ∧ a = ext0 t
  t1 : l1 = true → lc = true ∧ b = ext1 t
  tp : la = true → p = .pointer (some ⟨blk p, 0, none⟩) ∧ D ≤ blk p ∧ blk p < w'.heap.size ∧ (ls = false → Bx w' (blk p) 31 zhc)
  ts : ls = true → la = true ∧ lc = true ∧ ∃ xs : Array Value, ext0 t = .agg xs ∧ Bx w' (blk p) 31 xs
  tz : lz = true → lc = true ∧ c = ext1 t
section
variable {D : Nat} {hv : Hi} {cd : Int} {lc lm l0 l1 la ls lz : Bool} {w' w2 : World} {t m a b p c z : Value}
theorem Pc.start (D : Nat) (hv : Hi) (cd : Int) (w' : World) (t m a b p c : Value) : Pc D hv cd false false false false false false false w' t m a b p c :=
  ⟨(fun h => by cases h), (fun h => by cases h), (fun h => by cases h), (fun h => by cases h), (fun h => by cases h), (fun h => by cases h), (fun h => by cases h)⟩
theorem hm_wide {w w2 : World} {B E : Nat} {k : Hr} (H : HM w (fun x => B ≤ x ∧ x < E) k) (hE : E ≤ w.heap.size) (hb : Below w.heap.size w w2) : HM w2 (fun x => B ≤ x ∧ x < E) k :=
  H.keep (fun q hq => hb.cell (Nat.lt_of_lt_of_le hq.2 hE)) fun _ h => h
theorem Pc.up (H : Pc D hv cd lc lm l0 l1 la ls lz w' t m a b p c) (hb : Below w'.heap.size w' w2) : Pc D hv cd lc lm l0 l1 la ls lz w2 t m a b p c :=
  ⟨fun l => by obtain ⟨k, B, E, e, h1, h2, h3, h4, h5⟩ := H.tc l; exact ⟨k, B, E, e, h1, hm_wide h2 h4 hb, h3, Nat.le_trans h4 hb.size, h5⟩, H.tm, H.t0, H.t1,
   fun l => by obtain ⟨e, h1, h2, h3⟩ := H.tp l; exact ⟨e, h1, Nat.lt_of_lt_of_le h2 hb.size, fun q => (h3 q).keep hb⟩,
   fun l => by obtain ⟨e, h1, xs, h2, h3⟩ := H.ts l; exact ⟨e, h1, xs, h2, h3.keep hb⟩, H.tz⟩
theorem Pc.call (H : Pc D hv cd lc lm l0 l1 la ls lz w' t m a b p c) (hc0 : lc = false) {k : Hr} (hk : k.v = hv) (hm : HM w2 (fun x => w'.heap.size ≤ x ∧ x < w2.heap.size) k) (hs : HS k) (hb : Below w'.heap.size w' w2) : Pc D hv cd true lm l0 l1 la ls lz w2 (.tuple #[hg k, .int .i64 cd]) m a b p c := by
  have q := fun l => (H.tp l).2.2.1
  have H := H.up hb
  subst hc0
  exact ⟨fun _ => ⟨k, w'.heap.size, w2.heap.size, rfl, hk, hm, hs, Nat.le_refl _, fun l => .inl (q l)⟩, (fun l => by cases (H.tm l).1), (fun l => by cases (H.t0 l).1), (fun l => by cases (H.t1 l).1), H.tp, (fun l => by cases (H.ts l).2.1), (fun l => by cases (H.tz l).1)⟩
theorem Pc.move (H : Pc D hv cd lc lm l0 l1 la ls lz w' t m a b p c) (h : lc = true) : Pc D hv cd lc true l0 l1 la ls lz w' t t a b p c := ⟨H.tc, fun _ => ⟨h, rfl⟩, H.t0, H.t1, H.tp, H.ts, H.tz⟩
theorem Pc.fst (H : Pc D hv cd lc lm l0 l1 la ls lz w' t m a b p c) (h : lc = true) (e : z = ext0 t) : Pc D hv cd lc lm true l1 la ls lz w' t m z b p c := ⟨H.tc, H.tm, fun _ => ⟨h, e⟩, H.t1, H.tp, H.ts, H.tz⟩
theorem Pc.snd (H : Pc D hv cd lc lm l0 l1 la ls lz w' t m a b p c) (h : lc = true) (e : z = ext1 t) : Pc D hv cd lc lm l0 true la ls lz w' t m a z p c := ⟨H.tc, H.tm, H.t0, fun _ => ⟨h, e⟩, H.tp, H.ts, H.tz⟩
theorem Pc.code (H : Pc D hv cd lc lm l0 l1 la ls lz w' t m a b p c) (h : lc = true) (e : z = ext1 t) : Pc D hv cd lc lm l0 l1 la ls true w' t m a b p z := ⟨H.tc, H.tm, H.t0, H.t1, H.tp, H.ts, fun _ => ⟨h, e⟩⟩
theorem Pc.made (H : Pc D hv cd lc lm l0 l1 la ls lz w' t m a b p c) (ha : la = false) (hD : D ≤ w'.heap.size) : Pc D hv cd lc lm l0 l1 true ls lz (w'.alloc (.cells zhc 31)) t m a b (.pointer (some ⟨w'.heap.size, 0, none⟩)) c := by
  have q := fun l => (H.tc l)
  have H := H.up (alloc_ w' (.cells zhc 31))
  subst ha
  refine ⟨fun l => ?_, H.tm, H.t0, H.t1, fun _ => ⟨rfl, hD, by show w'.heap.size < _; simp, fun _ => Bx.new w' _ _⟩, (fun l => by cases (H.ts l).1), H.tz⟩
  obtain ⟨k, B, E, e, h1, h2, h3, h4, _⟩ := H.tc l
  obtain ⟨k2, B2, E2, e2, j1, j2, j3, j4, _⟩ := q l
  exact ⟨k2, B2, E2, e2, j1, hm_wide j2 j4 (alloc_ _ _), j3, Nat.le_trans j4 (alloc_ w' (.cells zhc 31)).size, fun _ => .inr j4⟩
theorem Pc.store (H : Pc D hv cd lc lm l0 l1 la ls lz w' t m a b p c) (hs : ls = false) (ha : la = true) (hc0 : lc = true) {k : Hr} (hk : ext0 t = hg k) : Pc D hv cd lc lm l0 l1 la true lz (puth (blk p) k w') t m a b p c := by
  obtain ⟨e, h1, h2, h3⟩ := H.tp ha
  have hset : ∀ g, g ≠ blk p → (puth (blk p) k w').heap[g]? = w'.heap[g]? := fun g hg => sets_heap _ hg 0 w'
  have hsz : (puth (blk p) k w').heap.size = w'.heap.size := sets_size _ 0 w'
  refine ⟨fun l => ?_, H.tm, H.t0, H.t1, fun l => ⟨e, h1, by rw [hsz]; exact h2, (fun q => by cases q)⟩, fun _ => ⟨ha, hc0, hc k, hk, Bx.puth (h' := zhr) (h3 hs) k⟩, H.tz⟩
  obtain ⟨k2, B, E, j0, j1, j2, j3, j4, j5⟩ := H.tc l
  refine ⟨k2, B, E, j0, j1, j2.keep (fun q hq => ?_) (fun _ h => h), j3, by rw [hsz]; exact j4, j5⟩
  refine sets_other _ ?_ 0 w'
  intro he
  rw [he] at hq
  have := j5 ha
  omega
/-- When all is done. -/
theorem Pc.fin (H : Pc D hv cd true true true true true true true w' t m a b p c) : ∃ (k : Hr) (q : Nat), t = .tuple #[hg k, .int .i64 cd] ∧ m = .tuple #[hg k, .int .i64 cd] ∧ a = hg k ∧ b = .int .i64 cd ∧ p = .pointer (some ⟨q, 0, none⟩) ∧ c = .int .i64 cd ∧ D ≤ q ∧ q < w'.heap.size ∧ Bx w' q 31 (hc k) ∧ k.v = hv ∧ HM w' (· < w'.heap.size) k ∧ HS k := by
  obtain ⟨k, B, E, rfl, h1, h2, h3, h4, _⟩ := H.tc rfl
  obtain ⟨e, g1, g2, _⟩ := H.tp rfl
  obtain ⟨_, _, xs, x1, x2⟩ := H.ts rfl
  have hx : hc k = xs := by
    have : hg k = .agg xs := x1
    injection this
  subst hx
  exact ⟨k, blk p, rfl, (H.tm rfl).2, (H.t0 rfl).2, (H.t1 rfl).2, e, (H.tz rfl).2, g1, g2, x2, h1, h2.keep (fun _ _ => rfl) fun _ hq => Nat.lt_of_lt_of_le hq.2 h4, h3⟩
end
end Rfd
end Go.Proofs.YtfidmphajohljaaGreat
namespace Go.Proofs.YtfidmphajohljaaGreat
open Go.RowKit Ba Cv Sp Te Ag Tf Sl Tm
namespace Slc
abbrev co2 : Co := ⟨1, 10, 10, 0, 10000⟩
abbrev ri2 : Ri := ⟨0, 36500, 0, 0⟩
abbrev kV : Ve := ⟨1, 10000, 0, 0, 0, [], [10000], [10000, 10000, 10000, 10000, 10000, 10000, 10000, 10000], 0⟩
abbrev kR (s : Nat) : Trf.Rw := ⟨kV, none, 0, 0, some ⟨s + 1 + 1, 0, none⟩, 1, 1, some ⟨s + 1 + 1 + 1, 0, none⟩, 8, 8⟩
abbrev hiP : Hi := ⟨1, 1, (1, 101), ri2, [co2], []⟩
abbrev hrP (A : Option Addr) : Hr := ⟨1, 1, (1, 101), ri2, A, 1, 1, [co2], none, 0, 0, []⟩
theorem cvs_one {w : World} {b : Nat} {c : Co} (h : Bx w b 88 (cc c)) (ok : Nat → Prop) (hb : ok b) : Cvs w ok (some ⟨b, 0, none⟩) 1 [c] := by
 refine ⟨rfl, fun _ => ⟨_, rfl, hb, fun j x hj => ?_⟩⟩
 match j, hj with
 | 0, hj => simp at hj; subst hj; rw [Addr.add_lit]; exact ⟨h.c 0, h.c 1, h.c 2, h.c 3, h.c 4⟩
theorem ins_row {w : World} {b : Nat} {xs : List Int} (h : Bx w b 3 (xs.map (Value.int .i64)).toArray) (ok : Nat → Prop) (hb : ok b) : Trf.Ins w ok (some ⟨b, 0, none⟩) xs.length xs :=
 ⟨rfl, fun _ => ⟨_, rfl, hb, fun j x hj => by
  rw [Addr.add_lit, Nat.zero_add]; have := h.c j; rw [this]; simp [hj]⟩⟩
structure P8 (w W : World) : Prop where
 b : Below w.heap.size w W
 s : W.heap.size = w.heap.size + 7
 x0 : Bx W (w.heap.size) 31 (hc zhr)
 x1 : Bx W (w.heap.size + 1) 34 #[.slice none 0 0]
 x2 : Bx W (w.heap.size + 1 + 1) 3 #[.int .i64 10000]
 x3 : Bx W (w.heap.size + 1 + 1 + 1) 3 #[.int .i64 10000, .int .i64 10000, .int .i64 10000, .int .i64 10000, .int .i64 10000, .int .i64 10000, .int .i64 10000, .int .i64 10000]
 x4 : Bx W (w.heap.size + 1 + 1 + 1 + 1) 65 (Trf.vc (kR w.heap.size))
 x5 : Bx W (w.heap.size + 1 + 1 + 1 + 1 + 1) 88 (cc co2)
 x6 : Bx W (w.heap.size + 1 + 1 + 1 + 1 + 1 + 1) 31 (hc (hrP (some ⟨w.heap.size + 1 + 1 + 1 + 1 + 1, 0, none⟩)))
theorem P8.start (w : World) : P8 w (((((((w.alloc (.cells (hc zhr) 31)).alloc (.cells #[.slice none 0 0] 34)).alloc (.cells #[.int .i64 10000] 3)).alloc (.cells #[.int .i64 10000, .int .i64 10000, .int .i64 10000, .int .i64 10000, .int .i64 10000, .int .i64 10000, .int .i64 10000, .int .i64 10000] 3)).alloc (.cells (Trf.vc (kR w.heap.size)) 65)).alloc (.cells (cc co2) 88)).alloc (.cells (hc (hrP (some ⟨w.heap.size + 1 + 1 + 1 + 1 + 1, 0, none⟩))) 31)) := by
 have h0 := Bx.new w 31 (hc zhr); have h1 := Bx.new (w.alloc (.cells (hc zhr) 31)) 34 #[.slice none 0 0]; have h2 := Bx.new ((w.alloc (.cells (hc zhr) 31)).alloc (.cells #[.slice none 0 0] 34)) 3 #[.int .i64 10000]; have h3 := Bx.new (((w.alloc (.cells (hc zhr) 31)).alloc (.cells #[.slice none 0 0] 34)).alloc (.cells #[.int .i64 10000] 3)) 3 #[.int .i64 10000, .int .i64 10000, .int .i64 10000, .int .i64 10000, .int .i64 10000, .int .i64 10000, .int .i64 10000, .int .i64 10000]; have h4 := Bx.new ((((w.alloc (.cells (hc zhr) 31)).alloc (.cells #[.slice none 0 0] 34)).alloc (.cells #[.int .i64 10000] 3)).alloc (.cells #[.int .i64 10000, .int .i64 10000, .int .i64 10000, .int .i64 10000, .int .i64 10000, .int .i64 10000, .int .i64 10000, .int .i64 10000] 3)) 65 (Trf.vc (kR w.heap.size)); have h5 := Bx.new (((((w.alloc (.cells (hc zhr) 31)).alloc (.cells #[.slice none 0 0] 34)).alloc (.cells #[.int .i64 10000] 3)).alloc (.cells #[.int .i64 10000, .int .i64 10000, .int .i64 10000, .int .i64 10000, .int .i64 10000, .int .i64 10000, .int .i64 10000, .int .i64 10000] 3)).alloc (.cells (Trf.vc (kR w.heap.size)) 65)) 88 (cc co2); have h6 := Bx.new ((((((w.alloc (.cells (hc zhr) 31)).alloc (.cells #[.slice none 0 0] 34)).alloc (.cells #[.int .i64 10000] 3)).alloc (.cells #[.int .i64 10000, .int .i64 10000, .int .i64 10000, .int .i64 10000, .int .i64 10000, .int .i64 10000, .int .i64 10000, .int .i64 10000] 3)).alloc (.cells (Trf.vc (kR w.heap.size)) 65)).alloc (.cells (cc co2) 88)) 31 (hc (hrP (some ⟨w.heap.size + 1 + 1 + 1 + 1 + 1, 0, none⟩))); simp only [World.size_alloc] at h1 h2 h3 h4 h5 h6; refine ⟨((((((alloc_ _ _).alloc (by simp; try omega) _).alloc (by simp; try omega) _).alloc (by simp; try omega) _).alloc (by simp; try omega) _).alloc (by simp; try omega) _).alloc (by simp; try omega) _, by simp, ((((((h0).alloc _).alloc _).alloc _).alloc _).alloc _).alloc _, (((((h1).alloc _).alloc _).alloc _).alloc _).alloc _, ((((h2).alloc _).alloc _).alloc _).alloc _, (((h3).alloc _).alloc _).alloc _, ((h4).alloc _).alloc _, (h5).alloc _, h6⟩
structure K8 (w W : World) (L : Nat → Bool) (w' : World) (v14 v15 v16 v17 : Value) : Prop where
 b : Below w.heap.size w w'
 s : W.heap.size ≤ w'.heap.size
 p : ∀ k, w.heap.size + 2 ≤ k → k < W.heap.size → w'.heap[k]? = W.heap[k]?
 q : w.heap.size + 2 ≤ W.heap.size
 r0 : L 4 = false → Bx w' w.heap.size 31 (hc zhr)
 r1 : L 5 = false → Bx w' (w.heap.size + 1) 34 #[.slice none 0 0]
 f0 : L 0 = true → v14 = hg (hrP (some ⟨w.heap.size + 1 + 1 + 1 + 1 + 1, 0, none⟩))
 f1 : L 1 = true → v15 = Trf.vg (kR w.heap.size)
 f2 : L 2 = true → ∃ g, v16 = .slice (some ⟨g, 0, none⟩) 1 1 ∧ W.heap.size ≤ g ∧ Bx w' g 65 (Trf.vc (kR w.heap.size))
 f3 : L 3 = true → v17 = .agg #[v16]
 f4 : L 4 = true → Bx w' w.heap.size 31 (hc (hrP (some ⟨w.heap.size + 1 + 1 + 1 + 1 + 1, 0, none⟩)))
 f5 : L 5 = true → Bx w' (w.heap.size + 1) 34 #[v16]
 d3_2 : L 3 = true → L 2 = true
 d5_2 : L 5 = true → L 2 = true
section
variable {w W : World} {L : Nat → Bool} {w' w2 : World} {v14 v15 v16 v17 : Value}
theorem K8.up (H : K8 w W L w' v14 v15 v16 v17) (hb : Below w'.heap.size w' w2) : K8 w W L w2 v14 v15 v16 v17 :=
 ⟨H.b.trans (hb.mono H.b.size), Nat.le_trans H.s hb.size, (fun k h1 h2 => (hb.block k (Nat.lt_of_lt_of_le h2 H.s)).trans (H.p k h1 h2)), H.q, (fun l => (H.r0 l).keep hb), (fun l => (H.r1 l).keep hb), H.f0, H.f1, (fun l => by obtain ⟨g, e, h1, h2⟩ := H.f2 l; exact ⟨g, e, h1, h2.keep hb⟩), H.f3, (fun l => (H.f4 l).keep hb), (fun l => (H.f5 l).keep hb), H.d3_2, H.d5_2⟩
theorem K8.s0 (H : K8 w W L w' v14 v15 v16 v17) {z : Value} (k : z = hg (hrP (some ⟨w.heap.size + 1 + 1 + 1 + 1 + 1, 0, none⟩))) : K8 w W (fun j => j == 0 || L j) w' z v15 v16 v17 := ⟨H.b, H.s, H.p, H.q, H.r0, H.r1, fun _ => k, H.f1, H.f2, H.f3, H.f4, H.f5, H.d3_2, H.d5_2⟩
theorem K8.s1 (H : K8 w W L w' v14 v15 v16 v17) {z : Value} (k : z = Trf.vg (kR w.heap.size)) : K8 w W (fun j => j == 1 || L j) w' v14 z v16 v17 := ⟨H.b, H.s, H.p, H.q, H.r0, H.r1, H.f0, fun _ => k, H.f2, H.f3, H.f4, H.f5, H.d3_2, H.d5_2⟩
theorem K8.s2 (H : K8 w W L w' v14 v15 v16 v17) {z : Value} (k : ∃ g, z = .slice (some ⟨g, 0, none⟩) 1 1 ∧ W.heap.size ≤ g ∧ Bx w' g 65 (Trf.vc (kR w.heap.size))) (hf : L 2 = false) : K8 w W (fun j => j == 2 || L j) w' v14 v15 z v17 := ⟨H.b, H.s, H.p, H.q, H.r0, H.r1, H.f0, H.f1, fun _ => k, fun l => absurd (H.d3_2 l) (by rw [hf]; decide), H.f4, fun l => absurd (H.d5_2 l) (by rw [hf]; decide), fun _ => rfl, fun _ => rfl⟩
theorem K8.s3 (H : K8 w W L w' v14 v15 v16 v17) {z : Value} (k : z = .agg #[v16]) (d3_23 : L 2 = true) : K8 w W (fun j => j == 3 || L j) w' v14 v15 v16 z := ⟨H.b, H.s, H.p, H.q, H.r0, H.r1, H.f0, H.f1, H.f2, fun _ => k, H.f4, H.f5, fun _ => d3_23, H.d5_2⟩
theorem K8.s4 (H : K8 w W L w' v14 v15 v16 v17) (h4 : L 4 = false) : K8 w W (fun j => j == 4 || L j) (puth w.heap.size (hrP (some ⟨w.heap.size + 1 + 1 + 1 + 1 + 1, 0, none⟩)) w') v14 v15 v16 v17 := by
 have hset : ∀ k, k ≠ w.heap.size → (puth w.heap.size (hrP (some ⟨w.heap.size + 1 + 1 + 1 + 1 + 1, 0, none⟩)) w').heap[k]? = w'.heap[k]? := fun k hk => sets_heap _ hk 0 w'
 have hsz : (puth w.heap.size (hrP (some ⟨w.heap.size + 1 + 1 + 1 + 1 + 1, 0, none⟩)) w').heap.size = w'.heap.size := sets_size _ 0 w'; have hs := H.s; have hq := H.q; refine ⟨sets_below _ (Nat.le_refl _) 0 w' H.b, by rw [hsz]; exact H.s, fun k h1 h2 => (hset k (by omega)).trans (H.p k h1 h2), H.q, (fun l => by cases l), fun l => (hset _ (by omega)).trans (H.r1 l), H.f0, H.f1, ?_, H.f3, fun _ => Bx.puth (h' := zhr) (H.r0 h4) (hrP (some ⟨w.heap.size + 1 + 1 + 1 + 1 + 1, 0, none⟩)), fun l => (hset _ (by omega)).trans (H.f5 l), H.d3_2, H.d5_2⟩; intro l; obtain ⟨g, e, h1, h2⟩ := H.f2 l; exact ⟨g, e, h1, (hset g (by omega)).trans h2⟩
theorem K8.s5 (H : K8 w W L w' v14 v15 v16 v17) (h5 : L 5 = false) (h2 : L 2 = true) : K8 w W (fun j => j == 5 || L j) (w'.setCell ⟨w.heap.size + 1, 0, none⟩ v16) v14 v15 v16 v17 := by
 have hset : ∀ k, k ≠ w.heap.size + 1 → (w'.setCell ⟨w.heap.size + 1, 0, none⟩ v16).heap[k]? = w'.heap[k]? := fun k hk => Below.heap_setCell w' _ _ k hk
 have hsz : (w'.setCell ⟨w.heap.size + 1, 0, none⟩ v16).heap.size = w'.heap.size := World.size_setCell _ _ _; have hs := H.s; have hq := H.q; refine ⟨H.b.setCell (p := ⟨w.heap.size + 1, 0, none⟩) (by show w.heap.size ≤ w.heap.size + 1; omega) _, by rw [hsz]; exact H.s, fun k h1 h2 => (hset k (by omega)).trans (H.p k h1 h2), H.q, fun l => (hset _ (by omega)).trans (H.r0 l), (fun l => by cases l), H.f0, H.f1, ?_, H.f3, fun l => (hset _ (by omega)).trans (H.f4 l), fun _ => (H.r1 h5).set 0 v16, H.d3_2, fun _ => h2⟩; intro l; obtain ⟨g, e, h1, h2⟩ := H.f2 l; exact ⟨g, e, h1, (hset g (by omega)).trans h2⟩
end
def PlTo (w : World) (e : Ending) (w' : World) : Prop := ∃ (A T : Option Addr) (r : Trf.Rw), e = .returned (.tuple #[hg (hrP A), Trf.tg T 1 1]) ∧ r.v = kV ∧ Trf.Vers w' T 1 [r] ∧ HM w' (· < w'.heap.size) (hrP A) ∧ HS (hrP A) ∧ Below w.heap.size w w'
theorem plain15 (w : World) : Calls Tryz.prog 27 #[] w (PlTo w) := by
 obtain ⟨W, hW⟩ : ∃ W, (((((((w.alloc (.cells (hc zhr) 31)).alloc (.cells #[.slice none 0 0] 34)).alloc (.cells #[.int .i64 10000] 3)).alloc (.cells #[.int .i64 10000, .int .i64 10000, .int .i64 10000, .int .i64 10000, .int .i64 10000, .int .i64 10000, .int .i64 10000, .int .i64 10000] 3)).alloc (.cells (Trf.vc (kR w.heap.size)) 65)).alloc (.cells (cc co2) 88)).alloc (.cells (hc (hrP (some ⟨w.heap.size + 1 + 1 + 1 + 1 + 1, 0, none⟩))) 31)) = W := ⟨_, rfl⟩; have HP := qh (show P8 w W by rw [← hW]; exact P8.start w); have HW := qh hW; clear hW; go_enter Tryz.func27, Tryz.ntmps27
 go_upto_region 3 with fail
 change Code.wp _ _ _ _ (((((((w.alloc (.cells (hc zhr) 31)).alloc (.cells #[.slice none 0 0] 34)).alloc (.cells #[.int .i64 10000] 3)).alloc (.cells #[.int .i64 10000, .int .i64 10000, .int .i64 10000, .int .i64 10000, .int .i64 10000, .int .i64 10000, .int .i64 10000, .int .i64 10000] 3)).alloc (.cells (Trf.vc (kR w.heap.size)) 65)).alloc (.cells (cc co2) 88)).alloc (.cells (hc (hrP (some ⟨w.heap.size + 1 + 1 + 1 + 1 + 1, 0, none⟩))) 31)); rw [HW.out]; clear HW; refine wp_region_steps (fun L_ a_ w_ => ∃ (v14 v15 v16 v17 : Value), a_ = { tmps := #[.pointer (some ⟨w.heap.size, 0, none⟩), .pointer (some ⟨w.heap.size + 1, 0, none⟩), .pointer (some ⟨w.heap.size + 1 + 1 + 1 + 1, 0, none⟩), .pointer (some ⟨w.heap.size + 1 + 1 + 1 + 1 + 1 + 1, 0, none⟩), .agg #[.int .i64 10000, .int .i64 0, .int .i64 0, .int .i64 0], .slice (some ⟨w.heap.size + 1 + 1, 0, none⟩) 1 1, .slice (some ⟨w.heap.size + 1 + 1 + 1, 0, none⟩) 8 8, Trf.vg (kR w.heap.size), sg (1, 101), rg ri2, cg co2, .slice (some ⟨w.heap.size + 1 + 1 + 1 + 1 + 1, 0, none⟩) 1 1, tg (1, 101) ri2 (some ⟨w.heap.size + 1 + 1 + 1 + 1 + 1, 0, none⟩) 1 1, .agg #[.int .i64 1, .int .i64 1, .int .i64 1, .int .i64 101, .int .i64 0, .int .i64 36500, .int .i64 0, .int .i64 0, .slice (some ⟨w.heap.size + 1 + 1 + 1 + 1 + 1, 0, none⟩) 1 1, .slice none 0 0], v14, v15, v16, v17], defers := [] } ∧ Hid (K8 w W L_ w_ v14 v15 v16 v17)) (by kernel_rfl) (by kernel_rfl) ?_ (AllSteps.cons ?_ (AllSteps.cons ?_ (AllSteps.cons ?_ (AllSteps.cons ?_ (AllSteps.cons ?_ (AllSteps.cons ?_ AllSteps.nil)))))) ?_
 ·exact ⟨_, _, _, _, rfl, qh ⟨(HP.out.b.trans (show Below w.heap.size W W.drew from ⟨rfl, rfl, rfl, Nat.le_refl _, fun _ _ => rfl⟩)), Nat.le_refl _, (fun _ _ _ => rfl), (by have := HP.out.s; omega), (fun _ => HP.out.x0), (fun _ => HP.out.x1), (fun h => by cases h), (fun h => by cases h), (fun h => by cases h), (fun h => by cases h), (fun h => by cases h), (fun h => by cases h), (fun h => by cases h), (fun h => by cases h)⟩⟩
 ·rintro L_ a_ w_ hL hd ⟨v14, v15, v16, v17, rfl, HR⟩ K hK; have hx := (show Bx w_ (w.heap.size + 1 + 1 + 1 + 1 + 1 + 1) 31 (hc (hrP (some ⟨w.heap.size + 1 + 1 + 1 + 1 + 1, 0, none⟩))) from (HR.out.p _ (by omega) (by have := HP.out.s; omega)).trans HP.out.x6); obtain ⟨x0, x1, x2, x3, x4, x5, x6, x7, x8, x9⟩ := qc10 hx; clear hd hx; go_simp; exact hK.out _ _ ⟨_, _, _, _, rfl, qh (HR.out.s0 rfl)⟩
 ·rintro L_ a_ w_ hL hd ⟨v14, v15, v16, v17, rfl, HR⟩ K hK; have hx := (show Bx w_ (w.heap.size + 1 + 1 + 1 + 1) 65 (Trf.vc (kR w.heap.size)) from (HR.out.p _ (by omega) (by have := HP.out.s; omega)).trans HP.out.x4); obtain ⟨x0, x1, x2, x3, x4, x5, x6, x7, x8⟩ := qc9 hx; clear hd hx; go_simp; exact hK.out _ _ ⟨_, _, _, _, rfl, qh (HR.out.s1 rfl)⟩
 ·rintro L_ a_ w_ hL hd ⟨v14, v15, v16, v17, rfl, HR⟩ K hK; have e1 := HR.out.f1 (hd ⟨1, .data⟩ (by simp) rfl); subst e1; have HR2 := qh (HR.out.up (alloc_ w_ (.cells (Trf.vc (kR w.heap.size)) 65))); have F := qh (Bx.new w_ 65 (Trf.vc (kR w.heap.size))); have HS := qh HR.out.s; clear hd; go_simp; exact hK.out _ _ ⟨_, _, _, _, rfl, qh (HR2.out.s2 ⟨_, rfl, HS.out, F.out⟩ hL)⟩
 ·rintro L_ a_ w_ hL hd ⟨v14, v15, v16, v17, rfl, HR⟩ K hK; obtain ⟨g, e2, h1, h2⟩ := HR.out.f2 (hd ⟨2, .data⟩ (by simp) rfl); subst e2; have h02 := hd ⟨2, .data⟩ (by simp) rfl; clear hd h1 h2; go_simp; exact hK.out _ _ ⟨_, _, _, _, rfl, qh (HR.out.s3 rfl h02)⟩
 ·rintro L_ a_ w_ hL hd ⟨v14, v15, v16, v17, rfl, HR⟩ K hK; have e0 := HR.out.f0 (hd ⟨0, .data⟩ (by simp) rfl); subst e0; have hx := HR.out.r0 hL; obtain ⟨x0, x1, x2, x3, x4, x5, x6, x7, x8, x9⟩ := qc10 hx; have fx := hx.f; clear hd hx; go_simp; exact hK.out _ _ ⟨_, _, _, _, rfl, qh (HR.out.s4 hL)⟩
 ·rintro L_ a_ w_ hL hd ⟨v14, v15, v16, v17, rfl, HR⟩ K hK; have h03 := hd ⟨3, .data⟩ (by simp) rfl; have e3 := HR.out.f3 (hd ⟨3, .data⟩ (by simp) rfl); subst e3; have h02 := HR.out.d3_2 h03; obtain ⟨g, e2, h1, h2⟩ := HR.out.f2 h02; subst e2; have hx := HR.out.r1 hL; have x0 := hx.c 0; simp at x0; have fx := hx.f; clear hd hx h1 h2; go_simp; exact hK.out _ _ ⟨_, _, _, _, rfl, qh (HR.out.s5 hL h02)⟩
 ·rintro L_ a_ w_ hL ⟨v14, v15, v16, v17, rfl, HR⟩; obtain ⟨g, rfl, hgs, hv⟩ := HR.out.f2 (hL 2 (by decide)); have h4 := HR.out.f4 (hL 4 (by decide)); have h5 := HR.out.f5 (hL 5 (by decide)); have hs := HP.out.s; have key : ∀ (k : Nat) (t : TypeId) (xs : Array Value), Bx W k t xs → w.heap.size + 2 ≤ k → k < w.heap.size + 7 → Bx w_ k t xs := fun k t xs hk h1 h2 => (HR.out.p k h1 (by omega)).trans hk
  have k2 := key _ _ _ HP.out.x2 (by omega) (by omega); have k3 := key _ _ _ HP.out.x3 (by omega) (by omega); have k5 := key _ _ _ HP.out.x5 (by omega) (by omega)
  have G := qh (show PlTo w (.returned (.tuple #[hg (hrP (some ⟨w.heap.size + 1 + 1 + 1 + 1 + 1, 0, none⟩)), Trf.tg (some ⟨g, 0, none⟩) 1 1])) w_ from by
   refine ⟨_, _, (kR w.heap.size), rfl, rfl, ⟨⟨rfl, fun _ => ⟨⟨g, 0, none⟩, rfl, hv.lt, fun j r hj => ?_⟩⟩, fun r hr => ?_, fun r hr => ?_⟩, ⟨cvs_one k5 _ k5.lt, Tm.Raws.nil, fun r hr => by cases hr⟩, ⟨by show 1 ≤ 3000; omega, by show 0 ≤ 2000; omega, (fun r hr => by cases hr), (fun _ => ⟨rfl, rfl⟩), Nat.le_refl _⟩, HR.out.b⟩
   ·match j, hj with
    | 0, hj =>
     simp at hj; subst hj; rw [Addr.add_lit]; exact ⟨hv.c 0, hv.c 1, hv.c 2, hv.c 3, hv.c 4, hv.c 5, hv.c 6, hv.c 7, hv.c 8⟩
   ·rw [List.mem_singleton] at hr; subst hr; exact ⟨Trf.Lns.nil, ins_row (xs := [10000]) k2 _ k2.lt, ins_row (xs := [10000, 10000, 10000, 10000, 10000, 10000, 10000, 10000]) k3 _ k3.lt⟩
   ·rw [List.mem_singleton] at hr; subst hr; exact ⟨by show 0 ≤ 3000; omega, by show 1 ≤ 3000; omega, by show 8 ≤ 3000; omega⟩)
  obtain ⟨x0, x1, x2, x3, x4, x5, x6, x7, x8, x9⟩ := qc10 h4; have y0 := h5.c 0; simp at y0; have X := qh (And.intro x0 (And.intro x1 (And.intro x2 (And.intro x3 (And.intro x4 (And.intro x5 (And.intro x6 (And.intro x7 (And.intro x8 (And.intro x9 y0)))))))))); clear HR hL hgs hv h4 h5 key k2 k3 k5 x0 x1 x2 x3 x4 x5 x6 x7 x8 x9 y0; dsimp only [Exit.then]; go_step; go_wp2; obtain ⟨x0, x1, x2, x3, x4, x5, x6, x7, x8, x9, y0⟩ := X.out; exact bodyPost_ret (v := .tuple #[hg (hrP (some ⟨w.heap.size + 1 + 1 + 1 + 1 + 1, 0, none⟩)), Trf.tg (some ⟨g, 0, none⟩) 1 1]) (by simp [results, Tryz.results27, go_sem, x0, x1, x2, x3, x4, x5, x6, x7, x8, x9, y0]) rfl G.out
end Slc
end Go.Proofs.YtfidmphajohljaaGreat
namespace Go.Proofs.YtfidmphajohljaaGreat
open Go.RowKit Ba Cv Sp Te Ag Tf Sl Tm Slc
namespace Rfd
abbrev hdP : Hd := ⟨true, ri2, [co2]⟩
abbrev hdF : Hd := ⟨false, ri2, [co2]⟩
abbrev chP (y : Int) : Ch := ⟨50, 41, 3, zri, [], y⟩
abbrev slP : List Sc := [⟨(1, 101), hdP, 36500⟩]
abbrev slF : List Sc := [⟨(1, 41), hdP, 36500⟩, ⟨(41, 101), hdF, 0⟩]
theorem isP0 : OfIs hiP [kV] 0 slP := by
 have hb : bad (qf (Trf.tol hiP.s.1 [kV])) [((1, 101), hdP)] = 0 := by decide +kernel
 refine .some (by decide +kernel) (by decide +kernel) [] [((1, 101), hdP)] ⟨List.Perm.refl _, List.Pairwise.nil⟩ ⟨⟨rfl, by decide, rfl⟩, fun x hx d h1 h2 => ?_, fun i x y h0 h1 => ?_⟩ hb.symm ?_
 ·rw [List.mem_singleton] at hx; subst hx; rfl
 ·simp at h1
 ·rw [if_pos hb]; decide +kernel
theorem ordP (y : Int) : Ag.Ord (wi hiP (chP y)).hs [0] := ⟨List.Perm.refl _, List.pairwise_singleton _ _⟩
theorem hldP (y d : Int) : hld (ini (wi hiP (chP y))) (ordl (wi hiP (chP y)).hs [0]) d = if d < 41 then hdP else hdF := by
 show ((List.filter (fun c : Ch => decide (c.dy ≤ d)) [chP y]).foldl don (ini hiP)) = _
 by_cases h1 : d < 41
 ·rw [if_pos h1, List.filter_cons_of_neg (by simp; omega)]; rfl
 ·rw [if_neg h1, List.filter_cons_of_pos (by simp; omega)]; rfl
theorem isP1 (y : Int) (hr : hrt (wi hiP (chP y)) = true) : OfIs (wi hiP (chP y)) [kV] 0 slF := by
 have hb : bad (qf (Trf.tol (1 : Int) [kV])) [((1, 41), hdP), ((41, 101), hdF)] = 0 := by decide +kernel
 refine .some hr (by show Trf.cod 1 [kV] = 0; decide +kernel) [0] [((1, 41), hdP), ((41, 101), hdF)] (ordP y) ⟨⟨rfl, by decide, rfl, by decide, rfl⟩, fun x hx d h1 h2 => ?_, fun i x y h0 h1 => ?_⟩ hb.symm ?_
 ·rw [hldP]; rcases List.mem_cons.1 hx with rfl | hx
  ·rw [if_pos h2]
  ·rw [List.mem_singleton] at hx; subst hx; have h1 : (41 : Int) ≤ d := h1; rw [if_neg (by omega)]
 ·match i, h0, h1 with
  | 0, h0, h1 => simp at h0 h1; subst h0 h1; decide +kernel
  | n + 1, h0, h1 => simp at h1
 ·show slF = if bad (qf (Trf.tol (1 : Int) [kV])) [((1, 41), hdP), ((41, 101), hdF)] = 0 then List.map (prc (qf (Trf.tol (1 : Int) [kV]))) [((1, 41), hdP), ((41, 101), hdF)] else []
  rw [if_pos hb]; decide +kernel
theorem kpP0 : KpIs hiP [kV] 0 0 := .none _ isP0 [] ⟨List.Perm.refl _, List.Pairwise.nil⟩ (fun z hz => by cases hz) rfl rfl
theorem duP0 : DuIs hiP [kV] 10000 0 := ⟨0, 0, kpP0, fun h => absurd rfl h, fun _ => ⟨slP, isP0, by unfold dq; decide +kernel⟩⟩
theorem ltP (y : Int) : lt (wi hiP (chP y)).hs [0] = some 0 := rfl
theorem isPw : ∀ y, OfIs (wo (wi hiP (chP y)) 0) [kV] 0 slP := fun y => isP0
theorem kpP1 : KpIs (wi hiP (chP 0)) [kV] 0 0 := .none _ (isP1 0 (by decide +kernel)) [0] (ordP 0) (fun z hz => by rw [ltP] at hz; injection hz with hz; subst hz; rfl) rfl rfl
theorem kpP2 : KpIs (wi hiP (chP 1)) [kV] 600 0 := .some _ (isP1 1 (by decide +kernel)) [0] (ordP 1) 0 (ltP 1) rfl slP 0 (isPw 1) (fun h => absurd rfl h) fun _ => by
 show kq slP (41, 101) 600 0
 unfold kq; decide +kernel
theorem duP1 : DuIs (wi hiP (chP 0)) [kV] 4000 0 := ⟨0, 0, kpP1, fun h => absurd rfl h, fun _ => ⟨slF, isP1 0 (by decide +kernel), by unfold dq; decide +kernel⟩⟩
theorem duP2 : DuIs (wi hiP (chP 1)) [kV] 4600 0 := ⟨600, 0, kpP2, fun h => absurd rfl h, fun _ => ⟨slF, isP1 1 (by decide +kernel), by unfold dq; decide +kernel⟩⟩
theorem coP (y : Int) (h : y = 0 ∨ y = 1) : Ag.code hiP.s hiP.bk hiP.hs (chP y) = 0 := by rcases h with rfl | rfl <;> decide +kernel
theorem giP0 : GiIs hiP [kV] (chP 0) 6000 0 := ⟨fun h => absurd (coP 0 (.inl rfl)) h, fun _ => ⟨_, _, duP0, fun h => absurd rfl h, fun _ => ⟨_, _, duP1, fun h => absurd rfl h, fun _ => ⟨rfl, rfl⟩⟩⟩⟩
theorem giP1 : GiIs hiP [kV] (chP 1) 5400 0 := ⟨fun h => absurd (coP 1 (.inr rfl)) h, fun _ => ⟨_, _, duP0, fun h => absurd rfl h, fun _ => ⟨_, _, duP2, fun h => absurd rfl h, fun _ => ⟨rfl, rfl⟩⟩⟩⟩
theorem giP2 : GiIs hiP [kV] ⟨50, 101, 3, zri, [], 1⟩ 0 1 :=
 have e : Ag.code hiP.s hiP.bk hiP.hs ⟨50, 101, 3, zri, [], 1⟩ = 1 := by decide +kernel
 ⟨fun _ => ⟨rfl, e.symm⟩, fun h => by rw [e] at h; cases h⟩
theorem duPn : DuIs hiP [] 0 7 := ⟨0, 7, .bad [] 7 (.none (by decide +kernel) (by decide +kernel) (by decide +kernel) rfl) (by decide) rfl rfl, fun _ => ⟨rfl, rfl⟩, fun h => absurd h (by decide)⟩
end Rfd
end Go.Proofs.YtfidmphajohljaaGreat
namespace Go.Proofs.YtfidmphajohljaaGreat
open Go.RowKit Ba Cv Sp Te Ag Tf Sl Tm
open Slc (OfIs OfTo Sls O2 plain15 PlTo hrP hiP kV kR ri2 co2)
namespace Rfd
def KpC : Prop := ∀ (h : Hr) (T : Option Addr) (nt ct : Nat) (vs : List Trf.Rw) (w : World), Arg w h T nt vs → Calls Tryz.prog 12 #[hg h, Trf.tg T nt ct] w (KpTo w h.v (vs.map Trf.Rw.v))
def DuC : Prop := ∀ (h : Hr) (T : Option Addr) (nt ct : Nat) (vs : List Trf.Rw) (w : World), Arg w h T nt vs → Calls Tryz.prog 14 #[hg h, Trf.tg T nt ct] w (DuTo w h.v (vs.map Trf.Rw.v))
def GiC : Prop := ∀ (h : Hr) (T : Option Addr) (nt ct : Nat) (vs : List Trf.Rw) (r : Rw) (w : World), Arg w h T nt vs → h.m ≤ 99 → Cvs w (· < w.heap.size) r.A r.n r.v.cs → r.n ≤ 1000 → Calls Tryz.prog 16 #[hg h, Trf.tg T nt ct, vg r] w (GiTo w h.v (vs.map Trf.Rw.v) r.v)
theorem setl_chg (x0 x1 x2 x3 x4 x5 x6 x7 x8 a0 a1 a2 a3 a4 a5 a6 a7 a8 : Value) : setl 0 [a0, a1, a2, a3, a4, a5, a6, a7, a8] #[x0, x1, x2, x3, x4, x5, x6, x7, x8] = #[a0, a1, a2, a3, a4, a5, a6, a7, a8] := by simp [setl]
abbrev cnl (b d y : Int) : Rw := ⟨⟨b, d, 3, zri, [], y⟩, none, 0, 0⟩
theorem cancel15 (b d y : Int) (w : World) : Calls Tryz.prog 19 #[.int .i64 b, .int .i64 d, .int .i64 y] w fun e w' => e = .returned (vg (cnl b d y)) ∧ Below w.heap.size w w' := by
 obtain ⟨W, hW⟩ : ∃ W, w.alloc (.cells Tm.zc 41) = W := ⟨_, rfl⟩; have HX := qh (show Bx W w.heap.size 41 Tm.zc from hW ▸ Bx.new w _ _); have HB := qh (show Below w.heap.size w W from hW ▸ alloc_ _ _); have HW := qh hW; have f0 := HX.out.f; obtain ⟨x0, x1, x2, x3, x4, x5, x6, x7, x8⟩ := qc9 HX.out; clear hW; go_enter Tryz.func19, Tryz.ntmps19
 go_upto_region 1 with fail
 rw [HW.out]; go_wp2; clear x0 x1 x2 x3 x4 x5 x6 x7 x8 f0; change bodyPost _ _ _ _ _ (sets w.heap.size 0 [.int .i64 b, .int .i64 d, .int .i64 3, .int .i64 0, .int .i64 0, .int .i64 0, .int .i64 0, .slice none 0 0, .int .i64 y] W); have hx := HX.out.sets [.int .i64 b, .int .i64 d, .int .i64 3, .int .i64 0, .int .i64 0, .int .i64 0, .int .i64 0, .slice none 0 0, .int .i64 y] 0; rw [setl_chg] at hx; refine bodyPost_ret (v := vg (cnl b d y)) ?res rfl ⟨rfl, sets_below _ (Nat.le_refl _) 0 W HB.out⟩; obtain ⟨x0, x1, x2, x3, x4, x5, x6, x7, x8⟩ := qc9 hx; simp [results, Tryz.results19, go_sem, x0, x1, x2, x3, x4, x5, x6, x7, x8, zri]
structure K6 (w1 : World) (A T : Option Addr) (L : Nat → Bool) (w' : World) (v49 v50 v51 v48 v52 v53 v11 v12 : Value) : Prop where
 o : O2 w1 w' (hrP A) T 1 1
 f0 : L 0 = true → v49 = hg (hrP A)
 f1 : L 1 = true → v50 = vg (cnl 50 41 1)
 c : Pc (w1.heap.size + 2) (wi hiP (chP 1)) 0 (L 2) (L 3) (L 4) (L 5) (L 6) (L 7) (L 8) w' v51 v48 v52 v53 v11 v12
theorem put_cnl {w W : World} {A : Option Addr} (M : HM W (· < W.heap.size) (hrP A)) (S : HS (hrP A)) : Calls Tryz.prog 23 #[hg (hrP A), vg (cnl 50 41 1)] W (Gives W (wi hiP (chP 1)) 0) := by
 have e : Ag.code (hrP A).s (hrP A).bk (hrP A).v.hs (cnl 50 41 1).v = 0 := coP 1 (.inr rfl); have f : phi (hrP A).v (cnl 50 41 1).v = wi hiP (chP 1) := by unfold phi; rw [if_pos (show Ag.code (hrP A).v.s (hrP A).v.bk (hrP A).v.hs (cnl 50 41 1).v = 0 from e)]; rfl
 have := put_ (hrP A) (cnl 50 41 1) W M S Cvs.nil (Nat.zero_le _); rw [e, f] at this; exact this
section
variable {w w' : World} {h : Hi} {vs : List Ve} {c : Ch} {v k : Int} {e : Ending}
theorem GiTo.is (H : GiTo w h vs c e w') (K : GiIs h vs c v k) : e = .returned (.tuple #[.int .i64 v, .int .i64 k]) ∧ Below w.heap.size w w' := by
 obtain ⟨a, b, rfl, hi, hb⟩ := H; obtain ⟨rfl, rfl⟩ := hi.one K; exact ⟨rfl, hb⟩
theorem DuTo.is (H : DuTo w h vs e w') (K : DuIs h vs v k) : e = .returned (.tuple #[.int .i64 v, .int .i64 k]) ∧ Below w.heap.size w w' := by
 obtain ⟨a, b, rfl, hi, hb⟩ := H; obtain ⟨rfl, rfl⟩ := hi.one K; exact ⟨rfl, hb⟩
theorem KpTo.is (H : KpTo w h vs e w') (K : KpIs h vs v k) : e = .returned (.tuple #[.int .i64 v, .int .i64 k]) ∧ Below w.heap.size w w' := by
 obtain ⟨a, b, rfl, hi, hb⟩ := H; obtain ⟨rfl, rfl⟩ := hi.one K; exact ⟨rfl, hb⟩
end
theorem alive15 (KC : KpC) (DC : DuC) (GC : GiC) (w : World) : Calls Tryz.prog 11 #[] w (Yes w true) := by
 go_enter Tryz.func11, Tryz.ntmps11
 go_wp2_with fail
 refine (plain15 w).mono ?_; rintro e w1 ⟨A, T, r, rfl, hr, hV, hM, hS, hb1⟩; obtain ⟨W, hW⟩ : ∃ W, (w1.alloc (.cells (hc (hrP A)) 31)).alloc (.cells #[.slice T 1 1] 34) = W := ⟨_, rfl⟩; have H0 := qh (show O2 w1 W (hrP A) T 1 1 by rw [← hW]; exact Slc.O2.start w1 _ T 1 1); have HW := qh hW; have HVS := qh (show [r].map Trf.Rw.v = [kV] by rw [List.map_singleton, hr]); have HA := qh (show Arg w1 (hrP A) T 1 [r] from ⟨hM, hS, by show 0 ≤ 100; omega, ⟨by show 1 ≤ 1000; omega, fun r hr => by cases hr⟩, hV, by omega⟩); have HB1 := qh hb1; have HGC := qh GC; have HKC := qh KC; have HDC := qh DC; clear hr hV hM hS hb1 hW KC DC GC
 go_upto_region 2 with fail
 rw [HW.out]; clear HW; have C1 := qh ((HDC.out (hrP A) T 1 1 [r] W (HA.out.below H0.out.b)).mono fun e w' H => DuTo.is (by rw [HVS.out] at H; exact H) duP0); obtain ⟨x0, x1, x2, x3, x4, x5, x6, x7, x8, x9⟩ := qc10 H0.out.x; have y0 := H0.out.y.c 0; simp at y0
 go_wp2_with fail
 refine C1.out.mono ?_; rintro e w2 ⟨rfl, hb⟩; have H2 := qh (H0.out.next hb); clear hb C1 H0 x0 x1 x2 x3 x4 x5 x6 x7 x8 x9 y0; have CN := fun (p : Ext w2) => qh (cancel15 50 41 0 p.W)
 have CG := fun (p : Ext w2) => qh ((HGC.out (hrP A) T 1 1 [r] (cnl 50 41 0) p.W (HA.out.below (H2.out.b.trans (p.b.mono H2.out.b.size))) (by show 0 ≤ 99; omega) Cvs.nil (Nat.zero_le _)).mono fun e w' H => GiTo.is (by rw [HVS.out] at H; exact H) giP0)
 have X0 : ∀ p : Ext w2, p.W.cell? ⟨w1.heap.size, 0, none⟩ = some (.int .i64 1) := fun p => H2.out.x.ext p 0
 have X1 : ∀ p : Ext w2, p.W.cell? ⟨w1.heap.size, 1, none⟩ = some (.int .i64 1) := fun p => H2.out.x.ext p 1
 have X2 : ∀ p : Ext w2, p.W.cell? ⟨w1.heap.size, 2, none⟩ = some (.int .i64 1) := fun p => H2.out.x.ext p 2
 have X3 : ∀ p : Ext w2, p.W.cell? ⟨w1.heap.size, 3, none⟩ = some (.int .i64 101) := fun p => H2.out.x.ext p 3
 have X4 : ∀ p : Ext w2, p.W.cell? ⟨w1.heap.size, 4, none⟩ = some (.int .i64 0) := fun p => H2.out.x.ext p 4
 have X5 : ∀ p : Ext w2, p.W.cell? ⟨w1.heap.size, 5, none⟩ = some (.int .i64 36500) := fun p => H2.out.x.ext p 5
 have X6 : ∀ p : Ext w2, p.W.cell? ⟨w1.heap.size, 6, none⟩ = some (.int .i64 0) := fun p => H2.out.x.ext p 6
 have X7 : ∀ p : Ext w2, p.W.cell? ⟨w1.heap.size, 7, none⟩ = some (.int .i64 0) := fun p => H2.out.x.ext p 7
 have X8 : ∀ p : Ext w2, p.W.cell? ⟨w1.heap.size, 8, none⟩ = some (.slice A 1 1) := fun p => H2.out.x.ext p 8
 have X9 : ∀ p : Ext w2, p.W.cell? ⟨w1.heap.size, 9, none⟩ = some (.slice none 0 0) := fun p => H2.out.x.ext p 9
 have Y0 : ∀ p : Ext w2, p.W.cell? ⟨w1.heap.size + 1, 0, none⟩ = some (.slice T 1 1) := fun p => H2.out.y.ext p 0
 go_upto_region 3 with fail
 have ne : Nonempty (Ext w2) := ⟨⟨w2, Below.refl _ _⟩⟩; refine quietE (by kernel_rfl) (by kernel_rfl) ?_
 repeat (first | go_big_quiet_skip | quiet_step (first
  | (go_at_call 19; with_reducible exact ext_of (CN _).out)
  | (go_at_call 16; with_reducible exact ext_of (CG _).out)
  | fail))
 refine wpQuiet_nil ?_; rintro _ ⟨p, rfl⟩; have H3 := qh (H2.out.next p.b); generalize p.W = w3 at H3 ⊢; clear CN CG ne X0 X1 X2 X3 X4 X5 X6 X7 X8 X9 Y0 H2; have CN := fun (p : Ext w3) => qh (cancel15 50 41 1 p.W)
 have CG := fun (p : Ext w3) => qh ((HGC.out (hrP A) T 1 1 [r] (cnl 50 41 1) p.W (HA.out.below (H3.out.b.trans (p.b.mono H3.out.b.size))) (by show 0 ≤ 99; omega) Cvs.nil (Nat.zero_le _)).mono fun e w' H => GiTo.is (by rw [HVS.out] at H; exact H) giP1)
 have X0 : ∀ p : Ext w3, p.W.cell? ⟨w1.heap.size, 0, none⟩ = some (.int .i64 1) := fun p => H3.out.x.ext p 0
 have X1 : ∀ p : Ext w3, p.W.cell? ⟨w1.heap.size, 1, none⟩ = some (.int .i64 1) := fun p => H3.out.x.ext p 1
 have X2 : ∀ p : Ext w3, p.W.cell? ⟨w1.heap.size, 2, none⟩ = some (.int .i64 1) := fun p => H3.out.x.ext p 2
 have X3 : ∀ p : Ext w3, p.W.cell? ⟨w1.heap.size, 3, none⟩ = some (.int .i64 101) := fun p => H3.out.x.ext p 3
 have X4 : ∀ p : Ext w3, p.W.cell? ⟨w1.heap.size, 4, none⟩ = some (.int .i64 0) := fun p => H3.out.x.ext p 4
 have X5 : ∀ p : Ext w3, p.W.cell? ⟨w1.heap.size, 5, none⟩ = some (.int .i64 36500) := fun p => H3.out.x.ext p 5
 have X6 : ∀ p : Ext w3, p.W.cell? ⟨w1.heap.size, 6, none⟩ = some (.int .i64 0) := fun p => H3.out.x.ext p 6
 have X7 : ∀ p : Ext w3, p.W.cell? ⟨w1.heap.size, 7, none⟩ = some (.int .i64 0) := fun p => H3.out.x.ext p 7
 have X8 : ∀ p : Ext w3, p.W.cell? ⟨w1.heap.size, 8, none⟩ = some (.slice A 1 1) := fun p => H3.out.x.ext p 8
 have X9 : ∀ p : Ext w3, p.W.cell? ⟨w1.heap.size, 9, none⟩ = some (.slice none 0 0) := fun p => H3.out.x.ext p 9
 have Y0 : ∀ p : Ext w3, p.W.cell? ⟨w1.heap.size + 1, 0, none⟩ = some (.slice T 1 1) := fun p => H3.out.y.ext p 0
 go_upto_region 4 with fail
 have ne : Nonempty (Ext w3) := ⟨⟨w3, Below.refl _ _⟩⟩; refine quietE (by kernel_rfl) (by kernel_rfl) ?_
 repeat (first | go_big_quiet_skip | quiet_step (first
  | (go_at_call 19; with_reducible exact ext_of (CN _).out)
  | (go_at_call 16; with_reducible exact ext_of (CG _).out)
  | fail))
 refine wpQuiet_nil ?_; rintro _ ⟨p, rfl⟩; have H4 := qh (H3.out.next p.b); generalize p.W = w4 at H4 ⊢; clear CN CG ne X0 X1 X2 X3 X4 X5 X6 X7 X8 X9 Y0 H3; have CN := fun (p : Ext w4) => qh (cancel15 50 101 1 p.W)
 have CG := fun (p : Ext w4) => qh ((HGC.out (hrP A) T 1 1 [r] (cnl 50 101 1) p.W (HA.out.below (H4.out.b.trans (p.b.mono H4.out.b.size))) (by show 0 ≤ 99; omega) Cvs.nil (Nat.zero_le _)).mono fun e w' H => GiTo.is (by rw [HVS.out] at H; exact H) giP2)
 have X0 : ∀ p : Ext w4, p.W.cell? ⟨w1.heap.size, 0, none⟩ = some (.int .i64 1) := fun p => H4.out.x.ext p 0
 have X1 : ∀ p : Ext w4, p.W.cell? ⟨w1.heap.size, 1, none⟩ = some (.int .i64 1) := fun p => H4.out.x.ext p 1
 have X2 : ∀ p : Ext w4, p.W.cell? ⟨w1.heap.size, 2, none⟩ = some (.int .i64 1) := fun p => H4.out.x.ext p 2
 have X3 : ∀ p : Ext w4, p.W.cell? ⟨w1.heap.size, 3, none⟩ = some (.int .i64 101) := fun p => H4.out.x.ext p 3
 have X4 : ∀ p : Ext w4, p.W.cell? ⟨w1.heap.size, 4, none⟩ = some (.int .i64 0) := fun p => H4.out.x.ext p 4
 have X5 : ∀ p : Ext w4, p.W.cell? ⟨w1.heap.size, 5, none⟩ = some (.int .i64 36500) := fun p => H4.out.x.ext p 5
 have X6 : ∀ p : Ext w4, p.W.cell? ⟨w1.heap.size, 6, none⟩ = some (.int .i64 0) := fun p => H4.out.x.ext p 6
 have X7 : ∀ p : Ext w4, p.W.cell? ⟨w1.heap.size, 7, none⟩ = some (.int .i64 0) := fun p => H4.out.x.ext p 7
 have X8 : ∀ p : Ext w4, p.W.cell? ⟨w1.heap.size, 8, none⟩ = some (.slice A 1 1) := fun p => H4.out.x.ext p 8
 have X9 : ∀ p : Ext w4, p.W.cell? ⟨w1.heap.size, 9, none⟩ = some (.slice none 0 0) := fun p => H4.out.x.ext p 9
 have Y0 : ∀ p : Ext w4, p.W.cell? ⟨w1.heap.size + 1, 0, none⟩ = some (.slice T 1 1) := fun p => H4.out.y.ext p 0
 go_upto_region 5 with fail
 have ne : Nonempty (Ext w4) := ⟨⟨w4, Below.refl _ _⟩⟩; refine quietE (by kernel_rfl) (by kernel_rfl) ?_
 repeat (first | go_big_quiet_skip | quiet_step (first
  | (go_at_call 19; with_reducible exact ext_of (CN _).out)
  | (go_at_call 16; with_reducible exact ext_of (CG _).out)
  | fail))
 refine wpQuiet_nil ?_; rintro _ ⟨p, rfl⟩; have H5 := qh (H4.out.next p.b); generalize p.W = w5 at H5 ⊢; clear CN CG ne X0 X1 X2 X3 X4 X5 X6 X7 X8 X9 Y0 H4
 go_upto_region 6 with fail
 refine wp_region_steps (fun L_ a_ w_ => ∃ (v49 v50 v51 v48 v52 v53 v11 v12 : Value), a_ = { tmps := #[.bool false, .pointer (some ⟨w1.heap.size, 0, none⟩), .pointer (some ⟨w1.heap.size + 1, 0, none⟩), .int .i64 10000, .int .i64 0, .int .i64 6000, .int .i64 0, .int .i64 5400, .int .i64 0, .int .i64 0, .int .i64 1, v11, v12, undef, undef, undef, undef, .tuple #[hg (hrP A), Trf.tg T 1 1], .tuple #[hg (hrP A), Trf.tg T 1 1], hg (hrP A), Trf.tg T 1 1, .tuple #[.int .i64 10000, .int .i64 0], .agg #[.int .i64 1, .int .i64 1, .int .i64 1, .int .i64 101, .int .i64 0, .int .i64 36500, .int .i64 0, .int .i64 0, .slice A 1 1, .slice none 0 0], .agg #[.slice T 1 1], .tuple #[.int .i64 10000, .int .i64 0], .int .i64 10000, .int .i64 0, .tuple #[.int .i64 6000, .int .i64 0], .agg #[.int .i64 1, .int .i64 1, .int .i64 1, .int .i64 101, .int .i64 0, .int .i64 36500, .int .i64 0, .int .i64 0, .slice A 1 1, .slice none 0 0], .agg #[.slice T 1 1], vg (cnl 50 41 0), .tuple #[.int .i64 6000, .int .i64 0], .int .i64 6000, .int .i64 0, .tuple #[.int .i64 5400, .int .i64 0], .agg #[.int .i64 1, .int .i64 1, .int .i64 1, .int .i64 101, .int .i64 0, .int .i64 36500, .int .i64 0, .int .i64 0, .slice A 1 1, .slice none 0 0], .agg #[.slice T 1 1], vg (cnl 50 41 1), .tuple #[.int .i64 5400, .int .i64 0], .int .i64 5400, .int .i64 0, .tuple #[.int .i64 0, .int .i64 1], .agg #[.int .i64 1, .int .i64 1, .int .i64 1, .int .i64 101, .int .i64 0, .int .i64 36500, .int .i64 0, .int .i64 0, .slice A 1 1, .slice none 0 0], .agg #[.slice T 1 1], vg (cnl 50 101 1), .tuple #[.int .i64 0, .int .i64 1], .int .i64 0, .int .i64 1, v48, v49, v50, v51, v52, v53, undef, undef, undef, undef, undef, undef, undef, undef, undef, undef, undef, undef, undef, undef, undef, undef, undef, undef, undef, undef, undef, undef, undef, undef, undef, undef, undef, undef, undef, undef, undef, undef, undef, undef, undef, undef, undef, undef, undef, undef, undef, undef, undef, undef, undef, undef, undef, undef, undef, undef], defers := [] } ∧ Hid (K6 w1 A T L_ w_ v49 v50 v51 v48 v52 v53 v11 v12)) (by kernel_rfl) (by kernel_rfl) ?_ (AllSteps.cons ?_ (AllSteps.cons ?_ (AllSteps.cons ?_ (AllSteps.cons ?_ (AllSteps.cons ?_ (AllSteps.cons ?_ (AllSteps.cons ?_ (AllSteps.cons ?_ (AllSteps.cons ?_ AllSteps.nil))))))))) ?_
 ·exact ⟨_, _, _, _, _, _, _, _, rfl, qh ⟨H5.out.next (show Below _ _ (World.drew _) from ⟨rfl, rfl, rfl, Nat.le_refl _, fun _ _ => rfl⟩), (fun h => by cases h), (fun h => by cases h), Pc.start _ _ _ _ _ _ _ _ _ _⟩⟩
 ·rintro L_ a_ w_ hL hd ⟨v49, v50, v51, v48, v52, v53, v11, v12, rfl, HR⟩ K hK; have hx := HR.out.o.x; obtain ⟨x0, x1, x2, x3, x4, x5, x6, x7, x8, x9⟩ := qc10 hx; clear hd hx; go_simp; exact hK.out _ _ ⟨_, _, _, _, _, _, _, _, rfl, qh ⟨HR.out.o, fun _ => rfl, HR.out.f1, HR.out.c⟩⟩
 ·rintro L_ a_ w_ hL hd ⟨v49, v50, v51, v48, v52, v53, v11, v12, rfl, HR⟩ K hK; have CN := qh (cancel15 50 41 1 w_); clear hd; go_simp; refine CN.out.mono ?_; rintro e w5 ⟨rfl, hb⟩; have HB := qh hb; clear hb CN
  try go_simp
  exact hK.out _ _ ⟨_, _, _, _, _, _, _, _, rfl, qh ⟨HR.out.o.next HB.out, HR.out.f0, fun _ => rfl, HR.out.c.up HB.out⟩⟩
 ·rintro L_ a_ w_ hL hd ⟨v49, v50, v51, v48, v52, v53, v11, v12, rfl, HR⟩ K hK; have e0 := HR.out.f0 (hd ⟨0, .data⟩ (by simp) rfl); subst e0; have e1 := HR.out.f1 (hd ⟨1, .data⟩ (by simp) rfl); subst e1; have CP := qh (put_cnl (w := w_) (HA.out.below HR.out.o.b).m HA.out.s); have hL2 := qh hL; clear hd; go_simp; refine CP.out.mono ?_; rintro e w5 ⟨k, rfl, hR⟩; have HQ := qh hR; clear hR CP
  try go_simp
  exact hK.out _ _ ⟨_, _, _, _, _, _, _, _, rfl, qh ⟨HR.out.o.next HQ.out.b, HR.out.f0, HR.out.f1, HR.out.c.call hL2.out HQ.out.v HQ.out.m HQ.out.s HQ.out.b⟩⟩
 ·rintro L_ a_ w_ hL hd ⟨v49, v50, v51, v48, v52, v53, v11, v12, rfl, HR⟩ K hK; have l2 := (hd ⟨2, .data⟩ (by simp) rfl); clear hd; go_simp; exact hK.out _ _ ⟨_, _, _, _, _, _, _, _, rfl, qh ⟨HR.out.o, HR.out.f0, HR.out.f1, HR.out.c.move l2⟩⟩
 ·rintro L_ a_ w_ hL hd ⟨v49, v50, v51, v48, v52, v53, v11, v12, rfl, HR⟩ K hK; obtain ⟨lc, em⟩ := HR.out.c.tm (hd ⟨3, .data⟩ (by simp) rfl); subst em; obtain ⟨k, B, E, e51, _⟩ := HR.out.c.tc lc; subst e51; clear hd; go_simp; exact hK.out _ _ ⟨_, _, _, _, _, _, _, _, rfl, qh ⟨HR.out.o, HR.out.f0, HR.out.f1, HR.out.c.fst lc rfl⟩⟩
 ·rintro L_ a_ w_ hL hd ⟨v49, v50, v51, v48, v52, v53, v11, v12, rfl, HR⟩ K hK; obtain ⟨lc, em⟩ := HR.out.c.tm (hd ⟨3, .data⟩ (by simp) rfl); subst em; obtain ⟨k, B, E, e51, _⟩ := HR.out.c.tc lc; subst e51; clear hd; go_simp; exact hK.out _ _ ⟨_, _, _, _, _, _, _, _, rfl, qh ⟨HR.out.o, HR.out.f0, HR.out.f1, HR.out.c.snd lc rfl⟩⟩
 ·rintro L_ a_ w_ hL hd ⟨v49, v50, v51, v48, v52, v53, v11, v12, rfl, HR⟩ K hK; have hL2 := qh hL; clear hd; go_simp; exact hK.out _ _ ⟨_, _, _, _, _, _, _, _, rfl, qh ⟨HR.out.o.next (alloc_ _ _), HR.out.f0, HR.out.f1, HR.out.c.made hL2.out HR.out.o.y.lt⟩⟩
 ·rintro L_ a_ w_ hL hd ⟨v49, v50, v51, v48, v52, v53, v11, v12, rfl, HR⟩ K hK; have la := (hd ⟨6, .data⟩ (by simp) rfl); obtain ⟨lc, e4⟩ := HR.out.c.t0 (hd ⟨4, .data⟩ (by simp) rfl); obtain ⟨k, B, E, e51, _⟩ := HR.out.c.tc lc; subst e51; obtain rfl := show v52 = hg k from e4
  clear e4; obtain ⟨ep, h1, h2, h3⟩ := HR.out.c.tp la; obtain ⟨q, hq⟩ : ∃ q, blk v11 = q := ⟨_, rfl⟩; rw [hq] at ep h1 h3; clear hq; subst ep; have hx := h3 hL; have HB := qh (sets_below [.int .i64 k.id, .int .i64 k.bk, .int .i64 k.s.1, .int .i64 k.s.2, .int .i64 k.r.k, .int .i64 k.r.v, .int .i64 k.r.a, .int .i64 k.r.z, .slice k.A k.n k.c, .slice k.B k.m k.d] h1 0 w_ (Below.refl _ _)); have HQ := qh h1; have HL7 := qh hL; obtain ⟨z0, z1, z2, z3, z4, z5, z6, z7, z8, z9⟩ := qc10 hx; have fz := hx.f; clear hd hx h1 h2 h3; go_simp; exact hK.out _ _ ⟨_, _, _, _, _, _, _, _, rfl, qh (show K6 w1 A T _ (puth q k w_) _ _ _ _ _ _ _ _ from ⟨⟨sets_below _ (by have := HQ.out; omega) 0 w_ HR.out.o.b, HR.out.o.x.sets_far (by have := HQ.out; omega) _ 0, HR.out.o.y.sets_far (by have := HQ.out; omega) _ 0⟩, HR.out.f0, HR.out.f1, HR.out.c.store HL7.out la lc rfl⟩)⟩
 ·rintro L_ a_ w_ hL hd ⟨v49, v50, v51, v48, v52, v53, v11, v12, rfl, HR⟩ K hK; obtain ⟨lc, e5⟩ := HR.out.c.t1 (hd ⟨5, .data⟩ (by simp) rfl); subst e5; clear hd; go_simp; exact hK.out _ _ ⟨_, _, _, _, _, _, _, _, rfl, qh ⟨HR.out.o, HR.out.f0, HR.out.f1, HR.out.c.code lc rfl⟩⟩
 rintro L_ a_ w6 hL ⟨v49, v50, v51, v48, v52, v53, v11, v12, rfl, HR⟩; obtain rfl := HR.out.f0 (hL 0 (by decide)); obtain rfl := HR.out.f1 (hL 1 (by decide)); have hc := HR.out.c; rw [hL 2 (by decide), hL 3 (by decide), hL 4 (by decide), hL 5 (by decide), hL 6 (by decide), hL 7 (by decide), hL 8 (by decide)] at hc; obtain ⟨k, q, rfl, rfl, rfl, rfl, rfl, rfl, hq1, hq2, hX, hv, hM, hS⟩ := hc.fin; have H6 := qh HR.out.o; have HX := qh hX; have HKV := qh hv; have HA6 := qh (show Arg w6 k T 1 [r] from Arg.of hM hS (HA.out.below H6.out.b).v HA.out.hv (by rw [hv]; decide) (by rw [hv]; decide) (by rw [hv]; intro c hc; rw [show (wi hiP (chP 1)).hs = [chP 1] from rfl, List.mem_singleton] at hc; subst hc; decide)); clear HR hL hc hq1 hq2 hX hv hM hS H5; dsimp only [Exit.then]; go_step; have C1 := qh ((HKC.out k T 1 1 [r] w6 HA6.out).mono fun e w' H => KpTo.is (by rw [HVS.out, HKV.out] at H; exact H) kpP2); obtain ⟨x0, x1, x2, x3, x4, x5, x6, x7, x8, x9⟩ := qc10 HX.out; have y0 := H6.out.y.c 0; simp at y0
 go_wp2_with fail
 refine C1.out.mono ?_; rintro e w7 ⟨rfl, hb⟩; have H7 := qh (H6.out.next hb); clear hb C1 H6 HX HA6 x0 x1 x2 x3 x4 x5 x6 x7 x8 x9 y0; have HA7 := qh (show Arg w7 (hrP A) none 0 [] from ⟨(HA.out.below H7.out.b).m, HA.out.s, HA.out.hm, HA.out.hn, ⟨⟨rfl, fun h => absurd h (by omega)⟩, (fun r hr => by cases hr), (fun r hr => by cases hr)⟩, by omega⟩); have C1 := qh ((HDC.out (hrP A) none 0 0 [] w7 HA7.out).mono fun e w' H => DuTo.is H duPn); obtain ⟨x0, x1, x2, x3, x4, x5, x6, x7, x8, x9⟩ := qc10 H7.out.x; have y0 := H7.out.y.c 0; simp at y0
 go_wp2_with fail
 refine C1.out.mono ?_; rintro e w8 ⟨rfl, hb⟩; have H8 := qh (H7.out.next hb); clear hb C1 H7 HA7 x0 x1 x2 x3 x4 x5 x6 x7 x8 x9 y0; go_wp2; go_ret; exact ⟨rfl, HB1.out.trans (H8.out.b.mono HB1.out.size)⟩
end Rfd
end Go.Proofs.YtfidmphajohljaaGreat
