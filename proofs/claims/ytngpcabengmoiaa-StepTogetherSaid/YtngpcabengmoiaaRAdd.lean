/-
  The document's Add. Conditions: the rows read as lists of ints.
-/
import Derived.Test.YtngpcabengmoiaaRAddM
import Derived.Test.YtngpcabengmoiaaSetW
import Derived.Test.YtngpcabengmoiaaRRight
import Derived.Lib.MinMax
namespace Go.Proofs.Ytngpcabengmoiaa
open Go.RowKit St
namespace Stp
set_option linter.unusedVariables false

/-- What Add boxes first. -/
abbrev addW (w : World) (A : Option Addr) (n c : Nat) (V : Option Addr) (m d : Nat) (A2 : Option Addr) (n2 c2 : Nat) (V2 : Option Addr) (m2 d2 : Nat) : World :=
  ((w.alloc (.cells #[.slice A n c, .slice V m d] 24)).alloc (.cells #[.slice A2 n2 c2, .slice V2 m2 d2] 24)).alloc (.cells #[.slice none 0 0, .slice none 0 0] 24)
/-- Its three boxes. -/
structure AB (w W : World) (A : Option Addr) (n c : Nat) (V : Option Addr) (m d : Nat) (A2 : Option Addr) (n2 c2 : Nat) (V2 : Option Addr) (m2 d2 : Nat) : Prop where
  f : Bx W w.heap.size 24 (.slice A n c) (.slice V m d)
  g : Bx W (w.heap.size + 1) 24 (.slice A2 n2 c2) (.slice V2 m2 d2)
  r : Bx W (w.heap.size + 1 + 1) 24 (.slice none 0 0) (.slice none 0 0)
  b : Below w.heap.size w W
section
variable {w W W1 : World} {A : Option Addr} {n c : Nat} {V : Option Addr} {m d : Nat} {A2 : Option Addr} {n2 c2 : Nat} {V2 : Option Addr} {m2 d2 : Nat}
theorem AB.new : AB w (addW w A n c V m d A2 n2 c2 V2 m2 d2) A n c V m d A2 n2 c2 V2 m2 d2 := by
  have b0 := Bx.new w 24 (.slice A n c) (.slice V m d)
  have b1 := Bx.new (w.alloc (.cells #[.slice A n c, .slice V m d] 24)) 24 (.slice A2 n2 c2) (.slice V2 m2 d2)
  have b2 := Bx.new ((w.alloc (.cells #[.slice A n c, .slice V m d] 24)).alloc (.cells #[.slice A2 n2 c2, .slice V2 m2 d2] 24)) 24 (.slice none 0 0) (.slice none 0 0)
  simp only [World.size_alloc] at b1 b2
  exact ⟨(b0.alloc _).alloc _, b1.alloc _, b2, (((Below.refl _ w).alloc (Nat.le_refl _) _).alloc (by simp) _).alloc (by simp <;> omega) _⟩
theorem AB.keep (h : AB w W A n c V m d A2 n2 c2 V2 m2 d2) (hb : Below W.heap.size W W1) : AB w W1 A n c V m d A2 n2 c2 V2 m2 d2 :=
  ⟨h.f.keep hb, h.g.keep hb, h.r.keep hb, h.b.trans (hb.mono h.b.size)⟩
end
/-- What Add gives: a step and that it is one, or why it is none. -/
def GivesA (w : World) (ps : List Pr) (er : Int) (e : Ending) (w' : World) : Prop := ∃ A c V d, e = .returned (.tuple #[sg A ps.length c V ps.length d, .int .i64 er]) ∧ OwnS w' w.heap.size A ps.length c V ps.length d (ps.map (·.1)) (ps.map (·.2)) ∧ Below w.heap.size w w'

set_option maxRecDepth 100000 in
set_option maxHeartbeats 2000000 in
theorem radd_no (A : Option Addr) (n c : Nat) (V : Option Addr) (m d : Nat) (A2 : Option Addr) (n2 c2 : Nat) (V2 : Option Addr) (m2 d2 : Nat) (xs vs ys us : List Int) (w : World) (hS : Sx w w.heap.size A n V m xs vs) (hS2 : Sx w w.heap.size A2 n2 V2 m2 ys us) (hn : n ≤ 1000) (hn2 : n2 ≤ 1000) (b1 b2 : Bool) (h1 : rg xs vs = b1) (h2 : rg ys us = b2) (h : (!b1 || !b2) = true) :
    Calls Try.prog 8 #[sg A n c V m d, sg A2 n2 c2 V2 m2 d2] w (GivesA w [] 1) := by
  have S0 : AB w (addW w A n c V m d A2 n2 c2 V2 m2 d2) A n c V m d A2 n2 c2 V2 m2 d2 := AB.new
  have C := Lib.hid (rright A n c V m d xs vs _ ((hS.below S0.b (Nat.le_refl _)).wide S0.b.size) (by omega))
  rw [h1] at C
  have HS2 := Lib.hid hS2
  have HR2 := Lib.hid h2
  have HS := Lib.hid S0
  clear h1 h2 hS hS2 S0
  cases b1 <;> cases b2 <;> simp at h
  all_goals
    go_enter Try.func8, Try.ntmps8
    go_wp2_with fail
    refine C.out.mono ?_
    rintro e w1 ⟨rfl, hb⟩
    have S1 := HS.out.keep hb
    have g0 := S1.g.c0
    have g1 := S1.g.c1
    have H1 := Lib.hid S1
    clear hb HS S1 C
    go_wp2_with fail
    refine (rright A2 n2 c2 V2 m2 d2 ys us w1 ((HS2.out.below H1.out.b (Nat.le_refl _)).wide H1.out.b.size) (by omega)).mono ?_
    rintro e w2 ⟨rfl, hb⟩
    rw [HR2.out]
    have S2 := H1.out.keep hb
    have r0 := S2.r.c0
    have r1 := S2.r.c1
    have f0 := S2.r.f 0
    have f1 := S2.r.f 1
    have H2 := Lib.hid S2
    clear hb S2 g0 g1 H1
    go_wp2
    have Z := (H2.out.r.set0 (.slice none 0 0)).set1 (.slice none 0 0)
    exact bodyPost_ret (v := .tuple #[sg none 0 0 none 0 0, .int .i64 1]) (by simp [results, Try.results8, go_sem, Z.c0, Z.c1]) rfl ⟨none, 0, none, 0, rfl, OwnS.nil, (H2.out.b.setCell (p := ⟨w.heap.size + 1 + 1, 0, none⟩) (by simp <;> omega) _).setCell (p := ⟨w.heap.size + 1 + 1, 1, none⟩) (by simp <;> omega) _⟩

theorem lst_fits : ∀ (l : List Pr) (h : Int), St.fits h = true → Fit l → St.fits (lst h l) = true
  | [], _, hh, _ => hh
  | x :: r, _, _, hl => lst_fits r x.2 (hl x (by simp)) (fun y hy => hl y (by simp [hy]))
theorem rt_day {ps : List Pr} : ∀ {day held : Int}, Rt day held ps → ∀ {x : Pr}, x ∈ ps → x.1 ≤ 292194 := by
  induction ps with
  | nil => intro _ _ _ x hx; simp at hx
  | cons y r ih =>
    intro day held h x hx
    rcases List.mem_cons.1 hx with rfl | hx
    · exact h.2.1
    · exact ih h.2.2.2 hx

set_option maxRecDepth 100000 in
set_option maxHeartbeats 8000000 in
theorem radd_yes (A : Option Addr) (n c : Nat) (V : Option Addr) (d : Nat) (A2 : Option Addr) (m c2 : Nat) (V2 : Option Addr) (d2 : Nat) (ps qs : List Pr) (w : World) (hS : Sr w w.heap.size A V n ps) (hS2 : Sr w w.heap.size A2 V2 m qs) (hn : n ≤ 400) (hm : m ≤ 400) (hp : Right ps) (hq : Right qs) :
    Calls Try.prog 8 #[sg A n c V n d, sg A2 m c2 V2 m d2] w fun e w' => (AllFit ps qs ∧ GivesA w (addL ps qs) 0 e w') ∨ (¬ AllFit ps qs ∧ GivesA w [] 5 e w') := by
  have S0 : AB w (addW w A n c V n d A2 m c2 V2 m d2) A n c V n d A2 m c2 V2 m d2 := AB.new
  have C := Lib.hid (rright A n c V n d _ _ _ ((hS.below S0.b (Nat.le_refl _)).wide S0.b.size) (by omega))
  rw [rg_of hp] at C
  have HS1 := Lib.hid hS
  have HS2 := Lib.hid hS2
  have HP := Lib.hid hp
  have HQ := Lib.hid hq
  have HLp := Lib.hid hS.len
  have HLq := Lib.hid hS2.len
  have HS := Lib.hid S0
  clear hp hq hS hS2 S0
  go_enter Try.func8, Try.ntmps8
  go_wp2_with fail
  refine C.out.mono ?_
  rintro e w1 ⟨rfl, hb⟩
  have S1 := HS.out.keep hb
  have g0 := S1.g.c0
  have g1 := S1.g.c1
  have H1 := Lib.hid S1
  clear hb HS S1 C
  go_wp2_with fail
  refine (rright A2 m c2 V2 m d2 _ _ w1 ((HS2.out.below H1.out.b (Nat.le_refl _)).wide H1.out.b.size) (by omega)).mono ?_
  rintro e w2 ⟨rfl, hb⟩
  rw [rg_of HQ.out]
  have S2 := H1.out.keep hb
  have H2 := Lib.hid S2
  have z0 := S2.f.lt
  have z1 := S2.g.lt
  have z2 := S2.r.lt
  have hws := S2.b.size
  have HSp := Lib.hid (HS1.out.below S2.b (Nat.le_refl _))
  have HTq := Lib.hid (HS2.out.below S2.b (Nat.le_refl _))
  clear hb S2 g0 g1 H1 HS1 HS2
  go_wp2
  go_loopw [9, 10, 11, 12] (fun si sk sa sb w' => ∃ (i k N : Nat) (A1 : Option Addr) (c1 : Nat) (V1 : Option Addr) (d1 : Nat) (out : List Pr) (a b B : Int), i ≤ n ∧ k ≤ m ∧ si = .int .i64 (i : Int) ∧ sk = .int .i64 (k : Int) ∧ sa = .int .i64 a ∧ sb = .int .i64 b ∧ Hid (lst 0 (ps.take i) = a) ∧ Hid (lst 0 (qs.take k) = b) ∧ Hid (Ai ps qs i k B out) ∧ Hid (RQ w2 w' A1 N c1 V1 d1 out)) (fun si sk _ _ _ => (n - (intOf si).toNat) + (m - (intOf sk).toNat))
  case atStart => exact ⟨0, 0, 0, none, 0, none, 0, [], 0, 0, 1, Nat.zero_le _, Nat.zero_le _, rfl, rfl, rfl, rfl, Lib.hid rfl, Lib.hid rfl, Lib.hid (Ai.start HP.out.1 HQ.out.1), Lib.hid ⟨OwnS.nil, Bx.new _ _ _ _, (Below.refl _ _).alloc (Nat.le_refl _) _, rfl⟩⟩
  case round =>
    obtain ⟨i, k, N, A1, c1, V1, d1, out, a, b, B, hi, hk, rfl, rfl, rfl, rfl, HLa, HLb, HAI, HR⟩ := hrel
    have HSr := Lib.hid (HSp.out.below (HR.out.b.mono hws) (Nat.le_refl _))
    have HTr := Lib.hid (HTq.out.below (HR.out.b.mono hws) (Nat.le_refl _))
    have f0 := (H2.out.f.below HR.out.b z0).c0
    have f1 := (H2.out.f.below HR.out.b z0).c1
    have g0 := (H2.out.g.below HR.out.b z1).c0
    have g1 := (H2.out.g.below HR.out.b z1).c1
    have o0 := HR.out.bx.c0
    have o1 := HR.out.bx.c1
    have HRr := Lib.hid (H2.out.r.below HR.out.b z2)
    have r0 := HRr.out.c0
    have r1 := HRr.out.c1
    have rf0 := HRr.out.f 0
    have rf1 := HRr.out.f 1
    have HNN := Lib.hid (show N ≤ 1000 by have h1 := HAI.out.n; have h2 := HR.out.len; omega)
    obtain ⟨a1, a2⟩ := (fits_iff a).1 (by rw [← HLa.out]; exact lst_fits _ 0 (by decide) (fun x hx => HP.out.2 x (List.mem_of_mem_take hx)))
    obtain ⟨b1, b2⟩ := (fits_iff b).1 (by rw [← HLb.out]; exact lst_fits _ 0 (by decide) (fun x hx => HQ.out.2 x (List.mem_of_mem_take hx)))
    by_cases hlt : i < n
    · obtain ⟨ad, x, rfl, _, hy_, hc⟩ := HSr.out.a.get hlt
      obtain ⟨av, va, rfl, _, hv_, hcv⟩ := HSr.out.v.get hlt
      have hz : ps[i]? = some (x, va) := by
        rw [List.getElem?_map] at hy_ hv_
        cases hq : ps[i]? with
        | none => rw [hq] at hy_; cases hy_
        | some q => rw [hq] at hy_ hv_; simp at hy_ hv_; rw [← hy_, ← hv_]
      clear hy_ hv_
      have hlt2 : (i : Int) < (n : Int) := by omega
      have hxd := rt_day HP.out.1 (List.mem_of_getElem? hz)
      simp only at hxd
      obtain ⟨va1, va2⟩ := (fits_iff va).1 (HP.out.2 _ (List.mem_of_getElem? hz))
      by_cases hlk : k < m
      · obtain ⟨bd, y, rfl, _, hy_, hd⟩ := HTr.out.a.get hlk
        obtain ⟨bv, vb, rfl, _, hv_, hdv⟩ := HTr.out.v.get hlk
        have hzq : qs[k]? = some (y, vb) := by
          rw [List.getElem?_map] at hy_ hv_
          cases hq : qs[k]? with
          | none => rw [hq] at hy_; cases hy_
          | some q => rw [hq] at hy_ hv_; simp at hy_ hv_; rw [← hy_, ← hv_]
        clear hy_ hv_
        have hlk2 : (k : Int) < (m : Int) := by omega
        have hyd := rt_day HQ.out.1 (List.mem_of_getElem? hzq)
        simp only at hyd
        obtain ⟨vb1, vb2⟩ := (fits_iff vb).1 (HQ.out.2 _ (List.mem_of_getElem? hzq))
        rcases Int.lt_trichotomy x y with g | g | g
        · have hmin : min x y = x := by omega
          have txy : (y == x) = false := by rw [beq_eq_false_iff_ne]; omega
          obtain ⟨s, hs⟩ : ∃ s, va + b = s := ⟨_, rfl⟩
          have ws : IntKind.i64.wrap s = s := IntWalk.i64_in _ (by omega)
          have HG1 := Lib.hid (show Go1 ps i (i + 1) x from .inr ⟨rfl, _, hz⟩)
          have HG2 := Lib.hid (show Go1 qs k k x from .inl ⟨rfl, fun x_ hx_ => by rw [hzq] at hx_; injection hx_ with hx_; subst hx_; exact g⟩)
          have HA2 := Lib.hid (show lst 0 (ps.take (i + 1)) = va from (by rw [take_more hz, lst_snoc]))
          have HB2 := Lib.hid (show lst 0 (qs.take k) = b from HLb.out)
          have HSm := Lib.hid (show lst 0 (ps.take (i + 1)) + lst 0 (qs.take k) = s by rw [HA2.out, HB2.out]; exact hs)
          have HBD := Lib.hid (show B ≤ x from HAI.out.p.le _ hz)
          have HD2 := Lib.hid (show x ≤ 292194 by omega)
          clear hz hzq g
          by_cases gs : St.fits s = true
          · have HF := Lib.hid gs
            obtain ⟨gs1, gs2⟩ := (fits_iff s).1 gs
            have ts1 : decide (4000000000000000000 < s) = false := by rw [decide_eq_false_iff_not]; omega
            have ts2 : decide (s < -4000000000000000000) = false := by rw [decide_eq_false_iff_not]; omega
            obtain ⟨L, hL⟩ : ∃ L, (wt out x s).length = L := ⟨_, rfl⟩
            have HL_ := Lib.hid hL
            have HN := Lib.hid (HAI.out.next HP.out.1 HQ.out.1 HBD.out HG1.out HG2.out (by omega) HSm.out HF.out)
            clear hL gs gs1 gs2 r0 r1 rf0 rf1
            go_wp2_with fail
            refine (with_l (w2.heap.size + 1) A1 N c1 V1 d1 out x s wr HR.out.own HR.out.len HR.out.size (by have := HNN.out; omega) rfl HL_.out).mono ?_
            rintro e W3 ⟨Aw, cw, Vw, dw, rfl, hO, hb⟩
            have HRn := Lib.hid (HR.out.put hO hb HL_.out)
            have HX3 := HR.out.bx.below hb (Nat.lt_succ_self _)
            have r0 := HX3.c0
            have r1 := HX3.c1
            have rf0 := HX3.f 0
            have rf1 := HX3.f 1
            clear hb hO HX3 f0 f1 g0 g1 o0 o1 HR
            go_wp2
            go_roundw
            case rel => exact ⟨(i + 1), k, L, Aw, cw, Vw, dw, _, va, b, _, by omega, by omega, by go_num, by go_num, rfl, rfl, HA2, HB2, HN, HRn⟩
            case measure => clear hs; simp [intOf]; omega
          · have HOv := Lib.hid (show ¬ AllFit ps qs from fun hf => by have h1 := hf x (by have := HAI.out.b; have := HBD.out; omega) HD2.out; rw [HAI.out.sum HP.out.1 HQ.out.1 HBD.out HG1.out HG2.out, HSm.out] at h1; exact gs h1)
            rw [fits_iff] at gs
            by_cases gs1 : 4000000000000000000 < s
            · have ts1 : decide (4000000000000000000 < s) = true := by rw [decide_eq_true_eq]; exact gs1
              clear gs gs1
              go_wp2
              have Z := (HRr.out.set0 (.slice none 0 0)).set1 (.slice none 0 0)
              exact bodyPost_ret (v := .tuple #[sg none 0 0 none 0 0, .int .i64 5]) (by simp [results, Try.results8, go_sem, Z.c0, Z.c1]) rfl (.inr ⟨HOv.out, none, 0, none, 0, rfl, OwnS.nil, ((H2.out.b.trans (HR.out.b.mono hws)).setCell (p := ⟨w.heap.size + 1 + 1, 0, none⟩) (by simp <;> omega) _).setCell (p := ⟨w.heap.size + 1 + 1, 1, none⟩) (by simp <;> omega) _⟩)
            · have ts1 : decide (4000000000000000000 < s) = false := by rw [decide_eq_false_iff_not]; exact gs1
              have ts2 : decide (s < -4000000000000000000) = true := by rw [decide_eq_true_eq]; omega
              clear gs gs1
              go_wp2
              have Z := (HRr.out.set0 (.slice none 0 0)).set1 (.slice none 0 0)
              exact bodyPost_ret (v := .tuple #[sg none 0 0 none 0 0, .int .i64 5]) (by simp [results, Try.results8, go_sem, Z.c0, Z.c1]) rfl (.inr ⟨HOv.out, none, 0, none, 0, rfl, OwnS.nil, ((H2.out.b.trans (HR.out.b.mono hws)).setCell (p := ⟨w.heap.size + 1 + 1, 0, none⟩) (by simp <;> omega) _).setCell (p := ⟨w.heap.size + 1 + 1, 1, none⟩) (by simp <;> omega) _⟩)
        · subst g
          have hmin : min x x = x := by omega
          obtain ⟨s, hs⟩ : ∃ s, va + vb = s := ⟨_, rfl⟩
          have ws : IntKind.i64.wrap s = s := IntWalk.i64_in _ (by omega)
          have HG1 := Lib.hid (show Go1 ps i (i + 1) x from .inr ⟨rfl, _, hz⟩)
          have HG2 := Lib.hid (show Go1 qs k (k + 1) x from .inr ⟨rfl, _, hzq⟩)
          have HA2 := Lib.hid (show lst 0 (ps.take (i + 1)) = va from (by rw [take_more hz, lst_snoc]))
          have HB2 := Lib.hid (show lst 0 (qs.take (k + 1)) = vb from (by rw [take_more hzq, lst_snoc]))
          have HSm := Lib.hid (show lst 0 (ps.take (i + 1)) + lst 0 (qs.take (k + 1)) = s by rw [HA2.out, HB2.out]; exact hs)
          have HBD := Lib.hid (show B ≤ x from HAI.out.p.le _ hz)
          have HD2 := Lib.hid (show x ≤ 292194 by omega)
          clear hz hzq
          by_cases gs : St.fits s = true
          · have HF := Lib.hid gs
            obtain ⟨gs1, gs2⟩ := (fits_iff s).1 gs
            have ts1 : decide (4000000000000000000 < s) = false := by rw [decide_eq_false_iff_not]; omega
            have ts2 : decide (s < -4000000000000000000) = false := by rw [decide_eq_false_iff_not]; omega
            obtain ⟨L, hL⟩ : ∃ L, (wt out x s).length = L := ⟨_, rfl⟩
            have HL_ := Lib.hid hL
            have HN := Lib.hid (HAI.out.next HP.out.1 HQ.out.1 HBD.out HG1.out HG2.out (by omega) HSm.out HF.out)
            clear hL gs gs1 gs2 r0 r1 rf0 rf1
            go_wp2_with fail
            refine (with_l (w2.heap.size + 1) A1 N c1 V1 d1 out x s wr HR.out.own HR.out.len HR.out.size (by have := HNN.out; omega) rfl HL_.out).mono ?_
            rintro e W3 ⟨Aw, cw, Vw, dw, rfl, hO, hb⟩
            have HRn := Lib.hid (HR.out.put hO hb HL_.out)
            have HX3 := HR.out.bx.below hb (Nat.lt_succ_self _)
            have r0 := HX3.c0
            have r1 := HX3.c1
            have rf0 := HX3.f 0
            have rf1 := HX3.f 1
            clear hb hO HX3 f0 f1 g0 g1 o0 o1 HR
            go_wp2
            go_roundw
            case rel => exact ⟨(i + 1), (k + 1), L, Aw, cw, Vw, dw, _, va, vb, _, by omega, by omega, by go_num, by go_num, rfl, rfl, HA2, HB2, HN, HRn⟩
            case measure => clear hs; simp [intOf]; omega
          · have HOv := Lib.hid (show ¬ AllFit ps qs from fun hf => by have h1 := hf x (by have := HAI.out.b; have := HBD.out; omega) HD2.out; rw [HAI.out.sum HP.out.1 HQ.out.1 HBD.out HG1.out HG2.out, HSm.out] at h1; exact gs h1)
            rw [fits_iff] at gs
            by_cases gs1 : 4000000000000000000 < s
            · have ts1 : decide (4000000000000000000 < s) = true := by rw [decide_eq_true_eq]; exact gs1
              clear gs gs1
              go_wp2
              have Z := (HRr.out.set0 (.slice none 0 0)).set1 (.slice none 0 0)
              exact bodyPost_ret (v := .tuple #[sg none 0 0 none 0 0, .int .i64 5]) (by simp [results, Try.results8, go_sem, Z.c0, Z.c1]) rfl (.inr ⟨HOv.out, none, 0, none, 0, rfl, OwnS.nil, ((H2.out.b.trans (HR.out.b.mono hws)).setCell (p := ⟨w.heap.size + 1 + 1, 0, none⟩) (by simp <;> omega) _).setCell (p := ⟨w.heap.size + 1 + 1, 1, none⟩) (by simp <;> omega) _⟩)
            · have ts1 : decide (4000000000000000000 < s) = false := by rw [decide_eq_false_iff_not]; exact gs1
              have ts2 : decide (s < -4000000000000000000) = true := by rw [decide_eq_true_eq]; omega
              clear gs gs1
              go_wp2
              have Z := (HRr.out.set0 (.slice none 0 0)).set1 (.slice none 0 0)
              exact bodyPost_ret (v := .tuple #[sg none 0 0 none 0 0, .int .i64 5]) (by simp [results, Try.results8, go_sem, Z.c0, Z.c1]) rfl (.inr ⟨HOv.out, none, 0, none, 0, rfl, OwnS.nil, ((H2.out.b.trans (HR.out.b.mono hws)).setCell (p := ⟨w.heap.size + 1 + 1, 0, none⟩) (by simp <;> omega) _).setCell (p := ⟨w.heap.size + 1 + 1, 1, none⟩) (by simp <;> omega) _⟩)
        · have hmin : min x y = y := by omega
          have txy : (x == y) = false := by rw [beq_eq_false_iff_ne]; omega
          obtain ⟨s, hs⟩ : ∃ s, a + vb = s := ⟨_, rfl⟩
          have ws : IntKind.i64.wrap s = s := IntWalk.i64_in _ (by omega)
          have HG1 := Lib.hid (show Go1 ps i i y from .inl ⟨rfl, fun x_ hx_ => by rw [hz] at hx_; injection hx_ with hx_; subst hx_; exact g⟩)
          have HG2 := Lib.hid (show Go1 qs k (k + 1) y from .inr ⟨rfl, _, hzq⟩)
          have HA2 := Lib.hid (show lst 0 (ps.take i) = a from HLa.out)
          have HB2 := Lib.hid (show lst 0 (qs.take (k + 1)) = vb from (by rw [take_more hzq, lst_snoc]))
          have HSm := Lib.hid (show lst 0 (ps.take i) + lst 0 (qs.take (k + 1)) = s by rw [HA2.out, HB2.out]; exact hs)
          have HBD := Lib.hid (show B ≤ y from HAI.out.q.le _ hzq)
          have HD2 := Lib.hid (show y ≤ 292194 by omega)
          clear hz hzq g
          by_cases gs : St.fits s = true
          · have HF := Lib.hid gs
            obtain ⟨gs1, gs2⟩ := (fits_iff s).1 gs
            have ts1 : decide (4000000000000000000 < s) = false := by rw [decide_eq_false_iff_not]; omega
            have ts2 : decide (s < -4000000000000000000) = false := by rw [decide_eq_false_iff_not]; omega
            obtain ⟨L, hL⟩ : ∃ L, (wt out y s).length = L := ⟨_, rfl⟩
            have HL_ := Lib.hid hL
            have HN := Lib.hid (HAI.out.next HP.out.1 HQ.out.1 HBD.out HG1.out HG2.out (by omega) HSm.out HF.out)
            clear hL gs gs1 gs2 r0 r1 rf0 rf1
            go_wp2_with fail
            refine (with_l (w2.heap.size + 1) A1 N c1 V1 d1 out y s wr HR.out.own HR.out.len HR.out.size (by have := HNN.out; omega) rfl HL_.out).mono ?_
            rintro e W3 ⟨Aw, cw, Vw, dw, rfl, hO, hb⟩
            have HRn := Lib.hid (HR.out.put hO hb HL_.out)
            have HX3 := HR.out.bx.below hb (Nat.lt_succ_self _)
            have r0 := HX3.c0
            have r1 := HX3.c1
            have rf0 := HX3.f 0
            have rf1 := HX3.f 1
            clear hb hO HX3 f0 f1 g0 g1 o0 o1 HR
            go_wp2
            go_roundw
            case rel => exact ⟨i, (k + 1), L, Aw, cw, Vw, dw, _, a, vb, _, by omega, by omega, by go_num, by go_num, rfl, rfl, HA2, HB2, HN, HRn⟩
            case measure => clear hs; simp [intOf]; omega
          · have HOv := Lib.hid (show ¬ AllFit ps qs from fun hf => by have h1 := hf y (by have := HAI.out.b; have := HBD.out; omega) HD2.out; rw [HAI.out.sum HP.out.1 HQ.out.1 HBD.out HG1.out HG2.out, HSm.out] at h1; exact gs h1)
            rw [fits_iff] at gs
            by_cases gs1 : 4000000000000000000 < s
            · have ts1 : decide (4000000000000000000 < s) = true := by rw [decide_eq_true_eq]; exact gs1
              clear gs gs1
              go_wp2
              have Z := (HRr.out.set0 (.slice none 0 0)).set1 (.slice none 0 0)
              exact bodyPost_ret (v := .tuple #[sg none 0 0 none 0 0, .int .i64 5]) (by simp [results, Try.results8, go_sem, Z.c0, Z.c1]) rfl (.inr ⟨HOv.out, none, 0, none, 0, rfl, OwnS.nil, ((H2.out.b.trans (HR.out.b.mono hws)).setCell (p := ⟨w.heap.size + 1 + 1, 0, none⟩) (by simp <;> omega) _).setCell (p := ⟨w.heap.size + 1 + 1, 1, none⟩) (by simp <;> omega) _⟩)
            · have ts1 : decide (4000000000000000000 < s) = false := by rw [decide_eq_false_iff_not]; exact gs1
              have ts2 : decide (s < -4000000000000000000) = true := by rw [decide_eq_true_eq]; omega
              clear gs gs1
              go_wp2
              have Z := (HRr.out.set0 (.slice none 0 0)).set1 (.slice none 0 0)
              exact bodyPost_ret (v := .tuple #[sg none 0 0 none 0 0, .int .i64 5]) (by simp [results, Try.results8, go_sem, Z.c0, Z.c1]) rfl (.inr ⟨HOv.out, none, 0, none, 0, rfl, OwnS.nil, ((H2.out.b.trans (HR.out.b.mono hws)).setCell (p := ⟨w.heap.size + 1 + 1, 0, none⟩) (by simp <;> omega) _).setCell (p := ⟨w.heap.size + 1 + 1, 1, none⟩) (by simp <;> omega) _⟩)
      · obtain ⟨s, hs⟩ : ∃ s, va + b = s := ⟨_, rfl⟩
        have ws : IntKind.i64.wrap s = s := IntWalk.i64_in _ (by omega)
        have HG1 := Lib.hid (show Go1 ps i (i + 1) x from .inr ⟨rfl, _, hz⟩)
        have HG2 := Lib.hid (show Go1 qs k k x from .inl ⟨rfl, fun x_ hx_ => by rw [List.getElem?_eq_none (by have := HLq.out; omega)] at hx_; cases hx_⟩)
        have HA2 := Lib.hid (show lst 0 (ps.take (i + 1)) = va from (by rw [take_more hz, lst_snoc]))
        have HB2 := Lib.hid (show lst 0 (qs.take k) = b from HLb.out)
        have HSm := Lib.hid (show lst 0 (ps.take (i + 1)) + lst 0 (qs.take k) = s by rw [HA2.out, HB2.out]; exact hs)
        have HBD := Lib.hid (show B ≤ x from HAI.out.p.le _ hz)
        have HD2 := Lib.hid (show x ≤ 292194 by omega)
        clear hz
        by_cases gs : St.fits s = true
        · have HF := Lib.hid gs
          obtain ⟨gs1, gs2⟩ := (fits_iff s).1 gs
          have ts1 : decide (4000000000000000000 < s) = false := by rw [decide_eq_false_iff_not]; omega
          have ts2 : decide (s < -4000000000000000000) = false := by rw [decide_eq_false_iff_not]; omega
          obtain ⟨L, hL⟩ : ∃ L, (wt out x s).length = L := ⟨_, rfl⟩
          have HL_ := Lib.hid hL
          have HN := Lib.hid (HAI.out.next HP.out.1 HQ.out.1 HBD.out HG1.out HG2.out (by omega) HSm.out HF.out)
          clear hL gs gs1 gs2 r0 r1 rf0 rf1
          go_wp2_with fail
          refine (with_l (w2.heap.size + 1) A1 N c1 V1 d1 out x s wr HR.out.own HR.out.len HR.out.size (by have := HNN.out; omega) rfl HL_.out).mono ?_
          rintro e W3 ⟨Aw, cw, Vw, dw, rfl, hO, hb⟩
          have HRn := Lib.hid (HR.out.put hO hb HL_.out)
          have HX3 := HR.out.bx.below hb (Nat.lt_succ_self _)
          have r0 := HX3.c0
          have r1 := HX3.c1
          have rf0 := HX3.f 0
          have rf1 := HX3.f 1
          clear hb hO HX3 f0 f1 g0 g1 o0 o1 HR
          go_wp2
          go_roundw
          case rel => exact ⟨(i + 1), k, L, Aw, cw, Vw, dw, _, va, b, _, by omega, by omega, by go_num, by go_num, rfl, rfl, HA2, HB2, HN, HRn⟩
          case measure => clear hs; simp [intOf]; omega
        · have HOv := Lib.hid (show ¬ AllFit ps qs from fun hf => by have h1 := hf x (by have := HAI.out.b; have := HBD.out; omega) HD2.out; rw [HAI.out.sum HP.out.1 HQ.out.1 HBD.out HG1.out HG2.out, HSm.out] at h1; exact gs h1)
          rw [fits_iff] at gs
          by_cases gs1 : 4000000000000000000 < s
          · have ts1 : decide (4000000000000000000 < s) = true := by rw [decide_eq_true_eq]; exact gs1
            clear gs gs1
            go_wp2
            have Z := (HRr.out.set0 (.slice none 0 0)).set1 (.slice none 0 0)
            exact bodyPost_ret (v := .tuple #[sg none 0 0 none 0 0, .int .i64 5]) (by simp [results, Try.results8, go_sem, Z.c0, Z.c1]) rfl (.inr ⟨HOv.out, none, 0, none, 0, rfl, OwnS.nil, ((H2.out.b.trans (HR.out.b.mono hws)).setCell (p := ⟨w.heap.size + 1 + 1, 0, none⟩) (by simp <;> omega) _).setCell (p := ⟨w.heap.size + 1 + 1, 1, none⟩) (by simp <;> omega) _⟩)
          · have ts1 : decide (4000000000000000000 < s) = false := by rw [decide_eq_false_iff_not]; exact gs1
            have ts2 : decide (s < -4000000000000000000) = true := by rw [decide_eq_true_eq]; omega
            clear gs gs1
            go_wp2
            have Z := (HRr.out.set0 (.slice none 0 0)).set1 (.slice none 0 0)
            exact bodyPost_ret (v := .tuple #[sg none 0 0 none 0 0, .int .i64 5]) (by simp [results, Try.results8, go_sem, Z.c0, Z.c1]) rfl (.inr ⟨HOv.out, none, 0, none, 0, rfl, OwnS.nil, ((H2.out.b.trans (HR.out.b.mono hws)).setCell (p := ⟨w.heap.size + 1 + 1, 0, none⟩) (by simp <;> omega) _).setCell (p := ⟨w.heap.size + 1 + 1, 1, none⟩) (by simp <;> omega) _⟩)
    · by_cases hlk : k < m
      · obtain ⟨bd, y, rfl, _, hy_, hd⟩ := HTr.out.a.get hlk
        obtain ⟨bv, vb, rfl, _, hv_, hdv⟩ := HTr.out.v.get hlk
        have hzq : qs[k]? = some (y, vb) := by
          rw [List.getElem?_map] at hy_ hv_
          cases hq : qs[k]? with
          | none => rw [hq] at hy_; cases hy_
          | some q => rw [hq] at hy_ hv_; simp at hy_ hv_; rw [← hy_, ← hv_]
        clear hy_ hv_
        have hlk2 : (k : Int) < (m : Int) := by omega
        have hyd := rt_day HQ.out.1 (List.mem_of_getElem? hzq)
        simp only at hyd
        obtain ⟨vb1, vb2⟩ := (fits_iff vb).1 (HQ.out.2 _ (List.mem_of_getElem? hzq))
        have hmin : min 292194 y = y := by omega
        obtain ⟨s, hs⟩ : ∃ s, a + vb = s := ⟨_, rfl⟩
        have ws : IntKind.i64.wrap s = s := IntWalk.i64_in _ (by omega)
        have HG1 := Lib.hid (show Go1 ps i i y from .inl ⟨rfl, fun x_ hx_ => by rw [List.getElem?_eq_none (by have := HLp.out; omega)] at hx_; cases hx_⟩)
        have HG2 := Lib.hid (show Go1 qs k (k + 1) y from .inr ⟨rfl, _, hzq⟩)
        have HA2 := Lib.hid (show lst 0 (ps.take i) = a from HLa.out)
        have HB2 := Lib.hid (show lst 0 (qs.take (k + 1)) = vb from (by rw [take_more hzq, lst_snoc]))
        have HSm := Lib.hid (show lst 0 (ps.take i) + lst 0 (qs.take (k + 1)) = s by rw [HA2.out, HB2.out]; exact hs)
        have HBD := Lib.hid (show B ≤ y from HAI.out.q.le _ hzq)
        have HD2 := Lib.hid (show y ≤ 292194 by omega)
        clear hzq
        by_cases gs : St.fits s = true
        · have HF := Lib.hid gs
          obtain ⟨gs1, gs2⟩ := (fits_iff s).1 gs
          have ts1 : decide (4000000000000000000 < s) = false := by rw [decide_eq_false_iff_not]; omega
          have ts2 : decide (s < -4000000000000000000) = false := by rw [decide_eq_false_iff_not]; omega
          obtain ⟨L, hL⟩ : ∃ L, (wt out y s).length = L := ⟨_, rfl⟩
          have HL_ := Lib.hid hL
          have HN := Lib.hid (HAI.out.next HP.out.1 HQ.out.1 HBD.out HG1.out HG2.out (by omega) HSm.out HF.out)
          clear hL gs gs1 gs2 r0 r1 rf0 rf1
          go_wp2_with fail
          refine (with_l (w2.heap.size + 1) A1 N c1 V1 d1 out y s wr HR.out.own HR.out.len HR.out.size (by have := HNN.out; omega) rfl HL_.out).mono ?_
          rintro e W3 ⟨Aw, cw, Vw, dw, rfl, hO, hb⟩
          have HRn := Lib.hid (HR.out.put hO hb HL_.out)
          have HX3 := HR.out.bx.below hb (Nat.lt_succ_self _)
          have r0 := HX3.c0
          have r1 := HX3.c1
          have rf0 := HX3.f 0
          have rf1 := HX3.f 1
          clear hb hO HX3 f0 f1 g0 g1 o0 o1 HR
          go_wp2
          go_roundw
          case rel => exact ⟨i, (k + 1), L, Aw, cw, Vw, dw, _, a, vb, _, by omega, by omega, by go_num, by go_num, rfl, rfl, HA2, HB2, HN, HRn⟩
          case measure => clear hs; simp [intOf]; omega
        · have HOv := Lib.hid (show ¬ AllFit ps qs from fun hf => by have h1 := hf y (by have := HAI.out.b; have := HBD.out; omega) HD2.out; rw [HAI.out.sum HP.out.1 HQ.out.1 HBD.out HG1.out HG2.out, HSm.out] at h1; exact gs h1)
          rw [fits_iff] at gs
          by_cases gs1 : 4000000000000000000 < s
          · have ts1 : decide (4000000000000000000 < s) = true := by rw [decide_eq_true_eq]; exact gs1
            clear gs gs1
            go_wp2
            have Z := (HRr.out.set0 (.slice none 0 0)).set1 (.slice none 0 0)
            exact bodyPost_ret (v := .tuple #[sg none 0 0 none 0 0, .int .i64 5]) (by simp [results, Try.results8, go_sem, Z.c0, Z.c1]) rfl (.inr ⟨HOv.out, none, 0, none, 0, rfl, OwnS.nil, ((H2.out.b.trans (HR.out.b.mono hws)).setCell (p := ⟨w.heap.size + 1 + 1, 0, none⟩) (by simp <;> omega) _).setCell (p := ⟨w.heap.size + 1 + 1, 1, none⟩) (by simp <;> omega) _⟩)
          · have ts1 : decide (4000000000000000000 < s) = false := by rw [decide_eq_false_iff_not]; exact gs1
            have ts2 : decide (s < -4000000000000000000) = true := by rw [decide_eq_true_eq]; omega
            clear gs gs1
            go_wp2
            have Z := (HRr.out.set0 (.slice none 0 0)).set1 (.slice none 0 0)
            exact bodyPost_ret (v := .tuple #[sg none 0 0 none 0 0, .int .i64 5]) (by simp [results, Try.results8, go_sem, Z.c0, Z.c1]) rfl (.inr ⟨HOv.out, none, 0, none, 0, rfl, OwnS.nil, ((H2.out.b.trans (HR.out.b.mono hws)).setCell (p := ⟨w.heap.size + 1 + 1, 0, none⟩) (by simp <;> omega) _).setCell (p := ⟨w.heap.size + 1 + 1, 1, none⟩) (by simp <;> omega) _⟩)
      · obtain ⟨hall, he⟩ := HAI.out.all HP.out HQ.out (by have := HLp.out; omega) (by have := HLq.out; omega)
        have HALL := Lib.hid hall
        have HE := Lib.hid he
        have HL2 := Lib.hid (show (addL ps qs).length = N by rw [← he, HR.out.len])
        clear hall he
        go_wp2
        have Z := (HRr.out.set0 (.slice A1 N c1)).set1 (.slice V1 N d1)
        have ht : 24 ≠ 3 := by decide
        have O1 := HR.out.own.far (p := ⟨w.heap.size + 1 + 1, 0, none⟩) (HR.out.own.a.not_box HRr.out ht) (HR.out.own.v.not_box HRr.out ht) (.slice A1 N c1)
        have x1 := HRr.out.set0 (.slice A1 N c1)
        have O2 := O1.far (p := ⟨w.heap.size + 1 + 1, 1, none⟩) (O1.a.not_box x1 ht) (O1.v.not_box x1 ht) (.slice V1 N d1)
        refine bodyPost_ret (v := .tuple #[sg A1 N c1 V1 N d1, .int .i64 0]) (by simp [results, Try.results8, go_sem, Z.c0, Z.c1]) rfl (.inl ⟨HALL.out, A1, c1, V1, d1, by rw [HL2.out], ?_, ((H2.out.b.trans (HR.out.b.mono hws)).setCell (p := ⟨w.heap.size + 1 + 1, 0, none⟩) (by simp <;> omega) _).setCell (p := ⟨w.heap.size + 1 + 1, 1, none⟩) (by simp <;> omega) _⟩)
        rw [HL2.out, ← HE.out]
        exact O2.low (by omega)


end Stp
end Go.Proofs.Ytngpcabengmoiaa
