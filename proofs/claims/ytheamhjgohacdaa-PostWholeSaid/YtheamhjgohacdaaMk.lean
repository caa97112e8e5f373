/-
  The law's own two, few and Made. Conditions: those of each theorem.
-/
import Derived.Test.YtheamhjgohacdaaPutOk
namespace Go.Proofs.Ytheamhjgohacdaa
open Go.RowKit Bk
namespace Pst
set_option linter.unusedVariables false

/-- A book of all entries that may be put. -/
def mkF (b : List En) (e : En) : List En := if cde b e = 0 then b ++ [e] else b
def mkL (es : List En) : List En := es.foldl mkF []
theorem mkL_snoc (es : List En) (e : En) : mkL (es ++ [e]) = mkF (mkL es) e := by simp [mkL]
theorem cde_zero {b : List En} {e : En} (h : cde b e = 0) : rgt e = true ∧ ahd b e.day = false := by
  unfold cde at h
  by_cases h1 : fm e = true
  · rw [if_pos h1] at h
    by_cases h2 : tot e.ls = 0
    · rw [if_pos h2] at h
      by_cases h3 : b.length < 2000
      · rw [if_pos h3] at h
        cases h4 : ahd b e.day
        · exact ⟨(rgt_iff e).2 ⟨h1, h2⟩, rfl⟩
        · rw [h4] at h; simp at h
      · rw [if_neg h3] at h; omega
    · rw [if_neg h2] at h; omega
  · rw [if_neg h1] at h; omega

/-- Right entries whose days do not fall. -/
structure Good (b : List En) : Prop where
  r : ∀ e ∈ b, rgt e = true
  o : ∀ (j : Nat) (x y : En), b[j]? = some x → b[j + 1]? = some y → x.day ≤ y.day
theorem Good.nil : Good [] := ⟨(fun e h => by cases h), (fun j x y h => by simp at h)⟩
theorem Good.snoc {b : List En} {e : En} (h : Good b) (hc : cde b e = 0) : Good (b ++ [e]) := by
  obtain ⟨h1, h2⟩ := cde_zero hc
  refine ⟨fun x hx => ?_, fun j x y hx hy => ?_⟩
  · rcases List.mem_append.1 hx with hx | hx
    · exact h.r x hx
    · simp at hx; subst hx; exact h1
  · have hj : j + 1 < (b ++ [e]).length := (List.getElem?_eq_some_iff.1 hy).1
    simp at hj
    rw [List.getElem?_append_left hj] at hx
    by_cases hl : j + 1 < b.length
    · rw [List.getElem?_append_left hl] at hy
      exact h.o j x y hx hy
    · have hl' : b.length = j + 1 := by omega
      rw [List.getElem?_append_right (by omega), hl', Nat.sub_self] at hy
      simp at hy
      subst hy
      rw [ahd_get hx hl'] at h2
      simp at h2
      omega
theorem Good.lines {b : List En} (h : Good b) : ∀ e ∈ b, e.ls.length ≤ 9 := fun e he => (fm_len ((rgt_iff e).1 (h.r e he)).1).2
theorem Good.le {b : List En} (h : Good b) {i j : Nat} (hij : i ≤ j) {x y : En} (hx : b[i]? = some x) (hy : b[j]? = some y) : x.day ≤ y.day := by
  induction j generalizing y with
  | zero =>
    obtain rfl : i = 0 := by omega
    rw [hx] at hy; injection hy with hy; subst hy; exact Int.le_refl _
  | succ j ih =>
    by_cases e : i = j + 1
    · subst e; rw [hx] at hy; injection hy with hy; subst hy; exact Int.le_refl _
    · have hl : j < b.length := by have := (List.getElem?_eq_some_iff.1 hy).1; omega
      have := ih (y := b[j]) (by omega) (List.getElem?_eq_getElem hl)
      have := h.o j _ _ (List.getElem?_eq_getElem hl) hy
      omega
theorem mkL_good (es : List En) : Good (mkL es) ∧ (mkL es).length ≤ es.length := by
  rw [← List.take_length (l := es)]
  generalize hn : es.length = n
  have hle : n ≤ es.length := by omega
  clear hn
  induction n with
  | zero => simp only [List.take_zero]; exact ⟨Good.nil, Nat.le_refl _⟩
  | succ n ih =>
    obtain ⟨h1, h2⟩ := ih (by omega)
    rw [take_more (List.getElem?_eq_getElem (show n < es.length by omega)), mkL_snoc, List.length_append]
    unfold mkF
    split
    · rename_i hc
      exact ⟨h1.snoc hc, by rw [List.length_append]; simp only [List.length_singleton]; omega⟩
    · exact ⟨h1, by simp only [List.length_singleton]; omega⟩

/-- How many lines there are; are there few? -/
def lnN (es : List En) : Nat := (es.map fun e => e.ls.length).sum
def fewB (es : List En) : Bool := decide (es.length ≤ 200) && decide (wrap64 (lnN es : Int) ≤ 2000)
theorem lnN_snoc (es : List En) (e : En) : lnN (es ++ [e]) = lnN es + e.ls.length := by simp [lnN]
theorem fewB_yes {es : List En} (h : fewB es = true) : es.length ≤ 200 := by
  unfold fewB at h
  simp only [Bool.and_eq_true, decide_eq_true_eq] at h
  exact h.1

/-- What two gives. -/
def TwoTo (w : World) (day a b amt : Int) (x : Ending) (w' : World) : Prop := ∃ L c, x = .returned (eg day 0 L 2 c) ∧ Lns w' (· < w'.heap.size) L 2 [(a, amt), (b, -amt)] ∧ Below w.heap.size w w'

theorem lns_new {w : World} {g : Nat} {t : TypeId} {a b c d : Int} (h : Bx w g t #[.int .i64 a, .int .i64 b, .int .i64 c, .int .i64 d]) : Lns w (· < w.heap.size) (some ⟨g, 0, none⟩) 2 [(a, b), (c, d)] := by
  refine ⟨rfl, fun _ => ⟨_, rfl, h.lt, fun j x hx => ?_⟩⟩
  match j, hx with
  | 0, hx => simp at hx; subst hx; rw [Addr.add_lit, Addr.add_lit, h.c, h.c]; exact ⟨rfl, rfl⟩
  | 1, hx => simp at hx; subst hx; rw [Addr.add_lit, Addr.add_lit, h.c, h.c]; exact ⟨rfl, rfl⟩

set_option maxRecDepth 100000 in
set_option maxHeartbeats 1000000 in
theorem two_ (day a b amt : Int) (w : World) (h1 : -1000 ≤ amt) (h2 : amt ≤ 1000) :
    Calls Try.prog 24 #[.int .i64 day, .int .i64 a, .int .i64 b, .int .i64 amt] w (TwoTo w day a b amt) := by
  go_enter Try.func24, Try.ntmps24
  go_wp2
  have hX := Bx.new (w.alloc (.cells #[.int .i64 day, .int .i64 0, .slice (some ⟨w.heap.size + 1, 0, none⟩) 2 2] 24)) 52 #[.int .i64 a, .int .i64 amt, .int .i64 b, .int .i64 (-amt)]
  rw [World.size_alloc] at hX
  exact bodyPost_ret (v := eg day 0 (some ⟨w.heap.size + 1, 0, none⟩) 2 2) (by simp [results, Try.results24, go_sem]) rfl ⟨some ⟨w.heap.size + 1, 0, none⟩, 2, rfl, lns_new hX, (alloc_ _ _).alloc (by simp) _⟩

set_option maxRecDepth 100000 in
set_option maxHeartbeats 1000000 in
theorem few_ (A : Option Addr) (n c : Nat) (es : List En) (w : World) (hS : Ents w A n es) (hn : n ≤ maxLen) :
    Calls Try.prog 13 #[.slice A n c] w (Yes w (fewB es)) := by
  unfold maxLen at hn
  have HL := Lib.hid hS.len
  have HS := Lib.hid hS
  clear hS
  obtain ⟨R, hR⟩ : ∃ R, fewB es = R := ⟨_, rfl⟩
  rw [hR]
  have HR := Lib.hid hR
  clear hR
  go_enter Try.func13, Try.ntmps13
  go_wp2
  go_loopw [3, 5, 8] (fun sa s5 i w' => ∃ (k : Nat) (a : Int) (w1 : World), k ≤ n ∧ i = .int .i64 (k : Int) ∧ sa = .int .i64 a ∧ w1 = w' ∧ Hid (wrap64 (lnN (es.take k) : Int) = a) ∧ Hid (Below w.heap.size w w1)) (fun _ _ i _ => n - (intOf i).toNat)
  case atStart => exact ⟨0, 0, _, Nat.zero_le _, rfl, rfl, rfl, Lib.hid wr0, Lib.hid (Below.refl _ _)⟩
  case round =>
    obtain ⟨k, a, w1, hk, rfl, rfl, rfl, HA, HW⟩ := hrel
    by_cases hlt : k < n
    · obtain ⟨ad, d, f, ls, L, m, cl, rfl, hb, hx, hc0, hc1, hc2, hl⟩ := (HS.out.below HW.out).get hlt
      have hlt2 : (k : Int) < (n : Int) := by omega
      have hxl : ad.block < w1.heap.size := hb
      obtain ⟨b, hb2⟩ : ∃ b, wrap64 (a + (m : Int)) = b := ⟨_, rfl⟩
      have HN := Lib.hid (show wrap64 (lnN (es.take (k + 1)) : Int) = b by rw [take_more hx, lnN_snoc, ← hb2, ← HA.out, wr_add, show (⟨d, f, ls⟩ : En).ls.length = m from hl.1, Int.natCast_add])
      have hb3 : IntKind.i64.wrap (a + (m : Int)) = b := by rw [IntWalk.i64_left]; exact hb2
      clear hx hb hl
      go_wp2
      go_roundw
      case rel => exact ⟨k + 1, b, _, by omega, by go_num, rfl, rfl, HN, Lib.hid (HW.out.alloc HW.out.size _)⟩
      case measure => clear hb2 hb3; simp [intOf]; omega
    · have HF := Lib.hid (show R = (decide (n ≤ 200) && decide (a ≤ 2000)) by
        have := HA.out
        rw [List.take_of_length_le (by rw [HL.out]; omega)] at this
        rw [← HR.out, ← this, ← HL.out]; rfl)
      by_cases g1 : n ≤ 200
      · have t1 : decide ((n : Int) ≤ 200) = true := by simpa using (show (n : Int) ≤ 200 by omega)
        have t1' : decide (n ≤ 200) = true := by simpa using g1
        obtain ⟨r, hr⟩ : ∃ r, decide (a ≤ 2000) = r := ⟨_, rfl⟩
        rw [t1', hr] at HF
        clear g1
        go_wp2
        go_ret
        exact ⟨by rw [HF.out]; rfl, HW.out⟩
      · have t1 : decide ((n : Int) ≤ 200) = false := by simpa using (show ¬ (n : Int) ≤ 200 by omega)
        have t1' : decide (n ≤ 200) = false := by simpa using g1
        rw [t1'] at HF
        clear g1
        go_wp2
        go_ret
        exact ⟨by rw [HF.out]; rfl, HW.out⟩

/-- What Made gives. -/
def MadeTo (w : World) (b : List En) (x : Ending) (w' : World) : Prop := ∃ A n c, x = .returned (bg A n c) ∧ Ents w' A n b ∧ n ≤ c ∧ Below w.heap.size w w'
/-- What holds at the head of each round. -/
structure MJ (w w1 : World) (A : Option Addr) (n c : Nat) (bk : List En) : Prop where
  b : Below w.heap.size w w1
  x : Bx w1 w.heap.size 29 #[.slice none 0 0]
  y : Bx w1 (w.heap.size + 1) 29 #[.slice A n c]
  e : EntsP w1 (fun b => w.heap.size + 1 < b ∧ b < w1.heap.size) A n bk
  c : n ≤ c

set_option maxRecDepth 100000 in
set_option maxHeartbeats 2000000 in
theorem made_ (A : Option Addr) (n c : Nat) (es : List En) (w : World) (hS : Ents w A n es) (hn : n ≤ 1000000) :
    Calls Try.prog 20 #[.slice A n c] w (MadeTo w (mkL es)) := by
  have HL := Lib.hid hS.len
  have HS := Lib.hid hS
  clear hS
  obtain ⟨R, hR⟩ : ∃ R, mkL es = R := ⟨_, rfl⟩
  rw [hR]
  have HR := Lib.hid hR
  clear hR
  go_enter Try.func20, Try.ntmps20
  go_wp2
  go_loopw [5, 6, 7, 10] (fun s5 s6 s7 i w' => ∃ (k : Nat) (w1 : World) (A1 : Option Addr) (n1 c1 : Nat) (b : List En), k ≤ n ∧ i = .int .i64 (k : Int) ∧ w1 = w' ∧ Hid (mkL (es.take k) = b) ∧ Hid (MJ w w1 A1 n1 c1 b)) (fun _ _ _ i _ => n - (intOf i).toNat)
  case atStart =>
    refine ⟨0, _, none, 0, 0, [], Nat.zero_le _, rfl, rfl, Lib.hid rfl, Lib.hid ⟨(alloc_ _ _).alloc (by simp) _, (Bx.new _ _ _).alloc _, ?_, EntsP.nil, Nat.le_refl _⟩⟩
    have := Bx.new (w.alloc (.cells #[.slice none 0 0] 29)) 29 #[.slice none 0 0]
    rw [World.size_alloc] at this
    exact this
  case round =>
    obtain ⟨k, w1, A1, n1, c1, b, hk, rfl, rfl, HB, HJ⟩ := hrel
    have y0 := HJ.out.y.c 0
    have yl := HJ.out.y.lt
    simp at y0
    by_cases hlt : k < n
    · obtain ⟨ad, d, f, ls, L, m, cl, rfl, hb, hx, hc0, hc1, hc2, hl⟩ := (HS.out.below HJ.out.b).get hlt
      have hlt2 : (k : Int) < (n : Int) := by omega
      have hxl : ad.block < w1.heap.size := hb
      have HN := Lib.hid (show mkL (es.take (k + 1)) = mkF b ⟨d, f, ls⟩ by rw [take_more hx, mkL_snoc, HB.out])
      have hgood : ∀ e ∈ b, e.ls.length ≤ 1000 := by
        intro e he
        rw [← HB.out] at he
        have := (mkL_good (es.take k)).1.lines e he
        omega
      have hE1 : Ents w1 A1 n1 b := HJ.out.e.ents fun b hb => hb.2
      have C := fun w' (hb : Below w1.heap.size w1 w') => Lib.hid (put A1 n1 c1 b d f L m cl ls w' (hE1.below hb) HJ.out.c hgood (hl.below hb))
      have CW := C _ (alloc_ w1 (.cells #[.int .i64 d, .int .i64 f, .slice L m cl] 24))
      clear hx hb hl hgood hE1 C
      go_wp2_with fail
      refine CW.out.mono ?_
      rintro e w2 ⟨A2, n2, c2, rfl, hE2, hcap2, hb2⟩
      have hb2' := below_alloc hb2
      have HJ2x := Lib.hid (HJ.out.x.keep hb2')
      have HJ2y := Lib.hid (HJ.out.y.keep hb2')
      have HW2 := Lib.hid (HJ.out.b.trans (hb2'.mono HJ.out.b.size))
      have HE2 := Lib.hid hE2
      have HE1 := Lib.hid (HJ.out.e.keep (w' := w2) (ok' := fun b => w.heap.size + 1 < b ∧ b < w2.heap.size) (fun p hp => hb2'.cell hp.2) fun b hb => ⟨hb.1, by have := hb2'.size; omega⟩)
      have HS2 := Lib.hid hb2'.size
      by_cases hc : cde b ⟨d, f, ls⟩ = 0
      · have z0 := HJ2y.out.c 0
        have zf := HJ2y.out.f 0
        have zl := HJ2y.out.lt
        simp at z0
        have HP := Lib.hid (show ptL b ⟨d, f, ls⟩ = mkF b ⟨d, f, ls⟩ by unfold ptL mkF; rw [if_pos hc, if_pos hc])
        have HCP := Lib.hid hcap2
        rw [hc]
        clear hb2 hb2' hE2 CW hc hcap2 y0 yl
        go_wp2
        go_roundw
        case rel =>
          refine ⟨k + 1, _, A2, n2, c2, _, by omega, by go_num, rfl, HN, Lib.hid ⟨(HW2.out.setCell (p := ⟨w.heap.size + 1, 0, none⟩) (Nat.le_succ _) _).alloc (by have := HW2.out.size; simpa using this) _, (HJ2x.out.far (a := ⟨w.heap.size + 1, 0, none⟩) (by simp) _).alloc _, (HJ2y.out.set 0 _).alloc _, ?_, HCP.out⟩⟩
          rw [← HP.out]
          refine HE2.out.keep (fun p hp => ?_) fun b hb => ?_
          · have h1 := hp.1
            have h2 := hp.2
            simp at h1
            refine ((alloc_ (w2.setCell ⟨w.heap.size + 1, 0, none⟩ _) _).cell (by simpa using h2)).trans ?_
            exact World.cell?_setCell_other _ _ _ _ (fun e => by rw [← e] at h1; simp only at h1; have := HJ.out.y.lt; omega)
          · have h1 := hb.1
            have h2 := hb.2
            have h3 := HJ.out.y.lt
            simp at h1
            simp
            omega
        case measure => simp [intOf]; omega
      · have tc : (cde b ⟨d, f, ls⟩ == 0) = false := by simpa using hc
        have HP := Lib.hid (show mkF b ⟨d, f, ls⟩ = b by unfold mkF; rw [if_neg hc])
        generalize cde b ⟨d, f, ls⟩ = x at tc
        clear hb2 hb2' hE2 CW hc hcap2 y0 yl
        go_wp2
        go_roundw
        case rel =>
          refine ⟨k + 1, _, A1, n1, c1, b, by omega, by go_num, rfl, Lib.hid (HN.out.trans HP.out), Lib.hid ⟨HW2.out.alloc HW2.out.size _, HJ2x.out.alloc _, HJ2y.out.alloc _, HE1.out.keep (fun p hp => (alloc_ w2 _).cell hp.2) fun b hb => ⟨hb.1, by have := hb.2; simp; omega⟩, HJ.out.c⟩⟩
        case measure => simp [intOf]; omega
    · have HZ := Lib.hid (show b = R by rw [← HB.out, List.take_of_length_le (by rw [HL.out]; omega)]; exact HR.out)
      have z0 := HJ.out.x.c 0
      have zf := HJ.out.x.f 0
      have zl := HJ.out.x.lt
      simp at z0
      go_wp2
      refine bodyPost_ret (v := bg A1 n1 c1) (by simp [results, Try.results20, go_sem, z0]) rfl ⟨A1, n1, c1, rfl, ?_, HJ.out.c, HJ.out.b.setCell (by simp) _⟩
      rw [← HZ.out]
      refine (HJ.out.e.keep (ok' := fun b => w.heap.size + 1 < b ∧ b < w1.heap.size) (fun p hp => World.cell?_setCell_other _ _ _ _ (fun e => ?_)) fun b hb => hb).ents fun b hb => by simpa using hb.2
      have := hp.1
      rw [← e] at this
      simp only at this
      omega

end Pst
end Go.Proofs.Ytheamhjgohacdaa
