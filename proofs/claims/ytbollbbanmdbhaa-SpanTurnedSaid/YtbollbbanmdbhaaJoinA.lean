/-
  Join of package span, of whatever row reads as a list of spans. Conditions: at most a million spans.
-/
import Derived.Test.YtbollbbanmdbhaaJoin
namespace Go.Proofs.Ytbollbbanmdbhaa
open Go.RowKit Go.Shelf Sp
namespace Spn
set_option linter.unusedVariables false

set_option maxHeartbeats 1000000 in
theorem cloneA (A : Option Addr) (n c : Nat) (xs : List Sp) (w : World) (hS : Spans w w.heap.size A n xs) (hn : n ≤ 1000000) :
    Calls Try.prog 31 #[.slice A n c] w (Copies w n xs) := by
  cases A with
  | none =>
    obtain rfl : n = 0 := by
      rcases Nat.eq_zero_or_pos n with h | h
      · exact h
      · obtain ⟨_, e, _⟩ := hS.2 h; cases e
    have hx : xs = [] := List.eq_nil_of_length_eq_zero hS.1
    subst hx
    clear hS
    have q : ∀ (w : World) (a : Option Addr) (n c n' c' : Nat), (binOp .eql 30 (.slice a n c) (.slice none n' c')).run Try.prog w = .ok (.bool a.isNone) w := fun w a n c n' c' => Lib.run_eql_slice_nil w _ _ a n c n' c' Try.underlying30
    go_enter Try.func31, Try.ntmps31
    go_wp2
    go_ret
    exact ⟨none, 0, rfl, Own.nil, Below.refl _ _⟩
  | some ad =>
    have HS := Lib.hid hS
    clear hS
    have q : ∀ (w : World) (a : Option Addr) (n c n' c' : Nat), (binOp .eql 30 (.slice a n c) (.slice none n' c')).run Try.prog w = .ok (.bool a.isNone) w := fun w a n c n' c' => Lib.run_eql_slice_nil w _ _ a n c n' c' Try.underlying30
    go_enter Try.func31, Try.ntmps31
    go_wp2_with (at_builtin; refine wpList_app _ rfl (.tmp 5) (.tmp 6) rfl w.heap.size (some ⟨w.heap.size, 0, none⟩) 0 0 [] rfl (World.ownsRow_made w #[] 0 (Nat.le_refl _) (Nat.zero_le _) (by simp)) w.heap.size (some ad) n c xs rfl (HS.out.below ((Below.refl _ _).alloc (Nat.le_refl _) _) (Nat.le_refl _)) (fun h => by cases h) (by omega) (by simp) ?_; intro A2 c2 w2 hO2 hg2; have HO2 := Lib.hid hO2; have HG2 := Lib.hid hg2; clear hO2 hg2)
    go_ret
    refine ⟨A2, c2, rfl, by have := HO2.out; rwa [Nat.zero_add, List.nil_append] at this, ((Below.refl _ _).alloc (Nat.le_refl _) _).grown HG2.out (by simp) (fun j hj => ?_)⟩
    simp [Value.ownBlock] at hj; omega

attribute [local go_sem] Oper.semAt_some

set_option maxRecDepth 100000 in
set_option maxHeartbeats 2000000 in
theorem joinA (A : Option Addr) (n c : Nat) (xs : List Sp) (w : World) (hS : Spans w w.heap.size A n xs) (hn : n ≤ 1000000) :
    Calls Try.prog 24 #[.slice A n c] w (Joins w xs) := by
  obtain ⟨i0, hi, hz0, hz1, hz2⟩ := info_parts info_span
  have hmx : Try.prog.follows .mixedOrders = true := by kernel_rfl
  have C := Lib.hid (callsIn_wide (n := 9) |>.2 (cloneA A n c xs w hS hn))
  clear hS
  refine callsIn_wide (n := 10) |>.1 ?_
  refine callsIn_of_wp_marks Try.func24 rfl trivial ?_ rfl
  simp only [Try.ntmps24, List.size_toArray, List.length_cons, List.length_nil, Nat.reduceAdd, Nat.reduceSub, Array.replicate_succ, Array.replicate_zero, List.push_toArray, List.append_toArray, List.nil_append, List.cons_append]
  gi_wp2_with fail
  refine ⟨trivial, C.out.mono ?_⟩
  rintro e w1 ⟨A1, c1, rfl, hO1, hb1⟩
  have HO1 := Lib.hid hO1
  have HB1 := Lib.hid hb1
  clear hO1 hb1 C
  gi_wp2_with fail
  refine ⟨trivial, (callsIn_wide.2 (sortSpans w.heap.size A1 n c1 xs w1 HO1.out HB1.out.size hn)).mono ?_⟩
  rintro e w2 ⟨rfl, ys, hsort, hS2, hb2⟩
  have HS2 := Lib.hid hS2
  have HB2 := Lib.hid (HB1.out.trans hb2)
  have HSo := Lib.hid hsort
  clear hS2 hb2 hsort HO1 HB1
  gi_wp2_with fail
  refine ⟨trivial, (callsIn_wide.2 (withDays A1 n c1 _)).mono ?_⟩
  rintro e w' ⟨rfl, rfl⟩
  have bO := Boxed.new w2 30 (.slice none 0 0)
  have bN := Boxed.new (w2.alloc (.cells #[.slice none 0 0] 30)) 30 (.slice A1 n c1)
  rw [World.size_alloc] at bN
  have hB0 : Below w2.heap.size w2 ((w2.alloc (.cells #[.slice none 0 0] 30)).alloc (.cells #[.slice A1 n c1] 30)) := ((Below.refl _ w2).alloc (Nat.le_refl _) _).alloc (by simp) _
  have hyl : ys.length = n := HS2.out.1
  have hkl : (kp ys).length ≤ 1000000 := Nat.le_trans (List.length_filter_le _ _) (by rw [hyl]; exact hn)
  gi_wp2
  refine wpIn_rangeFunc_ownH rfl (by decide) (gf := 42) (lb := #[.pointer (some ⟨w2.heap.size + 1, 0, none⟩)]) rfl trivial (enters_of Try.func42 (by kernel_rfl) rfl)
    (days_stops (w2.heap.size + 1) w2.heap.size n c1 A1 ys (by omega) _ (by simp) (by simp; omega) bN.cell (HS2.out.below hB0 (Nat.le_refl _))) belowK_t (belowK_b (by simp; omega)) (Below.refl _ _) (fun _ => rfl)
    (fun pre W => (∃ v, Boxed W w2.heap.size 30 v ∧ W.ownsRow w2.heap.size 23 2 v (jf pre).length (cel (jf pre)) ∧ True) ∧ Below w2.heap.size w2 W)
    (fun _ _ _ => False)
    (OwnFrom.and (Own.from (holdsRow_own w2.heap.size w2.heap.size 30 23 2 (fun pre : List Sp => (jf pre).length) (fun pre => cel (jf pre)) (fun _ _ => True)) _) (ownFrom_below (Nat.le_refl _) (by simp; omega)))
    (fun _ _ _ _ _ hs _ _ => hs)
    ⟨⟨_, bO.alloc _, World.ownsRow_nil _ _ _ _, trivial⟩, hB0⟩
    (fun x a' W => ∃ b, w2.heap.size < b ∧ Bx W b x.1 x.2 ∧ a' = { tmps := #[.slice A n c, undef, .slice none 0 0, .slice A1 n c1, .pointer (some ⟨w2.heap.size, 0, none⟩), .pointer (some ⟨b, 0, none⟩), undef, .slice A n c, .slice A1 n c1, .slice A1 n c1, .tuple #[], .slice A1 n c1, .func (.func 42) #[] #[.pointer (some ⟨w2.heap.size + 1, 0, none⟩)], ag x, undef, undef, undef, undef, undef, undef, undef, undef, undef, undef, undef, undef, undef, undef, undef, undef, undef, undef, undef, undef, undef, undef, undef, undef, undef, undef, undef, undef, undef, undef, undef, undef], defers := [] })
    (fun x a' _ X Y row hs hg hr => by obtain ⟨b, h0, h1, h2⟩ := hs; exact ⟨b, h0, bx_kept h1 hg (fun r e => (hr r e).2), h2⟩)
    ?assign ?body ?done ?stop
  case assign =>
    rintro l pre x W K ⟨⟨v, hv, hrow, _⟩, hB⟩ hK
    gi_wp2
    exact hK _ _ ((KeepsOthers.alloc _ _).from _) ((Below.refl _ W).alloc hB.size _) ⟨⟨v, hv.alloc _, hrow.alloc _, trivial⟩, hB.alloc hB.size _⟩ ⟨W.heap.size, hv.lt, Bx.new W _ _, rfl⟩
  case body =>
    rintro l pre x a' W hl ⟨r, hr⟩ ⟨⟨v, hv, hrow, _⟩, hB⟩ ⟨b, hbl, X, rfl⟩ hlt
    obtain ⟨A', c', rfl, hO⟩ := own_of_row hrow
    have x0 := X.c0
    have x1 := X.c1
    have hjl : (jf pre).length ≤ 1000000 := by have := jf_len pre; omega
    by_cases h0 : jf pre = []
    · rw [h0] at hv hrow hO
      simp only [List.length_nil] at hv hrow hO
      have hc := hv.cell
      gi_wp2
      refine Round.quiet (by rintro ⟨_, _, hh⟩; exact hh) (by kernel_rfl) hmx (by kernel_rfl) ?_
      repeat (any_goals (first | go_big_quiet_step (fail) | quiet_step (fail)))
      refine wpQuiet_nil ?_
      intro _ hw'
      obtain ⟨nq, hw''⟩ := hw'
      subst hw''
      obtain ⟨W', hW'⟩ : ∃ W', W.drewN nq = W' := ⟨_, rfl⟩
      have hv' : Boxed W' w2.heap.size 30 (.slice A' 0 c') := by rw [← hW']; exact hv
      have hrow' : W'.ownsRow w2.heap.size 23 2 (.slice A' 0 c') 0 (cel []) := by rw [← hW']; exact hrow
      have hB' : Below w2.heap.size w2 W' := by rw [← hW']; exact ⟨hB.os, hB.tape, hB.output, hB.size, hB.block⟩
      have hBW : Below w2.heap.size W W' := by rw [← hW']; exact ⟨rfl, rfl, rfl, Nat.le_refl _, fun _ _ => rfl⟩
      have hKW : KeepsOthers W W' := by rw [← hW']; exact keeps_drewN W nq
      have X' : Bx W' b x.1 x.2 := by rw [← hW']; exact X
      rw [hW']
      have hc' := hv'.cell
      have x0' := X'.c0
      have x1' := X'.c1
      clear hc x0 x1 hW'
      gi_wp2_with (gi_at_builtin; refine wpListIn_append_own _ rfl _ _ 30 rfl w2.heap.size 23 i0 (.agg #[.int .i64 0, .int .i64 0]) 2 16 Try.underlying30 hi hz0 hz1 hz2 rfl (by decide) _ _ _ rfl (hrow'.alloc _) ⟨W'.heap.size, 0, none⟩ 1 1 [.int .i64 x.1, .int .i64 x.2] rfl rfl (new_cells _ _ _) (by simp [Value.oneCell']) (by unfold maxLen; omega) (by omega) (by have := hB'.size; simp; omega) ?_; intro v' w3 hown' hgrow _; obtain ⟨g', cap', rfl⟩ := ownsRow_succ hown'; obtain ⟨hv1, hv2, hr2, hk2, hb2⟩ := hv'.appended (by decide) hrow' hB'.size (Nat.le_refl _) hown' hgrow; have hc1 := hv1.cell; have hf1 := hv1.frozen)
      exact ⟨(hKW.trans hk2).from _, hBW.trans hb2, ⟨_, hv2, by rw [jf_snoc, h0, js_nil]; simpa [cel] using hr2, trivial⟩, hB'.trans hb2⟩
    · obtain ⟨a, p, q, ea⟩ := snoc_of h0
      rw [ea] at hv hrow hO hjl
      obtain ⟨m, hm⟩ : ∃ m, a.length = m := ⟨_, rfl⟩
      simp only [List.length_append, List.length_cons, List.length_nil, Nat.zero_add] at hv hrow hO hjl
      rw [hm] at hv hrow hO hjl
      obtain ⟨g, rfl, hbg, c0, c1, f1⟩ := last_cells hO
      rw [hm] at c0 c1 f1
      have hc := hv.cell
      have HM := Lib.hid hm
      have HE := Lib.hid ea
      clear hm ea h0
      have hlt' : (m : Int) < (m : Int) + 1 := by omega
      by_cases hx : x.1 ≤ q
      · have tx : decide (x.1 ≤ q) = true := by simpa using hx
        have HX := Lib.hid hx
        clear hx
        gi_wp2
        refine Round.quiet (by rintro ⟨_, _, hh⟩; exact hh) (by kernel_rfl) hmx (by kernel_rfl) ?_
        repeat (any_goals (first | go_big_quiet_step (fail) | quiet_step (fail)))
        refine wpQuiet_nil ?_
        intro _ hw'
        obtain ⟨nq, hw''⟩ := hw'
        subst hw''
        gi_wp2
        refine Round.tail 10 (by rintro ⟨_, _, hh⟩; exact hh) (by kernel_rfl) hmx (by kernel_rfl) ?_
        simp only [List.take_succ_cons, List.take_zero, List.drop_succ_cons, List.drop_zero]
        change wpStill _ _ (W.drewN nq).drew (fun a' => wpList _ _ _ _ a' (W.drewN nq).drew) _ _
        obtain ⟨W', hW'⟩ : ∃ W', (W.drewN nq).drew = W' := ⟨_, rfl⟩
        have hv' : Boxed W' w2.heap.size 30 (.slice (some ⟨g, 0, none⟩) (m + 1) c') := by rw [← hW']; exact hv
        have hrow' : W'.ownsRow w2.heap.size 23 2 (.slice (some ⟨g, 0, none⟩) (m + 1) c') (m + 1) (cel (a ++ [(p, q)])) := by rw [← hW']; exact hrow
        have hB' : Below w2.heap.size w2 W' := by rw [← hW']; exact ⟨hB.os, hB.tape, hB.output, hB.size, hB.block⟩
        have hBW : Below w2.heap.size W W' := by rw [← hW']; exact ⟨rfl, rfl, rfl, Nat.le_refl _, fun _ _ => rfl⟩
        have hKW : KeepsOthers W W' := by rw [← hW']; exact (keeps_drewN W nq).trans (KeepsOthers.drew _)
        have X' : Bx W' b x.1 x.2 := by rw [← hW']; exact X
        have c1' : W'.cell? ⟨g, m * 2 + 1, none⟩ = some (.int .i64 q) := by rw [← hW']; exact c1
        have f1' : W'.frozen? ⟨g, m * 2 + 1, none⟩ = false := by rw [← hW']; exact f1
        have hne : w2.heap.size ≠ g := fun e => hv'.not_row (by decide) hrow' (by rw [e]; rfl)
        simp only [hW']
        have hc' := hv'.cell
        have x0' := X'.c0
        have x1' := X'.c1
        clear hc x0 x1 hW' c0 c1 f1
        repeat still_step
        refine wpStill_nil ?_
        go_wp2
        have ht := row_turn (max q x.2) hrow'
        rw [HM.out] at ht
        have hb2 : Below w2.heap.size W' (W'.setCell ⟨g, m * 2 + 1, none⟩ (.int .i64 (max q x.2))) := (Below.refl _ _).setCell (p := ⟨g, m * 2 + 1, none⟩) hbg _
        refine ⟨(hKW.trans (KeepsOthers.setCell _ _ _)).from _, hBW.trans hb2, ⟨_, boxed_far hv' hne _, ?_, trivial⟩, hB'.trans hb2⟩
        rw [jf_snoc, HE.out, js_join HX.out, List.length_append, HM.out]
        exact ht
      · have tx : decide (x.1 ≤ q) = false := by simpa using hx
        have HX := Lib.hid hx
        clear hx
        gi_wp2
        refine Round.quiet (by rintro ⟨_, _, hh⟩; exact hh) (by kernel_rfl) hmx (by kernel_rfl) ?_
        repeat (any_goals (first | go_big_quiet_step (fail) | quiet_step (fail)))
        refine wpQuiet_nil ?_
        intro _ hw'
        obtain ⟨nq, hw''⟩ := hw'
        subst hw''
        obtain ⟨W', hW'⟩ : ∃ W', W.drewN nq = W' := ⟨_, rfl⟩
        have hv' : Boxed W' w2.heap.size 30 (.slice (some ⟨g, 0, none⟩) (m + 1) c') := by rw [← hW']; exact hv
        have hrow' : W'.ownsRow w2.heap.size 23 2 (.slice (some ⟨g, 0, none⟩) (m + 1) c') (m + 1) (cel (a ++ [(p, q)])) := by rw [← hW']; exact hrow
        have hB' : Below w2.heap.size w2 W' := by rw [← hW']; exact ⟨hB.os, hB.tape, hB.output, hB.size, hB.block⟩
        have hBW : Below w2.heap.size W W' := by rw [← hW']; exact ⟨rfl, rfl, rfl, Nat.le_refl _, fun _ _ => rfl⟩
        have hKW : KeepsOthers W W' := by rw [← hW']; exact keeps_drewN W nq
        have X' : Bx W' b x.1 x.2 := by rw [← hW']; exact X
        rw [hW']
        have hc' := hv'.cell
        have x0' := X'.c0
        have x1' := X'.c1
        clear hc x0 x1 hW'
        clear c0 c1 f1
        gi_wp2_with (gi_at_builtin; refine wpListIn_append_own _ rfl _ _ 30 rfl w2.heap.size 23 i0 (.agg #[.int .i64 0, .int .i64 0]) 2 16 Try.underlying30 hi hz0 hz1 hz2 rfl (by decide) _ _ _ rfl (hrow'.alloc _) ⟨W'.heap.size, 0, none⟩ 1 1 [.int .i64 x.1, .int .i64 x.2] rfl rfl (new_cells _ _ _) (by simp [Value.oneCell']) (by unfold maxLen; omega) (by omega) (by have := hB'.size; simp; omega) ?_; intro v' w3 hown' hgrow _; obtain ⟨g', cap', rfl⟩ := ownsRow_succ hown'; obtain ⟨hv1, hv2, hr2, hk2, hb2⟩ := hv'.appended (by decide) hrow' hB'.size (Nat.le_refl _) hown' hgrow; have hc1 := hv1.cell; have hf1 := hv1.frozen)
        refine ⟨(hKW.trans hk2).from _, hBW.trans hb2, ⟨_, hv2, ?_, trivial⟩, hB'.trans hb2⟩
        rw [jf_snoc, HE.out, js_more (by have := HX.out; omega), cel_append, cel_one, List.length_append, List.length_append, HM.out]
        exact hr2
  case done =>
    rintro D zs W hD rfl ⟨⟨v, hv, hrow, _⟩, hB⟩ hK
    have hc := hv.cell
    gi_wp2
    refine ⟨by simp, .inl ⟨_, _, rfl, run_takeDeferred hK, ?_⟩⟩
    have hrow2 := ownsRow_putObj hrow (Obj.deferred none) hK rfl
    obtain ⟨A', c', rfl, hO⟩ := own_of_row hrow2
    have hj := jf_joined HSo.out.rise
    have hjl : (jf (kp ys)).length ≤ xs.length := by
      have h1 := jf_len (kp ys)
      have h2 : (kp ys).length ≤ ys.length := List.length_filter_le _ _
      have h3 := HSo.out.perm.length_eq
      omega
    exact ⟨_, results_tmp rfl _ _ _, jf (kp ys), ⟨hj.apart, fun d => (hj.same d).trans (hit_perm HSo.out.perm d)⟩, hjl, A', _, c', rfl, hO.spans.1, hO.spans.2, HB2.out.trans ((hB.trans (belowK_b (w := w2) (Nat.le_refl _) W D _ _ (by simp at hD; omega) hK rfl rfl)).mono HB2.out.size)⟩
  case stop =>
    rintro D c pre W _ _ h _
    exact h.elim

end Spn
end Go.Proofs.Ytbollbbanmdbhaa
