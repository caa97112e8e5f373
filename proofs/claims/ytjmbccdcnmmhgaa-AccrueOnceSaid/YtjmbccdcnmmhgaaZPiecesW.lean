/-
  Pieces of package step, walked. Conditions: the rows read as lists of ints.
-/
import Derived.Test.YtjmbccdcnmmhgaaZPieces
namespace Go.Proofs.Ytjmbccdcnmmhgaa
open Go.RowKit Go.Shelf Stm
namespace Stp
set_option linter.unusedVariables false

attribute [local go_sem] Oper.semAt_some

theorem flip {P : Program} {f : FuncId} {args : Array Value} {w : World} {v : Value} (h : Calls P f args w fun e w' => e = .returned v ∧ w = w') : Calls P f args w fun e w' => e = .returned v ∧ w' = w :=
  h.mono fun _ _ ⟨he, hm⟩ => ⟨he, hm.symm⟩

/-- What Pieces boxes first. -/
abbrev pieW (w : World) (A : Option Addr) (n c : Nat) (V : Option Addr) (m d : Nat) (s : Pr) : World :=
  (w.alloc (.cells #[.slice A n c, .slice V m d] 38)).alloc (.cells #[.int .i64 s.1, .int .i64 s.2] 30)
/-- Its two boxes. -/
structure PB (w W : World) (A : Option Addr) (n c : Nat) (V : Option Addr) (m d : Nat) (s : Pr) : Prop where
  f : Bx W w.heap.size 38 (.slice A n c) (.slice V m d)
  s : Bx W (w.heap.size + 1) 30 (.int .i64 s.1) (.int .i64 s.2)
  b : Below w.heap.size w W
section
variable {w W W1 : World} {A : Option Addr} {n c : Nat} {V : Option Addr} {m d : Nat} {s : Pr}
theorem PB.new : PB w (pieW w A n c V m d s) A n c V m d s := by
  have b0 := Bx.new w 38 (.slice A n c) (.slice V m d)
  have b1 := Bx.new (w.alloc (.cells #[.slice A n c, .slice V m d] 38)) 30 (.int .i64 s.1) (.int .i64 s.2)
  simp only [World.size_alloc] at b1
  exact ⟨b0.alloc _, b1, ((Below.refl _ w).alloc (Nat.le_refl _) _).alloc (by simp) _⟩
theorem PB.keep (h : PB w W A n c V m d s) (hb : Below W.heap.size W W1) : PB w W1 A n c V m d s :=
  ⟨h.f.keep hb, h.s.keep hb, h.b.trans (hb.mono h.b.size)⟩
end

set_option maxRecDepth 100000 in
set_option maxHeartbeats 2000000 in
theorem pieces_no1 (A : Option Addr) (n c : Nat) (V : Option Addr) (m d : Nat) (xs vs : List Int) (s : Pr) (w : World) (hS : Sx w w.heap.size A n V m xs vs) (hn : n ≤ 10000) (h : rg xs vs = false) :
    Calls Try.prog 28 #[sg A n c V m d, ag s] w fun e w' => e = .returned (.tuple #[.slice none 0 0, .slice none 0 0]) ∧ Below w.heap.size w w' := by
  have S0 : PB w (pieW w A n c V m d s) A n c V m d s := PB.new
  have C := Lib.hid (right A n c V m d xs vs _ ((hS.below S0.b (Nat.le_refl _)).wide S0.b.size) (by omega))
  rw [h] at C
  have HS := Lib.hid S0
  clear h hS S0
  obtain ⟨s1, s2⟩ := s
  go_enter Try.func28, Try.ntmps28
  go_wp2_with fail
  refine C.out.mono ?_
  rintro e w1 ⟨rfl, hb⟩
  have S1 := HS.out.keep hb
  have H1 := Lib.hid S1
  have p0 := S1.s.c0
  have p1 := S1.s.c1
  simp only at p0 p1
  clear hb HS S1 C
  go_wp2
  go_ret2
  exact ⟨rfl, H1.out.b⟩

set_option maxRecDepth 100000 in
set_option maxHeartbeats 2000000 in
theorem pieces_no2 (A : Option Addr) (n c : Nat) (V : Option Addr) (m d : Nat) (xs vs : List Int) (s : Pr) (w : World) (hS : Sx w w.heap.size A n V m xs vs) (hn : n ≤ 10000) (h : rg xs vs = true) (hs : full s = false) :
    Calls Try.prog 28 #[sg A n c V m d, ag s] w fun e w' => e = .returned (.tuple #[.slice none 0 0, .slice none 0 0]) ∧ Below w.heap.size w w' := by
  have S0 : PB w (pieW w A n c V m d s) A n c V m d s := PB.new
  have C := Lib.hid (right A n c V m d xs vs _ ((hS.below S0.b (Nat.le_refl _)).wide S0.b.size) (by omega))
  rw [h] at C
  have C2 := fun w => Lib.hid (full_ s w)
  rw [hs] at C2
  have HS := Lib.hid S0
  clear h hS S0 hs
  obtain ⟨s1, s2⟩ := s
  go_enter Try.func28, Try.ntmps28
  go_wp2_with fail
  refine C.out.mono ?_
  rintro e w1 ⟨rfl, hb⟩
  have S1 := HS.out.keep hb
  have H1 := Lib.hid S1
  have p0 := S1.s.c0
  have p1 := S1.s.c1
  simp only at p0 p1
  clear hb HS S1 C
  go_wp2_with fail
  refine (C2 _).out.mono ?_
  rintro e w2 ⟨rfl, hb⟩
  have H2 := Lib.hid (H1.out.keep hb)
  clear hb H1
  have H1 := H2
  clear H2
  go_wp2
  go_ret2
  exact ⟨rfl, H1.out.b⟩

set_option maxRecDepth 100000 in
set_option maxHeartbeats 4000000 in
theorem pieces_yes (A : Option Addr) (n c : Nat) (V : Option Addr) (d : Nat) (ps : List Pr) (s : Pr) (w : World) (hS : Sr w w.heap.size A V n ps) (hn : n ≤ 10000) (h : Right ps) (hs : full s = true) :
    Calls Try.prog 28 #[sg A n c V n d, ag s] w (GivesP w (cuts s ps) (val 0 ps) s.2) := by
  have S0 : PB w (pieW w A n c V n d s) A n c V n d s := PB.new
  have C := Lib.hid (right A n c V n d _ _ _ ((hS.below S0.b (Nat.le_refl _)).wide S0.b.size) (by omega))
  rw [rg_of h] at C
  have C2 := fun w => Lib.hid (full_ s w)
  rw [hs] at C2
  have HS0 := Lib.hid hS
  have HP := Lib.hid h
  have HF := Lib.hid hs
  have HS := Lib.hid S0
  clear h hS S0 hs
  obtain ⟨s1, s2⟩ := s
  refine callsIn_wide (n := 10) |>.1 ?_
  refine callsIn_of_wp_marks Try.func28 rfl trivial ?_ rfl
  simp only [Try.ntmps28, List.size_toArray, List.length_cons, List.length_nil, Nat.reduceAdd, Nat.reduceSub, Array.replicate_succ, Array.replicate_zero, List.push_toArray, List.append_toArray, List.nil_append, List.cons_append]
  gi_wp2_with fail
  refine ⟨trivial, (callsIn_wide.2 C.out).mono ?_⟩
  rintro e w1 ⟨rfl, hb⟩
  have S1 := HS.out.keep hb
  have p0 := S1.s.c0
  have p1 := S1.s.c1
  simp only at p0 p1
  have H1 := Lib.hid S1
  clear hb HS S1 C
  gi_wp2_with fail
  refine ⟨trivial, (callsIn_wide.2 (C2 _).out).mono ?_⟩
  rintro e w2 ⟨rfl, hb⟩
  have S2 := H1.out.keep hb
  clear p0 p1
  have p0 := S2.s.c0
  have p1 := S2.s.c1
  have q1 := S2.f.c0
  have q2 := S2.f.c1
  simp only at p0 p1
  have H2 := Lib.hid S2
  have z0 := S2.f.lt
  have z1 := S2.s.lt
  clear hb H1 S2 C2
  gi_wp2_with fail
  refine ⟨trivial, (callsIn_wide.2 (valueOf A n c V n d _)).mono ?_⟩
  rintro e w' ⟨rfl, rfl⟩
  have p0' : ((((w2.alloc (.cells #[.slice none 0 0] 34)).alloc (.cells #[.slice none 0 0] 31)).alloc (.cells #[.slice A n c, .slice V n d] 38)).alloc (.cells #[.func (.func 40) #[] #[.pointer (some ⟨w2.heap.size + 1 + 1, 0, none⟩)]] 64)).cell? ⟨w.heap.size + 1, 0, none⟩ = some (.int .i64 s1) := cal (cal (cal (cal p0)))
  have p1' : ((((w2.alloc (.cells #[.slice none 0 0] 34)).alloc (.cells #[.slice none 0 0] 31)).alloc (.cells #[.slice A n c, .slice V n d] 38)).alloc (.cells #[.func (.func 40) #[] #[.pointer (some ⟨w2.heap.size + 1 + 1, 0, none⟩)]] 64)).cell? ⟨w.heap.size + 1, 1, none⟩ = some (.int .i64 s2) := cal (cal (cal (cal p1)))
  have q1' : ((((w2.alloc (.cells #[.slice none 0 0] 34)).alloc (.cells #[.slice none 0 0] 31)).alloc (.cells #[.slice A n c, .slice V n d] 38)).alloc (.cells #[.func (.func 40) #[] #[.pointer (some ⟨w2.heap.size + 1 + 1, 0, none⟩)]] 64)).cell? ⟨w.heap.size, 0, none⟩ = some (.slice A n c) := cal (cal (cal (cal q1)))
  gi_wp2_with fail
  refine ⟨trivial, (callsIn_wide.2 (changes (s1, s2) A n c _ _ _ _)).mono ?_⟩
  rintro e w' ⟨rfl, rfl⟩
  gi_wp2
  have P3 := PW.new w2 A n c V d (s1, s2) ps
  obtain ⟨w3, hw3⟩ : ∃ w3, pieW3 w2 A n c V d (s1, s2) = w3 := ⟨_, rfl⟩
  simp only [pieW3, chW] at hw3
  rw [hw3]
  rw [show pieW3 w2 A n c V d (s1, s2) = w3 from hw3] at P3
  have HP3 := Lib.hid P3
  have hB23 := H2.out.b.trans (P3.below.mono H2.out.b.size)
  have HS3 := Lib.hid (HS0.out.below hB23 (Nat.le_refl _))
  have HB3 := Lib.hid hB23
  have hsz := P3.size
  have hfs := (full_iff _).1 HF.out
  simp only at hfs
  have HC := Lib.hid (chg_cuts (s := (s1, s2)) HP.out.1 hfs.2.1)
  have hcl : (cuts (s1, s2) ps).length ≤ 1000000 := by
    have h1 := chg_len (s1, s2) (ps.map (·.1)) [s1]
    have h2 := HS0.out.len
    have h3 := HC.out
    simp only at h3
    rw [h3] at h1
    simp at h1
    omega
  have hKG : ∀ W', Kb w3.heap.size w2.heap.size (w2.heap.size + 1) w3 W' → Good W' (w2.heap.size + 1 + 1 + 1 + 1 + 1 + 1) (w2.heap.size + 1 + 1 + 1 + 1 + 1 + 2) (w2.heap.size + 1 + 1 + 1 + 1 + 1) A n c (some ⟨w2.heap.size + 1 + 1 + 1 + 1, 0, none⟩) 1 1 (s1, s2) (ps.map (·.1)) [s1] := fun W' hk => HP3.out.good hk HS3.out.a (by omega)
  have HST := Lib.hid (changes_stops (w2.heap.size + 1 + 1 + 1 + 1 + 1 + 1) (w2.heap.size + 1 + 1 + 1 + 1 + 1 + 2) (w2.heap.size + 1 + 1 + 1 + 1 + 1) A n c (some ⟨w2.heap.size + 1 + 1 + 1 + 1, 0, none⟩) 1 1 (s1, s2) (ps.map (·.1)) [s1] (by omega) (by omega) (Kb w3.heap.size w2.heap.size (w2.heap.size + 1)) w3 (fun _ _ _ h k => h.trans k) (fun a b h k => Kb.of (k.mono h)) (fun _ _ h => h.size) hKG)
  have HST2 := Lib.hid (show SeqStopsK Fence.wide 9 Try.prog 42 #[.pointer (some ⟨w2.heap.size + 1 + 1 + 1 + 1 + 1 + 1, 0, none⟩), .pointer (some ⟨w2.heap.size + 1 + 1 + 1 + 1 + 1 + 2, 0, none⟩), .pointer (some ⟨w2.heap.size + 1 + 1 + 1 + 1 + 1, 0, none⟩)] (fun x : Int => #[.int .i64 x]) (Kb w3.heap.size w2.heap.size (w2.heap.size + 1)) (fun zs => zs = cuts (s1, s2) ps) (fun _ => True) (cuts (s1, s2) ps).length w3 by have h1 := HST.out; have h2 := HC.out; simp only at h2; rwa [h2] at h1)
  clear hKG HST hw3 P3 hB23 p0 p1 q1 q2 p0' p1' q1' hfs
  refine wpIn_rangeFunc_ownH rfl (by decide) (gf := 42) (lb := #[.pointer (some ⟨w2.heap.size + 1 + 1 + 1 + 1 + 1 + 1, 0, none⟩), .pointer (some ⟨w2.heap.size + 1 + 1 + 1 + 1 + 1 + 2, 0, none⟩), .pointer (some ⟨w2.heap.size + 1 + 1 + 1 + 1 + 1, 0, none⟩)]) rfl trivial enters_changes
    HST2.out (fun h k => h.trans k) (fun W l o o' hl ho _ _ => Kb.put W o' hl ho) (Below.refl _ _) (fun _ => rfl)
    (fun pre W => PI w3 w2.heap.size (w2.heap.size + 1) (val 0 ps) s2 pre W)
    (fun _ _ _ => False)
    (pi_own w3 _ _ _ _)
    (fun _ _ _ _ _ hs _ _ => hs)
    ⟨none, 0, none, 0, OwnP.nil, OwnI.nil, HP3.out.x6, HP3.out.x7, Kb.refl _ _ _ _⟩
    (fun x a' W => a' = { tmps := #[sg A n c V n d, ag (s1, s2), .pointer (some ⟨w.heap.size, 0, none⟩), .pointer (some ⟨w.heap.size + 1, 0, none⟩), .slice none 0 0, .slice none 0 0, .pointer (some ⟨w2.heap.size, 0, none⟩), .pointer (some ⟨w2.heap.size + 1, 0, none⟩), .pointer (some ⟨w2.heap.size + 1 + 1 + 1, 0, none⟩), .int .i64 x, undef, .agg #[.slice A n c, .slice V n d], .bool true, .bool false, .bool false, .agg #[.int .i64 s1, .int .i64 s2], .bool true, .bool false, .bool false, .agg #[.slice A n c, .slice V n d], .func (.func 40) #[] #[.pointer (some ⟨w2.heap.size + 1 + 1, 0, none⟩)], .agg #[.int .i64 s1, .int .i64 s2], .pointer (some ⟨w.heap.size, 0, none⟩), .slice A n c, .pointer (some ⟨w.heap.size + 1, 0, none⟩), .int .i64 s1, .slice (some ⟨w2.heap.size + 1 + 1 + 1 + 1, 0, none⟩) 1 1, .func (.func 42) #[] #[.pointer (some ⟨w2.heap.size + 1 + 1 + 1 + 1 + 1 + 1, 0, none⟩), .pointer (some ⟨w2.heap.size + 1 + 1 + 1 + 1 + 1 + 2, 0, none⟩), .pointer (some ⟨w2.heap.size + 1 + 1 + 1 + 1 + 1, 0, none⟩)], .int .i64 x, undef, undef, undef, undef, undef, undef, undef, undef, undef, undef, undef, undef, undef, undef, undef, undef, undef, undef, undef, undef, undef, undef, undef, undef, undef], defers := [] })
    (fun x a' _ X Y row hs hg hr => hs)
    ?assign ?body ?done ?stop
  case assign =>
    rintro l pre x W K hI hK
    gi_wp2
    exact hK _ _ (KeepsFrom.refl _ _) (Kb.refl _ _ _ W) hI rfl
  case body =>
    rintro l pre x a' W hl ⟨r, hr⟩ ⟨A1, c1, V1, d1, J⟩ rfl hlt
    have h6 : w2.heap.size < w3.heap.size := by omega
    have h7 : w2.heap.size + 1 < w3.heap.size := by omega
    have hne : w2.heap.size ≠ w2.heap.size + 1 := by omega
    have hlt' : pre.length < 1000000 := by omega
    have hmx : Try.prog.follows .mixedOrders = true := by kernel_rfl
    have j6 := J.x6.cell
    have S3 := H2.out.s.below (HP3.out.below) z1
    have js := Bx.c1 ((J.kb.block (w.heap.size + 1) (by omega) (by omega) (by omega)).trans S3)
    simp only at js
    clear S3
    rcases List.eq_nil_or_concat pre with rfl | ⟨pre', q, e⟩
    · have HJ := Lib.hid (show PJ w3 w2.heap.size (w2.heap.size + 1) W A1 0 c1 V1 0 d1 (fr [] x) (([] : List Int).map (val 0 ps)) from J)
      simp only [List.length_nil] at j6
      clear J
      gi_wp2_with (gi_at_builtin; refine wpListIn_appP _ rfl (.tmp 39) (.tmp 44) rfl w3.heap.size A1 0 c1 (fr [] x) rfl (HJ.out.sp.alloc _) (W.heap.size + 1) ⟨W.heap.size, 0, none⟩ 1 1 [(x, s2)] rfl (spans_new1 W x s2 W.heap.size rfl) (by omega) (by have := HJ.out.kb.size; simp only [World.size_alloc]; omega) ?_; intro A2 c2 W2 hO2 hg2; obtain ⟨y6, J2, K2, L2⟩ := HJ.out.appP h6 h7 hne hO2 hg2; have y60 := y6.cell; have y6f := y6.frozen; have HJ2 := Lib.hid J2; have HK2 := Lib.hid ((KeepsOthers.refl W).trans K2); have HL2 := Lib.hid ((Kb.refl _ _ _ W).trans L2); clear hO2 hg2 y6 J2 K2 L2)
      obtain ⟨W5, hW5⟩ : ∃ W5, W2.setCell ⟨w2.heap.size, 0, none⟩ (.slice A2 (0 + 1) c2) = W5 := ⟨_, rfl⟩
      first | rw [hW5] | (simp only [Nat.zero_add] at hW5 HJ2 HK2 HL2 ⊢; rw [hW5])
      rw [hW5] at HJ2 HK2 HL2
      clear hW5 y60 y6f
      refine Round.any (by rintro ⟨_, _, hh⟩; exact hh) (by kernel_rfl) hmx ?_
      have HCV := Lib.hid (HP3.out.value HJ2.out.kb HS3.out (by omega) HP.out.1 hn x W5.drew rfl)
      obtain ⟨W6, hW6⟩ : ∃ W6, W5.drew = W6 := ⟨_, rfl⟩
      have HJ6 := Lib.hid (show PJ w3 w2.heap.size (w2.heap.size + 1) W6 A2 (0 + 1) c2 V1 0 d1 ((fr [] x) ++ [(x, s2)]) (([] : List Int).map (val 0 ps)) by rw [← hW6]; exact HJ2.out.drew 1)
      have HK6 := Lib.hid (show KeepsOthers W W6 by rw [← hW6]; exact HK2.out.trans (KeepsOthers.drew _))
      have HL6 := Lib.hid (show Kb w3.heap.size w2.heap.size (w2.heap.size + 1) W W6 by rw [← hW6]; exact ⟨HL2.out.os, HL2.out.tape, HL2.out.output, HL2.out.size, HL2.out.block⟩)
      simp only [hW6] at HCV ⊢
      clear hW6 HJ2 HK2 HL2
      have v7 := HJ6.out.x7.cell
      have v8 := Boxed.cell ((HJ6.out.kb.block (w2.heap.size + 1 + 1 + 1) (by omega) (by omega) (by omega)).trans HP3.out.fn)
      generalize hy : val 0 ps x = y at HCV
      have HY := Lib.hid hy
      clear hy
      have v7a : (W6.alloc (.cells #[.int .i64 y] 3)).cell? ⟨w2.heap.size + 1, 0, none⟩ = some (.slice V1 0 d1) := cal v7
      have v8a : (W6.alloc (.cells #[.int .i64 y] 3)).cell? ⟨w2.heap.size + 1 + 1 + 1, 0, none⟩ = some (.func (.func 40) #[] #[.pointer (some ⟨w2.heap.size + 1 + 1, 0, none⟩)]) := cal v8
      refine wpAny_take (i := 2) (v := .int .i64 x) rfl (by kernel_rfl) (by kernel_rfl) (by kernel_rfl) (fun _ _ _ h => h) (Or.inl ⟨by rfl, by intro w; go_simp⟩) ?_
      refine wpAny_ready (rs := [0, 1]) (by kernel_rfl) (by simp) ?_
      refine (AllReady.cons rfl (fun K hK => ?_) (AllReady.cons rfl (fun K hK => ?_) AllReady.nil))
      · go_simp
        refine hK _ _ ?_
        clear hK K
        refine wpAny_ready (rs := [1]) (by kernel_rfl) (by simp) ?_
        refine (AllReady.cons rfl (fun K hK => ?_) AllReady.nil)
        · go_simp
          refine hK _ _ ?_
          clear hK K
          refine wpAny_ready (rs := [3]) (by kernel_rfl) (by simp) ?_
          refine (AllReady.cons rfl (fun K hK => ?_) AllReady.nil)
          · go_simp
            refine HCV.out.mono ?_
            rintro e w' ⟨rfl, rfl⟩
            try go_simp
            refine hK _ _ ?_
            clear hK K
            refine wpAny_ready (rs := [4]) (by kernel_rfl) (by simp) ?_
            refine (AllReady.cons rfl (fun K hK => ?_) AllReady.nil)
            · go_simp
              refine hK _ _ ?_
              clear hK K
              refine wpAny_ready (rs := [5]) (by kernel_rfl) (by simp) ?_
              refine (AllReady.cons rfl (fun K hK => ?_) AllReady.nil)
              · refine step_appW _ rfl (.tmp 46) (.tmp 50) rfl w3.heap.size V1 0 d1 _ rfl (HJ6.out.vl.alloc _) (W6.heap.size + 1) ⟨W6.heap.size, 0, none⟩ 1 1 [y] rfl (ints_new1 W6 y) (by omega) (by omega) (by have := HJ6.out.kb.size; simp only [World.size_alloc]; omega) ?_
                intro V7 d7 W7 hO7 hg7 _
                obtain ⟨y7, J7, K7, L7⟩ := HJ6.out.appV h6 h7 hne hO7 hg7
                have y70 := y7.cell
                have y7f := y7.frozen
                have HJ7 := Lib.hid J7
                have HK7 := Lib.hid (HK6.out.trans K7)
                have HL7 := Lib.hid (HL6.out.trans L7)
                clear hO7 hg7 y7 J7 K7 L7
                try go_simp
                refine hK _ _ ?_
                clear hK K
                refine wpAny_ready (rs := [6]) (by kernel_rfl) (by simp) ?_
                refine (AllReady.cons rfl (fun K hK => ?_) AllReady.nil)
                · go_simp
                  refine hK _ _ ?_
                  clear hK K
                  refine wpAny_done (by kernel_rfl) ?_ _
                  refine ⟨HK7.out.from _, HL7.out, A2, c2, V7, d7, ?_⟩
                  have e1 := HJ7.out
                  rw [← HY.out] at e1
                  exact e1
      · go_simp
        refine hK _ _ ?_
        clear hK K
        refine wpAny_ready (rs := [0, 3]) (by kernel_rfl) (by simp) ?_
        refine (AllReady.cons rfl (fun K hK => ?_) (AllReady.cons rfl (fun K hK => ?_) AllReady.nil))
        · go_simp
          refine hK _ _ ?_
          clear hK K
          refine wpAny_ready (rs := [3]) (by kernel_rfl) (by simp) ?_
          refine (AllReady.cons rfl (fun K hK => ?_) AllReady.nil)
          · go_simp
            refine HCV.out.mono ?_
            rintro e w' ⟨rfl, rfl⟩
            try go_simp
            refine hK _ _ ?_
            clear hK K
            refine wpAny_ready (rs := [4]) (by kernel_rfl) (by simp) ?_
            refine (AllReady.cons rfl (fun K hK => ?_) AllReady.nil)
            · go_simp
              refine hK _ _ ?_
              clear hK K
              refine wpAny_ready (rs := [5]) (by kernel_rfl) (by simp) ?_
              refine (AllReady.cons rfl (fun K hK => ?_) AllReady.nil)
              · refine step_appW _ rfl (.tmp 46) (.tmp 50) rfl w3.heap.size V1 0 d1 _ rfl (HJ6.out.vl.alloc _) (W6.heap.size + 1) ⟨W6.heap.size, 0, none⟩ 1 1 [y] rfl (ints_new1 W6 y) (by omega) (by omega) (by have := HJ6.out.kb.size; simp only [World.size_alloc]; omega) ?_
                intro V7 d7 W7 hO7 hg7 _
                obtain ⟨y7, J7, K7, L7⟩ := HJ6.out.appV h6 h7 hne hO7 hg7
                have y70 := y7.cell
                have y7f := y7.frozen
                have HJ7 := Lib.hid J7
                have HK7 := Lib.hid (HK6.out.trans K7)
                have HL7 := Lib.hid (HL6.out.trans L7)
                clear hO7 hg7 y7 J7 K7 L7
                try go_simp
                refine hK _ _ ?_
                clear hK K
                refine wpAny_ready (rs := [6]) (by kernel_rfl) (by simp) ?_
                refine (AllReady.cons rfl (fun K hK => ?_) AllReady.nil)
                · go_simp
                  refine hK _ _ ?_
                  clear hK K
                  refine wpAny_done (by kernel_rfl) ?_ _
                  refine ⟨HK7.out.from _, HL7.out, A2, c2, V7, d7, ?_⟩
                  have e1 := HJ7.out
                  rw [← HY.out] at e1
                  exact e1
        · go_simp
          refine HCV.out.mono ?_
          rintro e w' ⟨rfl, rfl⟩
          try go_simp
          refine hK _ _ ?_
          clear hK K
          refine wpAny_ready (rs := [0, 4]) (by kernel_rfl) (by simp) ?_
          refine (AllReady.cons rfl (fun K hK => ?_) (AllReady.cons rfl (fun K hK => ?_) AllReady.nil))
          · go_simp
            refine hK _ _ ?_
            clear hK K
            refine wpAny_ready (rs := [4]) (by kernel_rfl) (by simp) ?_
            refine (AllReady.cons rfl (fun K hK => ?_) AllReady.nil)
            · go_simp
              refine hK _ _ ?_
              clear hK K
              refine wpAny_ready (rs := [5]) (by kernel_rfl) (by simp) ?_
              refine (AllReady.cons rfl (fun K hK => ?_) AllReady.nil)
              · refine step_appW _ rfl (.tmp 46) (.tmp 50) rfl w3.heap.size V1 0 d1 _ rfl (HJ6.out.vl.alloc _) (W6.heap.size + 1) ⟨W6.heap.size, 0, none⟩ 1 1 [y] rfl (ints_new1 W6 y) (by omega) (by omega) (by have := HJ6.out.kb.size; simp only [World.size_alloc]; omega) ?_
                intro V7 d7 W7 hO7 hg7 _
                obtain ⟨y7, J7, K7, L7⟩ := HJ6.out.appV h6 h7 hne hO7 hg7
                have y70 := y7.cell
                have y7f := y7.frozen
                have HJ7 := Lib.hid J7
                have HK7 := Lib.hid (HK6.out.trans K7)
                have HL7 := Lib.hid (HL6.out.trans L7)
                clear hO7 hg7 y7 J7 K7 L7
                try go_simp
                refine hK _ _ ?_
                clear hK K
                refine wpAny_ready (rs := [6]) (by kernel_rfl) (by simp) ?_
                refine (AllReady.cons rfl (fun K hK => ?_) AllReady.nil)
                · go_simp
                  refine hK _ _ ?_
                  clear hK K
                  refine wpAny_done (by kernel_rfl) ?_ _
                  refine ⟨HK7.out.from _, HL7.out, A2, c2, V7, d7, ?_⟩
                  have e1 := HJ7.out
                  rw [← HY.out] at e1
                  exact e1
          · go_simp
            refine hK _ _ ?_
            clear hK K
            refine wpAny_ready (rs := [0]) (by kernel_rfl) (by simp) ?_
            refine (AllReady.cons rfl (fun K hK => ?_) AllReady.nil)
            · go_simp
              refine hK _ _ ?_
              clear hK K
              refine wpAny_ready (rs := [5]) (by kernel_rfl) (by simp) ?_
              refine (AllReady.cons rfl (fun K hK => ?_) AllReady.nil)
              · refine step_appW _ rfl (.tmp 46) (.tmp 50) rfl w3.heap.size V1 0 d1 _ rfl (HJ6.out.vl.alloc _) (W6.heap.size + 1) ⟨W6.heap.size, 0, none⟩ 1 1 [y] rfl (ints_new1 W6 y) (by omega) (by omega) (by have := HJ6.out.kb.size; simp only [World.size_alloc]; omega) ?_
                intro V7 d7 W7 hO7 hg7 _
                obtain ⟨y7, J7, K7, L7⟩ := HJ6.out.appV h6 h7 hne hO7 hg7
                have y70 := y7.cell
                have y7f := y7.frozen
                have HJ7 := Lib.hid J7
                have HK7 := Lib.hid (HK6.out.trans K7)
                have HL7 := Lib.hid (HL6.out.trans L7)
                clear hO7 hg7 y7 J7 K7 L7
                try go_simp
                refine hK _ _ ?_
                clear hK K
                refine wpAny_ready (rs := [6]) (by kernel_rfl) (by simp) ?_
                refine (AllReady.cons rfl (fun K hK => ?_) AllReady.nil)
                · go_simp
                  refine hK _ _ ?_
                  clear hK K
                  refine wpAny_done (by kernel_rfl) ?_ _
                  refine ⟨HK7.out.from _, HL7.out, A2, c2, V7, d7, ?_⟩
                  have e1 := HJ7.out
                  rw [← HY.out] at e1
                  exact e1
    · rw [List.concat_eq_append] at e
      subst e
      have hfr : fr (pre' ++ [q]) s2 = fr pre' q ++ [(q, s2)] := fr_snoc pre' q s2
      have hfx : fr (pre' ++ [q]) x = fr pre' q ++ [(q, x)] := fr_snoc pre' q x
      have hkl : (pre' ++ [q]).length = pre'.length + 1 := by simp
      obtain ⟨m, hm⟩ : ∃ m, pre'.length = m := ⟨_, rfl⟩
      obtain ⟨k, hk⟩ : ∃ k, m + 1 = k := ⟨_, rfl⟩
      rw [hm, hk] at hkl
      rw [hfr, hkl] at J
      rw [hkl] at j6 hlt'
      obtain ⟨g, rfl, hgb, cc0, cc1, ccf⟩ := last_cells J.sp
      have hla : (fr pre' q).length = m := by rw [fr_len]; exact hm
      obtain ⟨J1, L1⟩ := J.turn hgb h6 h7 x
      rw [hla] at cc0 cc1 ccf J1 L1
      rw [← hfx] at J1
      have K1 : KeepsOthers W (W.setCell ⟨g, m * 2 + 1, none⟩ (.int .i64 x)) := KeepsOthers.setCell _ _ _
      have t6 := J1.x6.cell
      have ts : (W.setCell ⟨g, m * 2 + 1, none⟩ (.int .i64 x)).cell? ⟨w.heap.size + 1, 1, none⟩ = some (.int .i64 s2) := (World.cell?_of_block (Below.heap_setCell _ _ _ _ (by simp <;> omega))).trans js
      have HJ := Lib.hid J1
      have HK1 := Lib.hid K1
      have HL1 := Lib.hid L1
      have HKL := Lib.hid hkl
      have em : (k : Int) - 1 = (m : Int) := by omega
      have hmk : m < k := by omega
      have hmk2 : (m : Int) < (k : Int) := by omega
      have hm0 : (0 : Int) ≤ (m : Int) := by omega
      have tm : decide ((0 : Int) ≤ (m : Int)) = true := by simp
      generalize pre' ++ [q] = pre at HKL HJ
      clear J J1 K1 L1 hfr hfx hkl hla hk hm
      gi_wp2_with (gi_at_builtin; refine wpListIn_appP _ rfl (.tmp 39) (.tmp 44) rfl w3.heap.size (some ⟨g, 0, none⟩) k c1 (fr pre x) rfl (HJ.out.sp.alloc _) (W.heap.size + 1) ⟨W.heap.size, 0, none⟩ 1 1 [(x, s2)] rfl (spans_new1 (W.setCell ⟨g, m * 2 + 1, none⟩ (.int .i64 x)) x s2 W.heap.size (size_set _ _ _)) (by omega) (by have := HJ.out.kb.size; simp only [World.size_alloc]; omega) ?_; intro A2 c2 W2 hO2 hg2; obtain ⟨y6, J2, K2, L2⟩ := HJ.out.appP h6 h7 hne hO2 hg2; have y60 := y6.cell; have y6f := y6.frozen; have HJ2 := Lib.hid J2; have HK2 := Lib.hid (HK1.out.trans K2); have HL2 := Lib.hid (HL1.out.trans L2); clear hO2 hg2 y6 J2 K2 L2)
      obtain ⟨W5, hW5⟩ : ∃ W5, W2.setCell ⟨w2.heap.size, 0, none⟩ (.slice A2 (k + 1) c2) = W5 := ⟨_, rfl⟩
      first | rw [hW5] | (simp only [Nat.zero_add] at hW5 HJ2 HK2 HL2 ⊢; rw [hW5])
      rw [hW5] at HJ2 HK2 HL2
      clear hW5 y60 y6f
      refine Round.any (by rintro ⟨_, _, hh⟩; exact hh) (by kernel_rfl) hmx ?_
      have HCV := Lib.hid (HP3.out.value HJ2.out.kb HS3.out (by omega) HP.out.1 hn x W5.drew rfl)
      obtain ⟨W6, hW6⟩ : ∃ W6, W5.drew = W6 := ⟨_, rfl⟩
      have HJ6 := Lib.hid (show PJ w3 w2.heap.size (w2.heap.size + 1) W6 A2 (k + 1) c2 V1 k d1 ((fr pre x) ++ [(x, s2)]) (pre.map (val 0 ps)) by rw [← hW6]; exact HJ2.out.drew 1)
      have HK6 := Lib.hid (show KeepsOthers W W6 by rw [← hW6]; exact HK2.out.trans (KeepsOthers.drew _))
      have HL6 := Lib.hid (show Kb w3.heap.size w2.heap.size (w2.heap.size + 1) W W6 by rw [← hW6]; exact ⟨HL2.out.os, HL2.out.tape, HL2.out.output, HL2.out.size, HL2.out.block⟩)
      simp only [hW6] at HCV ⊢
      clear hW6 HJ2 HK2 HL2
      have v7 := HJ6.out.x7.cell
      have v8 := Boxed.cell ((HJ6.out.kb.block (w2.heap.size + 1 + 1 + 1) (by omega) (by omega) (by omega)).trans HP3.out.fn)
      generalize hy : val 0 ps x = y at HCV
      have HY := Lib.hid hy
      clear hy
      have v7a : (W6.alloc (.cells #[.int .i64 y] 3)).cell? ⟨w2.heap.size + 1, 0, none⟩ = some (.slice V1 k d1) := cal v7
      have v8a : (W6.alloc (.cells #[.int .i64 y] 3)).cell? ⟨w2.heap.size + 1 + 1 + 1, 0, none⟩ = some (.func (.func 40) #[] #[.pointer (some ⟨w2.heap.size + 1 + 1, 0, none⟩)]) := cal v8
      refine wpAny_take (i := 2) (v := .int .i64 x) rfl (by kernel_rfl) (by kernel_rfl) (by kernel_rfl) (fun _ _ _ h => h) (Or.inl ⟨by rfl, by intro w; go_simp⟩) ?_
      refine wpAny_ready (rs := [0, 1]) (by kernel_rfl) (by simp) ?_
      refine (AllReady.cons rfl (fun K hK => ?_) (AllReady.cons rfl (fun K hK => ?_) AllReady.nil))
      · go_simp
        refine hK _ _ ?_
        clear hK K
        refine wpAny_ready (rs := [1]) (by kernel_rfl) (by simp) ?_
        refine (AllReady.cons rfl (fun K hK => ?_) AllReady.nil)
        · go_simp
          refine hK _ _ ?_
          clear hK K
          refine wpAny_ready (rs := [3]) (by kernel_rfl) (by simp) ?_
          refine (AllReady.cons rfl (fun K hK => ?_) AllReady.nil)
          · go_simp
            refine HCV.out.mono ?_
            rintro e w' ⟨rfl, rfl⟩
            try go_simp
            refine hK _ _ ?_
            clear hK K
            refine wpAny_ready (rs := [4]) (by kernel_rfl) (by simp) ?_
            refine (AllReady.cons rfl (fun K hK => ?_) AllReady.nil)
            · go_simp
              refine hK _ _ ?_
              clear hK K
              refine wpAny_ready (rs := [5]) (by kernel_rfl) (by simp) ?_
              refine (AllReady.cons rfl (fun K hK => ?_) AllReady.nil)
              · refine step_appW _ rfl (.tmp 46) (.tmp 50) rfl w3.heap.size V1 k d1 _ rfl (HJ6.out.vl.alloc _) (W6.heap.size + 1) ⟨W6.heap.size, 0, none⟩ 1 1 [y] rfl (ints_new1 W6 y) (by omega) (by omega) (by have := HJ6.out.kb.size; simp only [World.size_alloc]; omega) ?_
                intro V7 d7 W7 hO7 hg7 _
                obtain ⟨y7, J7, K7, L7⟩ := HJ6.out.appV h6 h7 hne hO7 hg7
                have y70 := y7.cell
                have y7f := y7.frozen
                have HJ7 := Lib.hid J7
                have HK7 := Lib.hid (HK6.out.trans K7)
                have HL7 := Lib.hid (HL6.out.trans L7)
                clear hO7 hg7 y7 J7 K7 L7
                try go_simp
                refine hK _ _ ?_
                clear hK K
                refine wpAny_ready (rs := [6]) (by kernel_rfl) (by simp) ?_
                refine (AllReady.cons rfl (fun K hK => ?_) AllReady.nil)
                · go_simp
                  refine hK _ _ ?_
                  clear hK K
                  refine wpAny_done (by kernel_rfl) ?_ _
                  refine ⟨HK7.out.from _, HL7.out, A2, c2, V7, d7, ?_⟩
                  have e1 : (pre ++ [x]).length = k + 1 := by simp [HKL.out]
                  rw [e1, List.map_append, List.map_cons, List.map_nil, HY.out, fr_snoc]
                  exact HJ7.out
      · go_simp
        refine hK _ _ ?_
        clear hK K
        refine wpAny_ready (rs := [0, 3]) (by kernel_rfl) (by simp) ?_
        refine (AllReady.cons rfl (fun K hK => ?_) (AllReady.cons rfl (fun K hK => ?_) AllReady.nil))
        · go_simp
          refine hK _ _ ?_
          clear hK K
          refine wpAny_ready (rs := [3]) (by kernel_rfl) (by simp) ?_
          refine (AllReady.cons rfl (fun K hK => ?_) AllReady.nil)
          · go_simp
            refine HCV.out.mono ?_
            rintro e w' ⟨rfl, rfl⟩
            try go_simp
            refine hK _ _ ?_
            clear hK K
            refine wpAny_ready (rs := [4]) (by kernel_rfl) (by simp) ?_
            refine (AllReady.cons rfl (fun K hK => ?_) AllReady.nil)
            · go_simp
              refine hK _ _ ?_
              clear hK K
              refine wpAny_ready (rs := [5]) (by kernel_rfl) (by simp) ?_
              refine (AllReady.cons rfl (fun K hK => ?_) AllReady.nil)
              · refine step_appW _ rfl (.tmp 46) (.tmp 50) rfl w3.heap.size V1 k d1 _ rfl (HJ6.out.vl.alloc _) (W6.heap.size + 1) ⟨W6.heap.size, 0, none⟩ 1 1 [y] rfl (ints_new1 W6 y) (by omega) (by omega) (by have := HJ6.out.kb.size; simp only [World.size_alloc]; omega) ?_
                intro V7 d7 W7 hO7 hg7 _
                obtain ⟨y7, J7, K7, L7⟩ := HJ6.out.appV h6 h7 hne hO7 hg7
                have y70 := y7.cell
                have y7f := y7.frozen
                have HJ7 := Lib.hid J7
                have HK7 := Lib.hid (HK6.out.trans K7)
                have HL7 := Lib.hid (HL6.out.trans L7)
                clear hO7 hg7 y7 J7 K7 L7
                try go_simp
                refine hK _ _ ?_
                clear hK K
                refine wpAny_ready (rs := [6]) (by kernel_rfl) (by simp) ?_
                refine (AllReady.cons rfl (fun K hK => ?_) AllReady.nil)
                · go_simp
                  refine hK _ _ ?_
                  clear hK K
                  refine wpAny_done (by kernel_rfl) ?_ _
                  refine ⟨HK7.out.from _, HL7.out, A2, c2, V7, d7, ?_⟩
                  have e1 : (pre ++ [x]).length = k + 1 := by simp [HKL.out]
                  rw [e1, List.map_append, List.map_cons, List.map_nil, HY.out, fr_snoc]
                  exact HJ7.out
        · go_simp
          refine HCV.out.mono ?_
          rintro e w' ⟨rfl, rfl⟩
          try go_simp
          refine hK _ _ ?_
          clear hK K
          refine wpAny_ready (rs := [0, 4]) (by kernel_rfl) (by simp) ?_
          refine (AllReady.cons rfl (fun K hK => ?_) (AllReady.cons rfl (fun K hK => ?_) AllReady.nil))
          · go_simp
            refine hK _ _ ?_
            clear hK K
            refine wpAny_ready (rs := [4]) (by kernel_rfl) (by simp) ?_
            refine (AllReady.cons rfl (fun K hK => ?_) AllReady.nil)
            · go_simp
              refine hK _ _ ?_
              clear hK K
              refine wpAny_ready (rs := [5]) (by kernel_rfl) (by simp) ?_
              refine (AllReady.cons rfl (fun K hK => ?_) AllReady.nil)
              · refine step_appW _ rfl (.tmp 46) (.tmp 50) rfl w3.heap.size V1 k d1 _ rfl (HJ6.out.vl.alloc _) (W6.heap.size + 1) ⟨W6.heap.size, 0, none⟩ 1 1 [y] rfl (ints_new1 W6 y) (by omega) (by omega) (by have := HJ6.out.kb.size; simp only [World.size_alloc]; omega) ?_
                intro V7 d7 W7 hO7 hg7 _
                obtain ⟨y7, J7, K7, L7⟩ := HJ6.out.appV h6 h7 hne hO7 hg7
                have y70 := y7.cell
                have y7f := y7.frozen
                have HJ7 := Lib.hid J7
                have HK7 := Lib.hid (HK6.out.trans K7)
                have HL7 := Lib.hid (HL6.out.trans L7)
                clear hO7 hg7 y7 J7 K7 L7
                try go_simp
                refine hK _ _ ?_
                clear hK K
                refine wpAny_ready (rs := [6]) (by kernel_rfl) (by simp) ?_
                refine (AllReady.cons rfl (fun K hK => ?_) AllReady.nil)
                · go_simp
                  refine hK _ _ ?_
                  clear hK K
                  refine wpAny_done (by kernel_rfl) ?_ _
                  refine ⟨HK7.out.from _, HL7.out, A2, c2, V7, d7, ?_⟩
                  have e1 : (pre ++ [x]).length = k + 1 := by simp [HKL.out]
                  rw [e1, List.map_append, List.map_cons, List.map_nil, HY.out, fr_snoc]
                  exact HJ7.out
          · go_simp
            refine hK _ _ ?_
            clear hK K
            refine wpAny_ready (rs := [0]) (by kernel_rfl) (by simp) ?_
            refine (AllReady.cons rfl (fun K hK => ?_) AllReady.nil)
            · go_simp
              refine hK _ _ ?_
              clear hK K
              refine wpAny_ready (rs := [5]) (by kernel_rfl) (by simp) ?_
              refine (AllReady.cons rfl (fun K hK => ?_) AllReady.nil)
              · refine step_appW _ rfl (.tmp 46) (.tmp 50) rfl w3.heap.size V1 k d1 _ rfl (HJ6.out.vl.alloc _) (W6.heap.size + 1) ⟨W6.heap.size, 0, none⟩ 1 1 [y] rfl (ints_new1 W6 y) (by omega) (by omega) (by have := HJ6.out.kb.size; simp only [World.size_alloc]; omega) ?_
                intro V7 d7 W7 hO7 hg7 _
                obtain ⟨y7, J7, K7, L7⟩ := HJ6.out.appV h6 h7 hne hO7 hg7
                have y70 := y7.cell
                have y7f := y7.frozen
                have HJ7 := Lib.hid J7
                have HK7 := Lib.hid (HK6.out.trans K7)
                have HL7 := Lib.hid (HL6.out.trans L7)
                clear hO7 hg7 y7 J7 K7 L7
                try go_simp
                refine hK _ _ ?_
                clear hK K
                refine wpAny_ready (rs := [6]) (by kernel_rfl) (by simp) ?_
                refine (AllReady.cons rfl (fun K hK => ?_) AllReady.nil)
                · go_simp
                  refine hK _ _ ?_
                  clear hK K
                  refine wpAny_done (by kernel_rfl) ?_ _
                  refine ⟨HK7.out.from _, HL7.out, A2, c2, V7, d7, ?_⟩
                  have e1 : (pre ++ [x]).length = k + 1 := by simp [HKL.out]
                  rw [e1, List.map_append, List.map_cons, List.map_nil, HY.out, fr_snoc]
                  exact HJ7.out
  case done =>
    rintro D zs W hD rfl ⟨A1, c1, V1, d1, J⟩ hK
    have c6 := J.x6.cell
    have c7 := J.x7.cell
    have HJ := Lib.hid J
    obtain ⟨k, hk⟩ : ∃ k, (cuts (s1, s2) ps).length = k := ⟨_, rfl⟩
    rw [hk] at HJ c6 c7
    have HKL := Lib.hid hk
    clear J hk
    gi_wp2
    refine wpIn_wide.2 ?_
    go_quiet (fail)
    obtain ⟨W5, hW5⟩ : ∃ W5, W.drewN nq = W5 := ⟨_, rfl⟩
    have HJ5 := Lib.hid (show PJ w3 w2.heap.size (w2.heap.size + 1) W5 A1 k c1 V1 k d1 (fr (cuts (s1, s2) ps) s2) ((cuts (s1, s2) ps).map (val 0 ps)) by rw [← hW5]; exact HJ.out.drew nq)
    have hK5 : W5.heap[D]? = some (.deferred (some [])) := by rw [← hW5]; exact hK
    rw [hW5]
    clear hW5 c6 c7
    gi_wp2
    have hrow : ∀ r, some D = some r → ∃ o : Obj, W5.heap[r]? = some o ∧ o.isCells = false := fun r e => by cases e; exact ⟨_, hK5, rfl⟩
    have hg := grownBy_putObj' W5 D (.deferred none)
    have hsz6 : w.heap.size ≤ w2.heap.size := by omega
    have hB5 : Below w.heap.size w W5 := HB3.out.trans (HJ5.out.kb.below (C := w.heap.size) (by omega) (by omega) (by omega))
    have hsp := (HJ5.out.sp.abide hg hrow).spans.1
    have hvl := (HJ5.out.vl.abide hg hrow).ints.1
    refine ⟨by simp, .inl ⟨_, _, rfl, run_takeDeferred hK5, ?_⟩⟩
    refine ⟨.tuple #[.slice A1 k c1, .slice V1 k d1], by simp [results, Try.results28, go_sem], A1, c1, V1, d1, ?_, ?_, ?_, hB5.grown hg hB5.size (fun r e => by cases e; omega)⟩
    · rw [HKL.out]
    · rw [HKL.out]; exact hsp
    · rw [HKL.out]; exact hvl
  case stop =>
    rintro D c pre W _ _ h _
    exact h.elim

end Stp
end Go.Proofs.Ytjmbccdcnmmhgaa
