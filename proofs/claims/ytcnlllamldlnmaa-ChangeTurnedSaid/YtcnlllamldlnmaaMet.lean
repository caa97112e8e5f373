/-
  met of package terms: whether all that is needed holds. Conditions: the needs are closures of one variable, and leave what lies as it is.
-/
import Derived.Test.YtcnlllamldlnmaaBase
namespace Go.Proofs.Ytcnlllamldlnmaa
open Go.RowKit Ba Cv Sp Te
namespace Tm
set_option linter.unusedVariables false

/-- A function of the program's own is entered where its value is called. -/
theorem enters {f : Nat} {fn : Func} (hf : Try.prog.funcs[f]? = some fn) (hn : (fn.name == "runtime.NumGoroutine") = false) (hb : fn.body.isNone = false) (args : Array Value) (w : World) :
    (callFunc f args).run Try.prog w = .ok (.enter f args) w := by
  have h1 : fn.name ≠ "runtime.NumGoroutine" := by simpa using hn
  have h2 : fn.body ≠ none := fun e => by rw [e] at hb; cases hb
  simp [callFunc, hf, h1, h2]

set_option maxHeartbeats 1000000 in
/-- The deferred word. -/
theorem word (a b : Nat) (m : Int) (q x : Bool) (u : FrameMode) (w : World) (h1 : w.cell? ⟨a, 0, none⟩ = some (.int .i64 m)) (h2 : w.cell? ⟨b, 0, none⟩ = some (.bool x)) (h3 : w.frozen? ⟨b, 0, none⟩ = false) (e : (m == 0) = q) :
    CallsD Try.prog 74 #[.pointer (some ⟨a, 0, none⟩), .pointer (some ⟨b, 0, none⟩)] u w fun e u' w' => u' = u ∧ (e = .returned (.tuple #[]) ∧ w' = w.setCell ⟨b, 0, none⟩ (.bool q)) := by
  go_enter_d Try.func74, Try.ntmps74
  go_wp2
  go_end0
  exact ⟨rfl, rfl⟩

/-- The two variables: the result, and how many needs are still open. -/
structure Op (w W : World) (m : Int) : Prop where
  b : Below w.heap.size w W
  r : Bx W w.heap.size 4 #[.bool false]
  o : Bx W (w.heap.size + 1) 3 #[.int .i64 m]
section
variable {w W W' : World} {m m' : Int}
theorem Op.next (h : Op w W m) (hb : Below W.heap.size W W') : Op w W' m := ⟨h.b.trans (hb.mono h.b.size), h.r.keep hb, h.o.keep hb⟩
theorem Op.set (h : Op w W m) (m' : Int) : Op w (W.setCell ⟨w.heap.size + 1, 0, none⟩ (.int .i64 m')) m' :=
  ⟨h.b.setCell (by simp) _, h.r.far (by simp) _, h.o.set 0 _⟩
theorem Op.start (w : World) (m : Int) : Op w ((w.alloc (.cells #[.bool false] 4)).alloc (.cells #[.int .i64 m] 3)) m := by
  refine ⟨(alloc_ _ _).alloc (by simp) _, (Bx.new _ _ _).alloc _, ?_⟩
  have := Bx.new (w.alloc (.cells #[.bool false] 4)) 3 #[.int .i64 m]
  rw [World.size_alloc] at this
  exact this
end

set_option maxRecDepth 100000 in
set_option maxHeartbeats 2000000 in
theorem met_ (ad : Addr) (n p : Nat) (fs : List Nat) (bs : List Bool) (w : World) (hf : fs.length = n) (hb : bs.length = n) (hn : n ≤ 100) (hbk : ad.block < w.heap.size)
    (hc : ∀ (i f : Nat), fs[i]? = some f → w.cell? (ad.add i) = some (.func (.func f) #[] #[.pointer (some ⟨p, 0, none⟩)]))
    (E : ∀ (i f : Nat), fs[i]? = some f → ∀ (args : Array Value) (w : World), (callFunc f args).run Try.prog w = .ok (.enter f args) w)
    (C : ∀ (i f : Nat) (b : Bool) (W : World), fs[i]? = some f → bs[i]? = some b → Below w.heap.size w W → Calls Try.prog f #[.pointer (some ⟨p, 0, none⟩)] W (Yes W b)) :
    Calls Try.prog 58 #[.slice (some ad) n n] w (Yes w (bs.all id)) := by
  have hmf : ∀ (fn : Fn) (first cap : Array Value) (w : World), (Instr.makeFunc fn first cap).run Try.prog w = .ok (.func fn first cap) w := fun _ _ _ _ => rfl
  have HC := Lib.hid hc
  have HK := Lib.hid C
  have HE := Lib.hid E
  have HF := Lib.hid hf
  have HN := Lib.hid hb
  have HAD := Lib.hid hbk
  obtain ⟨R, hR⟩ : ∃ R, bs.all id = R := ⟨_, rfl⟩
  rw [hR]
  have HR := Lib.hid hR
  have H0 := Lib.hid (Op.start w (n : Int))
  clear hc C E hf hb hbk hR
  go_enter_defers Try.func58, Try.ntmps58
  go_wp2
  go_loopw [5, 11] (fun s i w' => ∃ (k : Nat) (m : Int) (W : World), k ≤ n ∧ m = (n : Int) - (k : Int) ∧ i = .int .i64 (k : Int) ∧ W = w' ∧ Hid (Op w W m) ∧ Hid ((bs.drop k).all id = R)) (fun _ i _ => n - (intOf i).toNat)
  case atStart => exact ⟨0, (n : Int), _, Nat.zero_le _, by omega, rfl, rfl, H0, HR⟩
  case round =>
    obtain ⟨k, m, W, hk, hm, rfl, rfl, HW, HD⟩ := hrel
    clear H0
    by_cases hlt : k < n
    · have hlt2 : (k : Int) < (n : Int) := by omega
      obtain ⟨f, hf⟩ : ∃ f, fs[k]? = some f := ⟨_, List.getElem?_eq_getElem (by rw [HF.out]; omega)⟩
      obtain ⟨b, hb⟩ : ∃ b, bs[k]? = some b := ⟨_, List.getElem?_eq_getElem (by rw [HN.out]; omega)⟩
      have hcell : W.cell? (ad.add k) = some (.func (.func f) #[] #[.pointer (some ⟨p, 0, none⟩)]) := (HW.out.b.cell (by rw [add_block]; exact HAD.out)).trans (HC.out k f hf)
      have HX := Lib.hid (drop_get hb)
      have CW := Lib.hid (HK.out k f b W hf hb HW.out.b)
      have HM := Lib.hid hm
      have hE := HE.out k f hf
      clear hf hm
      cases b with
      | false =>
        have HQ := Lib.hid (show R = false by rw [← HD.out, HX.out, List.all_cons]; rfl)
        have t1 := Lib.hid (show (m == 0) = false by rw [beq_eq_false_iff_ne]; have := HM.out; omega)
        clear hb HM
        go_wp2_with fail
        refine CW.out.mono ?_
        rintro e w1 ⟨rfl, hb1⟩
        have HW1 := Lib.hid (HW.out.next hb1)
        clear hb1 HW CW
        go_wp2
        refine leaves_cons (f := 74) (args := #[.pointer (some ⟨w.heap.size + 1, 0, none⟩), .pointer (some ⟨w.heap.size, 0, none⟩)]) (by simp) (by simp [go_sem]) ?_
        refine (word (w.heap.size + 1) w.heap.size m false false .returning w1 (HW1.out.o.c 0) (HW1.out.r.c 0) (HW1.out.r.f 0) t1.out).mono ?_
        rintro e u' w'' ⟨rfl, rfl, rfl⟩
        have hc := (HW1.out.r.set 0 (.bool false)).c 0
        have hl := HW1.out.r.lt
        have HQ' := HQ.out
        subst HQ'
        simp at hc
        have HB := HW1.out.b.setCell (Nat.le_refl _) (p := ⟨w.heap.size, 0, none⟩) (.bool false)
        simp [Leaves, settle, results, Try.results58, go_sem, hc]
        exact ⟨rfl, HB⟩
      | true =>
        have HNX := Lib.hid (show (bs.drop (k + 1)).all id = R by rw [← HD.out, HX.out, List.all_cons]; rfl)
        obtain ⟨m', hm'⟩ : ∃ m', m' = m - 1 := ⟨_, rfl⟩
        have e1 : wrap64 (m - 1) = m' := by rw [hm']; exact IntWalk.wrap64_in _ ⟨by have := HM.out; omega, by have := HM.out; omega⟩
        have HM' := Lib.hid (show m' = (n : Int) - ((k + 1 : Nat) : Int) by have := HM.out; omega)
        clear hb HM hm'
        go_wp2_with fail
        refine CW.out.mono ?_
        rintro e w1 ⟨rfl, hb1⟩
        have HW1 := Lib.hid (HW.out.next hb1)
        clear hb1 HW CW
        have c0 := HW1.out.o.c 0
        have f0 := HW1.out.o.f 0
        simp at c0
        go_wp2
        go_roundw
        case rel => exact ⟨k + 1, m', _, by omega, HM'.out, by go_num, rfl, Lib.hid (HW1.out.set m'), HNX⟩
        case measure => simp [intOf]; omega
    · have HQ := Lib.hid (show R = true by rw [← HD.out, List.drop_of_length_le (by rw [HN.out]; omega)]; rfl)
      have t1 := Lib.hid (show (m == 0) = true by rw [beq_iff_eq]; omega)
      obtain rfl : k = n := by omega
      clear hm hlt
      go_wp2
      refine leaves_cons (f := 74) (args := #[.pointer (some ⟨w.heap.size + 1, 0, none⟩), .pointer (some ⟨w.heap.size, 0, none⟩)]) (by simp) (by simp [go_sem]) ?_
      refine (word (w.heap.size + 1) w.heap.size m true false .returning W (HW.out.o.c 0) (HW.out.r.c 0) (HW.out.r.f 0) t1.out).mono ?_
      rintro e u' w'' ⟨rfl, rfl, rfl⟩
      have hc := (HW.out.r.set 0 (.bool true)).c 0
      have HQ' := HQ.out
      subst HQ'
      simp at hc
      have HB := HW.out.b.setCell (Nat.le_refl _) (p := ⟨w.heap.size, 0, none⟩) (.bool true)
      simp [Leaves, settle, results, Try.results58, go_sem, hc]
      exact ⟨rfl, HB⟩

end Tm
end Go.Proofs.Ytcnlllamldlnmaa
