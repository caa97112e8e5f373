/-
  kinds of package change: a map of what each kind has, and how it is looked up. Conditions: none.
-/
import Derived.Test.YtcnlllamldlnmaaAppC
import Derived.Maps.OwnSet
namespace Go.Proofs.Ytcnlllamldlnmaa
open Go.RowKit Ba Cv Sp Te Ag
namespace Tm
set_option linter.unusedVariables false

abbrev pv (a b c : Bool) : Value := .agg #[.bool a, .bool b, .bool c]
/-- Entries whose keys are ints. -/
def ent (k : Int) (v : Value) (n : Nat) : MapEntry := ⟨.int .i64 k, v, n⟩
def keys (es : List MapEntry) (ks : List Int) : Prop := es.map (·.key) = ks.map (Value.int .i64)
/-- The map's block. -/
structure Km (w W : World) (es : Array MapEntry) (n : Nat) : Prop where
  b : Below w.heap.size w W
  m : W.heap[w.heap.size]? = some (.map es n)
theorem find_no (k : Int) : ∀ (es : List MapEntry) (ks : List Int) (i : Nat), keys es ks → k ∉ ks → Instr.findNow (.int .i64) (.int .i64 k) es i = some none
  | [], ks, i, h, hk => rfl
  | e :: es, ks, i, h, hk => by
    cases ks with
    | nil => simp [keys] at h
    | cons j ks =>
      simp [keys] at h
      simp at hk
      have := find_no k es ks (i + 1) h.2 hk.2
      have hkj : (k == j) = false := by simpa using hk.1
      simp [Instr.findNow, Instr.sameNow, h.1, hkj, this]
theorem run_put (w w0 : World) (es : Array MapEntry) (n : Nat) (ks : List Int) (k : Int) (v : Value) (H : Km w0 w es n) (hks : keys es.toList ks) (hk : k ∉ ks) :
    ∃ w', (Instr.mapUpdate 54 (.map (some w0.heap.size)) (.int .i64 k) v).run Try.prog w = .ok () w' ∧ Km w0 w' (es.push (ent k v n)) (n + 1) := by
  have hlt : w0.heap.size < w.heap.size := (Array.getElem?_eq_some_iff.1 H.m).1
  refine ⟨ChangeMaps.setBlock w w0.heap.size (.map (es.push (ent k v n)) (n + 1)), ?_, ⟨H.b.os, H.b.tape, H.b.output, ?_, fun i hi => ?_⟩, ?_⟩
  · simp [Instr.mapUpdate, run_underlying Try.underlying54, MapKept.run_getObj_map H.m, MapKept.run_checkKey (d := .int .i64) (k := .int .i64 k) Try.underlying3 rfl, MapKept.run_findKey Try.underlying3 (find_no k es.toList ks 0 hks hk), MapKept.run_setObj_map _ H.m, Result.andThen, ChangeMaps.setBlock, ent]
  · simpa [ChangeMaps.setBlock] using H.b.size
  · have := H.b.block i hi
    rw [← this]
    simp only [ChangeMaps.setBlock]
    exact (MapKept.heap_set H.m).2 i (by omega)
  · simp only [ChangeMaps.setBlock]
    exact (MapKept.heap_set H.m).1
theorem wpList_ins (w : World) {ops : Array Oper} {rest : List Oper} {o : Oper} {a : Act} {Q : Exit → Act → World → Prop} (hg : o.guard = none) (m x v : Operand) (hop : o.op = Op.insert 54 m x v)
    (w0 : World) (es : Array MapEntry) (n : Nat) (ks : List Int) (k : Int) (val : Value) (hm : a.eval m = .map (some w0.heap.size)) (hx : a.eval x = .int .i64 k) (hv : a.eval v = val) (H : Km w0 w es n) (hks : keys es.toList ks) (hk : k ∉ ks)
    (hK : ∀ w', Km w0 w' (es.push (ent k val n)) (n + 1) → wpList Try.prog ops Q rest (a.put o.dst undef) w') : wpList Try.prog ops Q (o :: rest) a w := by
  refine wpList_plain hg fun K' hK' => ?_
  obtain ⟨w', hrun, r1⟩ := run_put w w0 es n ks k val H hks hk
  unfold Oper.wp
  simp [execOp, hop, hm, hx, hv, hrun, Result.andThen]
  exact hK' _ _ (hK w' r1)

abbrev e1 : Array MapEntry := #[ent 1 (pv true false false) 0]
abbrev e2 : Array MapEntry := #[ent 1 (pv true false false) 0, ent 2 (pv false true false) 1]
abbrev e3 : Array MapEntry := #[ent 1 (pv true false false) 0, ent 2 (pv false true false) 1, ent 3 (pv false false true) 2]
abbrev e4 : Array MapEntry := #[ent 1 (pv true false false) 0, ent 2 (pv false true false) 1, ent 3 (pv false false true) 2, ent 4 (pv false false false) 3]
/-- The map of kinds lies in this block. -/
def KM (w : World) (b : Nat) : Prop := w.heap[b]? = some (.map e4 4)
theorem KM.below {w w' : World} {b : Nat} (h : KM w b) (hb : Below w.heap.size w w') : KM w' b := (hb.block b (Array.getElem?_eq_some_iff.1 h).1).trans h
theorem KM.lt {w : World} {b : Nat} (h : KM w b) : b < w.heap.size := (Array.getElem?_eq_some_iff.1 h).1

set_option maxHeartbeats 1000000 in
theorem kinds_ (w : World) : Calls Try.prog 26 #[] w fun e w' => e = .returned (.map (some w.heap.size)) ∧ KM w' w.heap.size ∧ Below w.heap.size w w' := by
  have hmm := @run_makeMap Try.prog
  have H0 := Lib.hid (show Km w (w.alloc (.map #[] 0)) #[] 0 from ⟨alloc_ _ _, heap_alloc_new w _⟩)
  go_enter Try.func26, Try.ntmps26
  go_wp2_with (first
    | (refine wpList_ins _ rfl (.tmp 1) _ (.tmp 2) rfl w #[] 0 [] 1 _ rfl rfl rfl H0.out rfl (by simp) ?_; intro w1 h1; have H1 := Lib.hid (show Km w w1 e1 1 from h1); clear h1)
    | (refine wpList_ins _ rfl (.tmp 1) _ (.tmp 3) rfl w e1 1 [1] 2 _ rfl rfl rfl H1.out rfl (by simp) ?_; intro w2 h2; have H2 := Lib.hid (show Km w w2 e2 2 from h2); clear h2)
    | (refine wpList_ins _ rfl (.tmp 1) _ (.tmp 4) rfl w e2 2 [1, 2] 3 _ rfl rfl rfl H2.out rfl (by simp) ?_; intro w3 h3; have H3 := Lib.hid (show Km w w3 e3 3 from h3); clear h3)
    | (refine wpList_ins _ rfl (.tmp 1) _ (.tmp 5) rfl w e3 3 [1, 2, 3] 4 _ rfl rfl rfl H3.out rfl (by simp) ?_; intro w4 h4; have H4 := Lib.hid (show Km w w4 e4 4 from h4); clear h4))
  go_ret
  exact ⟨rfl, H4.out.m, H4.out.b⟩

/-- What is found. -/
def part : Option (Bool × Bool × Bool) → Value
  | none => pv false false false
  | some (a, b, d) => pv a b d
theorem zero_parts (w : World) : (zeroValue 52).run Try.prog w = .ok (pv false false false) w := by kernel_rfl
theorem look {w : World} {b : Nat} (h : KM w b) (k : Int) : (Instr.lookup 54 (.map (some b)) (.int .i64 k) true).run Try.prog w = .ok (.tuple #[part (pts k), .bool (pts k).isSome]) w := by
  have hf : ∀ r, Instr.findNow (.int .i64) (.int .i64 k) e4.toList 0 = some r → (Instr.lookup 54 (.map (some b)) (.int .i64 k) true).run Try.prog w = (match r with | some (_, v) => .ok (.tuple #[v, .bool true]) w | none => .ok (.tuple #[pv false false false, .bool false]) w) := by
    intro r hr
    cases r with
    | none => simp [Instr.lookup, run_underlying Try.underlying54, MapKept.run_getObj_map h, MapKept.run_checkKey (d := .int .i64) (k := .int .i64 k) Try.underlying3 rfl, MapKept.run_findKey Try.underlying3 hr, Result.andThen, zero_parts]
    | some p => simp [Instr.lookup, run_underlying Try.underlying54, MapKept.run_getObj_map h, MapKept.run_checkKey (d := .int .i64) (k := .int .i64 k) Try.underlying3 rfl, MapKept.run_findKey Try.underlying3 hr, Result.andThen]
  unfold pts
  by_cases h1 : k = 1
  · subst h1; rw [hf _ (by simp [Instr.findNow, Instr.sameNow, ent]; rfl)]; rfl
  by_cases h2 : k = 2
  · subst h2; rw [hf _ (by simp [Instr.findNow, Instr.sameNow, ent]; rfl)]; rfl
  by_cases h3 : k = 3
  · subst h3; rw [hf _ (by simp [Instr.findNow, Instr.sameNow, ent]; rfl)]; rfl
  by_cases h4 : k = 4
  · subst h4; rw [hf _ (by simp [Instr.findNow, Instr.sameNow, ent]; rfl)]; rfl
  · rw [hf _ (find_no k e4.toList [1, 2, 3, 4] 0 rfl (by simp; omega)), if_neg h1, if_neg h2, if_neg h3, if_neg h4]; rfl
end Tm
end Go.Proofs.Ytcnlllamldlnmaa
