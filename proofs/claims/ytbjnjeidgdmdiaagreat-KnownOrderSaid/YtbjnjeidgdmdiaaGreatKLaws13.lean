/-
  Common steps of the laws. Conditions: those of each theorem.
-/
import Derived.Test.YtbjnjeidgdmdiaaGreatMKc
namespace Go.Proofs.YtbjnjeidgdmdiaaGreat
open Go.RowKit Ba Cv Sp Te Ag Tf Sl Tm
namespace Slc
set_option linter.unusedVariables false
theorem ints_list (l : List Value) (h : ∀ v ∈ l, ∃ x : Int, v = .int .i64 x ∧ -9223372036854775808 ≤ x ∧ x ≤ 9223372036854775807) :
  ∃ xs : List Int, l = xs.map (Value.int .i64) ∧ ∀ x ∈ xs, -9223372036854775808 ≤ x ∧ x ≤ 9223372036854775807 := by
 induction l with
 | nil => exact ⟨[], rfl, fun x hx => by cases hx⟩
 | cons v l ih =>
  obtain ⟨x, rfl, hx⟩ := h v (by simp); obtain ⟨xs, rfl, hxs⟩ := ih fun u hu => h u (by simp [hu])
  refine ⟨x :: xs, rfl, fun y hy => ?_⟩; rcases List.mem_cons.1 hy with rfl | hy
  ·exact hx
  ·exact hxs y hy
set_option maxRecDepth 100000 in
theorem open_arr3 {H : Type} {enc : TypeId × Value → H} {W : World} {base : Nat} {sp : Nat → Bool} {v : Value} {d : DataW H} {p : List MemPlace}
  (hv : Value.okWide Tryz.prog W .any base 56 v) (h : DataW.Trod enc Tryz.prog W 0 sp true 56 v d p) (_hw : ∀ k ∈ d.weights Tryz.prog 56, k ≤ reachBytes) :
  ∃ z0 z1 z2 : Int, v = .agg #[.int .i64 z0, .int .i64 z1, .int .i64 z2] ∧ (-9223372036854775808 ≤ z0 ∧ z0 ≤ 9223372036854775807) ∧ (-9223372036854775808 ≤ z1 ∧ z1 ≤ 9223372036854775807) ∧ (-9223372036854775808 ≤ z2 ∧ z2 ≤ 9223372036854775807) := by
 obtain ⟨cs, rfl, hsz, _⟩ : ∃ cs, v = .agg cs ∧ cs.size = Tryz.prog.cellsOf 56 ∧ Row.okWide Tryz.prog W .any base 56 cs := by
  simpa [Value.okWide, Tryz.underlying56] using hv
 have hn : Tryz.prog.cellsOf 56 = 3 := by kernel_rfl
 have h1 : Tryz.prog.cellsOf 3 = 1 := by kernel_rfl
 obtain ⟨l⟩ := cs; obtain ⟨fuel, hf⟩ := h; obtain ⟨ys, m, _, _, hl, hyl, hg⟩ := DataW.trod_array Tryz.underlying56 hf; simp only [Value.cells] at hl hg; have hln : l.length = 3 := by rw [← hn]; simpa using hsz
 have each : ∀ v ∈ l, ∃ x : Int, v = .int .i64 x ∧ -9223372036854775808 ≤ x ∧ x ≤ 9223372036854775807 := by
  intro v hv; obtain ⟨i, hi, rfl⟩ := List.getElem_of_mem hv; have hgi := hg i (by omega); rw [List.getElem?_eq_getElem (by omega : i < ys.length), h1, Nat.mul_one] at hgi; have e1 : (l.drop i).take 1 = [l[i]] := by rw [List.drop_eq_getElem_cons hi]; rfl
  rw [e1] at hgi; obtain ⟨x, e0, _, wx⟩ := DataW.trod_int Tryz.underlying3 hgi; simp at e0; exact ⟨x, e0, i64_of wx⟩
 obtain ⟨xs, e, hb⟩ := ints_list l each; subst e; have hx : xs.length = 3 := by simpa using hln
 match xs, hx with
 | [a, b, c], _ => exact ⟨a, b, c, rfl, hb a (by simp), hb b (by simp), hb c (by simp)⟩
set_option maxRecDepth 100000 in
theorem open_arr2 {H : Type} {enc : TypeId × Value → H} {W : World} {base : Nat} {sp : Nat → Bool} {v : Value} {d : DataW H} {p : List MemPlace}
  (hv : Value.okWide Tryz.prog W .any base 43 v) (h : DataW.Trod enc Tryz.prog W 0 sp true 43 v d p) (_hw : ∀ k ∈ d.weights Tryz.prog 43, k ≤ reachBytes) :
  ∃ z0 z1 : Int, v = .agg #[.int .i64 z0, .int .i64 z1] ∧ (-9223372036854775808 ≤ z0 ∧ z0 ≤ 9223372036854775807) ∧ (-9223372036854775808 ≤ z1 ∧ z1 ≤ 9223372036854775807) := by
 obtain ⟨cs, rfl, hsz, _⟩ : ∃ cs, v = .agg cs ∧ cs.size = Tryz.prog.cellsOf 43 ∧ Row.okWide Tryz.prog W .any base 43 cs := by
  simpa [Value.okWide, Tryz.underlying43] using hv
 have hn : Tryz.prog.cellsOf 43 = 2 := by kernel_rfl
 have h1 : Tryz.prog.cellsOf 3 = 1 := by kernel_rfl
 obtain ⟨l⟩ := cs; obtain ⟨fuel, hf⟩ := h; obtain ⟨ys, m, _, _, hl, hyl, hg⟩ := DataW.trod_array Tryz.underlying43 hf; simp only [Value.cells] at hl hg; have hln : l.length = 2 := by rw [← hn]; simpa using hsz
 have each : ∀ v ∈ l, ∃ x : Int, v = .int .i64 x ∧ -9223372036854775808 ≤ x ∧ x ≤ 9223372036854775807 := by
  intro v hv; obtain ⟨i, hi, rfl⟩ := List.getElem_of_mem hv; have hgi := hg i (by omega); rw [List.getElem?_eq_getElem (by omega : i < ys.length), h1, Nat.mul_one] at hgi; have e1 : (l.drop i).take 1 = [l[i]] := by rw [List.drop_eq_getElem_cons hi]; rfl
  rw [e1] at hgi; obtain ⟨x, e0, _, wx⟩ := DataW.trod_int Tryz.underlying3 hgi; simp at e0; exact ⟨x, e0, i64_of wx⟩
 obtain ⟨xs, e, hb⟩ := ints_list l each; subst e; have hx : xs.length = 2 := by simpa using hln
 match xs, hx with
 | [a, b], _ => exact ⟨a, b, rfl, hb a (by simp), hb b (by simp)⟩
structure O3 (w W : World) (h : Hr) (T : Option Addr) (n c : Nat) (t : TypeId) (xs : Array Value) : Prop where
 o : O2 w W h T n c
 z : Bx W (w.heap.size + 1 + 1) t xs
theorem O3.next {w W W' : World} {h : Hr} {T : Option Addr} {n c : Nat} {t : TypeId} {xs : Array Value} (H : O3 w W h T n c t xs) (hb : Below W.heap.size W W') : O3 w W' h T n c t xs := ⟨H.o.next hb, H.z.keep hb⟩
theorem O3.start (w : World) (h : Hr) (T : Option Addr) (n c : Nat) (t : TypeId) (xs : Array Value) : O3 w (((w.alloc (.cells (hc h) 31)).alloc (.cells #[.slice T n c] 34)).alloc (.cells xs t)) h T n c t xs := by
 refine ⟨(O2.start w h T n c).next (alloc_ _ _), ?_⟩; have := Bx.new ((w.alloc (.cells (hc h) 31)).alloc (.cells #[.slice T n c] 34)) t xs; simp only [World.size_alloc] at this; exact this
end Slc
end Go.Proofs.YtbjnjeidgdmdiaaGreat
