/-
  plain and of of the laws. Conditions: those of each theorem.
-/
import Derived.Test.YtinhhphnbbdoeaaFew
namespace Go.Proofs.Ytinhhphnbbdoeaa
open Go.RowKit Ba Tf Cv Qm
namespace Qo
set_option linter.unusedVariables false

/-- A cover of a peril, and a share. -/
abbrev ofC (p s : Int) : Co := ⟨p, 1000, 2000, 0, s⟩
theorem of_ (p s : Int) (w : World) : Calls Try.prog 15 #[.int .i64 p, .int .i64 s] w fun e w' => e = .returned (cg (ofC p s)) ∧ Below w.heap.size w w' := by
  have HX := Lib.hid (Bx.new w 30 (cc (ofC p s)))
  go_enter Try.func15, Try.ntmps15
  go_wp2
  change bodyPost _ _ _ _ _ (w.alloc (.cells (cc (ofC p s)) 30))
  have hb := alloc_ w (.cells (cc (ofC p s)) 30)
  generalize (w.alloc (.cells (cc (ofC p s)) 30)) = W at HX hb ⊢
  refine bodyPost_ret (v := cg (ofC p s)) ?_ rfl ⟨rfl, hb⟩
  have x0 := HX.out.c 0
  have x1 := HX.out.c 1
  have x2 := HX.out.c 2
  have x3 := HX.out.c 3
  have x4 := HX.out.c 4
  simp at x0 x1 x2 x3 x4
  simp [results, Try.results15, go_sem, x0, x1, x2, x3, x4]
/-- The version of plain; as it lies. -/
def plV : Ve := ⟨1, 50, 10000, 0, 1, [], [10000], [10000, 10000, 10000, 10000, 10000, 10000, 10000, 0], 100⟩
def plR (b : Nat) : Rw := ⟨plV, none, 0, 0, some ⟨b + 1, 0, none⟩, 1, 1, some ⟨b + 2, 0, none⟩, 8, 8⟩
/-- What plain gives. -/
def PlainTo (w : World) (e : Ending) (w' : World) : Prop := ∃ r : Rw, e = .returned (vg r) ∧ r.v = plV ∧ Mean w' (· < w'.heap.size) r ∧ Lo r ∧ Below w.heap.size w w'
/-- The three blocks. -/
structure Q0 (w W : World) : Prop where
  b : Below w.heap.size w W
  x : Bx W w.heap.size 26 (vc (plR w.heap.size))
  z : Bx W (w.heap.size + 1) 3 #[.int .i64 10000]
  p : Bx W (w.heap.size + 2) 3 #[.int .i64 10000, .int .i64 10000, .int .i64 10000, .int .i64 10000, .int .i64 10000, .int .i64 10000, .int .i64 10000, .int .i64 0]
theorem Q0.start (w : World) : Q0 w ((((w.alloc (.cells (vc (plR w.heap.size)) 26)).alloc (.cells #[.int .i64 10000] 3)).alloc (.cells #[.int .i64 10000, .int .i64 10000, .int .i64 10000, .int .i64 10000, .int .i64 10000, .int .i64 10000, .int .i64 10000, .int .i64 0] 3))) := by
  refine ⟨((alloc_ _ _).alloc (by simp) _).alloc (by simp; omega) _, ((Bx.new _ _ _).alloc _).alloc _, ?_, ?_⟩
  · have := (Bx.new (w.alloc (.cells (vc (plR w.heap.size)) 26)) 3 #[.int .i64 10000]).alloc (.cells #[.int .i64 10000, .int .i64 10000, .int .i64 10000, .int .i64 10000, .int .i64 10000, .int .i64 10000, .int .i64 10000, .int .i64 0] 3)
    rw [World.size_alloc] at this
    exact this
  · have := Bx.new ((w.alloc (.cells (vc (plR w.heap.size)) 26)).alloc (.cells #[.int .i64 10000] 3)) 3 #[.int .i64 10000, .int .i64 10000, .int .i64 10000, .int .i64 10000, .int .i64 10000, .int .i64 10000, .int .i64 10000, .int .i64 0]
    rw [World.size_alloc, World.size_alloc] at this
    exact this
theorem Q0.mean {w W : World} (h : Q0 w W) : Mean W (· < W.heap.size) (plR w.heap.size) :=
  ⟨Lns.nil, ins_box (xs := [10000]) h.z _ h.z.lt, ins_box (xs := [10000, 10000, 10000, 10000, 10000, 10000, 10000, 0]) h.p _ h.p.lt⟩

set_option maxRecDepth 100000 in
set_option maxHeartbeats 2000000 in
theorem plain_ (w : World) : Calls Try.prog 17 #[] w (PlainTo w) := by
  have HQ := Lib.hid (Q0.start w)
  go_enter Try.func17, Try.ntmps17
  go_wp2
  change bodyPost _ _ _ _ _ ((((w.alloc (.cells (vc (plR w.heap.size)) 26)).alloc (.cells #[.int .i64 10000] 3)).alloc (.cells #[.int .i64 10000, .int .i64 10000, .int .i64 10000, .int .i64 10000, .int .i64 10000, .int .i64 10000, .int .i64 10000, .int .i64 0] 3)))
  obtain ⟨W, hW⟩ : ∃ W, ((((w.alloc (.cells (vc (plR w.heap.size)) 26)).alloc (.cells #[.int .i64 10000] 3)).alloc (.cells #[.int .i64 10000, .int .i64 10000, .int .i64 10000, .int .i64 10000, .int .i64 10000, .int .i64 10000, .int .i64 10000, .int .i64 0] 3))) = W := ⟨_, rfl⟩
  rw [hW] at HQ ⊢
  refine bodyPost_ret (v := vg (plR w.heap.size)) ?_ rfl ⟨plR w.heap.size, rfl, rfl, HQ.out.mean, ⟨by show 0 ≤ _; omega, by show 1 ≤ _; omega, by show 8 ≤ _; omega⟩, HQ.out.b⟩
  have hx := HQ.out.x
  have x0 := hx.c 0
  have x1 := hx.c 1
  have x2 := hx.c 2
  have x3 := hx.c 3
  have x4 := hx.c 4
  have x5 := hx.c 5
  have x6 := hx.c 6
  have x7 := hx.c 7
  have x8 := hx.c 8
  simp at x0 x1 x2 x3 x4 x5 x6 x7 x8
  simp [results, Try.results17, go_sem, x0, x1, x2, x3, x4, x5, x6, x7, x8]
end Qo
end Go.Proofs.Ytinhhphnbbdoeaa
