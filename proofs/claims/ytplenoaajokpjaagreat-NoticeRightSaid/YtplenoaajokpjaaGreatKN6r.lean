/-
  Right tells what the document does. Conditions: the program tells what the laws ask.
-/
import Derived.Test.YtplenoaajokpjaaGreatMNd
import Derived.Test.YtplenoaajokpjaaGreatMNb
namespace Go.Proofs.YtplenoaajokpjaaGreat
open Go.RowKit Ba Cv Sp Te Ag Tf Sl Tm Slc
namespace Ntc
set_option linter.unusedVariables false
set_option maxRecDepth 100000 in
set_option maxHeartbeats 4000000 in
theorem walk_NoticeRight (Q : Hid Asks) {w : World} (c : Cm) : Calls Tryz.prog 3 #[mg c] w (Yes w true) := by
 obtain ⟨W, hW⟩ : ∃ W, w.alloc (.cells (mc c) 23) = W := ⟨_, rfl⟩; have HX := Lib.hid (show Bx W w.heap.size 23 (mc c) from hW ▸ Bx.new w _ _); have HB := Lib.hid (show Below w.heap.size w W from hW ▸ alloc_ _ _); have HW := Lib.hid hW; have C0 := fun p : Ext W => Lib.hid (alive17 Q p.W)
 have C1 := fun p : Ext W => Lib.hid (Q.out.ri c p.W)
 have C2 := fun p : Ext W => Lib.hid (rright c p.W)
 generalize rcm c = u at C1 C2; clear hW; go_enter Tryz.func3, Tryz.ntmps3
 go_upto_region 1 with fail
 rw [HW.out]; clear HW; have x0 : ∀ p : Ext W, p.W.cell? ⟨w.heap.size, 0, none⟩ = some (.int .i64 c.id) := fun p => HX.out.ext p 0
 have x1 : ∀ p : Ext W, p.W.cell? ⟨w.heap.size, 1, none⟩ = some (.int .i64 c.po) := fun p => HX.out.ext p 1
 have x2 : ∀ p : Ext W, p.W.cell? ⟨w.heap.size, 2, none⟩ = some (.int .i64 c.pe) := fun p => HX.out.ext p 2
 have x3 : ∀ p : Ext W, p.W.cell? ⟨w.heap.size, 3, none⟩ = some (.int .i64 c.lo) := fun p => HX.out.ext p 3
 have x4 : ∀ p : Ext W, p.W.cell? ⟨w.heap.size, 4, none⟩ = some (.int .i64 c.bk) := fun p => HX.out.ext p 4
 have x5 : ∀ p : Ext W, p.W.cell? ⟨w.heap.size, 5, none⟩ = some (.int .i64 c.ev) := fun p => HX.out.ext p 5
 have ne : Nonempty (Ext W) := ⟨⟨W, Below.refl _ _⟩⟩; refine quietE (by kernel_rfl) (by kernel_rfl) ?_
 repeat (first | go_big_quiet_skip | quiet_step (first
  | (go_at_call 9; with_reducible exact ext_of (C0 _).out)
  | (go_at_call 10; with_reducible exact ext_of (C1 _).out)
  | (go_at_call 11; with_reducible exact ext_of (C2 _).out)
  | fail))
 refine wpQuiet_nil ?_; rintro _ ⟨p, rfl⟩; have HB2 := Lib.hid (HB.out.trans (p.b.mono HB.out.size)); generalize p.W = w2 at HB2 ⊢; clear C0 C1 C2 ne HX HB x0 x1 x2 x3 x4 x5; go_wp2; go_ret; exact ⟨rfl, HB2.out⟩
end Ntc
end Go.Proofs.YtplenoaajokpjaaGreat
