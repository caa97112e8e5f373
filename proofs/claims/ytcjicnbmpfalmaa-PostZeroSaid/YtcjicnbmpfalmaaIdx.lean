/-
  An element of an array of ten ints by value. Conditions: the index is within.
-/
import Derived.Test.YtcjicnbmpfalmaaTri
namespace Go.Proofs.Ytcjicnbmpfalmaa
open Go.RowKit Bk
namespace Pst
set_option linter.unusedVariables false

theorem idx10 (g : Nat → Int) (k : Nat) (hk : k < 10) (w : World) : (Instr.index 36 (.agg (ar g)) (.int .i64 (k : Int))).run Try.prog w = .ok (.int .i64 (g k)) w := by
  have h := Try.underlying36
  have he := Try.underlying3
  obtain ⟨i, hi, hz, h1, h2⟩ := info_parts (show (Try.prog.info? 3).map (fun i => (i.zero, i.size, i.bytes)) = some (some (.int .i64 0), 1, 8) by kernel_rfl)
  have hp : (part 3 (ar g) k).run Try.prog w = .ok (.int .i64 (g k)) w := by
    have : k = 0 ∨ k = 1 ∨ k = 2 ∨ k = 3 ∨ k = 4 ∨ k = 5 ∨ k = 6 ∨ k = 7 ∨ k = 8 ∨ k = 9 := by omega
    rcases this with rfl | rfl | rfl | rfl | rfl | rfl | rfl | rfl | rfl | rfl <;> simp [part, isAgg, run_underlying he, ar]
  simp [Instr.index, run_underlying h, asIntOf, sizeOf, typeInfo, hi, h1, hp]
  intro h10
  omega

end Pst
end Go.Proofs.Ytcjicnbmpfalmaa
