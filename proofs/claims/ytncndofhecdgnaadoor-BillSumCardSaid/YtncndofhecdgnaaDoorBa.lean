/-
  The chapter's example. Conditions: the program does as the laws ask, the table of months reads as laid.
-/
import Derived.Test.YtncndofhecdgnaaDoorBp
import Derived.Test.YtncndofhecdgnaaDoorRefShift
namespace Go.Proofs.YtncndofhecdgnaaDoor
open Go.RowKit Cal
namespace Bil
set_option linter.unusedVariables false

def exl : List Bi := [⟨1, 25, 0⟩, ⟨91, 25, 0⟩, ⟨182, 25, 0⟩, ⟨274, 25, 0⟩]
def exm : List Bi := [⟨1, 25, 25⟩, ⟨91, 25, 25⟩, ⟨182, 25, 10⟩, ⟨274, 25, 0⟩]
theorem ymd1 : Ymd 1 1601 1 1 := ⟨by decide, by decide, by decide, by decide, by decide, by decide, by decide⟩
theorem ex_sh (k v : Int) (h1 : shV 1601 1 1 k = v) (h2 : shE 1601 1 1 k = 0) : ShIs 1 k v 0 := .inr ⟨1601, 1, 1, ymd1, h1.symm, h2.symm⟩
theorem plan_ex : PlIs 100 (1, 366) 4 exl 0 := by
  refine .ok (by decide) (fun i => if i = 0 then 1 else if i = 1 then 91 else if i = 2 then 182 else 274) (fun i hi => ?_) rfl rfl
  have hi : i = 0 ∨ i = 1 ∨ i = 2 ∨ i = 3 := by omega
  rcases hi with rfl | rfl | rfl | rfl
  · exact ex_sh 0 1 (by decide) (by decide)
  · exact ex_sh 3 91 (by decide) (by decide)
  · exact ex_sh 6 182 (by decide) (by decide)
  · exact ex_sh 9 274 (by decide) (by decide)
theorem pay_ex : pay exl 60 = (exm, 0) := rfl
theorem open_ex : opn exm 182 = 15 := rfl
theorem right_ex : rt exm = true := rfl
theorem raws_blk {w : World} {g : Nat} {l : List Bi} {xs : Array Value} (h : w.heap[g]? = some (.cells xs 42 (0, 0))) (e : xs.toList = cel l) : Raws w (· = g) (some ⟨g, 0, none⟩) l.length l := by
  refine ⟨rfl, fun hn => ⟨_, rfl, rfl, fun j b hb => thr_of fun o u hu => ?_⟩⟩
  have ho : o < 3 := (List.getElem?_eq_some_iff.1 hu).1
  rw [Addr.add_lit, cell_of_row w g _ _ _ _ h, ← Array.getElem?_toList, e, Nat.zero_add, cel_get hb ho]
  exact hu
set_option maxRecDepth 100000 in
set_option maxHeartbeats 4000000 in
theorem awake_ (Q : Hid Asks) (w : World) (hT : Day.Tab w) : Calls Tryd.prog 11 #[] w (Yes w true) := by
  have C := Lib.hid (Q.out.pl 100 (1, 366) 4 w hT (by unfold In; omega) (by unfold In; simp) (by unfold In; simp) (by unfold In; omega))
  clear hT
  go_enter Tryd.func11, Tryd.ntmps11
  go_wp2_with fail
  refine C.out.mono ?_
  rintro e w1 ⟨l, v, k, rfl, hp, A, c, hv, hR, hb⟩
  obtain ⟨rfl, rfl⟩ := hp.one plan_ex
  obtain rfl : v = .slice A 4 c := hv
  have HB1 := Lib.hid hb
  have C := Lib.hid (Q.out.pa A 4 c exl 60 w1 hR (by omega) (by unfold In; omega))
  unfold PaTc at C
  rw [pay_ex] at C
  clear hR hb hp
  go_wp2_with fail
  refine C.out.mono ?_
  rintro e w2 ⟨v, rfl, A2, c2, hv, hcap, hR, hb⟩
  have HCAP := Lib.hid (show 4 ≤ c2 from hcap)
  obtain rfl : v = .slice A2 4 c2 := hv
  have HB2 := Lib.hid (HB1.out.trans (hb.mono HB1.out.size))
  have HR2 := Lib.hid (show Raws w2 (· < w2.heap.size) A2 4 exm from hR)
  clear hR hb C hcap
  obtain ⟨W3, hW3⟩ : ∃ W3, w2.alloc (.cells #[.int .i64 1, .int .i64 25, .int .i64 25, .int .i64 91, .int .i64 25, .int .i64 25, .int .i64 182, .int .i64 25, .int .i64 10, .int .i64 274, .int .i64 25, .int .i64 0] 42) = W3 := ⟨_, rfl⟩
  have hb3 : Below w2.heap.size w2 W3 := hW3 ▸ alloc_ _ _
  have HB3 := Lib.hid (HB2.out.trans (hb3.mono HB2.out.size))
  have HR3 := Lib.hid (HR2.out.below hb3)
  have C := Lib.hid (rsame A2 (some ⟨w2.heap.size, 0, none⟩) 4 c2 4 4 exm W3 HR3.out ((raws_blk (l := exm) (hW3 ▸ heap_alloc_new w2 _) rfl).keep (fun _ _ => rfl) fun k hk => by rw [hk, ← hW3, World.size_alloc]; exact Nat.lt_succ_self _) (by omega))
  have HW3 := Lib.hid hW3
  clear hb3 hW3 HR2
  go_wp2_with fail
  rw [HW3.out]
  refine C.out.mono ?_
  rintro e w4 ⟨rfl, hb⟩
  have HB4 := Lib.hid (HB3.out.trans (hb.mono HB3.out.size))
  have HR4 := Lib.hid (HR3.out.below hb)
  have C := Lib.hid (Q.out.op A2 4 c2 exm 182 w4 HR4.out (by omega) HCAP.out (by unfold In; omega))
  rw [open_ex] at C
  clear hb HR3 HW3
  go_wp2_with fail
  refine C.out.mono ?_
  rintro e w5 ⟨rfl, hb⟩
  have HB5 := Lib.hid (HB4.out.trans (hb.mono HB4.out.size))
  have HR5 := Lib.hid (HR4.out.below hb)
  have C := Lib.hid (Q.out.ri A2 4 c2 exm w5 HR5.out (by omega))
  rw [right_ex] at C
  clear hb HR4
  go_wp2_with fail
  refine C.out.mono ?_
  rintro e w6 ⟨rfl, hb⟩
  have HB6 := Lib.hid (HB5.out.trans (hb.mono HB5.out.size))
  clear hb
  go_wp2
  go_ret
  exact ⟨rfl, HB6.out⟩

end Bil
end Go.Proofs.YtncndofhecdgnaaDoor
