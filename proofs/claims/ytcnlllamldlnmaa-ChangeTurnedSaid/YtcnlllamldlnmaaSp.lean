/-
  Spans of days as pairs of numbers: which are right, how many days. No model's run in this text. Conditions: those of each theorem.
-/
namespace Go.Proofs.Ytcnlllamldlnmaa.Sp
set_option linter.unusedVariables false

abbrev Sp := Int × Int

def rt (x : Sp) : Bool := decide (1 ≤ x.1) && decide (x.1 ≤ x.2) && decide (x.2 ≤ 292195)
def mn (x : Sp) : Int := if rt x = true then x.2 - x.1 else 0
def inn (x : Sp) (d : Int) : Bool := rt x && decide (x.1 ≤ d) && decide (d < x.2)
def has (x : Sp) : Bool := decide (0 < mn x)
def bt (a b : Sp) : Sp := (max a.1 b.1, min a.2 b.2)
def ct (a b : Sp) : Sp := if rt a = true ∧ rt b = true ∧ has (bt a b) = true then bt a b else (0, 0)
def kp (xs : List Sp) : List Sp := xs.filter has
def ls (a b : Sp) : List Sp := if ct a b = (0, 0) then kp [a] else kp [(a.1, (ct a b).1), ((ct a b).2, a.2)]

theorem rt_iff (x : Sp) : rt x = true ↔ 1 ≤ x.1 ∧ x.1 ≤ x.2 ∧ x.2 ≤ 292195 := by simp [rt, and_assoc]
theorem rt_not (x : Sp) : rt x = false ↔ ¬ (1 ≤ x.1 ∧ x.1 ≤ x.2 ∧ x.2 ≤ 292195) := by rw [← rt_iff]; cases rt x <;> simp
theorem has_iff (x : Sp) : has x = true ↔ 1 ≤ x.1 ∧ x.1 < x.2 ∧ x.2 ≤ 292195 := by
  have e : has x = true ↔ 0 < mn x := by simp [has]
  rw [e]
  by_cases h : rt x = true
  · rw [mn, if_pos h]; rw [rt_iff] at h; refine ⟨fun _ => ?_, fun _ => ?_⟩ <;> omega
  · rw [mn, if_neg h]; rw [rt_iff] at h; refine ⟨fun _ => ?_, fun _ => ?_⟩ <;> omega
theorem has_not (x : Sp) : has x = false ↔ ¬ (1 ≤ x.1 ∧ x.1 < x.2 ∧ x.2 ≤ 292195) := by rw [← has_iff]; cases has x <;> simp
theorem has_rt {x : Sp} (h : has x = true) : rt x = true := by rw [has_iff] at h; rw [rt_iff]; omega
theorem inn_iff (x : Sp) (d : Int) : inn x d = true ↔ 1 ≤ x.1 ∧ x.2 ≤ 292195 ∧ x.1 ≤ d ∧ d < x.2 := by
  simp only [inn, Bool.and_eq_true, rt_iff, decide_eq_true_eq]; omega
theorem inn_has {x : Sp} {d : Int} (h : inn x d = true) : has x = true := by rw [inn_iff] at h; rw [has_iff]; omega
theorem mn_has {x : Sp} (h : has x = true) : mn x = x.2 - x.1 := by rw [mn, if_pos (has_rt h)]
theorem mn_no {x : Sp} (h : has x = false) : mn x = 0 := by
  rw [has_not] at h; unfold mn; split
  · rename_i hr; rw [rt_iff] at hr; omega
  · rfl
theorem mn_bd (x : Sp) : 0 ≤ mn x ∧ mn x ≤ 292194 := by
  unfold mn; split
  · rename_i hr; rw [rt_iff] at hr; omega
  · omega

end Go.Proofs.Ytcnlllamldlnmaa.Sp
