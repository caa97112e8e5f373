/-
  A region that draws its order: one step for each operation. Conditions: those of each theorem.
-/
import Derived.Orders
import Derived.Deep.RegionHeld
namespace Go.Proofs.YtplenoaajokpjaaGreat
set_option linter.unusedVariables false
section
variable {P : Program} {ops : Array Oper} {Q : Exit → Act → World → Prop} {md : Region.Mode}
def unl (ops : Array Oper) (L : Array Bool) : Nat := ((List.range ops.size).filter fun i => !L.getD i true).length
theorem unl_zero {L : Array Bool} (h : unl ops L = 0) : ∀ i, i < ops.size → L.getD i true = true := by
 intro i hi; have e := List.eq_nil_of_length_eq_zero h; cases hb : L.getD i true
 ·have : i ∈ ((List.range ops.size).filter fun i => !L.getD i true) := List.mem_filter.2 ⟨List.mem_range.2 hi, by rw [hb]; rfl⟩; rw [e] at this; cases this
 ·rfl
theorem count_le {α : Type} (p q : α → Bool) (h : ∀ x, q x = true → p x = true) (l : List α) : (l.filter q).length ≤ (l.filter p).length := by
 induction l with
 | nil => exact Nat.le_refl _
 | cons y ys ih =>
  cases e : q y
  ·rw [List.filter_cons_of_neg (by rw [e]; simp)]; cases e2 : p y
   ·rw [List.filter_cons_of_neg (by rw [e2]; simp)]; exact ih
   ·rw [List.filter_cons_of_pos e2, List.length_cons]; omega
  ·rw [List.filter_cons_of_pos e, List.filter_cons_of_pos (h y e), List.length_cons, List.length_cons]; omega
theorem count_lt {α : Type} (p q : α → Bool) (h : ∀ x, q x = true → p x = true) (x : α) (hp : p x = true) (hq : q x = false) (l : List α) (hx : x ∈ l) : (l.filter q).length < (l.filter p).length := by
 induction l with
 | nil => cases hx
 | cons y ys ih =>
  rcases List.mem_cons.1 hx with rfl | hx
  ·rw [List.filter_cons_of_neg (by rw [hq]; simp), List.filter_cons_of_pos hp, List.length_cons]; have := count_le p q h ys; omega
  ·have := ih hx; cases e : q y
   ·rw [List.filter_cons_of_neg (by rw [e]; simp)]; cases e2 : p y
    ·rw [List.filter_cons_of_neg (by rw [e2]; simp)]; exact this
    ·rw [List.filter_cons_of_pos e2, List.length_cons]; omega
   ·rw [List.filter_cons_of_pos e, List.filter_cons_of_pos (h y e), List.length_cons, List.length_cons]; omega
theorem getD_set (L : Array Bool) (i j : Nat) (d : Bool) (hi : i < L.size) : (L.setIfInBounds i true).getD j d = (if j = i then true else L.getD j d) := by
 simp only [Array.getD_eq_getD_getElem?]; by_cases h : j = i
 ·subst h; rw [Array.getElem?_setIfInBounds_self_of_lt hi]; simp
 ·rw [Array.getElem?_setIfInBounds_ne (fun e => h e.symm), if_neg h]
theorem wpAny_inv (Inv : (Nat → Bool) → Act → World → Prop)
  (hord : ∀ (i : Nat) (o : Oper), ops[i]? = some o → ∀ e ∈ o.after, Region.binds md e = true → e.on < i)
  (step : ∀ (L : Nat → Bool) (a : Act) (w : World) (i : Nat) (o : Oper), ops[i]? = some o → L i = false → (∀ e ∈ o.after, Region.binds md e = true → L e.on = true) → Inv L a w → wpOp P ops Q i (fun a' w' => Inv (fun j => j == i || L j) a' w') a w)
  (done : ∀ (L : Nat → Bool) (a : Act) (w : World), (∀ i, i < ops.size → L i = true) → Inv L a w → Q .normal a w) :
  ∀ (fuel : Nat) (listed : Array Bool) (a : Act) (w : World), listed.size = ops.size → unl ops listed ≤ fuel → Inv (fun i => listed.getD i false) a w → wpAny P md ops Q fuel listed a w := by
 have inb : ∀ (L : Array Bool) (i : Nat), L.size = ops.size → i < ops.size → L.getD i true = L.getD i false := by
  intro L i hL hi; simp only [Array.getD_eq_getD_getElem?]; rw [Array.getElem?_eq_getElem (by omega)]; rfl
 intro fuel
 induction fuel with
 | zero =>
  intro L a w hs hu hI; have hall := unl_zero (Nat.le_zero.1 hu); refine ⟨?_, done _ a w (fun i hi => by rw [← inb L i hs hi]; exact hall i hi) hI⟩; unfold Region.ready; rw [List.filter_eq_nil_iff]; intro i hi; rw [hall i (List.mem_range.1 hi)]; simp
 | succ fuel ih =>
  intro L a w hs hu hI; refine ⟨fun hr => done _ a w ?_ hI, fun i hi => ?_⟩
  ·intro i hi
   have key : ∀ n i, i ≤ n → i < ops.size → L.getD i false = true := by
    intro n
    induction n with
    | zero =>
     intro i hin hi; cases hb : L.getD i false
     ·exfalso
      have hm : i ∈ Region.ready md ops L := by
       refine List.mem_filter.2 ⟨List.mem_range.2 hi, ?_⟩; rw [inb L i hs hi, hb, Array.getElem?_eq_getElem hi]; simp only [Bool.not_false, Bool.true_and, Option.map_some, Option.getD_some]; rw [Array.all_eq_true']; intro e he; cases hbi : Region.binds md e
       ·rfl
       ·have := hord i _ (Array.getElem?_eq_getElem hi) e he hbi; omega
      rw [hr] at hm; cases hm
     ·rfl
    | succ n ihn =>
     intro i hin hi; cases hb : L.getD i false
     ·exfalso
      have hm : i ∈ Region.ready md ops L := by
       refine List.mem_filter.2 ⟨List.mem_range.2 hi, ?_⟩; rw [inb L i hs hi, hb, Array.getElem?_eq_getElem hi]; simp only [Bool.not_false, Bool.true_and, Option.map_some, Option.getD_some]; rw [Array.all_eq_true']; intro e he; cases hbi : Region.binds md e
       ·rfl
       ·have := hord i _ (Array.getElem?_eq_getElem hi) e he hbi; rw [ihn e.on (by omega) (by omega)]; rfl
      rw [hr] at hm; cases hm
     ·rfl
   exact key i i (Nat.le_refl _) hi
  ·obtain ⟨hjun, o, ho, hall⟩ := mem_ready.1 hi; have hlt : i < ops.size := (Array.getElem?_eq_some_iff.1 ho).1; refine wpOp_mono (fun a' w' h' => ih _ a' w' (by simpa using hs) ?_ ?_) (step _ a w i o ho (by rw [← inb L i hs hlt]; exact hjun) (fun e he hb => hall e he hb) hI)
   ·have := count_lt (fun j => !L.getD j true) (fun j => !(L.setIfInBounds i true).getD j true) (fun j hj => by
     rw [getD_set L i j true (by omega)] at hj; by_cases e : j = i
     ·rw [if_pos e] at hj; simp at hj
     ·rw [if_neg e] at hj; exact hj) i (by rw [hjun]; rfl) (by rw [getD_set L i i true (by omega), if_pos rfl]; rfl) (List.range ops.size) (List.mem_range.2 hlt)
    unfold unl at hu ⊢; omega
   ·have : (fun j => (L.setIfInBounds i true).getD j false) = (fun j => j == i || L.getD j false) := by
     funext j
     rw [getD_set L i j false (by omega)]; by_cases e : j = i <;> simp [e]
    rw [this]; exact h'
theorem wp_region_inv {id : Nat} {a : Act} {w : World} (hm : P.follows .mixedOrders = true) (Inv : (Nat → Bool) → Act → World → Prop)
  (hord : ∀ (i : Nat) (o : Oper), ops[i]? = some o → ∀ e ∈ o.after, Region.binds .any e = true → e.on < i)
  (start : Inv (fun _ => false) a { w with drawn := w.drawn + 1 })
  (step : ∀ (L : Nat → Bool) (a : Act) (w : World) (i : Nat) (o : Oper), ops[i]? = some o → L i = false → (∀ e ∈ o.after, Region.binds .any e = true → L e.on = true) → Inv L a w → wpOp P ops Q i (fun a' w' => Inv (fun j => j == i || L j) a' w') a w)
  (done : ∀ (L : Nat → Bool) (a : Act) (w : World), (∀ i, i < ops.size → L i = true) → Inv L a w → Q .normal a w) : (Code.region id ops true).wp P Q a w := by
 refine wp_region_any hm (wpAny_inv Inv hord step done ops.size _ a _ (by simp) ?_ ?_)
 ·unfold unl; exact Nat.le_trans (List.length_filter_le _ _) (by simp)
 ·have : (fun i => (Array.replicate ops.size false).getD i false) = (fun _ => false) := by
   funext i
   simp only [Array.getD_eq_getD_getElem?, Array.getElem?_replicate]; split <;> rfl
  rw [this]; exact start
def StepAt (P : Program) (ops : Array Oper) (Q : Exit → Act → World → Prop) (Inv : (Nat → Bool) → Act → World → Prop) (i : Nat) (o : Oper) : Prop :=
 ∀ (L : Nat → Bool) (a : Act) (w : World), L i = false → (∀ e ∈ o.after, Region.binds .any e = true → L e.on = true) → Inv L a w →
  ∀ K' : Act → World → Prop, Shut (∀ a' w', Inv (fun j => j == i || L j) a' w' → K' a' w') → if Region.wanted o (yielded ops a.tmps) = true then Oper.wp P o a w K' Q else K' (a.put o.dst undef) w
def AllSteps (P : Program) (ops : Array Oper) (Q : Exit → Act → World → Prop) (Inv : (Nat → Bool) → Act → World → Prop) (i : Nat) : List Oper → Prop
 | [] => True
 | o :: os => StepAt P ops Q Inv i o ∧ AllSteps P ops Q Inv (i + 1) os
theorem AllSteps.cons {Inv : (Nat → Bool) → Act → World → Prop} {i : Nat} {o : Oper} {os : List Oper} (h : StepAt P ops Q Inv i o) (hs : AllSteps P ops Q Inv (i + 1) os) : AllSteps P ops Q Inv i (o :: os) := ⟨h, hs⟩
theorem AllSteps.nil {Inv : (Nat → Bool) → Act → World → Prop} {i : Nat} : AllSteps P ops Q Inv i [] := trivial
theorem AllSteps.at {Inv : (Nat → Bool) → Act → World → Prop} {i : Nat} {os : List Oper} (h : AllSteps P ops Q Inv i os) : ∀ (j : Nat) (o : Oper), os[j]? = some o → StepAt P ops Q Inv (i + j) o := by
 induction os generalizing i with
 | nil => intro j o hj; simp at hj
 | cons x xs ih =>
  intro j o hj; cases j with
  | zero => simp at hj; subst hj; exact h.1
  | succ j =>
   have := ih h.2 j o (by simpa using hj); rwa [show i + 1 + j = i + (j + 1) by omega] at this
def ordB (ops : List Oper) : Bool := (List.range ops.length).all fun i => match ops[i]? with
 | some o => o.after.all fun e => !Region.binds .any e || decide (e.on < i)
 | none => true
theorem wp_region_steps {id : Nat} {a : Act} {w : World} {l : List Oper} (Inv : (Nat → Bool) → Act → World → Prop) (hm : P.follows .mixedOrders = true) (hord : ordB l = true)
  (start : Inv (fun _ => false) a { w with drawn := w.drawn + 1 })
  (steps : AllSteps P l.toArray Q Inv 0 l)
  (done : ∀ (L : Nat → Bool) (a : Act) (w : World), (∀ i, i < l.length → L i = true) → Inv L a w → Q .normal a w) : (Code.region id l.toArray true).wp P Q a w := by
 refine wp_region_inv hm Inv ?_ start ?_ (fun L a w h => done L a w (fun i hi => h i (by simpa using hi)))
 ·intro i o ho e he hbi; have hi : i < l.length := by have := (Array.getElem?_eq_some_iff.1 ho).1; simpa using this
  unfold ordB at hord; rw [List.all_eq_true] at hord; have h1 := hord i (List.mem_range.2 hi); rw [show l[i]? = some o by simpa using ho] at h1; simp only [Array.all_eq_true'] at h1; have h2 := h1 e he; rw [hbi] at h2; simpa using h2
 ·intro L a w i o ho hL hd hI; have := steps.at i o (by simpa using ho); rw [Nat.zero_add] at this; exact wpOp_step ho fun K' hK => this L a w hL hd hI K' hK
end
end Go.Proofs.YtplenoaajokpjaaGreat
