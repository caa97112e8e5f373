/-
  Changes and histories: plain mathematics. Conditions: those of each theorem.
-/
import Derived.Test.YtjmbccdcnmmhgaaMa
import Derived.Test.YtjmbccdcnmmhgaaSt
namespace Go.Proofs.Ytjmbccdcnmmhgaa
open Ba Cv Sp Te
namespace Ag
set_option linter.unusedVariables false

/-- A change: booked, its day, its kind, a risk, covers, a way. -/
structure Ch where
  bk : Int
  dy : Int
  kd : Int
  r : Ri
  cs : List Co
  wy : Int
/-- A history: its number, booked, its terms' span, risk and covers, its changes. -/
structure Hi where
  id : Int
  bk : Int
  s : Sp
  r : Ri
  cs : List Co
  hs : List Ch
def zri : Ri := ⟨0, 0, 0, 0⟩
def zch : Ch := ⟨0, 0, 0, zri, [], 0⟩
def zhi : Hi := ⟨0, 0, (0, 0), zri, [], []⟩

def day (n : Int) : Bool := wi n 1 292194
/-- A risk that is zero. -/
def bare (r : Ri) : Bool := (r.k == 0 && r.v == 0) && (r.a == 0 && r.z == 0)
def rfit (r : Ri) (b : Bool) : Bool := if b = true then rk r.k r.v r.a r.z else bare r
def cfit (cs : List Co) (b : Bool) : Bool := if b = true then cvr cs else cs.length == 0
def wfit (w : Int) (b : Bool) : Bool := if b = true then (w == 0 || w == 1) else w == 0
/-- What a kind has. -/
def pts (k : Int) : Option (Bool × Bool × Bool) := if k = 1 then some (true, false, false) else if k = 2 then some (false, true, false) else if k = 3 then some (false, false, true) else if k = 4 then some (false, false, false) else none
def fits (c : Ch) : Option (Bool × Bool × Bool) → Bool
  | none => false
  | some (a, b, d) => rfit c.r a && (cfit c.cs b && wfit c.wy d)
/-- A change may be. -/
def rch (c : Ch) : Bool := day c.bk && (day c.dy && fits c (pts c.kd))
/-- When a history was last written to. -/
def last (b : Int) (hs : List Ch) : Int := match hs.getLast? with
  | none => b
  | some c => c.bk
/-- Why a change may not be put, or 0. -/
def code (s : Sp) (b : Int) (hs : List Ch) (c : Ch) : Int := if (rch c && inn s c.dy) = true then (if c.bk < last b hs then 4 else if 2000 ≤ hs.length then 2 else 0) else 1
/-- A policy may be bound so. -/
def bnd (id bk : Int) (s : Sp) (r : Ri) (cs : List Co) : Bool := wi id 1 1000000000 && (day bk && te s r cs)
/-- Changes may be put one behind the other. -/
def steps (s : Sp) : Int → List Ch → Bool
  | _, [] => true
  | b, c :: l => (rch c && inn s c.dy) && (decide (b ≤ c.bk) && steps s c.bk l)
/-- A history may be. -/
def hst (h : Hi) : Bool := bnd h.id h.bk h.s h.r h.cs && steps h.s h.bk h.hs

theorem day_iff {n : Int} : day n = true ↔ 1 ≤ n ∧ n ≤ 292194 := wi_iff
theorem last_nil (b : Int) : last b [] = b := rfl
theorem last_snoc (b : Int) (hs : List Ch) (c : Ch) : last b (hs ++ [c]) = c.bk := by simp [last]
theorem last_take {b : Int} {hs : List Ch} {k : Nat} {c : Ch} (h : hs[k]? = some c) : last b (hs.take (k + 1)) = c.bk := by rw [take_get h, last_snoc]
theorem last_get {b : Int} {hs : List Ch} {k : Nat} {c : Ch} (h : hs[k]? = some c) (hl : hs.length = k + 1) : last b hs = c.bk := by
  rw [← last_take (b := b) h, ← hl, List.take_length]
theorem code_arg {s : Sp} {b : Int} {hs : List Ch} {c : Ch} (h : (rch c && inn s c.dy) = false) : code s b hs c = 1 := by unfold code; rw [if_neg (by rw [h]; decide)]
theorem code_order {s : Sp} {b : Int} {hs : List Ch} {c : Ch} (h : (rch c && inn s c.dy) = true) (h1 : c.bk < last b hs) : code s b hs c = 4 := by unfold code; rw [if_pos h, if_pos h1]
theorem code_bound {s : Sp} {b : Int} {hs : List Ch} {c : Ch} (h : (rch c && inn s c.dy) = true) (h1 : ¬ c.bk < last b hs) (h2 : 2000 ≤ hs.length) : code s b hs c = 2 := by unfold code; rw [if_pos h, if_neg h1, if_pos h2]
theorem code_ok {s : Sp} {b : Int} {hs : List Ch} {c : Ch} (h : (rch c && inn s c.dy) = true) (h1 : ¬ c.bk < last b hs) (h2 : ¬ 2000 ≤ hs.length) : code s b hs c = 0 := by unfold code; rw [if_pos h, if_neg h1, if_neg h2]
theorem code_zero {s : Sp} {b : Int} {hs : List Ch} {c : Ch} : code s b hs c = 0 ↔ (rch c && inn s c.dy) = true ∧ last b hs ≤ c.bk ∧ hs.length < 2000 := by
  unfold code
  by_cases h : (rch c && inn s c.dy) = true
  · rw [if_pos h]
    by_cases h1 : c.bk < last b hs
    · rw [if_pos h1]; constructor
      · intro h; omega
      · rintro ⟨_, h, _⟩; omega
    · rw [if_neg h1]
      by_cases h2 : 2000 ≤ hs.length
      · rw [if_pos h2]; constructor
        · intro h; omega
        · rintro ⟨_, _, h⟩; omega
      · rw [if_neg h2]; exact ⟨fun _ => ⟨h, by omega, by omega⟩, fun _ => rfl⟩
  · rw [if_neg h]
    constructor
    · intro h; omega
    · rintro ⟨h', _⟩; exact absurd h' h
theorem code_in (s : Sp) (b : Int) (hs : List Ch) (c : Ch) : 0 ≤ code s b hs c ∧ code s b hs c ≤ 4 := by
  unfold code
  split
  · split
    · omega
    · split <;> omega
  · omega
/-- The next change of a history. -/
theorem steps_get {s : Sp} {b : Int} {hs : List Ch} {k : Nat} {c : Ch} (h : hs[k]? = some c) : steps s b (hs.drop k) = ((rch c && inn s c.dy) && (decide (b ≤ c.bk) && steps s c.bk (hs.drop (k + 1)))) := by rw [drop_get h, steps]
theorem steps_end {s : Sp} {b : Int} {hs : List Ch} {k : Nat} (h : hs.length ≤ k) : steps s b (hs.drop k) = true := by rw [List.drop_of_length_le h, steps]
/-- In the words of refusal: of the beginning. -/
theorem steps_code {s : Sp} {b : Int} {hs : List Ch} {k : Nat} {c : Ch} (h : hs[k]? = some c) (hk : k < 2000) : steps s (last b (hs.take k)) (hs.drop k) = (decide (code s b (hs.take k) c = 0) && steps s (last b (hs.take (k + 1))) (hs.drop (k + 1))) := by
  have hl := (List.getElem?_eq_some_iff.1 h).1
  rw [steps_get h, last_take h]
  cases h1 : (rch c && inn s c.dy)
  · rw [code_arg h1]; simp
  · by_cases h2 : c.bk < last b (hs.take k)
    · rw [code_order h1 h2, decide_eq_false (by omega : ¬ last b (hs.take k) ≤ c.bk)]; simp
    · rw [code_ok h1 h2 (by rw [List.length_take]; omega), decide_eq_true (by omega : last b (hs.take k) ≤ c.bk)]; simp

/-- The places of a history's changes, and their days. -/
def key (hs : List Ch) (x : Int) : Int := match hs[x.toNat]? with
  | some c => c.dy
  | none => 0
def plc (n : Nat) : List Int := (List.range n).map fun (i : Nat) => (i : Int)
theorem plc_len (n : Nat) : (plc n).length = n := by simp [plc]
theorem plc_get {n k : Nat} (h : k < n) : (plc n)[k]? = some (k : Int) := by simp [plc, h]
theorem plc_mem {n : Nat} {x : Int} : x ∈ plc n ↔ 0 ≤ x ∧ x < n := by
  simp only [plc, List.mem_map, List.mem_range]
  constructor
  · rintro ⟨a, h, rfl⟩; omega
  · intro h; exact ⟨x.toNat, by omega, by omega⟩
theorem plc_rise (n : Nat) : (plc n).Pairwise (· < ·) := by
  unfold plc
  rw [List.pairwise_map]
  exact List.pairwise_lt_range.imp fun h => by omega
theorem plc_next (n : Nat) : plc (n + 1) = plc n ++ [(n : Int)] := by simp [plc, List.range_succ]
/-- What Order tells. -/
def Ord (hs : List Ch) (o : List Int) : Prop := St.Good (key hs) o (plc hs.length)
end Ag
end Go.Proofs.Ytjmbccdcnmmhgaa
