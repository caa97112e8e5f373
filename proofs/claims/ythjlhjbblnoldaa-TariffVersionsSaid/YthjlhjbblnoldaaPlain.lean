/-
  plain of the law; Put, whatever it answers. Conditions: the version's lists read as lists, and are short.
-/
import Derived.Test.YthjlhjbblnoldaaPutOk
namespace Go.Proofs.Ythjlhjbblnoldaa
open Go.RowKit Ba Tf
namespace Trf
set_option linter.unusedVariables false

def plV (f : Int) : Ve := ⟨f, 10, 20, 30, 40, [(30, 12000)], [10000], [1, 2, 3, 4, 5, 6, 7, 8], 100⟩
def plR (f : Int) (b : Nat) : Rw := ⟨plV f, some ⟨b + 1, 0, none⟩, 1, 1, some ⟨b + 2, 0, none⟩, 1, 1, some ⟨b + 3, 0, none⟩, 8, 8⟩
/-- What plain gives. -/
def PlainTo (w : World) (f : Int) (e : Ending) (w' : World) : Prop := ∃ r : Rw, e = .returned (vg r) ∧ r.v = plV f ∧ Mean w' (· < w'.heap.size) r ∧ Sm r ∧ Below w.heap.size w w'
theorem ins_box {W : World} {b : Nat} {xs : List Int} (h : Bx W b 3 (xs.map (Value.int .i64)).toArray) (ok : Nat → Prop) (hb : ok b) : Ins W ok (some ⟨b, 0, none⟩) xs.length xs := by
  refine ⟨rfl, fun _ => ⟨_, rfl, hb, fun j x hx => ?_⟩⟩
  rw [Addr.add_lit, Nat.zero_add, h.c]
  simp [hx]
theorem lns_box {W : World} {b : Nat} {x y : Int} (h : Bx W b 58 #[.int .i64 x, .int .i64 y]) (ok : Nat → Prop) (hb : ok b) : Lns W ok (some ⟨b, 0, none⟩) 1 [(x, y)] := by
  refine ⟨rfl, fun _ => ⟨_, rfl, hb, fun j z hz => ?_⟩⟩
  match j, hz with
  | 0, hz => simp at hz; subst hz; rw [Addr.add_lit, Addr.add_lit, h.c, h.c]; exact ⟨rfl, rfl⟩

/-- The four blocks. -/
structure Q0 (w W : World) (f : Int) : Prop where
  b : Below w.heap.size w W
  x : Bx W w.heap.size 26 (vc (plR f w.heap.size))
  a : Bx W (w.heap.size + 1) 58 #[.int .i64 30, .int .i64 12000]
  z : Bx W (w.heap.size + 2) 3 #[.int .i64 10000]
  p : Bx W (w.heap.size + 3) 3 #[.int .i64 1, .int .i64 2, .int .i64 3, .int .i64 4, .int .i64 5, .int .i64 6, .int .i64 7, .int .i64 8]
theorem Q0.start (w : World) (f : Int) : Q0 w ((((w.alloc (.cells (vc (plR f w.heap.size)) 26)).alloc (.cells #[.int .i64 30, .int .i64 12000] 58)).alloc (.cells #[.int .i64 10000] 3)).alloc (.cells #[.int .i64 1, .int .i64 2, .int .i64 3, .int .i64 4, .int .i64 5, .int .i64 6, .int .i64 7, .int .i64 8] 3)) f := by
  refine ⟨(((alloc_ _ _).alloc (by simp) _).alloc (by simp; omega) _).alloc (by simp; omega) _, (((Bx.new _ _ _).alloc _).alloc _).alloc _, ?_, ?_, ?_⟩
  · have := ((Bx.new (w.alloc (.cells (vc (plR f w.heap.size)) 26)) 58 #[.int .i64 30, .int .i64 12000]).alloc (.cells #[.int .i64 10000] 3)).alloc (.cells #[.int .i64 1, .int .i64 2, .int .i64 3, .int .i64 4, .int .i64 5, .int .i64 6, .int .i64 7, .int .i64 8] 3)
    rw [World.size_alloc] at this
    exact this
  · have := (Bx.new ((w.alloc (.cells (vc (plR f w.heap.size)) 26)).alloc (.cells #[.int .i64 30, .int .i64 12000] 58)) 3 #[.int .i64 10000]).alloc (.cells #[.int .i64 1, .int .i64 2, .int .i64 3, .int .i64 4, .int .i64 5, .int .i64 6, .int .i64 7, .int .i64 8] 3)
    rw [World.size_alloc, World.size_alloc] at this
    exact this
  · have := Bx.new (((w.alloc (.cells (vc (plR f w.heap.size)) 26)).alloc (.cells #[.int .i64 30, .int .i64 12000] 58)).alloc (.cells #[.int .i64 10000] 3)) 3 #[.int .i64 1, .int .i64 2, .int .i64 3, .int .i64 4, .int .i64 5, .int .i64 6, .int .i64 7, .int .i64 8]
    rw [World.size_alloc, World.size_alloc, World.size_alloc] at this
    exact this
theorem Q0.mean {w W : World} {f : Int} (h : Q0 w W f) : Mean W (· < W.heap.size) (plR f w.heap.size) :=
  ⟨lns_box h.a _ h.a.lt, ins_box (xs := [10000]) h.z _ h.z.lt, ins_box (xs := [1, 2, 3, 4, 5, 6, 7, 8]) h.p _ h.p.lt⟩

set_option maxRecDepth 100000 in
set_option maxHeartbeats 2000000 in
theorem plain_ (f : Int) (w : World) : Calls Try.prog 19 #[.int .i64 f] w (PlainTo w f) := by
  have HQ := Lib.hid (Q0.start w f)
  go_enter Try.func19, Try.ntmps19
  go_wp2
  change bodyPost _ _ _ _ _ ((((w.alloc (.cells (vc (plR f w.heap.size)) 26)).alloc (.cells #[.int .i64 30, .int .i64 12000] 58)).alloc (.cells #[.int .i64 10000] 3)).alloc (.cells #[.int .i64 1, .int .i64 2, .int .i64 3, .int .i64 4, .int .i64 5, .int .i64 6, .int .i64 7, .int .i64 8] 3))
  obtain ⟨W, hW⟩ : ∃ W, ((((w.alloc (.cells (vc (plR f w.heap.size)) 26)).alloc (.cells #[.int .i64 30, .int .i64 12000] 58)).alloc (.cells #[.int .i64 10000] 3)).alloc (.cells #[.int .i64 1, .int .i64 2, .int .i64 3, .int .i64 4, .int .i64 5, .int .i64 6, .int .i64 7, .int .i64 8] 3)) = W := ⟨_, rfl⟩
  rw [hW] at HQ ⊢
  refine bodyPost_ret (v := vg (plR f w.heap.size)) ?_ rfl ⟨plR f w.heap.size, rfl, rfl, HQ.out.mean, ⟨by show 1 ≤ 3000; omega, by show 1 ≤ 3000; omega, by show 8 ≤ 3000; omega⟩, HQ.out.b⟩
  have hx := HQ.out.x
  have x0 := hx.c 0
  have x1 := hx.c 1
  have x2 := hx.c 2
  have x3 := hx.c 3
  have x4 := hx.c 4
  have x5 := hx.c 5
  have x6 := hx.c 6
  have x7 := hx.c 7
  have x8 := hx.c 8
  simp at x0 x1 x2 x3 x4 x5 x6 x7 x8
  simp [results, Try.results19, go_sem, x0, x1, x2, x3, x4, x5, x6, x7, x8]

/-- Put, whatever it answers. -/
theorem put_ (A : Option Addr) (n c : Nat) (rs : List Rw) (r : Rw) (w : World) (hS : Vers w A n rs) (hn : n ≤ 1000) (hM : Mean w (· < w.heap.size) r) (hSm : Sm r) (hcap : n ≤ c) (hnil : A = none → n = 0 ∧ c = 0) :
    Calls Try.prog 17 #[tg A n c, vg r] w (PutTo w (rs.map Rw.v) r.v) := by
  by_cases h : rgt (rs.map Rw.v) = true ∧ ver r.v = true
  · cases h3 : has r.v.fr (rs.map Rw.v)
    · by_cases h4 : n = 100
      · exact put_bound A n c rs r w hS hn hM hSm h.1 h.2 h3 h4
      · exact put_ok A n c rs r w hS hn hM hSm hcap hnil h.1 h.2 h3 h4
    · exact put_there A n c rs r w hS hn hM hSm h.1 h.2 h3
  · exact put_arg A n c rs r w hS hn hM hSm h
/-- Put of known lists. -/
def PutIs (w : World) (vs : List Ve) (code : Int) (e : Ending) (w' : World) : Prop := ∃ A n c rs, e = .returned (.tuple #[tg A n c, .int .i64 code]) ∧ Vers w' A n rs ∧ rs.map Rw.v = vs ∧ n = vs.length ∧ n ≤ c ∧ (A = none → n = 0 ∧ c = 0) ∧ Below w.heap.size w w'
theorem put_is (A : Option Addr) (n c : Nat) (rs : List Rw) (r : Rw) (w : World) (hS : Vers w A n rs) (hn : n ≤ 1000) (hM : Mean w (· < w.heap.size) r) (hSm : Sm r) (hcap : n ≤ c) (hnil : A = none → n = 0 ∧ c = 0)
    (vs : List Ve) (v : Ve) (e1 : rs.map Rw.v = vs) (e2 : r.v = v) (code : Int) (h : cd vs v = code) (vs' : List Ve) (h' : pt vs v = vs') :
    Calls Try.prog 17 #[tg A n c, vg r] w (PutIs w vs' code) := by
  refine (put_ A n c rs r w hS hn hM hSm hcap hnil).mono ?_
  rintro e w' ⟨A', n', c', rs', rfl, hV, hE, hc, hz, hb⟩
  rw [e1, e2] at hE ⊢
  rw [h'] at hE
  rw [h]
  exact ⟨A', n', c', rs', rfl, hV, hE, by rw [← hE]; exact hV.len.symm, hc, hz, hb⟩

/-- A tariff's box holds no number: what reads as numbers lies elsewhere. -/
theorem box_apart {W : World} {g : Nat} {A : Option Addr} {n c : Nat} (hx : Bx W g 29 #[.slice A n c]) {p : Addr} {z : Int} (h : W.cell? p = some (.int .i64 z)) (hp : p.spot = none) : p.block ≠ g := by
  obtain ⟨b, o, s⟩ := p
  simp only at hp
  subst hp
  rintro rfl
  rw [hx.c] at h
  match o, h with
  | 0, h => simp at h
  | o + 1, h => simp at h
end Trf
end Go.Proofs.Ythjlhjbblnoldaa
