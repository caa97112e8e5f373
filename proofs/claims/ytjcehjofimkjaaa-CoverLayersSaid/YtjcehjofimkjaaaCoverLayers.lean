/-
  The statement CoverLayers holds: for every input the call returns true, and each argument reads afterwards as it read before. Conditions: none beside those that the row itself bears.
-/
import Derived.Test.YtjcehjofimkjaaaGiven
namespace Go.Proofs.Ytjcehjofimkjaaa.coverLayers
open Go.ChangeShapes Go.WideShapes Go.ChangeAt Go.RowKit Cv Cvr
set_option linter.unusedVariables false


theorem boxes {w w1 : World} {t : TypeId} {xs ys zs : Array Value} (hb : Below (((w.alloc (.cells xs t)).alloc (.cells ys t)).alloc (.cells zs t)).heap.size (((w.alloc (.cells xs t)).alloc (.cells ys t)).alloc (.cells zs t)) w1) :
    Bx w1 w.heap.size t xs ∧ Bx w1 (w.heap.size + 1) t ys ∧ Bx w1 (w.heap.size + 1 + 1) t zs ∧ Below w.heap.size w w1 := by
  have h2 := Bx.new (w.alloc (.cells xs t)) t ys
  have h3 := Bx.new ((w.alloc (.cells xs t)).alloc (.cells ys t)) t zs
  rw [World.size_alloc] at h2
  rw [World.size_alloc, World.size_alloc] at h3
  exact ⟨(((Bx.new w t xs).alloc _).alloc _).keep hb, (h2.alloc _).keep hb, h3.keep hb, below_alloc (below_alloc (below_alloc hb))⟩

set_option maxRecDepth 100000 in
set_option maxHeartbeats 4000000 in
theorem near_less (a l h n b d x s1 a2 t1 t2 t3 t4 t5 u2 u3 u4 x1 x2 x3 o w2 y : Int) {w : World} (e0 : 1 + l = b) (e1 : 1 + h = d) (e2 : n % 20000000000 = x) (e3 : a + b = s1) (e4 : a + a = a2) (e5 : a2 + b = t1) (e6 : t1 + d = t2) (e7 : t1 + a = t3) (e8 : t3 + b = t4) (e9 : t4 + d = t5) (e10 : s1 + a = u2) (e11 : u2 + a = u3) (e12 : u3 + b = u4) (e13 : u4 + d = t5) (e14 : x - a = x1) (e15 : x1 - a = x2) (e16 : x2 - b = x3) (na : 0 ≤ a) (nl : 0 ≤ l) (nh : 0 ≤ h) (nn : 0 ≤ n) (Mn : n ≤ 18446744073709551615) (ma : -100000000000 ≤ a) (Ma : a ≤ 100000000000) (ml : -100000000000 ≤ l) (Ml : l ≤ 100000000000) (mh : -100000000000 ≤ h) (Mh : h ≤ 100000000000) (mb : -100000000000 ≤ b) (Mb : b ≤ 100000000000) (md : -100000000000 ≤ d) (Md : d ≤ 100000000000) (mx : -100000000000 ≤ x) (Mx : x ≤ 100000000000) (ms1 : -100000000000 ≤ s1) (Ms1 : s1 ≤ 100000000000) (ma2 : -100000000000 ≤ a2) (Ma2 : a2 ≤ 100000000000) (mt1 : -100000000000 ≤ t1) (Mt1 : t1 ≤ 100000000000) (mt2 : -100000000000 ≤ t2) (Mt2 : t2 ≤ 100000000000) (mt3 : -100000000000 ≤ t3) (Mt3 : t3 ≤ 100000000000) (mt4 : -100000000000 ≤ t4) (Mt4 : t4 ≤ 100000000000) (mt5 : -100000000000 ≤ t5) (Mt5 : t5 ≤ 100000000000) (mu2 : -100000000000 ≤ u2) (Mu2 : u2 ≤ 100000000000) (mu3 : -100000000000 ≤ u3) (Mu3 : u3 ≤ 100000000000) (mu4 : -100000000000 ≤ u4) (Mu4 : u4 ≤ 100000000000) (mx1 : -100000000000 ≤ x1) (Mx1 : x1 ≤ 100000000000) (mx2 : -100000000000 ≤ x2) (Mx2 : x2 ≤ 100000000000) (mx3 : -100000000000 ≤ x3) (Mx3 : x3 ≤ 100000000000)
    (R1 : ∀ w : World, Hid (Calls Try.prog 9 #[cg ⟨0, s1, 1000000000000000, a, 10000⟩] w (Yes w true)))
    (R2 : ∀ w : World, Hid (Calls Try.prog 9 #[cg ⟨0, t2, 1000000000000000, t1, 10000⟩] w (Yes w true)))
    (R3 : ∀ w : World, Hid (Calls Try.prog 9 #[cg ⟨0, t5, 1000000000000000, a, 10000⟩] w (Yes w true)))
    (C1 : ∀ w : World, Hid (Calls Try.prog 11 #[cg ⟨0, s1, 1000000000000000, a, 10000⟩, .int .i64 x, .int .i64 0] w fun e w' => e = .returned (.int .i64 o) ∧ Below w.heap.size w w'))
    (C2 : ∀ w : World, Hid (Calls Try.prog 11 #[cg ⟨0, t2, 1000000000000000, t1, 10000⟩, .int .i64 x, .int .i64 0] w fun e w' => e = .returned (.int .i64 w2) ∧ Below w.heap.size w w'))
    (C3 : ∀ w : World, Hid (Calls Try.prog 11 #[cg ⟨0, t5, 1000000000000000, a, 10000⟩, .int .i64 x, .int .i64 0] w fun e w' => e = .returned (.int .i64 y) ∧ Below w.heap.size w w'))
    (q1 : max 0 (min x1 s1) = o) (q2 : max 0 (min x3 t2) = w2) (s0 : decide (o < s1) = true) :
    Calls Try.prog 7 #[.int .u32 a, .int .u32 l, .int .u32 h, .int .u64 n] w (Yes w true) := by
  go_enter Try.func7, Try.ntmps7
  go_wp2_with fail
  refine (awake _).mono ?_
  rintro e w1 ⟨rfl, hb1⟩
  have HB1 := Lib.hid hb1
  clear hb1
  go_wp2_with fail
  refine (R1 _).out.mono ?_
  rintro e W ⟨rfl, hb⟩
  have Z0 := Lib.hid (boxes hb).1
  have Z1 := Lib.hid (boxes hb).2.1
  have Z2 := Lib.hid (boxes hb).2.2.1
  have HB2 := Lib.hid (HB1.out.trans ((boxes hb).2.2.2.mono HB1.out.size))
  clear hb HB1
  have x0 := Z1.out.c 0
  have x1 := Z1.out.c 1
  have x2 := Z1.out.c 2
  have x3 := Z1.out.c 3
  have x4 := Z1.out.c 4
  go_wp2_with fail
  refine (R2 _).out.mono ?_
  rintro e V ⟨rfl, hb⟩
  have Y0 := Lib.hid (Z0.out.keep hb)
  have Y1 := Lib.hid (Z1.out.keep hb)
  have Y2 := Lib.hid (Z2.out.keep hb)
  have HB3 := Lib.hid (HB2.out.trans (hb.mono HB2.out.size))
  clear hb x0 x1 x2 x3 x4 Z0 Z1 Z2 HB2
  have Z0 := Y0
  have Z1 := Y1
  have Z2 := Y2
  have HB2 := HB3
  clear Y0 Y1 Y2 HB3
  have x0 := Z2.out.c 0
  have x1 := Z2.out.c 1
  have x2 := Z2.out.c 2
  have x3 := Z2.out.c 3
  have x4 := Z2.out.c 4
  go_wp2_with fail
  refine (R3 _).out.mono ?_
  rintro e U ⟨rfl, hb⟩
  have Y0 := Lib.hid (Z0.out.keep hb)
  have Y1 := Lib.hid (Z1.out.keep hb)
  have Y2 := Lib.hid (Z2.out.keep hb)
  have HB3 := Lib.hid (HB2.out.trans (hb.mono HB2.out.size))
  clear hb x0 x1 x2 x3 x4 Z0 Z1 Z2 HB2
  have Z0 := Y0
  have Z1 := Y1
  have Z2 := Y2
  have HB2 := HB3
  clear Y0 Y1 Y2 HB3
  have x0 := Z0.out.c 0
  have x1 := Z0.out.c 1
  have x2 := Z0.out.c 2
  have x3 := Z0.out.c 3
  have x4 := Z0.out.c 4
  go_wp2_with fail
  refine (C1 _).out.mono ?_
  rintro e T ⟨rfl, hb⟩
  have Y0 := Lib.hid (Z0.out.keep hb)
  have Y1 := Lib.hid (Z1.out.keep hb)
  have Y2 := Lib.hid (Z2.out.keep hb)
  have HB3 := Lib.hid (HB2.out.trans (hb.mono HB2.out.size))
  clear hb x0 x1 x2 x3 x4 Z0 Z1 Z2 HB2
  have Z0 := Y0
  have Z1 := Y1
  have Z2 := Y2
  have HB2 := HB3
  clear Y0 Y1 Y2 HB3
  have x0 := Z1.out.c 0
  have x1 := Z1.out.c 1
  have x2 := Z1.out.c 2
  have x3 := Z1.out.c 3
  have x4 := Z1.out.c 4
  go_wp2_with fail
  refine (C2 _).out.mono ?_
  rintro e S ⟨rfl, hb⟩
  have Y0 := Lib.hid (Z0.out.keep hb)
  have Y1 := Lib.hid (Z1.out.keep hb)
  have Y2 := Lib.hid (Z2.out.keep hb)
  have HB3 := Lib.hid (HB2.out.trans (hb.mono HB2.out.size))
  clear hb x0 x1 x2 x3 x4 Z0 Z1 Z2 HB2
  have Z0 := Y0
  have Z1 := Y1
  have Z2 := Y2
  have HB2 := HB3
  clear Y0 Y1 Y2 HB3
  go_wp2
  go_ret
  exact ⟨rfl, HB2.out⟩

set_option maxRecDepth 100000 in
set_option maxHeartbeats 4000000 in
theorem near_more (a l h n b d x s1 a2 t1 t2 t3 t4 t5 u2 u3 u4 x1 x2 x3 o w2 y : Int) {w : World} (e0 : 1 + l = b) (e1 : 1 + h = d) (e2 : n % 20000000000 = x) (e3 : a + b = s1) (e4 : a + a = a2) (e5 : a2 + b = t1) (e6 : t1 + d = t2) (e7 : t1 + a = t3) (e8 : t3 + b = t4) (e9 : t4 + d = t5) (e10 : s1 + a = u2) (e11 : u2 + a = u3) (e12 : u3 + b = u4) (e13 : u4 + d = t5) (e14 : x - a = x1) (e15 : x1 - a = x2) (e16 : x2 - b = x3) (na : 0 ≤ a) (nl : 0 ≤ l) (nh : 0 ≤ h) (nn : 0 ≤ n) (Mn : n ≤ 18446744073709551615) (ma : -100000000000 ≤ a) (Ma : a ≤ 100000000000) (ml : -100000000000 ≤ l) (Ml : l ≤ 100000000000) (mh : -100000000000 ≤ h) (Mh : h ≤ 100000000000) (mb : -100000000000 ≤ b) (Mb : b ≤ 100000000000) (md : -100000000000 ≤ d) (Md : d ≤ 100000000000) (mx : -100000000000 ≤ x) (Mx : x ≤ 100000000000) (ms1 : -100000000000 ≤ s1) (Ms1 : s1 ≤ 100000000000) (ma2 : -100000000000 ≤ a2) (Ma2 : a2 ≤ 100000000000) (mt1 : -100000000000 ≤ t1) (Mt1 : t1 ≤ 100000000000) (mt2 : -100000000000 ≤ t2) (Mt2 : t2 ≤ 100000000000) (mt3 : -100000000000 ≤ t3) (Mt3 : t3 ≤ 100000000000) (mt4 : -100000000000 ≤ t4) (Mt4 : t4 ≤ 100000000000) (mt5 : -100000000000 ≤ t5) (Mt5 : t5 ≤ 100000000000) (mu2 : -100000000000 ≤ u2) (Mu2 : u2 ≤ 100000000000) (mu3 : -100000000000 ≤ u3) (Mu3 : u3 ≤ 100000000000) (mu4 : -100000000000 ≤ u4) (Mu4 : u4 ≤ 100000000000) (mx1 : -100000000000 ≤ x1) (Mx1 : x1 ≤ 100000000000) (mx2 : -100000000000 ≤ x2) (Mx2 : x2 ≤ 100000000000) (mx3 : -100000000000 ≤ x3) (Mx3 : x3 ≤ 100000000000)
    (R1 : ∀ w : World, Hid (Calls Try.prog 9 #[cg ⟨0, s1, 1000000000000000, a, 10000⟩] w (Yes w true)))
    (R2 : ∀ w : World, Hid (Calls Try.prog 9 #[cg ⟨0, t2, 1000000000000000, t1, 10000⟩] w (Yes w true)))
    (R3 : ∀ w : World, Hid (Calls Try.prog 9 #[cg ⟨0, t5, 1000000000000000, a, 10000⟩] w (Yes w true)))
    (C1 : ∀ w : World, Hid (Calls Try.prog 11 #[cg ⟨0, s1, 1000000000000000, a, 10000⟩, .int .i64 x, .int .i64 0] w fun e w' => e = .returned (.int .i64 o) ∧ Below w.heap.size w w'))
    (C2 : ∀ w : World, Hid (Calls Try.prog 11 #[cg ⟨0, t2, 1000000000000000, t1, 10000⟩, .int .i64 x, .int .i64 0] w fun e w' => e = .returned (.int .i64 w2) ∧ Below w.heap.size w w'))
    (C3 : ∀ w : World, Hid (Calls Try.prog 11 #[cg ⟨0, t5, 1000000000000000, a, 10000⟩, .int .i64 x, .int .i64 0] w fun e w' => e = .returned (.int .i64 y) ∧ Below w.heap.size w w'))
    (q1 : max 0 (min x1 s1) = o) (q2 : max 0 (min x3 t2) = w2) (z : Int) (s0 : decide (o < s1) = false) (ez : o + w2 = z) (mz : -200000000000 ≤ z) (Mz : z ≤ 200000000000) (q3 : min y t5 = z) :
    Calls Try.prog 7 #[.int .u32 a, .int .u32 l, .int .u32 h, .int .u64 n] w (Yes w true) := by
  go_enter Try.func7, Try.ntmps7
  go_wp2_with fail
  refine (awake _).mono ?_
  rintro e w1 ⟨rfl, hb1⟩
  have HB1 := Lib.hid hb1
  clear hb1
  go_wp2_with fail
  refine (R1 _).out.mono ?_
  rintro e W ⟨rfl, hb⟩
  have Z0 := Lib.hid (boxes hb).1
  have Z1 := Lib.hid (boxes hb).2.1
  have Z2 := Lib.hid (boxes hb).2.2.1
  have HB2 := Lib.hid (HB1.out.trans ((boxes hb).2.2.2.mono HB1.out.size))
  clear hb HB1
  have x0 := Z1.out.c 0
  have x1 := Z1.out.c 1
  have x2 := Z1.out.c 2
  have x3 := Z1.out.c 3
  have x4 := Z1.out.c 4
  go_wp2_with fail
  refine (R2 _).out.mono ?_
  rintro e V ⟨rfl, hb⟩
  have Y0 := Lib.hid (Z0.out.keep hb)
  have Y1 := Lib.hid (Z1.out.keep hb)
  have Y2 := Lib.hid (Z2.out.keep hb)
  have HB3 := Lib.hid (HB2.out.trans (hb.mono HB2.out.size))
  clear hb x0 x1 x2 x3 x4 Z0 Z1 Z2 HB2
  have Z0 := Y0
  have Z1 := Y1
  have Z2 := Y2
  have HB2 := HB3
  clear Y0 Y1 Y2 HB3
  have x0 := Z2.out.c 0
  have x1 := Z2.out.c 1
  have x2 := Z2.out.c 2
  have x3 := Z2.out.c 3
  have x4 := Z2.out.c 4
  go_wp2_with fail
  refine (R3 _).out.mono ?_
  rintro e U ⟨rfl, hb⟩
  have Y0 := Lib.hid (Z0.out.keep hb)
  have Y1 := Lib.hid (Z1.out.keep hb)
  have Y2 := Lib.hid (Z2.out.keep hb)
  have HB3 := Lib.hid (HB2.out.trans (hb.mono HB2.out.size))
  clear hb x0 x1 x2 x3 x4 Z0 Z1 Z2 HB2
  have Z0 := Y0
  have Z1 := Y1
  have Z2 := Y2
  have HB2 := HB3
  clear Y0 Y1 Y2 HB3
  have x0 := Z0.out.c 0
  have x1 := Z0.out.c 1
  have x2 := Z0.out.c 2
  have x3 := Z0.out.c 3
  have x4 := Z0.out.c 4
  go_wp2_with fail
  refine (C1 _).out.mono ?_
  rintro e T ⟨rfl, hb⟩
  have Y0 := Lib.hid (Z0.out.keep hb)
  have Y1 := Lib.hid (Z1.out.keep hb)
  have Y2 := Lib.hid (Z2.out.keep hb)
  have HB3 := Lib.hid (HB2.out.trans (hb.mono HB2.out.size))
  clear hb x0 x1 x2 x3 x4 Z0 Z1 Z2 HB2
  have Z0 := Y0
  have Z1 := Y1
  have Z2 := Y2
  have HB2 := HB3
  clear Y0 Y1 Y2 HB3
  have x0 := Z1.out.c 0
  have x1 := Z1.out.c 1
  have x2 := Z1.out.c 2
  have x3 := Z1.out.c 3
  have x4 := Z1.out.c 4
  go_wp2_with fail
  refine (C2 _).out.mono ?_
  rintro e S ⟨rfl, hb⟩
  have Y0 := Lib.hid (Z0.out.keep hb)
  have Y1 := Lib.hid (Z1.out.keep hb)
  have Y2 := Lib.hid (Z2.out.keep hb)
  have HB3 := Lib.hid (HB2.out.trans (hb.mono HB2.out.size))
  clear hb x0 x1 x2 x3 x4 Z0 Z1 Z2 HB2
  have Z0 := Y0
  have Z1 := Y1
  have Z2 := Y2
  have HB2 := HB3
  clear Y0 Y1 Y2 HB3
  have x0 := Z2.out.c 0
  have x1 := Z2.out.c 1
  have x2 := Z2.out.c 2
  have x3 := Z2.out.c 3
  have x4 := Z2.out.c 4
  go_wp2_with fail
  refine (C3 _).out.mono ?_
  rintro e Q ⟨rfl, hb⟩
  have Y0 := Lib.hid (Z0.out.keep hb)
  have Y1 := Lib.hid (Z1.out.keep hb)
  have Y2 := Lib.hid (Z2.out.keep hb)
  have HB3 := Lib.hid (HB2.out.trans (hb.mono HB2.out.size))
  clear hb x0 x1 x2 x3 x4 Z0 Z1 Z2 HB2
  have Z0 := Y0
  have Z1 := Y1
  have Z2 := Y2
  have HB2 := HB3
  clear Y0 Y1 Y2 HB3
  clear Z0 Z1 Z2
  go_wp2
  go_ret
  exact ⟨rfl, HB2.out⟩

theorem walk (a : Int) (ha : 0 ≤ a ∧ a ≤ 4294967295) (l : Int) (hl : 0 ≤ l ∧ l ≤ 4294967295) (h : Int) (hh : 0 ≤ h ∧ h ≤ 4294967295) (n : Int) (hn : 0 ≤ n ∧ n ≤ 18446744073709551615) {w : World} :
    Calls Try.prog 7 #[.int .u32 a, .int .u32 l, .int .u32 h, .int .u64 n] w (Yes w true) := by
  obtain ⟨x, hx⟩ : ∃ x, n % 20000000000 = x := ⟨_, rfl⟩
  have hx2 : 0 ≤ x ∧ x < 20000000000 := by omega
  have K : ∀ d t : Int, 0 ≤ d → d < t → t ≤ 1000000000000000 → Ok ⟨0, t, 1000000000000000, d, 10000⟩ := fun d t h1 h2 h3 => ⟨by show (0:Int) ≤ 0; omega, by show (0:Int) ≤ 7; omega, by show (1:Int) ≤ 10000; omega, by show (10000:Int) ≤ 10000; omega, h1, h2, h3, by show (1000000000000000:Int) ≤ 1000000000000000; omega⟩
  have RR : ∀ d t : Int, 0 ≤ d → d < t → t ≤ 1000000000000000 → ∀ w : World, Hid (Calls Try.prog 9 #[cg ⟨0, t, 1000000000000000, d, 10000⟩] w (Yes w true)) := fun d t h1 h2 h3 w => by
    have := right_ ⟨0, t, 1000000000000000, d, 10000⟩ w
    rw [ok_yes (K d t h1 h2 h3)] at this
    exact Lib.hid this
  have CC : ∀ d t : Int, 0 ≤ d → d < t → t ≤ 1000000000000000 → ∀ w : World, Hid (Calls Try.prog 11 #[cg ⟨0, t, 1000000000000000, d, 10000⟩, .int .i64 x, .int .i64 0] w fun e w' => e = .returned (.int .i64 (max (min (x - d) t) 0)) ∧ Below w.heap.size w w') := fun d t h1 h2 h3 w => by
    have := pays ⟨0, t, 1000000000000000, d, 10000⟩ x 0 w ⟨by omega, by omega⟩ ⟨by omega, by omega⟩
    rw [pay_full (K d t h1 h2 h3) hx2.1 rfl rfl] at this
    exact Lib.hid this
  have R1 := RR a (a + (1 + l)) (by omega) (by omega) (by omega)
  have R2 := RR (a + a + (1 + l)) (a + a + (1 + l) + (1 + h)) (by omega) (by omega) (by omega)
  have R3 := RR a (a + a + (1 + l) + a + (1 + l) + (1 + h)) (by omega) (by omega) (by omega)
  have C1 := CC a (a + (1 + l)) (by omega) (by omega) (by omega)
  have C2 := CC (a + a + (1 + l)) (a + a + (1 + l) + (1 + h)) (by omega) (by omega) (by omega)
  have C3 := CC a (a + a + (1 + l) + a + (1 + l) + (1 + h)) (by omega) (by omega) (by omega)
  by_cases hs : max (min (x - a) (a + (1 + l))) 0 < a + (1 + l)
  · refine near_less a l h n _ _ x _ _ _ _ _ _ _ _ _ _ _ _ _ _ _ _ rfl rfl hx rfl rfl rfl rfl rfl rfl rfl rfl rfl rfl ?_ rfl rfl rfl ?_ ?_ ?_ ?_ ?_ ?_ ?_ ?_ ?_ ?_ ?_ ?_ ?_ ?_ ?_ ?_ ?_ ?_ ?_ ?_ ?_ ?_ ?_ ?_ ?_ ?_ ?_ ?_ ?_ ?_ ?_ ?_ ?_ ?_ ?_ ?_ ?_ ?_ ?_ ?_ ?_ ?_ ?_ R1 R2 R3 C1 C2 C3 ?_ ?_ (decide_eq_true hs) <;> omega
  · refine near_more a l h n _ _ x _ _ _ _ _ _ _ _ _ _ _ _ _ _ _ _ rfl rfl hx rfl rfl rfl rfl rfl rfl rfl rfl rfl rfl ?_ rfl rfl rfl ?_ ?_ ?_ ?_ ?_ ?_ ?_ ?_ ?_ ?_ ?_ ?_ ?_ ?_ ?_ ?_ ?_ ?_ ?_ ?_ ?_ ?_ ?_ ?_ ?_ ?_ ?_ ?_ ?_ ?_ ?_ ?_ ?_ ?_ ?_ ?_ ?_ ?_ ?_ ?_ ?_ ?_ ?_ R1 R2 R3 C1 C2 C3 ?_ ?_ _ (decide_eq_false hs) rfl ?_ ?_ ?_ <;> omega

set_option maxRecDepth 100000 in
theorem lifted (os : Os) (started : os.Started) (H : Type) (enc : TypeId × Value → H) :
    ReturnsInHanded {} Try.checked os 7 .any (Rows.coverLayersSpec.pre6 enc Try.prog Try.f7 Rows.coverLayersRow.domain false) (Rows.coverLayersSpec.post enc Try.prog Try.f7 false true false false) := by
  refine returnsInHanded_of_change (C := Try.checked) Cvr.own started (by kernel_rfl) Try.func7
    (ChangeSpec.witness6 (enc := enc) (C := Try.checked) false ⟨#[], #[.int .u32 0, .int .u32 0, .int .u32 0, .int .u64 0], []⟩ 8 (by kernel_rfl) (by kernel_rfl) (by kernel_rfl) (by kernel_rfl)) ?_
  intro W base args ds gs before hval0 hW hcnd _
  have hval : ∀ (j : Nat) t v, Try.f7.params[j]? = some t → args[j]? = some v → Value.okWide Try.prog W .any base t v := hval0
  have hW' := hW
  obtain ⟨p, q, hA0, hV, rfl, hfz, hnd⟩ := hW
  have hA : DataW.TrodAll enc Try.prog W 0 (fun _ => true) true Try.f7.params.toList args.toList ds p := hA0
  rw [Try.params7] at hA hval
  obtain ⟨v0, vs0, d0, ds0, p0, q0, hargs, rfl, rfl, h0, r0⟩ := trodAll_cons hA
  obtain ⟨v1, vs1, d1, ds1, p1, q1, rfl, rfl, rfl, h1, r1⟩ := trodAll_cons r0
  obtain ⟨v2, vs2, d2, ds2, p2, q2, rfl, rfl, rfl, h2, r2⟩ := trodAll_cons r1
  obtain ⟨v3, vs3, d3, ds3, p3, q3, rfl, rfl, rfl, h3, r3⟩ := trodAll_cons r2
  obtain ⟨rfl, rfl, rfl⟩ := trodAll_nil r3
  obtain rfl : args = #[v0, v1, v2, v3] := by cases args; simp_all
  obtain ⟨rfl, rfl⟩ := trodVars_none hV
  obtain ⟨a0, rfl, rfl, rfl, w0⟩ := open_int Try.underlying31 (hval 0 31 v0 rfl rfl) h0
  obtain ⟨a1, rfl, rfl, rfl, w1⟩ := open_int Try.underlying31 (hval 1 31 v1 rfl rfl) h1
  obtain ⟨a2, rfl, rfl, rfl, w2⟩ := open_int Try.underlying31 (hval 2 31 v2 rfl rfl) h2
  obtain ⟨a3, rfl, rfl, rfl, w3⟩ := open_int Try.underlying32 (hval 3 32 v3 rfl rfl) h3
  clear hA0 hval0
  refine (walk a0 (Cvr.u32_of w0) a1 (Cvr.u32_of w1) a2 (Cvr.u32_of w2) a3 (Cvr.u64_of w3)).mono fun e W' ⟨he, bel⟩ => ?_
  subst he
  exact ⟨_, rfl, _, _, _, [], _, [], hW', trodAll_mk1 (shut_bool Try.underlying4 _), (trodAll_cons_mk (shut_int Try.underlying31 w0) (trodAll_cons_mk (shut_int Try.underlying31 w1) (trodAll_cons_mk (shut_int Try.underlying31 w2) (trodAll_cons_mk (shut_int Try.underlying32 w3) trodAll_mk0)))), rfl, bel.frame _, fun h => by cases h⟩

theorem over : Rows.coverLayersRow.holds Try.pinned (OpenSpec.ofChange Rows.coverLayersSpec) :=
  OpenClaim.holds_of_wide 7 Try.f7 rfl rfl rfl rfl rfl rfl rfl ⟨rfl, rfl, rfl, rfl, rfl⟩ rfl rfl rfl rfl rfl (by kernel_rfl) Try.func7 (by kernel_rfl)
    (of_decide_eq_true (by kernel_rfl)) (by unfold Func.isWrapper; first | (rw [if_pos (by decide +kernel)]; kernel_rfl) | (rw [if_neg (by decide +kernel)]; exact ⟨rfl, rfl⟩))
    (fun os started H enc _ => lifted os started H enc)

theorem proved : Rows.CoverLayersSaid := over
end Go.Proofs.Ytjcehjofimkjaaa.coverLayers
