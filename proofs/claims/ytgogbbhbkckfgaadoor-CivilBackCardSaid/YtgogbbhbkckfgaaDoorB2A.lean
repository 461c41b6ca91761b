/- The law CivilBack, walked where the day has a date. -/
import Derived.Test.YtgogbbhbkckfgaaDoorB1
namespace Go.Proofs.YtgogbbhbkckfgaaDoor
open Go.RowKit
set_option maxRecDepth 100000 in
set_option maxHeartbeats 4000000 in
theorem back_a (n t : Int) (y m d : Int) (w : World) (hT : LenIn w) (n0 : 0 ≤ n) (n1 : n < 84371) (hb : (1970 ≤ y ∧ y ≤ 2200) ∧ (1 ≤ m ∧ m ≤ 12) ∧ 1 ≤ d ∧ d ≤ 31)
    (q1 : ∀ w, LenIn w → Calls Tryd.prog 17 #[.int .i64 n] w fun z w' => z = .returned (.tuple #[.agg #[.int .i64 (y), .int .i64 (m), .int .i64 (d)], .int .i64 0]) ∧ Below w.heap.size w w')
    (q2 : ∀ w, LenIn w → Calls Tryd.prog 9 #[.agg #[.int .i64 (y), .int .i64 (m), .int .i64 (d)]] w fun z w' => z = .returned (.tuple #[.int .i64 n, .int .i64 0]) ∧ Below w.heap.size w w')
    (q3 : ∀ w, LenIn w → Calls Tryd.prog 17 #[.int .i64 (n + 1)] w fun z w' => z = .returned (.tuple #[.agg #[.int .i64 (y), .int .i64 (m), .int .i64 (d + 1)], .int .i64 0]) ∧ Below w.heap.size w w')
    (q4 : ∀ w, LenIn w → Calls Tryd.prog 11 #[.agg #[.int .i64 (y), .int .i64 (m), .int .i64 (d)]] w fun z w' => z = .returned (.bool true) ∧ Below w.heap.size w w') :
    Calls Tryd.prog 4 #[.int .i64 n, .int .i64 t] w fun e w' => e = .returned (.bool true) ∧ Below w.heap.size w w' := by
  obtain ⟨⟨b1, b2⟩, ⟨b3, b4⟩, b5, b6⟩ := hb
  have q5 := fun w => week_any (n + 1) w
  have q6 := fun w => week_any n w
  rw [Civ.wd_succ] at q5
  obtain ⟨r0, r1⟩ := Civ.wd_bd n
  generalize Civ.wd n = k at *
  have t1 : (1 == d + 1) = false := by simp; omega
  have t2 : (0 == d + 1) = false := by simp; omega
  rcases tl_any t with l1 | ⟨a, b, c, e, f, i, l1, l2⟩
  all_goals
    go_enter Tryd.func4, Tryd.ntmps4
    go_wp2_with fail
    refine (known_any w hT).mono ?_
    rintro z w1 ⟨rfl, hb1⟩
    have hT1 := hT.below hT.pos hb1
    go_wp2_with fail
    refine (q1 _ hT1).mono ?_
    rintro z w2 ⟨rfl, hb2⟩
    clear q1
    have hB := (below_two hb1 hb2)
    clear hT1 hb1 hb2
    have hs2 := hB.size
    have hT2 := (hT.below hT.pos hB).alloc (.cells #[.int .i64 (y), .int .i64 (m), .int .i64 (d)] 23)
    have hB2 := hB.alloc hB.size (.cells #[.int .i64 (y), .int .i64 (m), .int .i64 (d)] 23)
    go_wp2_with fail
    refine (q2 _ hT2).mono ?_
    rintro z w3 ⟨rfl, hb3⟩
    clear q2
    have hT3 := hT2.below hT2.pos hb3
    have hB3 := hB2.trans (hb3.mono hB2.size)
    have hs3 := hb3.size
    rw [World.size_alloc] at hs3
    have c0 : w3.cell? ⟨w2.heap.size, 0, none⟩ = some (.int .i64 y) := by rw [hb3.cell (by simp)]; simp
    have c1 : w3.cell? ⟨w2.heap.size, 1, none⟩ = some (.int .i64 m) := by rw [hb3.cell (by simp)]; simp
    have c2 : w3.cell? ⟨w2.heap.size, 2, none⟩ = some (.int .i64 d) := by rw [hb3.cell (by simp)]; simp
    clear hT2 hB hB2 hb3
    go_wp2_with fail
    refine (q3 _ hT3).mono ?_
    rintro z w4 ⟨rfl, hb4⟩
    clear q3
    have hs4 := hb4.size
    have d0 : w4.cell? ⟨w2.heap.size, 0, none⟩ = some (.int .i64 y) := by rw [hb4.cell (by simp; omega)]; exact c0
    have d1 : w4.cell? ⟨w2.heap.size, 1, none⟩ = some (.int .i64 m) := by rw [hb4.cell (by simp; omega)]; exact c1
    have d2 : w4.cell? ⟨w2.heap.size, 2, none⟩ = some (.int .i64 d) := by rw [hb4.cell (by simp; omega)]; exact c2
    have hB4 := hB3.trans (hb4.mono hB3.size)
    have hT4 := (hT.below hT.pos hB4).alloc (.cells #[.int .i64 (y), .int .i64 (m), .int .i64 (d + 1)] 23)
    have hB4' := hB4.alloc hB4.size (.cells #[.int .i64 (y), .int .i64 (m), .int .i64 (d + 1)] 23)
    have lt4 : w2.heap.size < w4.heap.size := by omega
    clear c0 c1 c2 hB3 hb4 hT3
    go_wp2_with fail
    refine (q4 _ hT4).mono ?_
    rintro z w5 ⟨rfl, hb5⟩
    clear q4
    have hs5 := hb5.size
    rw [World.size_alloc] at hs5
    have e0 : w5.cell? ⟨w2.heap.size, 0, none⟩ = some (.int .i64 y) := by rw [hb5.cell (by simp; omega)]; rw [World.cell?_alloc_lt _ _ _ lt4]; exact d0
    have e1 : w5.cell? ⟨w2.heap.size, 1, none⟩ = some (.int .i64 m) := by rw [hb5.cell (by simp; omega)]; rw [World.cell?_alloc_lt _ _ _ lt4]; exact d1
    have e2 : w5.cell? ⟨w2.heap.size, 2, none⟩ = some (.int .i64 d) := by rw [hb5.cell (by simp; omega)]; rw [World.cell?_alloc_lt _ _ _ lt4]; exact d2
    have g0 : w5.cell? ⟨w4.heap.size, 0, none⟩ = some (.int .i64 (y)) := by rw [hb5.cell (by simp)]; simp
    have g1 : w5.cell? ⟨w4.heap.size, 1, none⟩ = some (.int .i64 (m)) := by rw [hb5.cell (by simp)]; simp
    have g2 : w5.cell? ⟨w4.heap.size, 2, none⟩ = some (.int .i64 (d + 1)) := by rw [hb5.cell (by simp)]; simp
    have hB5 := hB4'.trans (hb5.mono hB4'.size)
    have hT5 := hT.below hT.pos hB5
    clear d0 d1 d2 hB4 hB4' hb5 hT4
    go_wp2_with fail
    refine (q5 _).mono ?_
    rintro z w6 ⟨rfl, rfl⟩
    clear q5
    go_wp2_with fail
    refine (q6 _).mono ?_
    rintro z w6 ⟨rfl, rfl⟩
    clear q6
    go_wp2_with fail
    refine (l1 _ hT5).mono ?_
    rintro z w6 ⟨rfl, hb6⟩
    clear l1
    have hB6 := hB5.trans (hb6.mono hB5.size)
    go_wp2_with fail
  · go_ret
    exact ⟨rfl, hB6.alloc hB6.size _⟩
  · refine (l2 _ (((hT.below hT.pos hB6)).alloc _)).mono ?_
    rintro z w7 ⟨rfl, hb7⟩
    go_wp2_with fail
    go_ret
    exact ⟨rfl, (hB6.alloc hB6.size _).trans (hb7.mono (by have := hB6.size; simp; omega))⟩
end Go.Proofs.YtgogbbhbkckfgaaDoor
