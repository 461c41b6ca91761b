/- The law CivilMonths, walked. -/
import Derived.Test.YtgogbbhbkckfgaaDoorMO2
namespace Go.Proofs.YtgogbbhbkckfgaaDoor
open Go.RowKit
theorem datL_len (y m : Int) (k : Nat) : (datL y m k).length = k * 3 := by
  induction k with
  | zero => rfl
  | succ k ih => simp [datL, ih]; omega
theorem datL_at (y m : Int) : ∀ (k j : Nat), j < k → (datL y m k)[j * 3]? = some (.int .i64 y) ∧ (datL y m k)[j * 3 + 1]? = some (.int .i64 m) ∧ (datL y m k)[j * 3 + 2]? = some (.int .i64 ((j : Int) + 1))
  | 0, j, h => by omega
  | k + 1, j, h => by
    have hl := datL_len y m k
    by_cases hj : j < k
    · obtain ⟨a, b, c⟩ := datL_at y m k j hj
      unfold datL
      rw [List.getElem?_append_left (by omega), List.getElem?_append_left (by omega), List.getElem?_append_left (by omega)]
      exact ⟨a, b, c⟩
    · obtain rfl : j = k := by omega
      unfold datL
      rw [List.getElem?_append_right (by omega), List.getElem?_append_right (by omega), List.getElem?_append_right (by omega), hl]
      simp
/-- The start: no date has come. -/
theorem MoSt.start (w : World) (y m : Int) : MoSt w w.heap.size w.heap.size (w.heap.size + 1) (w.heap.size + 1 + 1) y m 0 (((w.alloc (.cells #[.slice none 0 0] 49)).alloc (.cells #[.int .i64 y] 3)).alloc (.cells #[.int .i64 m] 3)) := by
  have b1 := (Boxed.new (w.alloc (.cells #[.slice none 0 0] 49)) 3 (.int .i64 y)).alloc (.cells #[.int .i64 m] 3)
  have b2 := Boxed.new ((w.alloc (.cells #[.slice none 0 0] 49)).alloc (.cells #[.int .i64 y] 3)) 3 (.int .i64 m)
  simp only [World.size_alloc] at b1 b2
  exact ⟨⟨_, ((Boxed.new w 49 (.slice none 0 0)).alloc _).alloc _, rfl, .inl ⟨rfl, rfl⟩⟩, b1, b2, (((Below.refl _ w).alloc (Nat.le_refl _) _).alloc (by simp) _).alloc (by simp; omega) _⟩
theorem came_pos {y m stop : Int} (h : Civ.monB y m = true) : 1 ≤ came y m stop ∧ (came y m stop : Int) ≤ Civ.dim y m := by
  have := Civ.dim_bd y m
  unfold came; rw [if_pos h]; split <;> omega
set_option maxRecDepth 100000 in
set_option maxHeartbeats 4000000 in
theorem months_yes (y m stop : Int) (w : World) (hT : LenIn w) (hm : Civ.monB y m = true) :
    Calls Tryd.prog 5 #[.int .i64 y, .int .i64 m, .int .i64 stop] w fun e w' => e = .returned (.bool true) ∧ Below w.heap.size w w' := by
  obtain ⟨y0, y1, m0, m1⟩ := Civ.monB_iff.1 hm
  have dm := Civ.dim_bd y m
  have hcp := came_pos (stop := stop) hm
  have hT0 := hT.alloc (.cells #[.int .i64 stop] 3)
  go_enter Tryd.func5, Tryd.ntmps5
  go_wp2_with fail
  refine (known_any _ hT0).mono ?_
  rintro e w1 ⟨rfl, hb1⟩
  have hs1 := hb1.size
  rw [World.size_alloc] at hs1
  have hcs : w1.cell? ⟨w.heap.size, 0, none⟩ = some (.int .i64 stop) := by rw [hb1.cell (by simp)]; simp
  have hT1 : LenIn w1 := hT0.below hT0.pos hb1
  have hBw : Below w.heap.size w w1 := ((Below.refl _ w).alloc (Nat.le_refl _) _).trans (hb1.mono (by simp))
  go_wp2_with fail
  refine (month_any y m _).mono ?_
  rintro e w2 ⟨rfl, rfl⟩
  rw [World.size_alloc]
  have hst := MoSt.start w1 y m
  go_wp2_with fail
  refine (month1_any w1 w1.heap.size w1.heap.size w.heap.size (w1.heap.size + 1) (w1.heap.size + 1 + 1) y m stop _ hst (Nat.le_refl _) (by omega) hcs (Nat.le_refl _) (by omega) (by omega) hT1).mono ?_
  rintro e W2 ⟨⟨v0, rfl⟩, st⟩
  clear hst
  obtain ⟨⟨v, hv, hrow⟩, _, _, bel⟩ := st
  obtain ⟨K, hK⟩ : ∃ K, came y m stop = K := ⟨_, rfl⟩
  have HK := hide3 hK
  rw [hK] at hrow hcp
  clear hK
  obtain ⟨hl0, hh⟩ := hrow
  rcases hh with ⟨_, h0⟩ | ⟨g, cap, cur, rfl, hg1, hg2, hg3, hg4, hg5, hg6⟩
  · omega
  have hcell : ∀ j, j < K → W2.cell? ⟨g, j * 3, none⟩ = some (.int .i64 y) ∧ W2.cell? ⟨g, j * 3 + 1, none⟩ = some (.int .i64 m) ∧ W2.cell? ⟨g, j * 3 + 2, none⟩ = some (.int .i64 ((j : Int) + 1)) := by
    intro j hj
    obtain ⟨a, b, c⟩ := datL_at y m K j hj
    rw [← hg6] at a b c
    rw [List.getElem?_take_of_lt (by omega), Array.getElem?_toList] at a b c
    simp only [World.cell?, hg2]
    exact ⟨a, b, c⟩
  have hcl := hv.cell
  have hcs2 : W2.cell? ⟨w.heap.size, 0, none⟩ = some (.int .i64 stop) := (bel.cell (p := ⟨w.heap.size, 0, none⟩) (by simp; omega)).trans hcs
  have hgl : g < W2.heap.size := (Array.getElem?_eq_some_iff.1 hg2).1
  have hbl := hv.lt
  have hT2 : LenIn W2 := hT1.below hT1.pos bel
  have hBW : Below w.heap.size w W2 := hBw.trans (bel.mono hBw.size)
  clear hg2 hg5 hg6 hv bel hl0 hb1
  go_wp2_with fail
  go_loopw [9] (fun i wr => ∃ j : Nat, i = .int .i64 j ∧ j ≤ K ∧ Below W2.heap.size W2 wr) (fun i _ => K - (intOf i).toNat)
  case atStart => exact ⟨0, rfl, by omega, Below.refl _ _⟩
  case round =>
    obtain ⟨j, rfl, hj, hbr⟩ := hrel
    have hcl2 := (hbr.cell (p := ⟨w1.heap.size, 0, none⟩) hbl).trans hcl
    have hcs3 := (hbr.cell (p := ⟨w.heap.size, 0, none⟩) (by simp; omega)).trans hcs2
    have hT3 : LenIn wr := hT2.below hT2.pos hbr
    by_cases hlt : j < K
    · obtain ⟨a1, a2, a3⟩ := hcell j hlt
      have e1 := (hbr.cell (p := ⟨g, j * 3, none⟩) hgl).trans a1
      have e2 := (hbr.cell (p := ⟨g, j * 3 + 1, none⟩) hgl).trans a2
      have e3 := (hbr.cell (p := ⟨g, j * 3 + 2, none⟩) hgl).trans a3
      have hv : Civ.vldB y m ((j : Int) + 1) = true := Civ.vldB_iff.2 ⟨y0, y1, m0, m1, by omega, by omega⟩
      have l1 := is_any y m ((j : Int) + 1) wr hT3
      rw [hv] at l1
      go_wp2_with fail
      refine l1.mono ?_
      rintro e w5 ⟨rfl, hb5⟩
      go_wp2_with fail
      exact ⟨⟨j + 1, by go_num, by omega, hbr.trans (hb5.mono hbr.size)⟩, by simp [intOf]; omega⟩
    · obtain rfl : j = K := by omega
      have hBr : Below w.heap.size w wr := hBW.trans (hbr.mono hBW.size)
      have hk := HK.out
      unfold came at hk
      rw [if_pos hm] at hk
      have hkn : ¬ (j : Int) < j := by omega
      have ways : (1 ≤ (j : Int) ∧ (j : Int) ≤ 28 ∧ stop = j) ∨ (28 < (j : Int) ∧ stop = j) ∨ (28 ≤ (j : Int) ∧ (j : Int) = Civ.dim y m ∧ (stop < 1 ∨ 28 < stop) ∧ ¬ (j : Int) = stop) := by
        split at hk <;> omega
      clear hk HK
      rcases ways with ⟨k1, k2, rfl⟩ | ⟨k1, rfl⟩ | ⟨k1, k2, k3, k4⟩
      · go_wp2_with fail
        go_ret
        exact ⟨rfl, hBr⟩
      · go_wp2_with fail
        go_ret
        exact ⟨rfl, hBr⟩
      · have hv : Civ.vldB y m ((j : Int) + 1) = false := by unfold Civ.vldB; rw [decide_eq_false]; omega
        have l1 := is_any y m ((j : Int) + 1) wr hT3
        rw [hv] at l1
        have k5 := hide3 k2
        have k6 : ((j : Int) == stop) = false := by simpa using k4
        clear k2 hv k4
        rcases k3 with k3 | k3
        · have k7 : decide (1 ≤ stop) = false := by simpa using k3
          go_wp2_with fail
          refine l1.mono ?_
          rintro e w5 ⟨rfl, hb5⟩
          go_wp2_with fail
          go_ret
          exact ⟨rfl, hBr.trans (hb5.mono hBr.size)⟩
        · have k7 : decide (stop ≤ 28) = false := by simpa using k3
          have k8 : 1 ≤ stop := by omega
          go_wp2_with fail
          refine l1.mono ?_
          rintro e w5 ⟨rfl, hb5⟩
          go_wp2_with fail
          go_ret
          exact ⟨rfl, hBr.trans (hb5.mono hBr.size)⟩
set_option maxRecDepth 100000 in
set_option maxHeartbeats 4000000 in
theorem months_no (y m stop : Int) (w : World) (hT : LenIn w) (hm : Civ.monB y m = false) :
    Calls Tryd.prog 5 #[.int .i64 y, .int .i64 m, .int .i64 stop] w fun e w' => e = .returned (.bool true) ∧ Below w.heap.size w w' := by
  have hT0 := hT.alloc (.cells #[.int .i64 stop] 3)
  have hc : came y m stop = 0 := by unfold came; rw [if_neg (by simp [hm])]
  have ways : y < 1970 ∨ (1970 ≤ y ∧ 2200 < y) ∨ (1970 ≤ y ∧ y ≤ 2200 ∧ m < 1) ∨ (1970 ≤ y ∧ y ≤ 2200 ∧ 1 ≤ m ∧ 12 < m) := by
    unfold Civ.monB at hm; simp at hm; omega
  clear hm
  go_enter Tryd.func5, Tryd.ntmps5
  go_wp2_with fail
  refine (known_any _ hT0).mono ?_
  rintro e w1 ⟨rfl, hb1⟩
  have hs1 := hb1.size
  rw [World.size_alloc] at hs1
  have hcs : w1.cell? ⟨w.heap.size, 0, none⟩ = some (.int .i64 stop) := by rw [hb1.cell (by simp)]; simp
  have hT1 : LenIn w1 := hT0.below hT0.pos hb1
  have hBw : Below w.heap.size w w1 := ((Below.refl _ w).alloc (Nat.le_refl _) _).trans (hb1.mono (by simp))
  go_wp2_with fail
  refine (month_any y m _).mono ?_
  rintro e w2 ⟨rfl, rfl⟩
  rw [World.size_alloc]
  have hst := MoSt.start w1 y m
  go_wp2_with fail
  refine (month1_any w1 w1.heap.size w1.heap.size w.heap.size (w1.heap.size + 1) (w1.heap.size + 1 + 1) y m stop _ hst (Nat.le_refl _) (by omega) hcs (Nat.le_refl _) (by omega) (by omega) hT1).mono ?_
  rintro e W2 ⟨⟨v0, rfl⟩, st⟩
  clear hst
  rw [hc] at st
  obtain ⟨⟨v, hv, hrow⟩, _, _, bel⟩ := st
  have hBW : Below w.heap.size w W2 := hBw.trans (bel.mono hBw.size)
  obtain ⟨a, cap, rfl⟩ : ∃ a cap, v = .slice a 0 cap := by
    rcases hrow.2 with ⟨rfl, _⟩ | ⟨g, cap, cur, rfl, _⟩
    · exact ⟨_, _, rfl⟩
    · exact ⟨_, _, rfl⟩
  have hcl := hv.cell
  clear hrow hv bel hc hT0 hb1
  rcases ways with q | ⟨q1, q⟩ | ⟨q1, q2, q⟩ | ⟨q1, q2, q3, q⟩
  · have d1 : decide (1970 ≤ y) = false := by simpa using q
    go_wp2_with fail
    go_ret
    exact ⟨rfl, hBW⟩
  · have d1 : decide (y ≤ 2200) = false := by simpa using q
    go_wp2_with fail
    go_ret
    exact ⟨rfl, hBW⟩
  · have d1 : decide (1 ≤ m) = false := by simpa using q
    go_wp2_with fail
    go_ret
    exact ⟨rfl, hBW⟩
  · have d1 : decide (m ≤ 12) = false := by simpa using q
    go_wp2_with fail
    go_ret
    exact ⟨rfl, hBW⟩
theorem months_walk (y m stop : Int) (w : World) (hT : LenIn w) :
    Calls Tryd.prog 5 #[.int .i64 y, .int .i64 m, .int .i64 stop] w fun e w' => e = .returned (.bool true) ∧ Below w.heap.size w w' := by
  cases hm : Civ.monB y m
  · exact months_no y m stop w hT hm
  · exact months_yes y m stop w hT hm
end Go.Proofs.YtgogbbhbkckfgaaDoor
