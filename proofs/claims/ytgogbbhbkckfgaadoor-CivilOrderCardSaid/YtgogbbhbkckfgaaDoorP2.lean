/- The contract of package civil's Print. -/
import Derived.Test.YtgogbbhbkckfgaaDoorP1
namespace Go.Proofs.YtgogbbhbkckfgaaDoor
open Go.RowKit
theorem add_run (x y : List UInt8) (hx : x.length ≤ 100) (hy : y.length ≤ 100) (W : World) : (Op.stringOp .add ⟨x.toArray⟩ ⟨y.toArray⟩).run Tryd.prog W = .ok (.string ⟨(x ++ y).toArray⟩) W := run_string_add_lists W x y (by omega) (by omega)
theorem d2n (n : Nat) : (Civ.d2 n).length = 2 := rfl
theorem d4n (n : Nat) : (Civ.d4 n).length = 4 := rfl
theorem q1_run (y : Nat) (W : World) : (Op.stringOp .add ⟨(Civ.d4 y).toArray⟩ ⟨#[45]⟩).run Tryd.prog W = .ok (.string ⟨(Civ.d4 y ++ [45]).toArray⟩) W := add_run (Civ.d4 y) [45] (by rw [d4n]; omega) (by simp) W
theorem q2_run (y m : Nat) (W : World) : (Op.stringOp .add ⟨(Civ.d4 y ++ [45]).toArray⟩ ⟨(Civ.d2 m).toArray⟩).run Tryd.prog W = .ok (.string ⟨(Civ.d4 y ++ 45 :: Civ.d2 m).toArray⟩) W := by
  have := add_run (Civ.d4 y ++ [45]) (Civ.d2 m) (by simp [d4n]) (by rw [d2n]; omega) W
  simpa only [List.append_assoc, List.cons_append, List.nil_append] using this
theorem q3_run (y m : Nat) (W : World) : (Op.stringOp .add ⟨(Civ.d4 y ++ 45 :: Civ.d2 m).toArray⟩ ⟨#[45]⟩).run Tryd.prog W = .ok (.string ⟨(Civ.d4 y ++ 45 :: (Civ.d2 m ++ [45])).toArray⟩) W := by
  have := add_run (Civ.d4 y ++ 45 :: Civ.d2 m) [45] (by simp [d4n, d2n]) (by simp) W
  simpa only [List.append_assoc, List.cons_append, List.nil_append] using this
/-- The date's part of the text. -/
def tDate (y m d : Nat) : List UInt8 := Civ.d4 y ++ 45 :: (Civ.d2 m ++ 45 :: Civ.d2 d)
theorem tDate_len (y m d : Nat) : (tDate y m d).length = 10 := by simp [tDate, d4n, d2n]
theorem q4_run (y m d : Nat) (W : World) : (Op.stringOp .add ⟨(Civ.d4 y ++ 45 :: (Civ.d2 m ++ [45])).toArray⟩ ⟨(Civ.d2 d).toArray⟩).run Tryd.prog W = .ok (.string ⟨(tDate y m d).toArray⟩) W := by
  have := add_run (Civ.d4 y ++ 45 :: (Civ.d2 m ++ [45])) (Civ.d2 d) (by simp [d4n, d2n]) (by rw [d2n]; omega) W
  unfold tDate
  simpa only [List.append_assoc, List.cons_append, List.nil_append] using this
theorem q5_run (L : List UInt8) (hL : L.length = 10) (W : World) : (Op.stringOp .add ⟨L.toArray⟩ ⟨#[32]⟩).run Tryd.prog W = .ok (.string ⟨(L ++ [32]).toArray⟩) W := add_run L [32] (by omega) (by simp) W
theorem q6_run (L : List UInt8) (hL : L.length = 10) (h : Nat) (W : World) : (Op.stringOp .add ⟨(L ++ [32]).toArray⟩ ⟨(Civ.d2 h).toArray⟩).run Tryd.prog W = .ok (.string ⟨(L ++ 32 :: Civ.d2 h).toArray⟩) W := by
  have := add_run (L ++ [32]) (Civ.d2 h) (by simp [hL]) (by rw [d2n]; omega) W
  simpa only [List.append_assoc, List.cons_append, List.nil_append] using this
theorem q7_run (L : List UInt8) (hL : L.length = 10) (h : Nat) (W : World) : (Op.stringOp .add ⟨(L ++ 32 :: Civ.d2 h).toArray⟩ ⟨#[58]⟩).run Tryd.prog W = .ok (.string ⟨(L ++ 32 :: (Civ.d2 h ++ [58])).toArray⟩) W := by
  have := add_run (L ++ 32 :: Civ.d2 h) [58] (by simp [hL, d2n]) (by simp) W
  simpa only [List.append_assoc, List.cons_append, List.nil_append] using this
theorem q8_run (L : List UInt8) (hL : L.length = 10) (h mi : Nat) (W : World) : (Op.stringOp .add ⟨(L ++ 32 :: (Civ.d2 h ++ [58])).toArray⟩ ⟨(Civ.d2 mi).toArray⟩).run Tryd.prog W = .ok (.string ⟨(L ++ 32 :: (Civ.d2 h ++ 58 :: Civ.d2 mi)).toArray⟩) W := by
  have := add_run (L ++ 32 :: (Civ.d2 h ++ [58])) (Civ.d2 mi) (by simp [hL, d2n]) (by rw [d2n]; omega) W
  simpa only [List.append_assoc, List.cons_append, List.nil_append] using this
theorem q9_run (L : List UInt8) (hL : L.length = 10) (h mi : Nat) (W : World) : (Op.stringOp .add ⟨(L ++ 32 :: (Civ.d2 h ++ 58 :: Civ.d2 mi)).toArray⟩ ⟨#[58]⟩).run Tryd.prog W = .ok (.string ⟨(L ++ 32 :: (Civ.d2 h ++ 58 :: (Civ.d2 mi ++ [58]))).toArray⟩) W := by
  have := add_run (L ++ 32 :: (Civ.d2 h ++ 58 :: Civ.d2 mi)) [58] (by simp [hL, d2n]) (by simp) W
  simpa only [List.append_assoc, List.cons_append, List.nil_append] using this
theorem txt_date (y m d h mi s : Nat) : Civ.txt y m d h mi s = tDate y m d ++ 32 :: (Civ.d2 h ++ 58 :: (Civ.d2 mi ++ 58 :: Civ.d2 s)) := by
  unfold Civ.txt tDate
  simp only [List.append_assoc, List.cons_append, List.nil_append]
theorem q10_run (y m d h mi s : Nat) (W : World) : (Op.stringOp .add ⟨(tDate y m d ++ 32 :: (Civ.d2 h ++ 58 :: (Civ.d2 mi ++ [58]))).toArray⟩ ⟨(Civ.d2 s).toArray⟩).run Tryd.prog W = .ok (.string ⟨(Civ.txt y m d h mi s).toArray⟩) W := by
  have := add_run (tDate y m d ++ 32 :: (Civ.d2 h ++ 58 :: (Civ.d2 mi ++ [58]))) (Civ.d2 s) (by simp [tDate_len, d2n]) (by rw [d2n]; omega) W
  rw [txt_date]
  simpa only [List.append_assoc, List.cons_append, List.nil_append] using this
set_option maxRecDepth 100000 in
set_option maxHeartbeats 40000000 in
theorem print_yes (y m d h mi s : Nat) (w : World) (hT : TabP w) (hv : Civ.vldB y m d = true) (ht : Civ.timB h mi s = true) :
    Calls Tryd.prog 15 #[.agg #[.int .i64 y, .int .i64 m, .int .i64 d, .int .i64 h, .int .i64 mi, .int .i64 s]] w fun e w' => e = .returned (.string ⟨(Civ.txt y m d h mi s).toArray⟩) ∧ Below w.heap.size w w' := by
  have hT1 := hT.alloc (.cells #[.int .i64 y, .int .i64 m, .int .i64 d, .int .i64 h, .int .i64 mi, .int .i64 s] 25)
  obtain ⟨v0, v1, v2, v3, v4, v5⟩ := Civ.vldB_iff.1 hv
  have v6 := (Civ.dim_bd y m).2
  obtain ⟨a0, a1, a2, a3, a4, a5⟩ := Civ.timB_iff.1 ht
  have y0 : 1000 ≤ y := by omega
  have y1 : y < 10000 := by omega
  have m1 : m < 100 := by omega
  have d1 : d < 100 := by omega
  have hN : Hid (h < 100 ∧ mi < 100 ∧ s < 100) := by show _ ∧ _; omega
  go_enter Tryd.func15, Tryd.ntmps15
  go_wp2_with fail
  refine (is_any y m d _ hT1.len).mono ?_
  rintro e w1 ⟨rfl, hb1⟩
  have hz1 := hb1.size
  rw [World.size_alloc] at hz1
  have k0 : w1.cell? ⟨w.heap.size, 0, none⟩ = some (.int .i64 y) := by rw [hb1.cell (by simp)]; simp
  have k1 : w1.cell? ⟨w.heap.size, 1, none⟩ = some (.int .i64 m) := by rw [hb1.cell (by simp)]; simp
  have k2 : w1.cell? ⟨w.heap.size, 2, none⟩ = some (.int .i64 d) := by rw [hb1.cell (by simp)]; simp
  have k3 : w1.cell? ⟨w.heap.size, 3, none⟩ = some (.int .i64 h) := by rw [hb1.cell (by simp)]; simp
  have k4 : w1.cell? ⟨w.heap.size, 4, none⟩ = some (.int .i64 mi) := by rw [hb1.cell (by simp)]; simp
  have k5 : w1.cell? ⟨w.heap.size, 5, none⟩ = some (.int .i64 s) := by rw [hb1.cell (by simp)]; simp
  go_wp2_with fail
  refine (isTime_any y m d h mi s _).mono ?_
  rintro e w2 ⟨rfl, hb2⟩
  have hz2 : w.heap.size < w2.heap.size := by have := hb2.size; omega
  have hT2 : TabP w2 := (hT1.below hb1).below hb2
  have hB2 : Below w.heap.size w w2 := ((Below.refl _ w).alloc (Nat.le_refl _) _).trans ((hb1.mono (by simp)).trans (hb2.mono (by omega)))
  have q0 : w2.cell? ⟨w.heap.size, 0, none⟩ = some (.int .i64 y) := by rw [hb2.cell (by simp; omega)]; exact k0
  have q1 : w2.cell? ⟨w.heap.size, 1, none⟩ = some (.int .i64 m) := by rw [hb2.cell (by simp; omega)]; exact k1
  have q2 : w2.cell? ⟨w.heap.size, 2, none⟩ = some (.int .i64 d) := by rw [hb2.cell (by simp; omega)]; exact k2
  have q3 : w2.cell? ⟨w.heap.size, 3, none⟩ = some (.int .i64 h) := by rw [hb2.cell (by simp; omega)]; exact k3
  have q4 : w2.cell? ⟨w.heap.size, 4, none⟩ = some (.int .i64 mi) := by rw [hb2.cell (by simp; omega)]; exact k4
  have q5 : w2.cell? ⟨w.heap.size, 5, none⟩ = some (.int .i64 s) := by rw [hb2.cell (by simp; omega)]; exact k5
  have Hq := hide2 (And.intro q3 (And.intro q4 q5))
  clear k0 k1 k2 k3 k4 k5 hb1 hb2 hT1 hz1 v0 v1 v2 v3 v4 v5 v6 a0 a1 a2 a3 a4 a5 hT q3 q4 q5
  go_wp2_with fail
  clear hv ht
  have r1 := q1_run y
  have r2 := q2_run y m
  have r3 := q3_run y m
  have r4 := q4_run y m d
  go_region_held3 (fun w' => w'.cell? ⟨w.heap.size, 0, none⟩ = some (.int .i64 y) ∧ w'.cell? ⟨w.heap.size, 1, none⟩ = some (.int .i64 m) ∧ w'.cell? ⟨w.heap.size, 2, none⟩ = some (.int .i64 d))
    (first
      | assumption
      | (go_split_ands; refine ⟨?_, ?_, ?_⟩ <;> assumption)
      | (go_split_ands; refine ⟨?_, ?_, ?_⟩ <;> (rw [hb3.cell (by first | exact hz2 | simpa using hz2)]; first | assumption | simpa using q0 | simpa using q1 | simpa using q2))
      | (simp only [World.cell?_drew]; assumption))
    (first
      | (go_at_call 33; refine (itoa4_any _ y0 y1 _ (by first | exact hT2 | exact hT2.drew | exact hT2.drew.drew)).mono ?_; rintro e w3 ⟨rfl, hb3⟩)
      | (go_at_call 34; refine (two_any _ (by assumption) _).mono ?_; rintro e w4 ⟨rfl, rfl⟩))
  go_split_ands
  have hB3 : Below w.heap.size w w4 := hB2.drew.trans (hb3.mono (by have := hB2.size; simpa using this))
  obtain ⟨q3, q4, q5⟩ := Hq.out
  have p3 : w4.cell? ⟨w.heap.size, 3, none⟩ = some (.int .i64 h) := by rw [hb3.cell (by simpa using hz2)]; simpa using q3
  have p4 : w4.cell? ⟨w.heap.size, 4, none⟩ = some (.int .i64 mi) := by rw [hb3.cell (by simpa using hz2)]; simpa using q4
  have p5 : w4.cell? ⟨w.heap.size, 5, none⟩ = some (.int .i64 s) := by rw [hb3.cell (by simpa using hz2)]; simpa using q5
  clear q0 q1 q2 q3 q4 q5 hT2 hB2 hz2 hb3 r1 r2 r3 r4 Hq y0 y1 m1 d1
  obtain ⟨h1, i1, s1⟩ := hN.out
  have r5 := q5_run _ (tDate_len y m d)
  have r6 := q6_run _ (tDate_len y m d) h
  have r7 := q7_run _ (tDate_len y m d) h
  have r8 := q8_run _ (tDate_len y m d) h mi
  have r9 := q9_run _ (tDate_len y m d) h mi
  have r10 := q10_run y m d h mi s
  go_wp2_with fail
  go_region_held3 (fun w' => w'.cell? ⟨w.heap.size, 3, none⟩ = some (.int .i64 h) ∧ w'.cell? ⟨w.heap.size, 4, none⟩ = some (.int .i64 mi) ∧ w'.cell? ⟨w.heap.size, 5, none⟩ = some (.int .i64 s))
    (first
      | assumption
      | (go_split_ands; refine ⟨?_, ?_, ?_⟩ <;> assumption)
      | (simp only [World.cell?_drew]; assumption))
    (first
      | (go_at_call 34; refine (two_any _ (by assumption) _).mono ?_; rintro e w5 ⟨rfl, rfl⟩))
  go_split_ands
  go_wp2_with fail
  go_ret
  exact ⟨rfl, hB3.drew⟩
end Go.Proofs.YtgogbbhbkckfgaaDoor
