/- The contract of the reference's Print. -/
import Derived.Test.YtgogbbhbkckfgaaDoorR6
import Derived.Test.YtgogbbhbkckfgaaDoorR5
import Derived.Test.YtgogbbhbkckfgaaDoorP2
namespace Go.Proofs.YtgogbbhbkckfgaaDoor
open Go.RowKit
def padT (n : Nat) (k : Int) : List UInt8 := if k = 2 then Civ.d2 n else Civ.d4 n
def PadOk (n : Nat) (k : Int) : Prop := k = 2 ∧ n < 100 ∨ k = 4 ∧ 1000 ≤ n ∧ n < 10000
theorem pad_any (n : Nat) (k : Int) (h : PadOk n k) (w : World) :
    Calls Tryd.prog 36 #[.int .i64 n, .int .i64 k] w fun e w' => e = .returned (.string ⟨(padT n k).toArray⟩) ∧ Below w.heap.size w w' := by
  rcases h with ⟨rfl, h⟩ | ⟨rfl, h0, h⟩
  · exact pad2_any n w h
  · exact pad4_any n w h0 h
theorem padT_4 (n : Nat) : padT n 4 = Civ.d4 n := rfl
theorem padT_2 (n : Nat) : padT n 2 = Civ.d2 n := rfl
def PS (w w' : World) : Prop := Below w.heap.size w w' ∧ w.heap.size < w'.heap.size
theorem sx_keep {w wA wB : World} {c0 c1 c2 c3 c4 c5 : Value} (hb : Below wA.heap.size wA wB)
    (h : PS w wA ∧ wA.cell? ⟨w.heap.size, 0, none⟩ = some c0 ∧ wA.cell? ⟨w.heap.size, 1, none⟩ = some c1 ∧ wA.cell? ⟨w.heap.size, 2, none⟩ = some c2 ∧ wA.cell? ⟨w.heap.size, 3, none⟩ = some c3 ∧ wA.cell? ⟨w.heap.size, 4, none⟩ = some c4 ∧ wA.cell? ⟨w.heap.size, 5, none⟩ = some c5) :
    PS w wB ∧ wB.cell? ⟨w.heap.size, 0, none⟩ = some c0 ∧ wB.cell? ⟨w.heap.size, 1, none⟩ = some c1 ∧ wB.cell? ⟨w.heap.size, 2, none⟩ = some c2 ∧ wB.cell? ⟨w.heap.size, 3, none⟩ = some c3 ∧ wB.cell? ⟨w.heap.size, 4, none⟩ = some c4 ∧ wB.cell? ⟨w.heap.size, 5, none⟩ = some c5 := by
  obtain ⟨⟨b, z⟩, k0, k1, k2, k3, k4, k5⟩ := h
  have e : ∀ j, wB.cell? ⟨w.heap.size, j, none⟩ = wA.cell? ⟨w.heap.size, j, none⟩ := fun j => hb.cell (p := ⟨w.heap.size, j, none⟩) z
  exact ⟨⟨b.trans (hb.mono (by omega)), Nat.lt_of_lt_of_le z hb.size⟩, (e 0).trans k0, (e 1).trans k1, (e 2).trans k2, (e 3).trans k3, (e 4).trans k4, (e 5).trans k5⟩
theorem sx_drew {w wA : World} {c0 c1 c2 c3 c4 c5 : Value}
    (h : PS w wA ∧ wA.cell? ⟨w.heap.size, 0, none⟩ = some c0 ∧ wA.cell? ⟨w.heap.size, 1, none⟩ = some c1 ∧ wA.cell? ⟨w.heap.size, 2, none⟩ = some c2 ∧ wA.cell? ⟨w.heap.size, 3, none⟩ = some c3 ∧ wA.cell? ⟨w.heap.size, 4, none⟩ = some c4 ∧ wA.cell? ⟨w.heap.size, 5, none⟩ = some c5) :
    PS w wA.drew ∧ wA.drew.cell? ⟨w.heap.size, 0, none⟩ = some c0 ∧ wA.drew.cell? ⟨w.heap.size, 1, none⟩ = some c1 ∧ wA.drew.cell? ⟨w.heap.size, 2, none⟩ = some c2 ∧ wA.drew.cell? ⟨w.heap.size, 3, none⟩ = some c3 ∧ wA.drew.cell? ⟨w.heap.size, 4, none⟩ = some c4 ∧ wA.drew.cell? ⟨w.heap.size, 5, none⟩ = some c5 :=
  sx_keep ((Below.refl _ wA).drew) h
set_option maxRecDepth 100000 in
set_option maxHeartbeats 40000000 in
theorem rPrint_yes (y m d h mi s : Nat) (w : World) (hv : Civ.vldB y m d = true) (ht : Civ.timB h mi s = true) :
    Calls Tryd.prog 16 #[.agg #[.int .i64 y, .int .i64 m, .int .i64 d, .int .i64 h, .int .i64 mi, .int .i64 s]] w fun e w' => e = .returned (.string ⟨(Civ.txt y m d h mi s).toArray⟩) ∧ Below w.heap.size w w' := by
  obtain ⟨v0, v1, v2, v3, v4, v5⟩ := Civ.vldB_iff.1 hv
  have v6 := (Civ.dim_bd y m).2
  obtain ⟨a0, a1, a2, a3, a4, a5⟩ := Civ.timB_iff.1 ht
  have o1 : PadOk y 4 := .inr (by omega)
  have o2 : PadOk m 2 := .inl (by omega)
  have o3 : PadOk d 2 := .inl (by omega)
  have o4 : PadOk h 2 := .inl (by omega)
  have o5 : PadOk mi 2 := .inl (by omega)
  have o6 : PadOk s 2 := .inl (by omega)
  have hI := fun w => rMom_any y m d h mi s w
  rw [hv, ht] at hI
  clear hv ht v0 v1 v2 v3 v4 v5 v6 a0 a1 a2 a3 a4 a5
  go_enter Tryd.func16, Tryd.ntmps16
  go_wp2_with fail
  refine (hI _).mono ?_
  rintro e w2 ⟨rfl, hb1⟩
  have hz1 := hb1.size
  rw [World.size_alloc] at hz1
  have q0 : w2.cell? ⟨w.heap.size, 0, none⟩ = some (.int .i64 y) := by rw [hb1.cell (by simp)]; simp
  have q1 : w2.cell? ⟨w.heap.size, 1, none⟩ = some (.int .i64 m) := by rw [hb1.cell (by simp)]; simp
  have q2 : w2.cell? ⟨w.heap.size, 2, none⟩ = some (.int .i64 d) := by rw [hb1.cell (by simp)]; simp
  have q3 : w2.cell? ⟨w.heap.size, 3, none⟩ = some (.int .i64 h) := by rw [hb1.cell (by simp)]; simp
  have q4 : w2.cell? ⟨w.heap.size, 4, none⟩ = some (.int .i64 mi) := by rw [hb1.cell (by simp)]; simp
  have q5 : w2.cell? ⟨w.heap.size, 5, none⟩ = some (.int .i64 s) := by rw [hb1.cell (by simp)]; simp
  have hp : PS w w2 := ⟨((Below.refl _ w).alloc (Nat.le_refl _) _).trans (hb1.mono (by simp)), by omega⟩
  clear hb1 hz1 hI
  go_wp2_with fail
  have r1 := q1_run y
  have r2 := q2_run y m
  have r3 := q3_run y m
  have r4 := q4_run y m d
  have r5 := q5_run _ (tDate_len y m d)
  have r6 := q6_run _ (tDate_len y m d) h
  have r7 := q7_run _ (tDate_len y m d) h
  have r8 := q8_run _ (tDate_len y m d) h mi
  have r9 := q9_run _ (tDate_len y m d) h mi
  have r10 := q10_run y m d h mi s
  rw [← padT_4 y, ← padT_2 m] at r2 r3
  rw [← padT_4 y] at r1
  rw [← padT_4 y, ← padT_2 m, ← padT_2 d] at r4
  rw [← padT_2 h] at r6 r7
  rw [← padT_2 h, ← padT_2 mi] at r8 r9
  rw [← padT_2 h, ← padT_2 mi, ← padT_2 s] at r10
  go_region_held3 (fun w' => PS w w' ∧ w'.cell? ⟨w.heap.size, 0, none⟩ = some (.int .i64 y) ∧ w'.cell? ⟨w.heap.size, 1, none⟩ = some (.int .i64 m) ∧ w'.cell? ⟨w.heap.size, 2, none⟩ = some (.int .i64 d) ∧ w'.cell? ⟨w.heap.size, 3, none⟩ = some (.int .i64 h) ∧ w'.cell? ⟨w.heap.size, 4, none⟩ = some (.int .i64 mi) ∧ w'.cell? ⟨w.heap.size, 5, none⟩ = some (.int .i64 s))
    (first
      | assumption
      | exact sx_keep hb3 (by first | assumption | exact sx_drew (by assumption) | (go_split_ands; refine ⟨?_, ?_, ?_, ?_, ?_, ?_, ?_⟩ <;> assumption))
      | exact sx_drew (by first | assumption | (go_split_ands; refine ⟨?_, ?_, ?_, ?_, ?_, ?_, ?_⟩ <;> assumption))
      | (go_split_ands; refine ⟨?_, ?_, ?_, ?_, ?_, ?_, ?_⟩ <;> assumption)
      | (simp only [World.cell?_drew]; assumption))
    (first
      | (go_at_call 36; refine (pad_any _ _ (by assumption) _).mono ?_; rintro e w3 ⟨rfl, hb3⟩))
  go_split_ands
  have hps : PS w w3 := by assumption
  go_wp2_with fail
  go_ret
  exact ⟨rfl, hps.1⟩
set_option maxRecDepth 100000 in
set_option maxHeartbeats 1000000 in
theorem rPrint_no (y m d h mi s : Int) (w : World) (hv : Civ.vldB y m d = false ∨ Civ.timB h mi s = false) :
    Calls Tryd.prog 16 #[momV y m d h mi s] w fun e w' => e = .returned (.string ⟨#[]⟩) ∧ Below w.heap.size w w' := by
  have hI := fun w => rMom_any y m d h mi s w
  have hf : (Civ.vldB y m d && Civ.timB h mi s) = false := by rcases hv with h | h <;> rw [h] <;> simp
  rw [hf] at hI
  clear hv hf
  go_enter Tryd.func16, Tryd.ntmps16
  go_wp2_with fail
  refine (hI _).mono ?_
  rintro e w1 ⟨rfl, hb1⟩
  go_wp2_with fail
  go_ret
  exact ⟨rfl, ((Below.refl _ w).alloc (Nat.le_refl _) _).trans (hb1.mono (by simp))⟩
set_option maxRecDepth 100000 in
set_option maxHeartbeats 1000000 in
theorem print_no (y m d h mi s : Int) (w : World) (hT : LenIn w) (hv : Civ.vldB y m d = false ∨ Civ.timB h mi s = false) :
    Calls Tryd.prog 15 #[momV y m d h mi s] w fun e w' => e = .returned (.string ⟨#[]⟩) ∧ Below w.heap.size w w' := by
  have hT1 := hT.alloc (.cells #[.int .i64 y, .int .i64 m, .int .i64 d, .int .i64 h, .int .i64 mi, .int .i64 s] 25)
  cases hv' : Civ.vldB y m d
  · clear hv
    go_enter Tryd.func15, Tryd.ntmps15
    go_wp2_with fail
    refine (is_any y m d _ hT1).mono ?_
    rintro e w1 ⟨rfl, hb1⟩
    go_wp2_with fail
    go_ret
    exact ⟨rfl, ((Below.refl _ w).alloc (Nat.le_refl _) _).trans (hb1.mono (by simp))⟩
  · have ht : Civ.timB h mi s = false := by
      rcases hv with h | h
      · rw [hv'] at h; cases h
      · exact h
    clear hv
    go_enter Tryd.func15, Tryd.ntmps15
    go_wp2_with fail
    refine (is_any y m d _ hT1).mono ?_
    rintro e w1 ⟨rfl, hb1⟩
    have hz1 := hb1.size
    rw [World.size_alloc] at hz1
    have k0 : w1.cell? ⟨w.heap.size, 0, none⟩ = some (.int .i64 y) := by rw [hb1.cell (by simp)]; simp
    have k1 : w1.cell? ⟨w.heap.size, 1, none⟩ = some (.int .i64 m) := by rw [hb1.cell (by simp)]; simp
    have k2 : w1.cell? ⟨w.heap.size, 2, none⟩ = some (.int .i64 d) := by rw [hb1.cell (by simp)]; simp
    have k3 : w1.cell? ⟨w.heap.size, 3, none⟩ = some (.int .i64 h) := by rw [hb1.cell (by simp)]; simp
    have k4 : w1.cell? ⟨w.heap.size, 4, none⟩ = some (.int .i64 mi) := by rw [hb1.cell (by simp)]; simp
    have k5 : w1.cell? ⟨w.heap.size, 5, none⟩ = some (.int .i64 s) := by rw [hb1.cell (by simp)]; simp
    go_wp2_with fail
    refine (isTime_any y m d h mi s _).mono ?_
    rintro e w2 ⟨rfl, hb2⟩
    go_wp2_with fail
    go_ret
    exact ⟨rfl, ((Below.refl _ w).alloc (Nat.le_refl _) _).trans ((hb1.mono (by simp)).trans (hb2.mono (by omega)))⟩
end Go.Proofs.YtgogbbhbkckfgaaDoor
