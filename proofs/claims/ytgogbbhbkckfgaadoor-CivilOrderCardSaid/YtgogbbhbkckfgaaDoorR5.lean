/- Contracts of the reference's IsMoment, Unix and Moment. -/
import Derived.Test.YtgogbbhbkckfgaaDoorR4
import Derived.Test.YtgogbbhbkckfgaaDoorU1
namespace Go.Proofs.YtgogbbhbkckfgaaDoor
open Go.RowKit
set_option maxRecDepth 100000 in
set_option maxHeartbeats 2000000 in
theorem rMom_any (y m d h mi s : Int) (w : World) :
    Calls Tryd.prog 35 #[momV y m d h mi s] w fun e w' => e = .returned (.bool (Civ.vldB y m d && Civ.timB h mi s)) ∧ Below w.heap.size w w' := by
  have hI := fun w => rIs_any y m d w
  cases hv : Civ.vldB y m d
  · rw [hv] at hI
    go_enter Tryd.func35, Tryd.ntmps35
    go_wp2_with fail
    refine (hI _).mono ?_
    rintro e w1 ⟨rfl, hb1⟩
    go_wp2_with fail
    go_ret
    exact ⟨rfl, ((Below.refl _ w).alloc (Nat.le_refl _) _).trans (hb1.mono (by simp))⟩
  · rw [hv] at hI
    go_enter Tryd.func35, Tryd.ntmps35
    go_wp2_with fail
    refine (hI _).mono ?_
    rintro e w1 ⟨rfl, hb1⟩
    have k3 : w1.cell? ⟨w.heap.size, 3, none⟩ = some (.int .i64 h) := by rw [hb1.cell (by simp)]; simp
    have k4 : w1.cell? ⟨w.heap.size, 4, none⟩ = some (.int .i64 mi) := by rw [hb1.cell (by simp)]; simp
    have k5 : w1.cell? ⟨w.heap.size, 5, none⟩ = some (.int .i64 s) := by rw [hb1.cell (by simp)]; simp
    have hB : Below w.heap.size w w1 := ((Below.refl _ w).alloc (Nat.le_refl _) _).trans (hb1.mono (by simp))
    clear hb1 hI hv
    go_wp2
    all_goals go_ret
    all_goals refine ⟨ret_bool ?_, hB⟩
    all_goals unfold Civ.timB
    all_goals clear k3 k4 k5 hB
    all_goals (rw [Bool.eq_iff_iff]; simp at *; omega)
set_option maxRecDepth 100000 in
set_option maxHeartbeats 1000000 in
theorem rUnix_yes (y m d h mi s : Int) (w : World) (hv : Civ.vldB y m d = true) (ht : Civ.timB h mi s = true) :
    Calls Tryd.prog 20 #[momV y m d h mi s] w fun e w' => e = .returned (.tuple #[.int .i64 (Civ.sec y m d h mi s), .int .i64 0]) ∧ Below w.heap.size w w' := by
  obtain ⟨n0, n1, _, _⟩ := Civ.num_bd hv
  obtain ⟨a0, a1, a2, a3, a4, a5⟩ := Civ.timB_iff.1 ht
  have hsec : Hid (Civ.sec y m d h mi s = Civ.num y m d * 86400 + (h * 3600 + mi * 60 + s)) := rfl
  have hI := fun w => rMom_any y m d h mi s w
  rw [hv, ht] at hI
  have hD := fun w => rDays_yes y m d w hv
  obtain ⟨n, hn⟩ : ∃ n, Civ.num y m d = n := ⟨_, rfl⟩
  rw [hn] at hD hsec n0 n1
  clear hn hv ht
  go_enter Tryd.func20, Tryd.ntmps20
  go_wp2_with fail
  refine (hI _).mono ?_
  rintro e w1 ⟨rfl, hb1⟩
  have hz1 := hb1.size
  rw [World.size_alloc] at hz1
  have k0 : w1.cell? ⟨w.heap.size, 0, none⟩ = some (.int .i64 y) := by rw [hb1.cell (by simp)]; simp
  have k1 : w1.cell? ⟨w.heap.size, 1, none⟩ = some (.int .i64 m) := by rw [hb1.cell (by simp)]; simp
  have k2 : w1.cell? ⟨w.heap.size, 2, none⟩ = some (.int .i64 d) := by rw [hb1.cell (by simp)]; simp
  have k3 : w1.cell? ⟨w.heap.size, 3, none⟩ = some (.int .i64 h) := by rw [hb1.cell (by simp)]; simp
  have k4 : w1.cell? ⟨w.heap.size, 4, none⟩ = some (.int .i64 mi) := by rw [hb1.cell (by simp)]; simp
  have k5 : w1.cell? ⟨w.heap.size, 5, none⟩ = some (.int .i64 s) := by rw [hb1.cell (by simp)]; simp
  go_wp2_with fail
  refine (hD _).mono ?_
  rintro e w2 ⟨rfl, hb2⟩
  have q3 : w2.cell? ⟨w.heap.size, 3, none⟩ = some (.int .i64 h) := by rw [hb2.cell (by simp; omega)]; exact k3
  have q4 : w2.cell? ⟨w.heap.size, 4, none⟩ = some (.int .i64 mi) := by rw [hb2.cell (by simp; omega)]; exact k4
  have q5 : w2.cell? ⟨w.heap.size, 5, none⟩ = some (.int .i64 s) := by rw [hb2.cell (by simp; omega)]; exact k5
  go_wp2_with fail
  go_ret2
  refine ⟨?_, ((Below.refl _ w).alloc (Nat.le_refl _) _).trans ((hb1.mono (by simp)).trans (hb2.mono (by omega)))⟩
  rw [hsec.out]
  rfl
set_option maxRecDepth 100000 in
set_option maxHeartbeats 1000000 in
theorem rUnix_no (y m d h mi s : Int) (w : World) (hv : Civ.vldB y m d = false ∨ Civ.timB h mi s = false) :
    Calls Tryd.prog 20 #[momV y m d h mi s] w fun e w' => e = .returned (.tuple #[.int .i64 0, .int .i64 20]) ∧ Below w.heap.size w w' := by
  have hI := fun w => rMom_any y m d h mi s w
  have hf : (Civ.vldB y m d && Civ.timB h mi s) = false := by rcases hv with h | h <;> rw [h] <;> simp
  rw [hf] at hI
  clear hv hf
  go_enter Tryd.func20, Tryd.ntmps20
  go_wp2_with fail
  refine (hI _).mono ?_
  rintro e w1 ⟨rfl, hb1⟩
  go_wp2_with fail
  go_ret2
  exact ⟨rfl, ((Below.refl _ w).alloc (Nat.le_refl _) _).trans (hb1.mono (by simp))⟩
set_option maxRecDepth 100000 in
set_option maxHeartbeats 1000000 in
theorem rMoment_no (t : Int) (w : World) (h : t < 0 ∨ 7289654400 ≤ t) (hi : t ≤ 9223372036854775807) :
    Calls Tryd.prog 22 #[.int .i64 t] w fun e w' => e = .returned (.tuple #[momV 0 0 0 0 0 0, .int .i64 20]) ∧ Below w.heap.size w w' := by
  by_cases hn : t < 0
  · go_enter Tryd.func22, Tryd.ntmps22
    go_wp2_with fail
    exact bodyPost_ret (v := .tuple #[momV 0 0 0 0 0 0, .int .i64 20]) (by simp [results, Tryd.results22, go_sem]) rfl ⟨rfl, (Below.refl _ _).alloc (Nat.le_refl _) _⟩
  · have h0 : 0 ≤ t := by omega
    have hg : 7289654400 ≤ t := by omega
    have hn' : decide (t < 0) = false := by simpa using h0
    clear h
    by_cases h2 : 200000 < t / 86400
    · go_enter Tryd.func22, Tryd.ntmps22
      go_wp2_with fail
      exact bodyPost_ret (v := .tuple #[momV 0 0 0 0 0 0, .int .i64 20]) (by simp [results, Tryd.results22, go_sem]) rfl ⟨rfl, (Below.refl _ _).alloc (Nat.le_refl _) _⟩
    · have h3 : decide (200000 < t / 86400) = false := by simpa using h2
      have l3 := fun w => rDate_no (t / 86400) w (.inr (by omega)) (by omega)
      go_enter Tryd.func22, Tryd.ntmps22
      go_wp2_with fail
      refine (l3 _).mono ?_
      rintro e w1 ⟨rfl, hb1⟩
      have hz1 := hb1.size
      simp at hz1
      have hz2 : w.heap.size < w1.heap.size := by omega
      obtain ⟨hc, hf⟩ : (∀ b o, b < w.heap.size + 1 → w1.cell? ⟨b, o, none⟩ = (w.alloc (.cells #[.int .i64 0, .int .i64 0, .int .i64 0, .int .i64 0, .int .i64 0, .int .i64 0] 25)).cell? ⟨b, o, none⟩) ∧ (∀ b o, b < w.heap.size + 1 → w1.frozen? ⟨b, o, none⟩ = (w.alloc (.cells #[.int .i64 0, .int .i64 0, .int .i64 0, .int .i64 0, .int .i64 0, .int .i64 0] 25)).frozen? ⟨b, o, none⟩) :=
        ⟨fun b o h => hb1.cell (p := ⟨b, o, none⟩) (by simpa using h), fun b o h => hb1.frozen (p := ⟨b, o, none⟩) (by simpa using h)⟩
      go_wp2_with fail
      refine bodyPost_ret (v := .tuple #[momV 0 0 0 0 0 0, .int .i64 20]) (by simp [results, Tryd.results22, go_sem, hc, hz2]) rfl ⟨rfl, ?_⟩
      have hB := ((Below.refl _ w).alloc (Nat.le_refl _) (.cells #[.int .i64 0, .int .i64 0, .int .i64 0, .int .i64 0, .int .i64 0, .int .i64 0] 25)).trans (hb1.mono (by simp))
      exact ((((((hB.setCell (p := ⟨w.heap.size, 0, none⟩) (by simp) _).setCell (p := ⟨w.heap.size, 1, none⟩) (by simp) _).setCell (p := ⟨w.heap.size, 2, none⟩) (by simp) _).setCell (p := ⟨w.heap.size, 3, none⟩) (by simp) _).setCell (p := ⟨w.heap.size, 4, none⟩) (by simp) _).setCell (p := ⟨w.heap.size, 5, none⟩) (by simp) _).alloc (by simp; omega) _
set_option maxRecDepth 100000 in
set_option maxHeartbeats 1000000 in
theorem rMoment_yes (t : Int) (w : World) (h0 : 0 ≤ t) (h1 : t < 7289654400) :
    Calls Tryd.prog 22 #[.int .i64 t] w fun e w' => e = .returned (.tuple #[momV (Civ.dY (t / 86400)) (Civ.dM (t / 86400)) (Civ.dD (t / 86400)) (mH t) (mMi t) (mS t), .int .i64 0]) ∧ Below w.heap.size w w' := by
  have l3 := fun w => rDate_yes (t / 86400) w (by omega) (by omega)
  obtain ⟨y, hy⟩ : ∃ y, Civ.dY (t / 86400) = y := ⟨_, rfl⟩
  obtain ⟨m, hm⟩ : ∃ m, Civ.dM (t / 86400) = m := ⟨_, rfl⟩
  obtain ⟨d, hd⟩ : ∃ d, Civ.dD (t / 86400) = d := ⟨_, rfl⟩
  rw [hy, hm, hd] at l3 ⊢
  clear hy hm hd
  have hg : decide (t < 0) = false := by simpa using h0
  have hg' : decide (200000 < t / 86400) = false := by simp; omega
  go_enter Tryd.func22, Tryd.ntmps22
  go_wp2_with fail
  refine (l3 _).mono ?_
  rintro e w1 ⟨rfl, hb1⟩
  have hz1 := hb1.size
  simp at hz1
  have hz2 : w.heap.size < w1.heap.size := by omega
  obtain ⟨hc, hf⟩ : (∀ b o, b < w.heap.size + 1 → w1.cell? ⟨b, o, none⟩ = (w.alloc (.cells #[.int .i64 0, .int .i64 0, .int .i64 0, .int .i64 0, .int .i64 0, .int .i64 0] 25)).cell? ⟨b, o, none⟩) ∧ (∀ b o, b < w.heap.size + 1 → w1.frozen? ⟨b, o, none⟩ = (w.alloc (.cells #[.int .i64 0, .int .i64 0, .int .i64 0, .int .i64 0, .int .i64 0, .int .i64 0] 25)).frozen? ⟨b, o, none⟩) :=
    ⟨fun b o h => hb1.cell (p := ⟨b, o, none⟩) (by simpa using h), fun b o h => hb1.frozen (p := ⟨b, o, none⟩) (by simpa using h)⟩
  go_wp2_with fail
  refine bodyPost_ret (v := .tuple #[momV y m d (mH t) (mMi t) (mS t), .int .i64 0]) (by simp [results, Tryd.results22, go_sem, hc, hz2, mH, mMi, mS]) rfl ⟨rfl, ?_⟩
  have hB := ((Below.refl _ w).alloc (Nat.le_refl _) (.cells #[.int .i64 0, .int .i64 0, .int .i64 0, .int .i64 0, .int .i64 0, .int .i64 0] 25)).trans (hb1.mono (by simp))
  exact ((((((hB.setCell (p := ⟨w.heap.size, 0, none⟩) (by simp) _).setCell (p := ⟨w.heap.size, 1, none⟩) (by simp) _).setCell (p := ⟨w.heap.size, 2, none⟩) (by simp) _).setCell (p := ⟨w.heap.size, 3, none⟩) (by simp) _).setCell (p := ⟨w.heap.size, 4, none⟩) (by simp) _).setCell (p := ⟨w.heap.size, 5, none⟩) (by simp) _).alloc (by simp; omega) _
end Go.Proofs.YtgogbbhbkckfgaaDoor
