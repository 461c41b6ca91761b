/- Contracts of package civil's Unix and Moment. -/
import Derived.Test.YteaaknbininehabDoorT1
namespace Go.Proofs.YteaaknbininehabDoor
open Go.RowKit
abbrev momV (y m d h mi s : Int) : Value := .agg #[.int .i64 y, .int .i64 m, .int .i64 d, .int .i64 h, .int .i64 mi, .int .i64 s]
set_option maxRecDepth 100000 in
set_option maxHeartbeats 1000000 in
theorem unix_yes (y m d h mi s : Int) (w : World) (hT : LenIn w) (hv : Civ.vldB y m d = true) (ht : Civ.timB h mi s = true) :
    Calls Tryd.prog 18 #[momV y m d h mi s] w fun e w' => e = .returned (.tuple #[.int .i64 (Civ.sec y m d h mi s), .int .i64 0]) ∧ Below w.heap.size w w' := by
  have hT1 := hT.alloc (.cells #[.int .i64 y, .int .i64 m, .int .i64 d, .int .i64 h, .int .i64 mi, .int .i64 s] 37)
  obtain ⟨n0, n1, _, _⟩ := Civ.num_bd hv
  obtain ⟨a0, a1, a2, a3, a4, a5⟩ := Civ.timB_iff.1 ht
  have hsec : Hid (Civ.sec y m d h mi s = Civ.num y m d * 86400 + (h * 3600 + mi * 60 + s)) := rfl
  go_enter Tryd.func18, Tryd.ntmps18
  go_wp2_with fail
  refine (days_yes y m d _ hT1 hv).mono ?_
  rintro e w1 ⟨rfl, hb1⟩
  have hz1 := hb1.size
  simp at hz1
  have k0 : w1.cell? ⟨w.heap.size, 0, none⟩ = some (.int .i64 y) := by rw [hb1.cell (by simp)]; simp
  have k1 : w1.cell? ⟨w.heap.size, 1, none⟩ = some (.int .i64 m) := by rw [hb1.cell (by simp)]; simp
  have k2 : w1.cell? ⟨w.heap.size, 2, none⟩ = some (.int .i64 d) := by rw [hb1.cell (by simp)]; simp
  have k3 : w1.cell? ⟨w.heap.size, 3, none⟩ = some (.int .i64 h) := by rw [hb1.cell (by simp)]; simp
  have k4 : w1.cell? ⟨w.heap.size, 4, none⟩ = some (.int .i64 mi) := by rw [hb1.cell (by simp)]; simp
  have k5 : w1.cell? ⟨w.heap.size, 5, none⟩ = some (.int .i64 s) := by rw [hb1.cell (by simp)]; simp
  generalize hn : Civ.num y m d = n at *
  go_wp2_with fail
  refine (isTime_any y m d h mi s _).mono ?_
  rintro e w2 ⟨rfl, hb2⟩
  have q3 : w2.cell? ⟨w.heap.size, 3, none⟩ = some (.int .i64 h) := by rw [hb2.cell (by simp; omega)]; exact k3
  have q4 : w2.cell? ⟨w.heap.size, 4, none⟩ = some (.int .i64 mi) := by rw [hb2.cell (by simp; omega)]; exact k4
  have q5 : w2.cell? ⟨w.heap.size, 5, none⟩ = some (.int .i64 s) := by rw [hb2.cell (by simp; omega)]; exact k5
  go_wp2_with fail
  go_ret2
  refine ⟨?_, ((Below.refl _ w).alloc (Nat.le_refl _) _).trans ((hb1.mono (by simp)).trans (hb2.mono (by omega)))⟩
  rw [hsec.out]
  rfl
set_option maxRecDepth 100000 in
set_option maxHeartbeats 1000000 in
theorem unix_no (y m d h mi s : Int) (w : World) (hT : LenIn w) (hv : Civ.vldB y m d = false ∨ Civ.timB h mi s = false) :
    Calls Tryd.prog 18 #[momV y m d h mi s] w fun e w' => e = .returned (.tuple #[.int .i64 0, .int .i64 20]) ∧ Below w.heap.size w w' := by
  have hT1 := hT.alloc (.cells #[.int .i64 y, .int .i64 m, .int .i64 d, .int .i64 h, .int .i64 mi, .int .i64 s] 37)
  cases hv' : Civ.vldB y m d
  · clear hv
    go_enter Tryd.func18, Tryd.ntmps18
    go_wp2_with fail
    refine (days_no y m d _ hT1 hv').mono ?_
    rintro e w1 ⟨rfl, hb1⟩
    go_wp2_with fail
    go_ret2
    exact ⟨rfl, ((Below.refl _ w).alloc (Nat.le_refl _) _).trans (hb1.mono (by simp))⟩
  · have ht : Civ.timB h mi s = false := by
      rcases hv with h | h
      · rw [hv'] at h; cases h
      · exact h
    clear hv
    go_enter Tryd.func18, Tryd.ntmps18
    go_wp2_with fail
    refine (days_yes y m d _ hT1 hv').mono ?_
    rintro e w1 ⟨rfl, hb1⟩
    have hz1 := hb1.size
    simp at hz1
    have k0 : w1.cell? ⟨w.heap.size, 0, none⟩ = some (.int .i64 y) := by rw [hb1.cell (by simp)]; simp
    have k1 : w1.cell? ⟨w.heap.size, 1, none⟩ = some (.int .i64 m) := by rw [hb1.cell (by simp)]; simp
    have k2 : w1.cell? ⟨w.heap.size, 2, none⟩ = some (.int .i64 d) := by rw [hb1.cell (by simp)]; simp
    have k3 : w1.cell? ⟨w.heap.size, 3, none⟩ = some (.int .i64 h) := by rw [hb1.cell (by simp)]; simp
    have k4 : w1.cell? ⟨w.heap.size, 4, none⟩ = some (.int .i64 mi) := by rw [hb1.cell (by simp)]; simp
    have k5 : w1.cell? ⟨w.heap.size, 5, none⟩ = some (.int .i64 s) := by rw [hb1.cell (by simp)]; simp
    go_wp2_with fail
    refine (isTime_any y m d h mi s _).mono ?_
    rintro e w2 ⟨rfl, hb2⟩
    go_wp2_with fail
    go_ret2
    exact ⟨rfl, ((Below.refl _ w).alloc (Nat.le_refl _) _).trans ((hb1.mono (by simp)).trans (hb2.mono (by omega)))⟩
set_option maxRecDepth 100000 in
set_option maxHeartbeats 1000000 in
theorem moment_no (t : Int) (w : World) (h : t < 0 ∨ 7289654400 ≤ t) :
    Calls Tryd.prog 34 #[.int .i64 t] w fun e w' => e = .returned (.tuple #[momV 0 0 0 0 0 0, .int .i64 20]) ∧ Below w.heap.size w w' := by
  have h2 := fun w => ahead_any 2201 w (by omega) (by omega)
  rw [Civ.dby_2201] at h2
  by_cases hn : t < 0
  · clear h2
    go_enter Tryd.func34, Tryd.ntmps34
    go_wp2_with fail
    exact bodyPost_ret (v := .tuple #[momV 0 0 0 0 0 0, .int .i64 20]) (by simp [results, Tryd.results34, go_sem]) rfl ⟨rfl, (Below.refl _ _).alloc (Nat.le_refl _) _⟩
  · have hg : 7289654400 ≤ t := by omega
    clear h
    go_enter Tryd.func34, Tryd.ntmps34
    go_wp2_with fail
    refine (h2 _).mono ?_
    rintro e w1 ⟨rfl, rfl⟩
    go_wp2_with fail
    exact bodyPost_ret (v := .tuple #[momV 0 0 0 0 0 0, .int .i64 20]) (by simp [results, Tryd.results34, go_sem]) rfl ⟨rfl, (Below.refl _ _).alloc (Nat.le_refl _) _⟩
def mH (t : Int) : Int := t % 86400 / 3600
def mMi (t : Int) : Int := t % 86400 / 60 % 60
def mS (t : Int) : Int := t % 60
set_option maxRecDepth 100000 in
set_option maxHeartbeats 1000000 in
theorem moment_yes (t : Int) (w : World) (hT : LenIn w) (h0 : 0 ≤ t) (h1 : t < 7289654400) :
    Calls Tryd.prog 34 #[.int .i64 t] w fun e w' => e = .returned (.tuple #[momV (Civ.dY (t / 86400)) (Civ.dM (t / 86400)) (Civ.dD (t / 86400)) (mH t) (mMi t) (mS t), .int .i64 0]) ∧ Below w.heap.size w w' := by
  have hT1 := hT.alloc (.cells #[.int .i64 0, .int .i64 0, .int .i64 0, .int .i64 0, .int .i64 0, .int .i64 0] 37)
  have h2 := fun w => ahead_any 2201 w (by omega) (by omega)
  rw [Civ.dby_2201] at h2
  have l3 := fun w hT => date_yes (t / 86400) w hT (by omega) (by omega)
  obtain ⟨y, hy⟩ : ∃ y, Civ.dY (t / 86400) = y := ⟨_, rfl⟩
  obtain ⟨m, hm⟩ : ∃ m, Civ.dM (t / 86400) = m := ⟨_, rfl⟩
  obtain ⟨d, hd⟩ : ∃ d, Civ.dD (t / 86400) = d := ⟨_, rfl⟩
  rw [hy, hm, hd] at l3 ⊢
  clear hy hm hd
  have hg : decide (t < 0) = false := by simpa using h0
  have hg' : decide (7289654400 ≤ t) = false := by simpa using h1
  go_enter Tryd.func34, Tryd.ntmps34
  go_wp2_with fail
  refine (h2 _).mono ?_
  rintro e w1 ⟨rfl, rfl⟩
  go_wp2_with fail
  refine (l3 _ hT1).mono ?_
  rintro e w1 ⟨rfl, hb1⟩
  have hz1 := hb1.size
  simp at hz1
  have hz2 : w.heap.size < w1.heap.size := by omega
  obtain ⟨hc, hf⟩ : (∀ b o, b < w.heap.size + 1 → w1.cell? ⟨b, o, none⟩ = (w.alloc (.cells #[.int .i64 0, .int .i64 0, .int .i64 0, .int .i64 0, .int .i64 0, .int .i64 0] 37)).cell? ⟨b, o, none⟩) ∧ (∀ b o, b < w.heap.size + 1 → w1.frozen? ⟨b, o, none⟩ = (w.alloc (.cells #[.int .i64 0, .int .i64 0, .int .i64 0, .int .i64 0, .int .i64 0, .int .i64 0] 37)).frozen? ⟨b, o, none⟩) :=
    ⟨fun b o h => hb1.cell (p := ⟨b, o, none⟩) (by simpa using h), fun b o h => hb1.frozen (p := ⟨b, o, none⟩) (by simpa using h)⟩
  go_wp2_with fail
  refine bodyPost_ret (v := .tuple #[momV y m d (mH t) (mMi t) (mS t), .int .i64 0]) (by simp [results, Tryd.results34, go_sem, hc, hz2, mH, mMi, mS]) rfl ⟨rfl, ?_⟩
  have hB := ((Below.refl _ w).alloc (Nat.le_refl _) (.cells #[.int .i64 0, .int .i64 0, .int .i64 0, .int .i64 0, .int .i64 0, .int .i64 0] 37)).trans (hb1.mono (by simp))
  exact ((((((hB.setCell (p := ⟨w.heap.size, 0, none⟩) (by simp) _).setCell (p := ⟨w.heap.size, 1, none⟩) (by simp) _).setCell (p := ⟨w.heap.size, 2, none⟩) (by simp) _).setCell (p := ⟨w.heap.size, 3, none⟩) (by simp) _).setCell (p := ⟨w.heap.size, 4, none⟩) (by simp) _).setCell (p := ⟨w.heap.size, 5, none⟩) (by simp) _).alloc (by simp; omega) _
end Go.Proofs.YteaaknbininehabDoor
