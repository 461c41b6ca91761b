/- The contract of the reference's Moment. -/
import Derived.Test.YtfjbonhlokbhpaaDoorR4B
import Derived.Test.YtfjbonhlokbhpaaDoorZH
import Derived.Test.YtfjbonhlokbhpaaDoorZC
namespace Go.Proofs.YtfjbonhlokbhpaaDoor
open Go.RowKit
set_option maxRecDepth 100000 in
set_option maxHeartbeats 1000000 in
theorem rMoment_no (t : Int) (w : World) (h : t < 0 ∨ 7289654400 ≤ t) (hi : t ≤ 9223372036854775807) :
    Calls Tryd.prog 13 #[.int .i64 t] w fun e w' => e = .returned (.tuple #[momV 0 0 0 0 0 0, .int .i64 20]) ∧ Below w.heap.size w w' := by
  by_cases hn : t < 0
  · go_enter Tryd.func13, Tryd.ntmps13
    go_wp2_with fail
    exact bodyPost_ret (v := .tuple #[momV 0 0 0 0 0 0, .int .i64 20]) (by simp [results, Tryd.results13, go_sem]) rfl ⟨rfl, (Below.refl _ _).alloc (Nat.le_refl _) _⟩
  · have h0 : 0 ≤ t := by omega
    have hg : 7289654400 ≤ t := by omega
    have hn' : decide (t < 0) = false := by simpa using h0
    clear h
    by_cases h2 : 200000 < t / 86400
    · go_enter Tryd.func13, Tryd.ntmps13
      go_wp2_with fail
      exact bodyPost_ret (v := .tuple #[momV 0 0 0 0 0 0, .int .i64 20]) (by simp [results, Tryd.results13, go_sem]) rfl ⟨rfl, (Below.refl _ _).alloc (Nat.le_refl _) _⟩
    · have h3 : decide (200000 < t / 86400) = false := by simpa using h2
      have l3 := fun w => rDate_no (t / 86400) w (.inr (by omega)) (by omega)
      go_enter Tryd.func13, Tryd.ntmps13
      go_wp2_with fail
      refine (l3 _).mono ?_
      rintro e w1 ⟨rfl, hb1⟩
      have hz1 := hb1.size
      simp at hz1
      have hz2 : w.heap.size < w1.heap.size := by omega
      obtain ⟨hc, hf⟩ : (∀ b o, b < w.heap.size + 1 → w1.cell? ⟨b, o, none⟩ = (w.alloc (.cells #[.int .i64 0, .int .i64 0, .int .i64 0, .int .i64 0, .int .i64 0, .int .i64 0] 37)).cell? ⟨b, o, none⟩) ∧ (∀ b o, b < w.heap.size + 1 → w1.frozen? ⟨b, o, none⟩ = (w.alloc (.cells #[.int .i64 0, .int .i64 0, .int .i64 0, .int .i64 0, .int .i64 0, .int .i64 0] 37)).frozen? ⟨b, o, none⟩) :=
        ⟨fun b o h => hb1.cell (p := ⟨b, o, none⟩) (by simpa using h), fun b o h => hb1.frozen (p := ⟨b, o, none⟩) (by simpa using h)⟩
      go_wp2_with fail
      refine bodyPost_ret (v := .tuple #[momV 0 0 0 0 0 0, .int .i64 20]) (by simp [results, Tryd.results13, go_sem, hc, hz2]) rfl ⟨rfl, ?_⟩
      have hB := ((Below.refl _ w).alloc (Nat.le_refl _) (.cells #[.int .i64 0, .int .i64 0, .int .i64 0, .int .i64 0, .int .i64 0, .int .i64 0] 37)).trans (hb1.mono (by simp))
      exact ((((((hB.setCell (p := ⟨w.heap.size, 0, none⟩) (by simp) _).setCell (p := ⟨w.heap.size, 1, none⟩) (by simp) _).setCell (p := ⟨w.heap.size, 2, none⟩) (by simp) _).setCell (p := ⟨w.heap.size, 3, none⟩) (by simp) _).setCell (p := ⟨w.heap.size, 4, none⟩) (by simp) _).setCell (p := ⟨w.heap.size, 5, none⟩) (by simp) _).alloc (by simp; omega) _
set_option maxRecDepth 100000 in
set_option maxHeartbeats 1000000 in
theorem rMoment_yes (t : Int) (w : World) (h0 : 0 ≤ t) (h1 : t < 7289654400) :
    Calls Tryd.prog 13 #[.int .i64 t] w fun e w' => e = .returned (.tuple #[momV (Civ.dY (t / 86400)) (Civ.dM (t / 86400)) (Civ.dD (t / 86400)) (mH t) (mMi t) (mS t), .int .i64 0]) ∧ Below w.heap.size w w' := by
  have l3 := fun w => rDate_yes (t / 86400) w (by omega) (by omega)
  obtain ⟨y, hy⟩ : ∃ y, Civ.dY (t / 86400) = y := ⟨_, rfl⟩
  obtain ⟨m, hm⟩ : ∃ m, Civ.dM (t / 86400) = m := ⟨_, rfl⟩
  obtain ⟨d, hd⟩ : ∃ d, Civ.dD (t / 86400) = d := ⟨_, rfl⟩
  rw [hy, hm, hd] at l3 ⊢
  clear hy hm hd
  have hg : decide (t < 0) = false := by simpa using h0
  have hg' : decide (200000 < t / 86400) = false := by simp; omega
  go_enter Tryd.func13, Tryd.ntmps13
  go_wp2_with fail
  refine (l3 _).mono ?_
  rintro e w1 ⟨rfl, hb1⟩
  have hz1 := hb1.size
  simp at hz1
  have hz2 : w.heap.size < w1.heap.size := by omega
  obtain ⟨hc, hf⟩ : (∀ b o, b < w.heap.size + 1 → w1.cell? ⟨b, o, none⟩ = (w.alloc (.cells #[.int .i64 0, .int .i64 0, .int .i64 0, .int .i64 0, .int .i64 0, .int .i64 0] 37)).cell? ⟨b, o, none⟩) ∧ (∀ b o, b < w.heap.size + 1 → w1.frozen? ⟨b, o, none⟩ = (w.alloc (.cells #[.int .i64 0, .int .i64 0, .int .i64 0, .int .i64 0, .int .i64 0, .int .i64 0] 37)).frozen? ⟨b, o, none⟩) :=
    ⟨fun b o h => hb1.cell (p := ⟨b, o, none⟩) (by simpa using h), fun b o h => hb1.frozen (p := ⟨b, o, none⟩) (by simpa using h)⟩
  go_wp2_with fail
  refine bodyPost_ret (v := .tuple #[momV y m d (mH t) (mMi t) (mS t), .int .i64 0]) (by simp [results, Tryd.results13, go_sem, hc, hz2, mH, mMi, mS]) rfl ⟨rfl, ?_⟩
  have hB := ((Below.refl _ w).alloc (Nat.le_refl _) (.cells #[.int .i64 0, .int .i64 0, .int .i64 0, .int .i64 0, .int .i64 0, .int .i64 0] 37)).trans (hb1.mono (by simp))
  exact ((((((hB.setCell (p := ⟨w.heap.size, 0, none⟩) (by simp) _).setCell (p := ⟨w.heap.size, 1, none⟩) (by simp) _).setCell (p := ⟨w.heap.size, 2, none⟩) (by simp) _).setCell (p := ⟨w.heap.size, 3, none⟩) (by simp) _).setCell (p := ⟨w.heap.size, 4, none⟩) (by simp) _).setCell (p := ⟨w.heap.size, 5, none⟩) (by simp) _).alloc (by simp; omega) _
end Go.Proofs.YtfjbonhlokbhpaaDoor
