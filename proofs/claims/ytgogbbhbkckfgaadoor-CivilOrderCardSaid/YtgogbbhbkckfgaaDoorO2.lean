/- The law CivilOrder, walked where one of the two is no moment; what its loop reckons. -/
import Derived.Test.YtgogbbhbkckfgaaDoorO1
import Derived.Test.YtgogbbhbkckfgaaDoorK1
import Derived.Test.YtgogbbhbkckfgaaDoorP2
namespace Go.Proofs.YtgogbbhbkckfgaaDoor
open Go.RowKit
def mOk (y m d h mi s : Int) : Bool := Civ.vldB y m d && Civ.timB h mi s
def unixV (y m d h mi s : Int) : Int := if mOk y m d h mi s = true then Civ.sec y m d h mi s else 0
def unixE (y m d h mi s : Int) : Int := if mOk y m d h mi s = true then 0 else 20
theorem unix_any (y m d h mi s : Int) (w : World) (hT : LenIn w) :
    Calls Tryd.prog 19 #[momV y m d h mi s] w fun e w' => e = .returned (.tuple #[.int .i64 (unixV y m d h mi s), .int .i64 (unixE y m d h mi s)]) ∧ Below w.heap.size w w' := by
  unfold unixV unixE mOk
  cases hv : Civ.vldB y m d
  · exact unix_no y m d h mi s w hT (.inl hv)
  · cases ht : Civ.timB h mi s
    · exact unix_no y m d h mi s w hT (.inr ht)
    · exact unix_yes y m d h mi s w hT hv ht
set_option maxRecDepth 100000 in
set_option maxHeartbeats 2000000 in
theorem order_no (y m d h mi s y' m' d' h' mi' s' : Int) (w : World) (hT : LenIn w) (ho : mOk y m d h mi s = false ∨ mOk y' m' d' h' mi' s' = false) :
    Calls Tryd.prog 7 #[momV y m d h mi s, momV y' m' d' h' mi' s'] w fun e w' => e = .returned (.bool true) ∧ Below w.heap.size w w' := by
  have hT0 := (hT.alloc (.cells #[.int .i64 y, .int .i64 m, .int .i64 d, .int .i64 h, .int .i64 mi, .int .i64 s] 25)).alloc (.cells #[.int .i64 y', .int .i64 m', .int .i64 d', .int .i64 h', .int .i64 mi', .int .i64 s'] 25)
  have hB0 : Below w.heap.size w ((w.alloc (.cells #[.int .i64 y, .int .i64 m, .int .i64 d, .int .i64 h, .int .i64 mi, .int .i64 s] 25)).alloc (.cells #[.int .i64 y', .int .i64 m', .int .i64 d', .int .i64 h', .int .i64 mi', .int .i64 s'] 25)) := ((Below.refl _ w).alloc (Nat.le_refl _) _).alloc (by simp) _
  have l1 := fun w hT => unix_any y m d h mi s w hT
  have l2 := fun w hT => unix_any y' m' d' h' mi' s' w hT
  obtain ⟨x1, hx1⟩ : ∃ x, unixV y m d h mi s = x := ⟨_, rfl⟩
  obtain ⟨x2, hx2⟩ : ∃ x, unixV y' m' d' h' mi' s' = x := ⟨_, rfl⟩
  rw [hx1] at l1
  rw [hx2] at l2
  clear hx1 hx2
  have ways : (unixE y m d h mi s = 20 ∧ (unixE y' m' d' h' mi' s' = 0 ∨ unixE y' m' d' h' mi' s' = 20)) ∨ (unixE y m d h mi s = 0 ∧ unixE y' m' d' h' mi' s' = 20) := by
    unfold unixE
    cases h1 : mOk y m d h mi s <;> cases h2 : mOk y' m' d' h' mi' s' <;> simp [h1, h2] at ho ⊢
  clear ho
  rcases ways with ⟨e1, e2 | e2⟩ | ⟨e1, e2⟩
  all_goals
    rw [e1] at l1
    rw [e2] at l2
    clear e1 e2
    go_enter Tryd.func7, Tryd.ntmps7
    go_wp2_with fail
    refine (known_any _ hT0).mono ?_
    rintro e w1 ⟨rfl, hb1⟩
    have hz1 := hb1.size
    simp only [World.size_alloc] at hz1
    have k0 : w1.cell? ⟨w.heap.size, 0, none⟩ = some (.int .i64 y) := by rw [hb1.cell (by simp; omega), World.cell?_alloc_lt _ _ _ (by simp)]; simp
    have k1 : w1.cell? ⟨w.heap.size, 1, none⟩ = some (.int .i64 m) := by rw [hb1.cell (by simp; omega), World.cell?_alloc_lt _ _ _ (by simp)]; simp
    have k2 : w1.cell? ⟨w.heap.size, 2, none⟩ = some (.int .i64 d) := by rw [hb1.cell (by simp; omega), World.cell?_alloc_lt _ _ _ (by simp)]; simp
    have k3 : w1.cell? ⟨w.heap.size, 3, none⟩ = some (.int .i64 h) := by rw [hb1.cell (by simp; omega), World.cell?_alloc_lt _ _ _ (by simp)]; simp
    have k4 : w1.cell? ⟨w.heap.size, 4, none⟩ = some (.int .i64 mi) := by rw [hb1.cell (by simp; omega), World.cell?_alloc_lt _ _ _ (by simp)]; simp
    have k5 : w1.cell? ⟨w.heap.size, 5, none⟩ = some (.int .i64 s) := by rw [hb1.cell (by simp; omega), World.cell?_alloc_lt _ _ _ (by simp)]; simp
    have j0 : w1.cell? ⟨w.heap.size + 1, 0, none⟩ = some (.int .i64 y') := by rw [hb1.cell (by simp)]; simp
    have j1 : w1.cell? ⟨w.heap.size + 1, 1, none⟩ = some (.int .i64 m') := by rw [hb1.cell (by simp)]; simp
    have j2 : w1.cell? ⟨w.heap.size + 1, 2, none⟩ = some (.int .i64 d') := by rw [hb1.cell (by simp)]; simp
    have j3 : w1.cell? ⟨w.heap.size + 1, 3, none⟩ = some (.int .i64 h') := by rw [hb1.cell (by simp)]; simp
    have j4 : w1.cell? ⟨w.heap.size + 1, 4, none⟩ = some (.int .i64 mi') := by rw [hb1.cell (by simp)]; simp
    have j5 : w1.cell? ⟨w.heap.size + 1, 5, none⟩ = some (.int .i64 s') := by rw [hb1.cell (by simp)]; simp
    have hB1 := hB0.trans (hb1.mono hB0.size)
    have hT1 := hT.below hT.pos hB1
    clear hb1
    go_wp2_with fail
    refine (l1 _ hT1).mono ?_
    rintro e w2 ⟨rfl, hb2⟩
    have hB2 := hB1.trans (hb2.mono hB1.size)
    have hT2 := hT.below hT.pos hB2
    have q0 : w2.cell? ⟨w.heap.size + 1, 0, none⟩ = some (.int .i64 y') := by rw [hb2.cell (by simp; omega)]; exact j0
    have q1 : w2.cell? ⟨w.heap.size + 1, 1, none⟩ = some (.int .i64 m') := by rw [hb2.cell (by simp; omega)]; exact j1
    have q2 : w2.cell? ⟨w.heap.size + 1, 2, none⟩ = some (.int .i64 d') := by rw [hb2.cell (by simp; omega)]; exact j2
    have q3 : w2.cell? ⟨w.heap.size + 1, 3, none⟩ = some (.int .i64 h') := by rw [hb2.cell (by simp; omega)]; exact j3
    have q4 : w2.cell? ⟨w.heap.size + 1, 4, none⟩ = some (.int .i64 mi') := by rw [hb2.cell (by simp; omega)]; exact j4
    have q5 : w2.cell? ⟨w.heap.size + 1, 5, none⟩ = some (.int .i64 s') := by rw [hb2.cell (by simp; omega)]; exact j5
    clear hb2 k0 k1 k2 k3 k4 k5 j0 j1 j2 j3 j4 j5
    go_wp2_with fail
    refine (l2 _ hT2).mono ?_
    rintro e w3 ⟨rfl, hb3⟩
    go_wp2_with fail
    go_ret
    exact ⟨rfl, hB2.trans (hb3.mono hB2.size)⟩
end Go.Proofs.YtgogbbhbkckfgaaDoor
