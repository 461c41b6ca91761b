/- The contract of package calendar's Parse, where parseFields tells an expression. -/
import Derived.Test.YteaaknbininehabDoorP9
import Derived.Test.YteaaknbininehabDoorP7
namespace Go.Proofs.YteaaknbininehabDoor
open Go.RowKit
def ParP (w : World) (x : Cal.C7) (e : Ending) (w' : World) : Prop :=
  ∃ S : Nat → Sl, e = .returned (.tuple #[aggC S, .int .i64 0]) ∧ Below w.heap.size w w' ∧ CalPin (fun _ => False) w' S x
set_option maxRecDepth 100000 in
set_option maxHeartbeats 1000000 in
theorem parse_yes (s : ByteArray) (w : World) (hg : GlP w) (x : Cal.C7) (hI : isB x = true) (hF : ∀ w, GlP w → Calls Tryd.prog 12 #[.string (spell s)] w (FldP w (some x))) :
    Calls Tryd.prog 7 #[.string s] w (ParP w x) := by
  have hB0 : Below w.heap.size w (w.alloc (.cells nil7 26)) := (Below.refl _ _).alloc (Nat.le_refl _) _
  have hFa := hF _ (hg.below hB0)
  go_enter Tryd.func7, Tryd.ntmps7
  go_wp2_with (go_at_call 13; refine (spell_any s _).mono ?_; rintro e w' ⟨rfl, rfl⟩)
  refine hFa.mono ?_
  rintro e w1 ⟨S, rfl, hb1, hp⟩
  have kr : Hid (w1.heap[w.heap.size]? = some (.cells nil7 26 (0, 0))) := (hb1.block _ (by simp)).trans (heap_alloc_new _ _)
  have hp1 := hp x rfl
  have hb01 : Below w.heap.size w w1 := hB0.trans (hb1.mono (by simp))
  have hw1 : w.heap.size < w1.heap.size := by have := hb1.size; simp at this; omega
  have hBb : Below w1.heap.size w1 (w1.alloc (.cells #[slv (S 0), slv (S 1), slv (S 2), slv (S 3), slv (S 4), slv (S 5), slv (S 6)] 26)) := (Below.refl _ _).alloc (Nat.le_refl _) _
  have hIs := isC_any S x (w1.alloc (.cells #[slv (S 0), slv (S 1), slv (S 2), slv (S 3), slv (S 4), slv (S 5), slv (S 6)] 26)) ⟨hp1.p0.below hBb, hp1.p1.below hBb, hp1.p2.below hBb, hp1.p3.below hBb, hp1.p4.below hBb, hp1.p5.below hBb, hp1.p6.below hBb⟩ ((hg.below hb01).below hBb).gl
  rw [hI] at hIs
  clear hFa hp hF hB0 hb1
  simp only [Option.isSome_some]
  go_wp2_with fail
  refine hIs.mono ?_
  rintro e w2 ⟨rfl, hb2⟩
  have kr2 : w2.heap[w.heap.size]? = some (.cells nil7 26 (0, 0)) := (hb2.block _ (by simp; omega)).trans ((hBb.block _ hw1).trans kr.out)
  have hbx : Below w.heap.size w w2 := hb01.trans ((hBb.trans (hb2.mono hBb.size)).mono hb01.size)
  have hY : CalPin (fun k => k = w.heap.size) w2 S x := ⟨pin_off ((hp1.p0.below hBb).below hb2) kr2, pin_off ((hp1.p1.below hBb).below hb2) kr2, pin_off ((hp1.p2.below hBb).below hb2) kr2, pin_off ((hp1.p3.below hBb).below hb2) kr2, pin_off ((hp1.p4.below hBb).below hb2) kr2, pin_off ((hp1.p5.below hBb).below hb2) kr2, pin_off ((hp1.p6.below hBb).below hb2) kr2⟩
  have f0 : w2.cell? ⟨w1.heap.size, 0, none⟩ = some (slv (S 0)) := (hb2.cell (p := ⟨w1.heap.size, 0, none⟩) (by simp)).trans (cell_at rfl rfl)
  have f1 : w2.cell? ⟨w1.heap.size, 1, none⟩ = some (slv (S 1)) := (hb2.cell (p := ⟨w1.heap.size, 1, none⟩) (by simp)).trans (cell_at rfl rfl)
  have f2 : w2.cell? ⟨w1.heap.size, 2, none⟩ = some (slv (S 2)) := (hb2.cell (p := ⟨w1.heap.size, 2, none⟩) (by simp)).trans (cell_at rfl rfl)
  have f3 : w2.cell? ⟨w1.heap.size, 3, none⟩ = some (slv (S 3)) := (hb2.cell (p := ⟨w1.heap.size, 3, none⟩) (by simp)).trans (cell_at rfl rfl)
  have f4 : w2.cell? ⟨w1.heap.size, 4, none⟩ = some (slv (S 4)) := (hb2.cell (p := ⟨w1.heap.size, 4, none⟩) (by simp)).trans (cell_at rfl rfl)
  have f5 : w2.cell? ⟨w1.heap.size, 5, none⟩ = some (slv (S 5)) := (hb2.cell (p := ⟨w1.heap.size, 5, none⟩) (by simp)).trans (cell_at rfl rfl)
  have f6 : w2.cell? ⟨w1.heap.size, 6, none⟩ = some (slv (S 6)) := (hb2.cell (p := ⟨w1.heap.size, 6, none⟩) (by simp)).trans (cell_at rfl rfl)
  have g0 := nil7_at kr2 0 (by decide)
  have g1 := nil7_at kr2 1 (by decide)
  have g2 := nil7_at kr2 2 (by decide)
  have g3 := nil7_at kr2 3 (by decide)
  have g4 := nil7_at kr2 4 (by decide)
  have g5 := nil7_at kr2 5 (by decide)
  have g6 := nil7_at kr2 6 (by decide)
  have r0 := nil7_froz kr2 0
  have r1 := nil7_froz kr2 1
  have r2 := nil7_froz kr2 2
  have r3 := nil7_froz kr2 3
  have r4 := nil7_froz kr2 4
  have r5 := nil7_froz kr2 5
  have r6 := nil7_froz kr2 6
  have Y : Hid (CalPin (fun k => k = w.heap.size) w2 S x) := hY
  have Z : Hid (Below w.heap.size w w2) := hbx
  clear hIs hY hbx hp1 hb2 hBb hb01 kr kr2
  go_wp2_with fail
  refine bodyPost_ret (v := (.tuple #[aggC S, .int .i64 0])) (by simp [results, Tryd.results7, go_sem, g0, g1, g2, g3, g4, g5, g6]) rfl ⟨_, rfl, below7 Z.out _ _ _ _ _ _ _, pins_set Y.out (ob7 _ _ _ _ _ _ _ _ _)⟩
set_option maxRecDepth 100000 in
set_option maxHeartbeats 1000000 in
theorem parse_no (s : ByteArray) (w : World) (hg : GlP w) (x : Cal.C7) (hI : isB x = false) (hF : ∀ w, GlP w → Calls Tryd.prog 12 #[.string (spell s)] w (FldP w (some x))) :
    Calls Tryd.prog 7 #[.string s] w fun e w' => e = .returned (.tuple #[aggC fun _ => (none, 0, 0), .int .i64 30]) ∧ Below w.heap.size w w' := by
  have hB0 : Below w.heap.size w (w.alloc (.cells nil7 26)) := (Below.refl _ _).alloc (Nat.le_refl _) _
  have hFa := hF _ (hg.below hB0)
  go_enter Tryd.func7, Tryd.ntmps7
  go_wp2_with (go_at_call 13; refine (spell_any s _).mono ?_; rintro e w' ⟨rfl, rfl⟩)
  refine hFa.mono ?_
  rintro e w1 ⟨S, rfl, hb1, hp⟩
  have kr : Hid (w1.heap[w.heap.size]? = some (.cells nil7 26 (0, 0))) := (hb1.block _ (by simp)).trans (heap_alloc_new _ _)
  have hp1 := hp x rfl
  have hb01 : Below w.heap.size w w1 := hB0.trans (hb1.mono (by simp))
  have hw1 : w.heap.size < w1.heap.size := by have := hb1.size; simp at this; omega
  have hBb : Below w1.heap.size w1 (w1.alloc (.cells #[slv (S 0), slv (S 1), slv (S 2), slv (S 3), slv (S 4), slv (S 5), slv (S 6)] 26)) := (Below.refl _ _).alloc (Nat.le_refl _) _
  have hIs := isC_any S x (w1.alloc (.cells #[slv (S 0), slv (S 1), slv (S 2), slv (S 3), slv (S 4), slv (S 5), slv (S 6)] 26)) ⟨hp1.p0.below hBb, hp1.p1.below hBb, hp1.p2.below hBb, hp1.p3.below hBb, hp1.p4.below hBb, hp1.p5.below hBb, hp1.p6.below hBb⟩ ((hg.below hb01).below hBb).gl
  rw [hI] at hIs
  clear hFa hp hF hB0 hb1
  simp only [Option.isSome_some]
  go_wp2_with fail
  refine hIs.mono ?_
  rintro e w2 ⟨rfl, hb2⟩
  have kr2 : w2.heap[w.heap.size]? = some (.cells nil7 26 (0, 0)) := (hb2.block _ (by simp; omega)).trans ((hBb.block _ hw1).trans kr.out)
  have hbx : Below w.heap.size w w2 := hb01.trans ((hBb.trans (hb2.mono hBb.size)).mono hb01.size)
  have f0 : w2.cell? ⟨w1.heap.size, 0, none⟩ = some (slv (S 0)) := (hb2.cell (p := ⟨w1.heap.size, 0, none⟩) (by simp)).trans (cell_at rfl rfl)
  have f1 : w2.cell? ⟨w1.heap.size, 1, none⟩ = some (slv (S 1)) := (hb2.cell (p := ⟨w1.heap.size, 1, none⟩) (by simp)).trans (cell_at rfl rfl)
  have f2 : w2.cell? ⟨w1.heap.size, 2, none⟩ = some (slv (S 2)) := (hb2.cell (p := ⟨w1.heap.size, 2, none⟩) (by simp)).trans (cell_at rfl rfl)
  have f3 : w2.cell? ⟨w1.heap.size, 3, none⟩ = some (slv (S 3)) := (hb2.cell (p := ⟨w1.heap.size, 3, none⟩) (by simp)).trans (cell_at rfl rfl)
  have f4 : w2.cell? ⟨w1.heap.size, 4, none⟩ = some (slv (S 4)) := (hb2.cell (p := ⟨w1.heap.size, 4, none⟩) (by simp)).trans (cell_at rfl rfl)
  have f5 : w2.cell? ⟨w1.heap.size, 5, none⟩ = some (slv (S 5)) := (hb2.cell (p := ⟨w1.heap.size, 5, none⟩) (by simp)).trans (cell_at rfl rfl)
  have f6 : w2.cell? ⟨w1.heap.size, 6, none⟩ = some (slv (S 6)) := (hb2.cell (p := ⟨w1.heap.size, 6, none⟩) (by simp)).trans (cell_at rfl rfl)
  have g0 := nil7_at kr2 0 (by decide)
  have g1 := nil7_at kr2 1 (by decide)
  have g2 := nil7_at kr2 2 (by decide)
  have g3 := nil7_at kr2 3 (by decide)
  have g4 := nil7_at kr2 4 (by decide)
  have g5 := nil7_at kr2 5 (by decide)
  have g6 := nil7_at kr2 6 (by decide)
  have r0 := nil7_froz kr2 0
  have r1 := nil7_froz kr2 1
  have r2 := nil7_froz kr2 2
  have r3 := nil7_froz kr2 3
  have r4 := nil7_froz kr2 4
  have r5 := nil7_froz kr2 5
  have r6 := nil7_froz kr2 6
  have Z : Hid (Below w.heap.size w w2) := hbx
  clear hIs hbx hp1 hb2 hBb hb01 kr kr2
  go_wp2_with fail
  refine bodyPost_ret (v := (.tuple #[aggC fun _ => (none, 0, 0), .int .i64 30])) (by simp [results, Tryd.results7, go_sem, g0, g1, g2, g3, g4, g5, g6]) rfl ⟨rfl, below7 Z.out _ _ _ _ _ _ _⟩
end Go.Proofs.YteaaknbininehabDoor
