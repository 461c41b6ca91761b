/- The law's own check of known dates. -/
import Derived.Test.YtgogbbhbkckfgaaDoorD1
namespace Go.Proofs.YtgogbbhbkckfgaaDoor
open Go.RowKit
theorem kv1 : Civ.vldB 2024 2 29 = true := by decide
theorem kv2 : Civ.vldB 2023 2 29 = false := by decide
theorem kn1 : Civ.num 2024 2 29 = 19782 := by decide
theorem kw1 : Civ.wd 19782 = 3 := by decide
theorem kw2 : Civ.wd (-1) = 2 := by decide
set_option maxHeartbeats 1000000 in
theorem known_any (w : World) (hT : LenIn w) :
    Calls Tryd.prog 8 #[] w fun e w' => e = .returned (.bool true) ∧ Below w.heap.size w w' := by
  have h1 := fun w hT => days_yes 2024 2 29 w hT kv1
  have h2 := fun w hT => days_no 2023 2 29 w hT kv2
  have h3 := fun w => week_any 19782 w
  have h4 := fun w => week_any (-1) w
  rw [kn1] at h1
  rw [kw1] at h3
  rw [kw2] at h4
  go_enter Tryd.func8, Tryd.ntmps8
  go_wp2_with fail
  refine (h1 _ hT).mono ?_
  rintro e w1 ⟨rfl, hb1⟩
  have hT1 := hT.below hT.pos hb1
  clear h1
  go_wp2_with fail
  refine (h2 _ hT1).mono ?_
  rintro e w2 ⟨rfl, hb2⟩
  clear h2
  go_wp2_with fail
  refine (h3 _).mono ?_
  rintro e w3 ⟨rfl, rfl⟩
  go_wp2_with fail
  refine (h4 _).mono ?_
  rintro e w3 ⟨rfl, rfl⟩
  go_wp2_with fail
  go_ret
  exact ⟨rfl, hb1.trans (hb2.mono hb1.size)⟩
end Go.Proofs.YtgogbbhbkckfgaaDoor
