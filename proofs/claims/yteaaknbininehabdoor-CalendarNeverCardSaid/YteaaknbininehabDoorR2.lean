/- The contract of the reference's Is. -/
import Derived.Test.YteaaknbininehabDoorR2A
import Derived.Test.YteaaknbininehabDoorR2B
import Derived.Test.YteaaknbininehabDoorR2C
import Derived.Test.YteaaknbininehabDoorR2D
namespace Go.Proofs.YteaaknbininehabDoor
open Go.RowKit
theorem hide4 {p : Prop} (h : p) : Hid p := h
theorem rIs_any (y m d : Int) (w : World) :
    Calls Tryd.prog 44 #[.agg #[.int .i64 y, .int .i64 m, .int .i64 d]] w fun e w' => e = .returned (.bool (Civ.vldB y m d)) ∧ Below w.heap.size w w' := by
  by_cases h0 : 1970 ≤ y
  · by_cases h1 : y ≤ 2200
    · by_cases h2 : 1 ≤ m
      · by_cases h3 : m ≤ 12
        · by_cases h4 : 1 ≤ d
          · exact rIs_5 y m d w h0 h1 h2 h3 h4
          · exact rIs_4 y m d w h0 h1 h2 h3 (by omega)
        · exact rIs_3 y m d w h0 h1 h2 (by omega)
      · exact rIs_2 y m d w h0 h1 (by omega)
    · exact rIs_1 y m d w h0 (by omega)
  · exact rIs_0 y m d w (by omega)
end Go.Proofs.YteaaknbininehabDoor
