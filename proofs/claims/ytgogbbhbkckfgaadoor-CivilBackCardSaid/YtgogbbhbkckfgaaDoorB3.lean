/- The law CivilBack: its walk at every two numbers. -/
import Derived.Test.YtgogbbhbkckfgaaDoorB2A
import Derived.Test.YtgogbbhbkckfgaaDoorB2B
import Derived.Test.YtgogbbhbkckfgaaDoorB2C
import Derived.Test.YtgogbbhbkckfgaaDoorB2D
namespace Go.Proofs.YtgogbbhbkckfgaaDoor
open Go.RowKit
theorem back_walk (n t : Int) (w : World) (hT : LenIn w) :
    Calls Tryd.prog 4 #[.int .i64 n, .int .i64 t] w fun e w' => e = .returned (.bool true) ∧ Below w.heap.size w w' := by
  by_cases h : n < 0 ∨ 84371 ≤ n
  · exact back_out n t w hT h
  · have h0 : 0 ≤ n := by omega
    have h1 : n < 84371 := by omega
    have q1 := fun w hT => date_yes n w hT h0 h1
    have hv := Civ.date_vld h0 h1
    have hn := Civ.date_num (n := n)
    have q2 := fun w hT => days_yes _ _ _ w hT hv
    rw [hn] at q2
    have q4 : ∀ w, LenIn w → Calls Tryd.prog 11 #[.agg #[.int .i64 (Civ.dY n), .int .i64 (Civ.dM n), .int .i64 (Civ.dD n)]] w fun z w' => z = .returned (.bool true) ∧ Below w.heap.size w w' := fun w hT => by
      have := is_any (Civ.dY n) (Civ.dM n) (Civ.dD n) w hT
      rwa [hv] at this
    obtain ⟨b1, b2, b3, b4, b5, b6⟩ := Civ.vldB_iff.1 hv
    have b7 := (Civ.dim_bd (Civ.dY n) (Civ.dM n)).2
    by_cases hl : n + 1 < 84371
    · have q3 := fun w hT => date_yes (n + 1) w hT (by omega) hl
      have hv' := Civ.date_vld (n := n + 1) (by omega) hl
      have hx := Civ.num_next hv _ _ _ hv' (by rw [Civ.date_num, hn])
      generalize Civ.dY (n + 1) = y' at *
      generalize Civ.dM (n + 1) = m' at *
      generalize Civ.dD (n + 1) = d' at *
      generalize Civ.dY n = y at *
      generalize Civ.dM n = m at *
      generalize Civ.dD n = d at *
      clear hv hv' hn h
      rcases hx with ⟨e1, e2, e3⟩ | ⟨e1, ⟨e2, e3⟩ | ⟨e2, e4, e3⟩⟩
      · rw [e1, e2, e3] at q3
        exact back_a n t y m d w hT h0 h1 ⟨⟨b1, b2⟩, ⟨b3, b4⟩, b5, by omega⟩ q1 q2 q3 q4
      · rw [e1, e2, e3] at q3
        exact back_b n t y m d w hT h0 h1 ⟨⟨b1, b2⟩, ⟨b3, b4⟩, b5, by omega⟩ q1 q2 q3 q4
      · rw [e1, e2, e3] at q3
        rw [e4] at q1 q2 q4
        exact back_c n t y d w hT h0 h1 ⟨⟨b1, b2⟩, b5, by omega⟩ q1 q2 q3 q4
    · have q3 : ∀ w, LenIn w → Calls Tryd.prog 17 #[.int .i64 (n + 1)] w fun z w' => z = .returned (.tuple #[.agg #[.int .i64 0, .int .i64 0, .int .i64 0], .int .i64 20]) ∧ Below w.heap.size w w' := fun w _ => date_no (n + 1) w (by omega)
      exact back_d n t _ _ _ w hT h0 h1 ⟨⟨b1, b2⟩, ⟨b3, b4⟩, b5, by omega⟩ q1 q2 q3 q4
end Go.Proofs.YtgogbbhbkckfgaaDoor
