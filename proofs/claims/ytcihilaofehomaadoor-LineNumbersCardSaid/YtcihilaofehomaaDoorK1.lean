/- The contract of the laws' helper known. -/
import Derived.Test.YtcihilaofehomaaDoorB6
import Derived.Test.YtcihilaofehomaaDoorK0
namespace Go.Proofs.YtcihilaofehomaaDoor
open Go.RowKit Lin
theorem k_l1 : lns [91, 65, 93, 10, 98, 32, 61, 32, 99, 32, 92, 10, 32, 100, 10, 35, 32, 110, 111, 10] = .ok [(1, [65], [], 1), (2, [98], [99, 32, 32, 32, 100], 2)] := by kernel_rfl
theorem k_l2 : lns [91, 65, 93, 10, 98, 10] = .error (2, 50) := by kernel_rfl
theorem k_s : spl [97, 32, 34, 98, 32, 99, 34, 32, 39, 39] = some [[97], [98, 32, 99], []] := by kernel_rfl
theorem row_cell {w : World} {base : Nat} {g cap n size : Nat} {e : TypeId} {xs : List Value} (h : w.ownsRow base e size (.slice (some ⟨g, 0, none⟩) n cap) n xs) (j : Nat) (u : Value) (hj : xs[j]? = some u) : w.cell? ⟨g, j, none⟩ = some u := by
  have := h.cells (g := g) rfl j u hj
  rwa [Go.WideShapes.add_plain, Nat.zero_add] at this
set_option maxRecDepth 100000 in
set_option maxHeartbeats 4000000 in
theorem known_any (w : World) (hg : Mx w) :
    Calls Tryd.prog 9 #[] w fun e w' => e = .returned (.bool true) ∧ Below w.heap.size w w' := by
  have h1 : Hid (∀ w, Mx w → Calls Tryd.prog 10 #[.string ⟨#[91, 65, 93, 10, 98, 32, 61, 32, 99, 32, 92, 10, 32, 100, 10, 35, 32, 110, 111, 10]⟩] w fun e w' => ∃ g cap, e = .returned (.tuple #[.slice (some ⟨g, 0, none⟩) 2 cap, .int .i64 0, .int .i64 0]) ∧ w'.cell? ⟨g, 6, none⟩ = some (.string ⟨#[99, 32, 32, 32, 100]⟩) ∧ w'.cell? ⟨g, 7, none⟩ = some (.int .i64 2) ∧ 2 ≤ cap ∧ Below w.heap.size w w') := by
    intro w hg
    have := lines_any ⟨#[91, 65, 93, 10, 98, 32, 61, 32, 99, 32, 92, 10, 32, 100, 10, 35, 32, 110, 111, 10]⟩ w hg
    rw [show (⟨#[91, 65, 93, 10, 98, 32, 61, 32, 99, 32, 92, 10, 32, 100, 10, 35, 32, 110, 111, 10]⟩ : ByteArray).data.toList = [91, 65, 93, 10, 98, 32, 61, 32, 99, 32, 92, 10, 32, 100, 10, 35, 32, 110, 111, 10] from rfl, k_l1] at this
    refine this.mono ?_
    rintro e w' ⟨v, rfl, hown, hb⟩
    rcases hown.2 with ⟨_, h0⟩ | ⟨g, cap, cur, rfl, q1, q2, q3, q4⟩
    · cases h0
    · exact ⟨g, cap, rfl, row_cell hown 6 _ rfl, row_cell hown 7 _ rfl, q3, hb⟩
  have h2 : Hid (∀ w, Mx w → Calls Tryd.prog 10 #[.string ⟨#[91, 65, 93, 10, 98, 10]⟩] w fun e w' => e = .returned (.tuple #[.slice none 0 0, .int .i64 2, .int .i64 50]) ∧ Below w.heap.size w w') := by
    intro w hg
    have := lines_any ⟨#[91, 65, 93, 10, 98, 10]⟩ w hg
    rw [show (⟨#[91, 65, 93, 10, 98, 10]⟩ : ByteArray).data.toList = [91, 65, 93, 10, 98, 10] from rfl, k_l2] at this
    exact this
  have h3 : Hid (∀ w, Calls Tryd.prog 15 #[.string ⟨#[97, 32, 34, 98, 32, 99, 34, 32, 39, 39]⟩] w fun e w' => ∃ g cap, e = .returned (.tuple #[.slice (some ⟨g, 0, none⟩) 3 cap, .int .i64 0]) ∧ w'.cell? ⟨g, 0, none⟩ = some (.string ⟨#[97]⟩) ∧ w'.cell? ⟨g, 1, none⟩ = some (.string ⟨#[98, 32, 99]⟩) ∧ w'.cell? ⟨g, 2, none⟩ = some (.string ⟨#[]⟩) ∧ Below w.heap.size w w') := by
    intro w
    have := split_any ⟨#[97, 32, 34, 98, 32, 99, 34, 32, 39, 39]⟩ w (by decide)
    rw [show (⟨#[97, 32, 34, 98, 32, 99, 34, 32, 39, 39]⟩ : ByteArray).data.toList = [97, 32, 34, 98, 32, 99, 34, 32, 39, 39] from rfl, k_s] at this
    refine this.mono ?_
    rintro e w' ⟨v, rfl, hown, hb⟩
    rcases hown.2 with ⟨_, h0⟩ | ⟨g, cap, cur, rfl, q1, q2, q3, q4⟩
    · cases h0
    · exact ⟨g, cap, rfl, row_cell hown 0 _ rfl, row_cell hown 1 _ rfl, row_cell hown 2 _ rfl, hb⟩
  go_enter Tryd.func9, Tryd.ntmps9
  go_wp2_with fail
  refine (h1.out _ hg).mono ?_
  rintro e w1 ⟨g1, cap1, rfl, c6, c7, hcap, hb1⟩
  go_wp2_with fail
  refine (h2.out _ (hg.below hb1)).mono ?_
  rintro e w2 ⟨rfl, hb2⟩
  have hb12 := hb1.trans (hb2.mono hb1.size)
  replace c6 := (hb2.cell (p := ⟨g1, 6, none⟩) (cell_lt c6)).trans c6
  replace c7 := (hb2.cell (p := ⟨g1, 7, none⟩) (cell_lt c7)).trans c7
  go_wp2_with fail
  refine (h3.out _).mono ?_
  rintro e w3 ⟨g3, cap3, rfl, d0, d1, d2, hb3⟩
  have hb13 := hb12.trans (hb3.mono hb12.size)
  replace c6 := (hb3.cell (p := ⟨g1, 6, none⟩) (cell_lt c6)).trans c6
  replace c7 := (hb3.cell (p := ⟨g1, 7, none⟩) (cell_lt c7)).trans c7
  have l3 := cell_lt d0
  obtain ⟨w4, hw4⟩ : ∃ w4, w3.alloc (.cells #[.string ⟨#[97]⟩, .string ⟨#[98, 32, 99]⟩, .string ⟨#[]⟩] 9) = w4 := ⟨_, rfl⟩
  have hb4 : Below w3.heap.size w3 w4 := by rw [← hw4]; exact (Below.refl _ _).alloc (Nat.le_refl _) _
  have htx := texts_same (some ⟨g3, 0, none⟩) (some ⟨w3.heap.size, 0, none⟩) g3 0 cap3 w3.heap.size 0 3 [⟨#[97]⟩, ⟨#[98, 32, 99]⟩, ⟨#[]⟩] w4 (fun _ => rfl) (fun _ => rfl)
    (fun j x hj => by
      rw [Nat.zero_add]
      match j, hj with
      | 0, hj => cases hj; exact (hb4.cell (p := ⟨g3, 0, none⟩) l3).trans d0
      | 1, hj => cases hj; exact (hb4.cell (p := ⟨g3, 1, none⟩) l3).trans d1
      | 2, hj => cases hj; exact (hb4.cell (p := ⟨g3, 2, none⟩) l3).trans d2
      | n + 3, hj => simp at hj)
    (fun j x hj => by
      rw [Nat.zero_add, ← hw4]
      match j, hj with
      | 0, hj => cases hj; exact cell_at rfl rfl
      | 1, hj => cases hj; exact cell_at rfl rfl
      | 2, hj => cases hj; exact cell_at rfl rfl
      | n + 3, hj => simp at hj) (by decide)
  have htx' : Hid (Calls Tryd.prog 17 #[.slice (some ⟨g3, 0, none⟩) 3 cap3, .slice (some ⟨w3.heap.size, 0, none⟩) 3 3] w4 fun e w' => e = .returned (.bool true) ∧ Below w4.heap.size w4 w') := htx
  clear htx
  go_wp2_with (rw [hw4])
  refine htx'.out.mono ?_
  rintro e w5 ⟨rfl, hb5⟩
  have hb14 := hb13.trans (hb4.mono hb13.size)
  go_wp2_with fail
  go_ret
  exact ⟨rfl, hb14.trans (hb5.mono hb14.size)⟩
end Go.Proofs.YtcihilaofehomaaDoor
