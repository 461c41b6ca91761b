/- Rows held against each other. -/
import Derived.Test.YtppbdamlhcmlcaaPN
import Derived.Test.YtppbdamlhcmlcaaPE
namespace Go.Proofs.Ytppbdamlhcmlcaa
open Go.RowKit Go.Shelf Go.Lib
set_option maxRecDepth 100000 in
set_option maxHeartbeats 1000000 in
theorem texts_same (v u : Value) (xs : List ByteArray) (w : World) (hv : NS w v xs) (hu : NS w u xs) (hl : xs.length ≤ 1000000) :
    Calls Try.prog 27 #[v, u] w fun e w' => e = .returned (.bool true) ∧ Below w.heap.size w w' := by
  obtain ⟨p, c, rfl⟩ := hv.shape
  obtain ⟨q, d, rfl⟩ := hu.shape
  obtain ⟨n, hn⟩ : ∃ n, xs.length = n := ⟨_, rfl⟩
  have hvH := hidP (And.intro hv (And.intro hu hn))
  rw [hn] at hl ⊢
  clear hv hu hn
  go_enter Try.func27, Try.ntmps27
  go_wp2_with fail
  go_loopw [5] (fun i wr => ∃ j : Nat, j ≤ n ∧ i = .int .i64 j ∧ Hid (Below w.heap.size w wr)) (fun i _ => n - (intOf i).toNat)
  case atStart => exact ⟨0, by omega, rfl, Below.refl _ _⟩
  case round =>
    obtain ⟨j, hj, rfl, hI⟩ := hrel
    by_cases hlt : j < n
    · have hltI : (j : Int) < (n : Int) := by omega
      obtain ⟨x, hx⟩ : ∃ x, xs[j]? = some x := ⟨_, List.getElem?_eq_getElem (by have := hvH.out.2.2; omega)⟩
      obtain ⟨hv, hu, hn⟩ := hvH.out
      rcases hv with ⟨_, e⟩ | ⟨g, o, cp, e1, hg, _, _, h3, _⟩
      · rw [e] at hx; cases hx
      rcases hu with ⟨_, e⟩ | ⟨g', o', cp', e1', hg', _, _, h3', _⟩
      · rw [e] at hx; cases hx
      injection e1 with e1 _ e2
      injection e1' with e1' _ e2'
      subst e1 e1' e2 e2'
      have k1 := (Mv.below (E := fun _ => False) hI.out).cell (a := ⟨g, o + j, none⟩) (fun h => h) (h3 j x hx)
      have k2 := (Mv.below (E := fun _ => False) hI.out).cell (a := ⟨g', o' + j, none⟩) (fun h => h) (h3' j x hx)
      clear hx h3 h3' hg hg' hn
      go_wp2_with fail
      go_quiet (fail)
      obtain ⟨W6, hW6⟩ : ∃ W6, wr.drewN nq = W6 := ⟨_, rfl⟩
      rw [hW6]
      have L6 : Hid (Below w.heap.size w W6) := by rw [← hW6]; exact below_drewN hI.out _
      clear hI hW6 k1 k2
      go_wp2_with fail
      exact ⟨⟨j + 1, by omega, by go_num, L6⟩, by simp [intOf]; omega⟩
    · obtain rfl : j = n := by omega
      go_wp2_with fail
      go_ret
      exact ⟨rfl, hI.out⟩
set_option maxRecDepth 100000 in
set_option maxHeartbeats 1000000 in
theorem conns_same (v u : Value) (xs : List Pr) (w : World) (hv : QS w v xs) (hu : QS w u xs) (hl : xs.length ≤ 1000000) :
    Calls Try.prog 22 #[v, u] w fun e w' => e = .returned (.bool true) ∧ Below w.heap.size w w' := by
  obtain ⟨p, c, rfl⟩ := hv.shape
  obtain ⟨q, d, rfl⟩ := hu.shape
  obtain ⟨n, hn⟩ : ∃ n, xs.length = n := ⟨_, rfl⟩
  have hvH := hidP (And.intro hv (And.intro hu hn))
  rw [hn] at hl ⊢
  clear hv hu hn
  go_enter Try.func22, Try.ntmps22
  go_wp2_with fail
  go_loopw [5] (fun i wr => ∃ j : Nat, j ≤ n ∧ i = .int .i64 j ∧ Hid (Below w.heap.size w wr)) (fun i _ => n - (intOf i).toNat)
  case atStart => exact ⟨0, by omega, rfl, Below.refl _ _⟩
  case round =>
    obtain ⟨j, hj, rfl, hI⟩ := hrel
    by_cases hlt : j < n
    · have hltI : (j : Int) < (n : Int) := by omega
      obtain ⟨⟨x, y⟩, hx⟩ : ∃ x, xs[j]? = some x := ⟨_, List.getElem?_eq_getElem (by have := hvH.out.2.2; omega)⟩
      obtain ⟨hv, hu, hn⟩ := hvH.out
      rcases hv with ⟨_, e⟩ | ⟨g, o, cp, e1, hg, _, _, h3, _⟩
      · rw [e] at hx; cases hx
      rcases hu with ⟨_, e⟩ | ⟨g', o', cp', e1', hg', _, _, h3', _⟩
      · rw [e] at hx; cases hx
      injection e1 with e1 _ e2
      injection e1' with e1' _ e2'
      subst e1 e1' e2 e2'
      obtain ⟨f0, f1⟩ := flat_at xs j _ hx
      rw [show 2 * j = j * 2 by omega] at f0 f1
      have k1 := (Mv.below (E := fun _ => False) hI.out).cell (a := ⟨g, o + j * 2, none⟩) (fun h => h) (h3 _ _ f0)
      have k2 : wr.cell? ⟨g, o + j * 2 + 1, none⟩ = some (.string y) := (Mv.below (E := fun _ => False) hI.out).cell (a := ⟨g, o + j * 2 + 1, none⟩) (fun h => h) (by rw [Nat.add_assoc]; exact h3 _ _ f1)
      have k3 := (Mv.below (E := fun _ => False) hI.out).cell (a := ⟨g', o' + j * 2, none⟩) (fun h => h) (h3' _ _ f0)
      have k4 : wr.cell? ⟨g', o' + j * 2 + 1, none⟩ = some (.string y) := (Mv.below (E := fun _ => False) hI.out).cell (a := ⟨g', o' + j * 2 + 1, none⟩) (fun h => h) (by rw [Nat.add_assoc]; exact h3' _ _ f1)
      dsimp only at k1 k3
      have qN : ∀ w, (binOp .neq 41 (.agg #[.int .i64 x, .string y]) (.agg #[.int .i64 x, .string y])).run Try.prog w = .ok (.bool false) w := fun w => by rw [neqC]; simp
      clear hx h3 h3' hg hg' hn f0 f1
      go_wp2_with fail
      go_quiet (fail)
      obtain ⟨W6, hW6⟩ : ∃ W6, wr.drewN nq = W6 := ⟨_, rfl⟩
      rw [hW6]
      have L6 : Hid (Below w.heap.size w W6) := by rw [← hW6]; exact below_drewN hI.out _
      clear hI hW6 k1 k2 k3 k4
      go_wp2_with fail
      exact ⟨⟨j + 1, by omega, by go_num, L6⟩, by simp [intOf]; omega⟩
    · obtain rfl : j = n := by omega
      go_wp2_with fail
      go_ret
      exact ⟨rfl, hI.out⟩
end Go.Proofs.Ytppbdamlhcmlcaa
