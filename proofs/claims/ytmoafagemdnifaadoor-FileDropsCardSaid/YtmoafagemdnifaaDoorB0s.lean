/- The methods String and Reset of strings.Builder, by territories. -/
import Derived.Test.YtmoafagemdnifaaDoorB0
import Derived.Shelf.RegionOpen
namespace Go.Proofs.YtmoafagemdnifaaDoor
open Go.RowKit Lin
theorem freeze_other (w : World) (p : Addr) (n k : Nat) (h : k ≠ p.block) : (w.freeze p n).heap[k]? = w.heap[k]? := by
  unfold World.freeze
  split
  · rfl
  · simp only [Array.getElem?_modify]
    rw [if_neg (fun e => h e.symm)]
theorem freeze_size (w : World) (p : Addr) (n : Nat) : (w.freeze p n).heap.size = w.heap.size := by
  unfold World.freeze
  split
  · rfl
  · simp
set_option maxRecDepth 100000 in
set_option maxHeartbeats 2000000 in
theorem string_mv (b : Nat) (v : Value) (x : L) (w : World) (h : Bld b v x w) (hl : x.length ≤ 4000000) :
    Calls Tryd.prog 31 #[.pointer (some ⟨b, 0, none⟩)] w fun e w' => e = .returned (.string ⟨x.toArray⟩) ∧ Mv (Ow b v) w w' ∧ w'.heap[b]? = w.heap[b]? := by
  obtain ⟨p, _, hbk⟩ := h.at0
  have c1 : w.drew.cell? ⟨b, 1, none⟩ = some v := by
    have : w.drew.heap[b]? = some (.cells #[p, v] 77 (0, 0)) := hbk
    rw [Lib.cell_of_heap this]; rfl
  cases hx : x with
  | nil =>
    have hv := h.nil hx
    subst hv
    have hUS := fun W q => Lib.run_unsafeString_none (P := Tryd.prog) W 99 3 9 q
    have hSD : (Builtin.unsafeSliceData_ #[53] 99 #[.slice none 0 0]).run Tryd.prog w.drew = .ok (.pointer none) w.drew := rfl
    have mixed : Tryd.prog.follows .mixedOrders = true := by kernel_rfl
    go_enter Tryd.func31, Tryd.ntmps31
    go_wp2_with fail
    go_region_o
    all_goals (go_wp2; go_ret; exact ⟨rfl, Mv.drew _ _, rfl⟩)
  | cons c0 r0 =>
    have h0 : x ≠ [] := by rw [hx]; simp
    rw [← hx]
    clear hx
    have hown := h.own
    obtain ⟨g, cap, cur, rfl, hbg, hg, hnc, hcm, hcs, htake⟩ : ∃ g cap cur, v = .slice (some ⟨g, 0, none⟩) x.length cap ∧ 0 ≤ g ∧ w.heap[g]? = some (.cells cur 5 (0, 0)) ∧ x.length ≤ cap ∧ cap ≤ maxLen ∧ cur.size = cap * 1 ∧ cur.toList.take (x.length * 1) = Lib.byteCells x := by
      rcases hown.2 with ⟨_, hz⟩ | ⟨g, cap, cur, hv, r⟩
      · exact absurd (List.length_eq_zero_iff.1 hz) h0
      · exact ⟨g, cap, cur, hv, r⟩
    have hxl : x.length ≠ 0 := fun e => h0 (List.length_eq_zero_iff.1 e)
    have hSD : (Builtin.unsafeSliceData_ #[53] 99 #[.slice (some ⟨g, 0, none⟩) x.length cap]).run Tryd.prog w.drew = .ok (.pointer (some ⟨g, 0, none⟩)) w.drew :=
      Lib.run_unsafeSliceData_row _ _ _ _ _ _ (by omega)
    have hUS : (Builtin.unsafeString_ #[99, 3] 9 #[.pointer (some ⟨g, 0, none⟩), .int .i64 x.length]).run Tryd.prog w.drew = .ok (.string ⟨x.toArray⟩) (w.drew.freeze ⟨g, 0, none⟩ x.length) := by
      refine Lib.run_unsafeString_row w.drew 99 3 9 5 Tryd.underlying99 (by kernel_rfl) g cur.size (by have hg' : w.drew.heap[g]? = some (.cells cur 5 (0, 0)) := hg; simp [World.shape?, hg']) x h0 (by omega) (by unfold maxLen at hcm; omega) ?_
      intro j y hy
      have := hown.cells (g := g) rfl j (.int .u8 y.toNat) (by simp [Lib.byteCells, hy])
      exact this
    have hbg2 : b ≠ g := fun e => h.ne (by rw [e]; rfl)
    have hfin : Mv (Ow b (.slice (some ⟨g, 0, none⟩) x.length cap)) w (w.drew.freeze ⟨g, 0, none⟩ x.length) ∧ (w.drew.freeze ⟨g, 0, none⟩ x.length).heap[b]? = w.heap[b]? := by
      have hb := Lib.below_freeze (Below.drew (Below.refl 0 w)) (p := ⟨g, 0, none⟩) hbg x.length
      exact ⟨⟨hb.os, hb.tape, hb.output, by rw [freeze_size]; exact Nat.le_refl _, fun k _ he => freeze_other _ _ _ _ (fun e => he (.inr (by rw [e]; rfl)))⟩, freeze_other _ _ _ _ hbg2⟩
    clear hcs htake hnc hcm hg hown h
    have mixed : Tryd.prog.follows .mixedOrders = true := by kernel_rfl
    go_enter Tryd.func31, Tryd.ntmps31
    go_wp2_with fail
    go_region_o
    all_goals (go_wp2; go_ret; exact ⟨rfl, hfin⟩)
set_option maxHeartbeats 1000000 in
theorem reset_mv (b : Nat) (p v : Value) (w : World) (h : w.heap[b]? = some (.cells #[p, v] 77 (0, 0))) :
    Calls Tryd.prog 51 #[.pointer (some ⟨b, 0, none⟩)] w fun e w' => (∃ r, e = .returned r) ∧ Bld b (.slice none 0 0) [] w' ∧ Mv (fun k => k = b) w w' := by
  have c0 : w.cell? ⟨b, 0, none⟩ = some p := by rw [Lib.cell_of_heap h]; rfl
  have c1 : w.cell? ⟨b, 1, none⟩ = some v := by rw [Lib.cell_of_heap h]; rfl
  have f0 : w.frozen? ⟨b, 0, none⟩ = false := Lib.frozen_of_heap h 0
  have f1 : w.frozen? ⟨b, 1, none⟩ = false := Lib.frozen_of_heap h 1
  have h1 : ((w.setCell ⟨b, 0, none⟩ (.pointer none)).setCell ⟨b, 1, none⟩ (.slice none 0 0)).heap[b]? = some (.cells #[.pointer none, .slice none 0 0] 77 (0, 0)) := by simp [World.setCell, Array.getElem?_modify, h]
  go_enter Tryd.func51, Tryd.ntmps51
  go_wp2_with fail
  go_end0
  exact ⟨⟨_, rfl⟩, ⟨⟨_, .inl rfl, h1⟩, World.ownsRow_nil _ _ _ _, by simp [Value.ownBlock], fun _ => rfl⟩, ((Mv.refl (fun k => k = b) w).setc (p := ⟨b, 0, none⟩) (.inl rfl) _).setc (p := ⟨b, 1, none⟩) (.inl rfl) _⟩
end Go.Proofs.YtmoafagemdnifaaDoor
