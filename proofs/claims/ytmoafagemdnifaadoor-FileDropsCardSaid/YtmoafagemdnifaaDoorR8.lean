/- The reference's Lines of any text; lines that are the same. -/
import Derived.Test.YtmoafagemdnifaaDoorR7
namespace Go.Proofs.YtmoafagemdnifaaDoor
open Go.RowKit Lin
set_option maxRecDepth 100000 in
set_option maxHeartbeats 4000000 in
theorem rlines_any (s : ByteArray) (w : World) : Calls Tryd.prog 25 #[.string s] w (LinesP (lns s.data.toList) w) := by
  by_cases hz : 4000 < s.size
  · have hR : Hid (lns s.data.toList = .error (0, 51)) := by show _ = _; unfold lns; rw [size_list, if_pos hz]
    have hzI : (4000 : Int) < (s.size : Int) := by omega
    go_enter Tryd.func25, Tryd.ntmps25
    go_wp2_with fail
    go_ret3
    rw [hR.out]
    exact ⟨rfl, Below.refl _ _⟩
  · exact rlines_short s w (by omega)
/-- Lines that lie in memory. -/
def LnAt (w : World) (b : Nat) (l : List Ln) : Prop := ∀ (j : Nat) (x : Ln), l[j]? = some x → w.cell? ⟨b, j * 4, none⟩ = some (.int .i64 x.1) ∧ w.cell? ⟨b, j * 4 + 1, none⟩ = some (.string ⟨x.2.1.toArray⟩) ∧ w.cell? ⟨b, j * 4 + 2, none⟩ = some (.string ⟨x.2.2.1.toArray⟩) ∧ w.cell? ⟨b, j * 4 + 3, none⟩ = some (.int .i64 x.2.2.2)
theorem LnAt.mv {w w' : World} {b : Nat} {l : List Ln} (h : LnAt w b l) (hw : ∀ (j : Nat) v, w.cell? ⟨b, j, none⟩ = some v → w'.cell? ⟨b, j, none⟩ = some v) : LnAt w' b l := fun j x hj => by
  obtain ⟨h0, h1, h2, h3⟩ := h j x hj
  exact ⟨hw _ _ h0, hw _ _ h1, hw _ _ h2, hw _ _ h3⟩
theorem LnAt.below {w w' : World} {b : Nat} {l : List Ln} (h : LnAt w b l) (hb : Below w.heap.size w w') : LnAt w' b l := h.mv fun j _ hv => (hb.cell (p := ⟨b, j, none⟩) (cell_lt hv)).trans hv
theorem LnAt.take {w : World} {b : Nat} {l : List Ln} (h : LnAt w b l) (n : Nat) : LnAt w b (l.take n) := fun j x hj => by
  have hl := (List.getElem?_eq_some_iff.1 hj).1
  rw [List.length_take] at hl
  rw [List.getElem?_take_of_lt (by omega)] at hj
  exact h j x hj
theorem lnsC_at : ∀ (l : List Ln) (j : Nat) (x : Ln) (i : Nat), l[j]? = some x → i < 4 → (lnsC l)[j * 4 + i]? = (lnC x)[i]?
  | [], j, x, i, h, _ => by simp at h
  | y :: l, 0, x, i, h, hi => by
    have : y = x := by simpa using h
    subst this
    have e : lnsC (y :: l) = lnC y ++ lnsC l := rfl
    rw [e, Nat.zero_mul, Nat.zero_add, List.getElem?_append_left (by show i < 4; exact hi)]
  | y :: l, j + 1, x, i, h, hi => by
    have e : lnsC (y :: l) = lnC y ++ lnsC l := rfl
    have e2 : (j + 1) * 4 + i = 4 + (j * 4 + i) := by omega
    rw [e, e2, List.getElem?_append_right (by show 4 ≤ _; omega)]
    show (lnsC l)[4 + (j * 4 + i) - 4]? = _
    rw [Nat.add_sub_cancel_left]
    exact lnsC_at l j x i (by simpa using h) hi
theorem own_lines {w : World} {base : Nat} {v : Value} {l : List Ln} (h : w.ownsRow base 60 4 v l.length (lnsC l)) : ∃ (a : Option Addr) (g cap : Nat), v = .slice a l.length cap ∧ (0 < l.length → a = some ⟨g, 0, none⟩) ∧ LnAt w g l ∧ l.length ≤ cap := by
  rcases h.2 with ⟨hv, h0⟩ | ⟨g, cap, cur, hv, _, _, hle, _⟩
  · refine ⟨none, 0, 0, by rw [hv, h0], fun hp => by omega, fun j x hj => ?_, by omega⟩
    have := (List.getElem?_eq_some_iff.1 hj).1
    omega
  · refine ⟨some ⟨g, 0, none⟩, g, cap, hv, fun _ => rfl, fun j x hj => ?_, hle⟩
    have hjl : j < l.length := (List.getElem?_eq_some_iff.1 hj).1
    subst hv
    have hc : ∀ i, i < 4 → w.cell? ⟨g, j * 4 + i, none⟩ = (lnC x)[i]? := fun i hi => (h.cellAt (j * 4 + i) (by omega)).trans (lnsC_at l j x i hj hi)
    exact ⟨hc 0 (by omega), hc 1 (by omega), hc 2 (by omega), hc 3 (by omega)⟩
end Go.Proofs.YtmoafagemdnifaaDoor
