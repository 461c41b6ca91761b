/- The reference's Lines of any text; lines that are the same. -/
import Derived.Test.YtcihilaofehomaaDoorR7
namespace Go.Proofs.YtcihilaofehomaaDoor
open Go.RowKit Lin
set_option maxRecDepth 100000 in
set_option maxHeartbeats 4000000 in
theorem rlines_any (s : ByteArray) (w : World) : Calls Tryd.prog 11 #[.string s] w (LinesP (lns s.data.toList) w) := by
  by_cases hz : 4000 < s.size
  · have hR : Hid (lns s.data.toList = .error (0, 51)) := by show _ = _; unfold lns; rw [size_list, if_pos hz]
    have hzI : (4000 : Int) < (s.size : Int) := by omega
    go_enter Tryd.func11, Tryd.ntmps11
    go_wp2_with fail
    go_ret3
    rw [hR.out]
    exact ⟨rfl, Below.refl _ _⟩
  · exact rlines_short s w (by omega)
/-- Lines that lie in memory. -/
def LnAt (w : World) (b : Nat) (l : List Ln) : Prop := ∀ (j : Nat) (x : Ln), l[j]? = some x → w.cell? ⟨b, j * 4, none⟩ = some (.int .i64 x.1) ∧ w.cell? ⟨b, j * 4 + 1, none⟩ = some (.string ⟨x.2.1.toArray⟩) ∧ w.cell? ⟨b, j * 4 + 2, none⟩ = some (.string ⟨x.2.2.1.toArray⟩) ∧ w.cell? ⟨b, j * 4 + 3, none⟩ = some (.int .i64 x.2.2.2)
theorem LnAt.mv {w w' : World} {b : Nat} {l : List Ln} (h : LnAt w b l) (hw : ∀ (j : Nat) v, w.cell? ⟨b, j, none⟩ = some v → w'.cell? ⟨b, j, none⟩ = some v) : LnAt w' b l := fun j x hj => by
  obtain ⟨h0, h1, h2, h3⟩ := h j x hj
  exact ⟨hw _ _ h0, hw _ _ h1, hw _ _ h2, hw _ _ h3⟩
theorem LnAt.below {w w' : World} {b : Nat} {l : List Ln} (h : LnAt w b l) (hb : Below w.heap.size w w') : LnAt w' b l := h.mv fun j _ hv => (hb.cell (p := ⟨b, j, none⟩) (cell_lt hv)).trans hv
theorem LnAt.take {w : World} {b : Nat} {l : List Ln} (h : LnAt w b l) (n : Nat) : LnAt w b (l.take n) := fun j x hj => by
  have hl := (List.getElem?_eq_some_iff.1 hj).1
  rw [List.length_take] at hl
  rw [List.getElem?_take_of_lt (by omega)] at hj
  exact h j x hj
theorem lnsC_at : ∀ (l : List Ln) (j : Nat) (x : Ln) (i : Nat), l[j]? = some x → i < 4 → (lnsC l)[j * 4 + i]? = (lnC x)[i]?
  | [], j, x, i, h, _ => by simp at h
  | y :: l, 0, x, i, h, hi => by
    have : y = x := by simpa using h
    subst this
    have e : lnsC (y :: l) = lnC y ++ lnsC l := rfl
    rw [e, Nat.zero_mul, Nat.zero_add, List.getElem?_append_left (by show i < 4; exact hi)]
  | y :: l, j + 1, x, i, h, hi => by
    have e : lnsC (y :: l) = lnC y ++ lnsC l := rfl
    have e2 : (j + 1) * 4 + i = 4 + (j * 4 + i) := by omega
    rw [e, e2, List.getElem?_append_right (by show 4 ≤ _; omega)]
    show (lnsC l)[4 + (j * 4 + i) - 4]? = _
    rw [Nat.add_sub_cancel_left]
    exact lnsC_at l j x i (by simpa using h) hi
theorem own_lines {w : World} {base : Nat} {v : Value} {l : List Ln} (h : w.ownsRow base 34 4 v l.length (lnsC l)) : ∃ (a : Option Addr) (g cap : Nat), v = .slice a l.length cap ∧ (0 < l.length → a = some ⟨g, 0, none⟩) ∧ LnAt w g l ∧ l.length ≤ cap := by
  rcases h.2 with ⟨hv, h0⟩ | ⟨g, cap, cur, hv, _, _, hle, _⟩
  · refine ⟨none, 0, 0, by rw [hv, h0], fun hp => by omega, fun j x hj => ?_, by omega⟩
    have := (List.getElem?_eq_some_iff.1 hj).1
    omega
  · refine ⟨some ⟨g, 0, none⟩, g, cap, hv, fun _ => rfl, fun j x hj => ?_, hle⟩
    have hjl : j < l.length := (List.getElem?_eq_some_iff.1 hj).1
    subst hv
    have hc : ∀ i, i < 4 → w.cell? ⟨g, j * 4 + i, none⟩ = (lnC x)[i]? := fun i hi => (h.cellAt (j * 4 + i) (by omega)).trans (lnsC_at l j x i hj hi)
    exact ⟨hc 0 (by omega), hc 1 (by omega), hc 2 (by omega), hc 3 (by omega)⟩
set_option maxRecDepth 100000 in
set_option maxHeartbeats 2000000 in
theorem lines_same (a1 a2 : Option Addr) (b1 c1 b2 c2 : Nat) (l : List Ln) (w : World) (h1 : 0 < l.length → a1 = some ⟨b1, 0, none⟩) (h2 : 0 < l.length → a2 = some ⟨b2, 0, none⟩) (hc1 : LnAt w b1 l) (hc2 : LnAt w b2 l) (hl : l.length ≤ 1000000) :
    Calls Tryd.prog 12 #[.slice a1 l.length c1, .slice a2 l.length c2] w fun e w' => e = .returned (.bool true) ∧ Below w.heap.size w w' := by
  obtain ⟨n, hn⟩ : ∃ n, l.length = n := ⟨_, rfl⟩
  rw [hn] at h1 h2 hl ⊢
  have hN : Hid (l.length = n) := hn
  have hC1 : Hid (LnAt w b1 l) := hc1
  have hC2 : Hid (LnAt w b2 l) := hc2
  clear hn hc1 hc2
  go_enter Tryd.func12, Tryd.ntmps12
  go_wp2_with fail
  go_loopw [5] (fun i wr => ∃ k : Nat, k ≤ n ∧ i = .int .i64 k ∧ Below w.heap.size w wr) (fun i _ => n - (intOf i).toNat)
  case atStart => exact ⟨0, by omega, rfl, Below.refl _ _⟩
  case round =>
    obtain ⟨k, hk, rfl, hb⟩ := hrel
    by_cases hkl : k < n
    · obtain ⟨x, hx⟩ : ∃ x, l[k]? = some x := ⟨_, List.getElem?_eq_getElem (by rw [hN.out]; exact hkl)⟩
      obtain ⟨p0, p1, p2, p3⟩ := (hC1.out.below hb) k x hx
      obtain ⟨q0, q1, q2, q3⟩ := (hC2.out.below hb) k x hx
      obtain ⟨kd, ky, vl, nm⟩ := x
      obtain ⟨K, _, _, hKe⟩ := letters ky
      obtain ⟨V, _, _, hVe⟩ := letters vl
      simp only [hKe, hVe] at p0 p1 p2 p3 q0 q1 q2 q3
      obtain rfl := h1 (by omega)
      obtain rfl := h2 (by omega)
      clear h1 h2 hx hKe hVe
      go_wp2_with fail
      go_quiet (fail)
      go_wp2_with fail
      exact ⟨⟨k + 1, by omega, by go_num, below_drewN hb _⟩, by simp [intOf]; omega⟩
    · have hke : k = n := by omega
      subst hke
      go_wp2_with fail
      go_ret
      exact ⟨rfl, hb⟩
end Go.Proofs.YtcihilaofehomaaDoor
