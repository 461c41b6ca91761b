/- slices.Clone of parts; package calendar's copyOf. -/
import Derived.Test.YtfjbonhlokbhpaaDoorShelfC
import Derived.Test.YtfjbonhlokbhpaaDoorT4B
import Derived.Lib.BufferMore
namespace Go.Proofs.YtfjbonhlokbhpaaDoor
open Go.RowKit Go.Shelf
theorem infoP : (Tryd.prog.info? 87).map (fun i => (i.zero, i.size, i.bytes)) = some (some (.agg #[.bool false, .int .i64 0, .int .i64 0, .int .i64 0]), 4, 32) := by kernel_rfl
def paC (q : Part) : List Value := [.bool q.1, .int .i64 q.2.1, .int .i64 q.2.2.1, .int .i64 q.2.2.2]
theorem paC_len (l : List Part) : (l.flatMap paC).length = l.length * 4 := by
  induction l with
  | nil => rfl
  | cons x r ih => simp only [List.flatMap_cons, List.length_append, ih, List.length_cons]; simp only [paC, List.length_cons, List.length_nil]; omega
theorem paC_at : ∀ (l : List Part) (i : Nat) (q : Part), l[i]? = some q → ∀ j, j < 4 → (l.flatMap paC)[i * 4 + j]? = (paC q)[j]?
  | [], _, _, h, _, _ => by simp at h
  | x :: r, 0, q, h, j, hj => by
    simp at h; subst h
    rw [List.flatMap_cons, List.getElem?_append_left (by simp [paC]; omega)]; simp
  | x :: r, i + 1, q, h, j, hj => by
    rw [List.flatMap_cons, List.getElem?_append_right (by simp [paC]; omega)]
    have := paC_at r i q (by simpa using h) j hj
    rw [← this]
    congr 1
    simp [paC]; omega
theorem paC_back (l : List Part) (k : Nat) (u : Value) (h : (l.flatMap paC)[k]? = some u) : ∃ q, l[k / 4]? = some q ∧ (paC q)[k % 4]? = some u := by
  have hk : k < l.length * 4 := by have := (List.getElem?_eq_some_iff.1 h).1; rwa [paC_len] at this
  obtain ⟨q, hq⟩ : ∃ q, l[k / 4]? = some q := ⟨_, List.getElem?_eq_getElem (by omega)⟩
  have := paC_at l (k / 4) q hq (k % 4) (by omega)
  rw [show k / 4 * 4 + k % 4 = k by omega, h] at this
  exact ⟨q, hq, this.symm⟩
set_option maxRecDepth 100000 in
set_option maxHeartbeats 1000000 in
theorem clone_any (s : Sl) (ps : List Part) (w : World) (h : Pin (fun _ => False) w (slv s) ps) :
    Calls Tryd.prog 40 #[slv s] w fun e w' => ∃ s' : Sl, e = .returned (slv s') ∧ Below w.heap.size w w' ∧ Pin (fun k => k < w.heap.size) w' (slv s') ps := by
  obtain ⟨i0, hinf, hz0, hz1, hz2⟩ := info_parts infoP
  obtain ⟨p, cap, hv, hl, hc⟩ := h
  rw [hv]
  have fin : ∀ (v' : Value) (w' : World), w'.ownsRow w.heap.size 87 4 v' ps.length (ps.flatMap paC) → ∃ s' : Sl, v' = slv s' ∧ Pin (fun k => k < w.heap.size) w' (slv s') ps := fun v' w' ho => by
    rcases id ho.2 with ⟨rfl, h0⟩ | ⟨g, cap', cur, rfl, hb, _⟩
    · have : ps = [] := List.length_eq_zero_iff.1 h0
      subst this
      exact ⟨(none, 0, 0), rfl, none, 0, rfl, by simp, fun i q hq => by simp at hq⟩
    · refine ⟨(some ⟨g, 0, none⟩, ps.length, cap'), rfl, some ⟨g, 0, none⟩, cap', rfl, hl, fun i q hq => ⟨g, 0, rfl, by omega, ?_⟩⟩
      have hi : i < ps.length := (List.getElem?_eq_some_iff.1 hq).1
      have at' : ∀ j, j < 4 → w'.cell? ⟨g, 0 + i * 4 + j, none⟩ = (paC q)[j]? := fun j hj => by
        rw [Nat.zero_add]
        exact (ho.cellAt (i * 4 + j) (by omega)).trans (paC_at ps i q hq j hj)
      exact ⟨by simpa [paC] using at' 0 (by omega), by simpa [paC] using at' 1 (by omega), by simpa [paC] using at' 2 (by omega), by simpa [paC] using at' 3 (by omega)⟩
  cases p with
  | none =>
    have : ps = [] := by
      cases ps with
      | nil => rfl
      | cons q r =>
        obtain ⟨b, o, e, _⟩ := hc 0 q rfl
        cases e
    subst this
    refine (Tryd.slices_Clone_nil 0 cap w).mono ?_
    rintro e w' ⟨rfl, rfl⟩
    exact ⟨(none, 0, 0), rfl, Below.refl _ _, none, 0, rfl, by simp, fun i q hq => by simp at hq⟩
  | some a =>
    cases ps with
    | nil =>
      simp only [List.length_nil]
      have heq : ∀ w, (binOp .eql 22 (.slice (some a) 0 cap) (.slice none 0 0)).run Tryd.prog w = .ok (.bool false) w := fun w => by
        have := Lib.run_eql_slice_some_nil (P := Tryd.prog) w (t := 22) a 0 cap Tryd.underlying22
        exact this
      have ho0 : (w.alloc (.cells #[] 87)).ownsRow w.heap.size 87 4 (.slice (some ⟨w.heap.size, 0, none⟩) 0 0) 0 [] := ⟨rfl, .inr ⟨w.heap.size, 0, #[], rfl, Nat.le_refl _, heap_alloc_new _ _, Nat.le_refl _, Nat.zero_le _, rfl, rfl⟩⟩
      go_enter Tryd.func40, Tryd.ntmps40
      go_wp2_with (at_builtin; refine wpList_append_own_at _ rfl _ _ 22 rfl w.heap.size 87 i0 _ 4 32 Tryd.underlying22 hinf hz0 hz1 hz2 rfl (by decide) _ _ _ rfl ho0 a 0 cap [] rfl rfl (fun j u hj => by simp at hj) (fun x hx => by simp at hx) (by unfold maxLen; omega) (by omega) (by simp) ?_)
      intro v' w4 hown' hgrow _ _
      have hb : Below w.heap.size w w4 := ((Mv.alloc (fun _ => False) w _).grown hgrow (fun k e => by cases e; right; simp)).toBelow (Nat.le_refl _) (fun _ _ h => h)
      obtain ⟨s', rfl, hp⟩ := fin v' w4 hown'
      clear hgrow hown'
      go_wp2_with fail
      go_ret
      exact ⟨s', rfl, hb, hp⟩
    | cons q0 r0 =>
      obtain ⟨b, o, e, _⟩ := hc 0 q0 rfl
      cases e
      refine (Tryd.slices_Clone i0 _ 4 32 hinf hz0 hz1 hz2 rfl (by decide) Tryd.sizeOf87 b o (q0 :: r0).length cap ((q0 :: r0).flatMap paC) w (paC_len _) (by unfold maxLen; omega) (by omega) (fun j u hj => ?_) (fun u hu => ?_)).mono ?_
      · obtain ⟨q, hq, hu⟩ := paC_back _ j u hj
        obtain ⟨b', o', e', _, c0, c1, c2, c3⟩ := hc (j / 4) q hq
        simp only [Option.some.injEq, Addr.mk.injEq, and_true] at e'
        obtain ⟨rfl, rfl⟩ := e'
        have h4 : j % 4 = 0 ∨ j % 4 = 1 ∨ j % 4 = 2 ∨ j % 4 = 3 := by omega
        rcases h4 with h | h | h | h <;> rw [h] at hu <;> simp [paC] at hu <;> subst hu
        · rw [show o + j = o + j / 4 * 4 by omega]; exact c0
        · rw [show o + j = o + j / 4 * 4 + 1 by omega]; exact c1
        · rw [show o + j = o + j / 4 * 4 + 2 by omega]; exact c2
        · rw [show o + j = o + j / 4 * 4 + 3 by omega]; exact c3
      · obtain ⟨q, _, hq⟩ := List.mem_flatMap.1 hu
        simp only [paC, List.mem_cons, List.not_mem_nil, or_false] at hq
        rcases hq with rfl | rfl | rfl | rfl <;> rfl
      · rintro e w' ⟨v', rfl, ho, _, hb⟩
        obtain ⟨s', rfl, hp⟩ := fin v' w' ho
        exact ⟨s', rfl, hb, hp⟩
end Go.Proofs.YtfjbonhlokbhpaaDoor
