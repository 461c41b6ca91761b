/- Taking ahead under Zs what z waits for over other operations: what is listed has all that it waits for listed. -/
import Derived.Test.YtedgnigogkmgkaaGreatDoorRZ
namespace Go.Proofs.YtedgnigogkmgkaaGreatDoor
section
variable {P : Program} {ops : Array Oper} {Q : Exit → Act → World → Prop} {md : Region.Mode} {S T : World → Prop} {z : Nat}
/-- Whatever is listed waits for nothing that is not. -/
def Closed (md : Region.Mode) (ops : Array Oper) (L : Array Bool) : Prop := ∀ j oj, ops[j]? = some oj → L.getD j false = true → ∀ e ∈ oj.after, Region.binds md e = true → L.getD e.on false = true
theorem getD_true {L : Array Bool} {i k : Nat} (h : L.getD k false = true) : (L.setIfInBounds i true).getD k false = true := by
  by_cases e : i = k
  · subst e
    have hs : i < L.size := by
      rcases Nat.lt_or_ge i L.size with q | q
      · exact q
      · simp [Array.getElem?_eq_none q] at h
    simp [hs]
  · rw [getD_set_ne false e]; exact h
theorem Closed.next {L : Array Bool} (h : Closed md ops L) {i : Nat} (hi : i ∈ Region.ready md ops L) : Closed md ops (L.setIfInBounds i true) := by
  obtain ⟨_, oi, hoi, hedge⟩ := mem_ready.1 hi
  intro j oj hj hl e he hb
  by_cases q : i = j
  · subst q
    rw [hoi] at hj
    cases hj
    exact getD_true (hedge e he hb)
  · rw [getD_set_ne false q] at hl
    exact getD_true (h j oj hj hl e he hb)
/-- j waits for i, over others or not. -/
def reach (md : Region.Mode) (ops : Array Oper) (i : Nat) : Nat → Nat → Bool
  | 0, _ => false
  | f + 1, j => ((ops[j]?).map fun o => o.after.any fun e => Region.binds md e && (e.on == i || reach md ops i f e.on)).getD false
theorem off_of {L : Array Bool} {i : Nat} (h : L.getD i true = false) : L.getD i false = false := by
  rcases Nat.lt_or_ge i L.size with q | q
  · simp [q] at h ⊢; exact h
  · simp [Array.getElem?_eq_none q] at h
theorem reach_spec {i : Nat} {L : Array Bool} (hC : Closed md ops L) (hi : L.getD i true = false) : ∀ (f j : Nat), reach md ops i f j = true → L.getD j false = false ∧ j ∉ Region.ready md ops L
  | 0, _, h => by cases h
  | f + 1, j, h => by
    unfold reach at h
    cases ho : ops[j]? with
    | none => rw [ho] at h; cases h
    | some o =>
      rw [ho] at h
      simp only [Option.map_some, Option.getD_some, Array.any_eq_true'] at h
      obtain ⟨e, hm, hq⟩ := h
      rw [Bool.and_eq_true] at hq
      have hoff : L.getD e.on false = false := by
        rw [Bool.or_eq_true, beq_iff_eq] at hq
        rcases hq.2 with r | r
        · rw [r]; exact off_of hi
        · exact (reach_spec hC hi f e.on r).1
      refine ⟨?_, fun hr => ?_⟩
      · cases hl : L.getD j false with
        | false => rfl
        | true => have := hC j o ho hl e hm hq.1; rw [hoff] at this; cases this
      · obtain ⟨_, o2, ho2, hedge⟩ := mem_ready.1 hr
        rw [ho] at ho2
        cases ho2
        have := hedge e hm hq.1
        rw [hoff] at this
        cases this
theorem Zs.aheadC {i : Nat} {oi : Oper} {v : Value} {f : Nat} (hi : ops[i]? = some oi) (hs : Region.noSelect ops = true) (hQ : ∀ c a w, Q (.panic c) (a.put oi.dst v) w → Q (.panic c) a w) (hiz : i ≠ z) (hrz : reach md ops i f z = true) : ∀ (n : Nat) (L : Array Bool) (a : Act) (w : World), Closed md ops L → L.getD z true = false →
      (∀ j oj, ops[j]? = some oj → j ≠ i → L.getD j true = false → (∀ e ∈ oj.after, Region.binds md e = true → e.on ≠ i) → oi.apart ops oj = true) →
      i ∈ Region.ready md ops L → YieldsIf P ops S oi v a → S w → Zs P md ops Q S z n (L.setIfInBounds i true) (a.put oi.dst v) w → Zs P md ops Q S z (n + 1) L a w := by
  have now : ∀ (n : Nat) (L : Array Bool) (a : Act) (w : World), YieldsIf P ops S oi v a → S w → Zs P md ops Q S z n (L.setIfInBounds i true) (a.put oi.dst v) w →
      wpOp P ops Q i (fun a' w' => ((L.setIfInBounds i true).getD z true = false → S w') ∧ Zs P md ops Q S z n (L.setIfInBounds i true) a' w') a w := fun n L a w hy hS H =>
    hy.wpOp hi hS ⟨fun _ => hS, H⟩
  intro n
  induction n with
  | zero =>
    intro L a w _ _ _ hr hy hS H
    refine ⟨fun q => (by rw [q] at hr; cases hr), fun j hj => ?_⟩
    by_cases hji : j = i
    · subst hji; exact now 0 L a w hy hS H
    · exact absurd (H.1 ▸ ready_mono hj hji) (by simp)
  | succ n ih =>
    intro L a w hC hLz hap hr hy hS H
    refine ⟨fun q => (by rw [q] at hr; cases hr), fun j hj => ?_⟩
    by_cases hji : j = i
    · subst hji; exact now (n + 1) L a w hy hS H
    have hiu := (mem_ready.1 hr).1
    have hjz : j ≠ z := fun e => (reach_spec hC hiu f z hrz).2 (e ▸ hj)
    have hH := H.2 j (ready_mono hj hji)
    obtain ⟨hju, oj, hoj, hedge⟩ := mem_ready.1 hj
    have hsel := fun k o cs b => Region.noSelect_spec hs k o cs b
    have h2 := wpOp_putIf hoj (hap j oj hoj hji hju (fun e he hb => no_edge hiu (hedge e he hb))) (fun cs b => hsel i oi cs b hi) (fun cs b => hsel j oj cs b hoj) hQ hy hH
    refine wpOp_mono (fun a' w' h3 => ?_) h2
    obtain ⟨hy3, hS3, H3⟩ := h3
    rw [Array.setIfInBounds_comm _ _ (Ne.symm hji)] at hS3 H3
    have hLz' : (L.setIfInBounds j true).getD z true = false := by rw [getD_set_ne true hjz]; exact hLz
    have hS4 : S w' := hS3 (by rw [getD_set_ne true hiz]; exact hLz')
    refine ⟨fun _ => hS4, ih (L.setIfInBounds j true) a' w' (hC.next hj) hLz' (fun k ok hk hki hku hko => hap k ok hk hki ?_ hko) (ready_mono hr (Ne.symm hji)) hy3 hS4 H3⟩
    by_cases e : j = k
    · subst e; exact hju
    · rwa [getD_set_ne true e] at hku
/-- All that is listed waits for nothing that is not: told by a reckoning. -/
def closedB (md : Region.Mode) (ops : Array Oper) (L : Array Bool) : Bool := (List.range ops.size).all fun j => !(L.getD j false) || ((ops[j]?).map fun o => o.after.all fun e => !(Region.binds md e) || L.getD e.on false).getD true
theorem closed_of {L : Array Bool} (h : closedB md ops L = true) : Closed md ops L := by
  intro j oj hj hl e he hb
  have hjl : j < ops.size := (Array.getElem?_eq_some_iff.1 hj).1
  have := List.all_eq_true.1 h j (List.mem_range.2 hjl)
  rw [hl, hj] at this
  simp only [Bool.not_true, Bool.false_or, Option.map_some, Option.getD_some, Array.all_eq_true'] at this
  have := this e he
  rw [hb] at this
  simpa using this
/-- Taken ahead: z waits for it, over others or not. -/
theorem Zs.takeC {i : Nat} {oi : Oper} {v : Value} {n : Nat} {L : Array Bool} {a : Act} {w : World} (f : Nat) (hi : ops[i]? = some oi) (hs : Region.noSelect ops = true) (hf : Region.free md ops L i = true) (hr : (Region.ready md ops L).contains i = true) (hiz : i ≠ z) (hw : reach md ops i f z = true) (hLz : L.getD z true = false) (hC : closedB md ops L = true)
    (hQ : ∀ c a w, Q (.panic c) (a.put oi.dst v) w → Q (.panic c) a w) (hy : YieldsIf P ops S oi v a) (hS : S w) (h : Zs P md ops Q S z n (L.setIfInBounds i true) (a.put oi.dst v) w) : Zs P md ops Q S z (n + 1) L a w :=
  Zs.aheadC hi hs hQ hiz hw n L a w (closed_of hC) hLz (Region.free_spec hi hf) (by simpa using hr) hy hS h
end
end Go.Proofs.YtedgnigogkmgkaaGreatDoor
