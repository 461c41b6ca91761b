/- Groups and sections are the same, plain. -/
import Derived.Test.YtiinhfbfciccnaaDoorM3B
namespace Go.Proofs.YtiinhfbfciccnaaDoor
open Lin
/-- The groups by their sections. -/
def byS (l : List St) (z : List ByteArray) : Gs := z.map fun s => (s, l.filter fun x => decide (x.s = s))
theorem inS_iff (z : List ByteArray) (s : ByteArray) : inS z s = true ↔ s ∈ z := by simp [inS]
theorem grp_byS (l : List St) (x : St) : ∀ (z : List ByteArray), z.Nodup → (∀ s ∈ z, ∃ y ∈ l, y.s = s) → (x.s ∉ z → l.filter (fun y => decide (y.s = x.s)) = []) → grp (byS l z) x = byS (l ++ [x]) (addS z x)
  | [], _, _, h => by
    have h0 := h (by simp)
    have e : inS [] x.s = false := rfl
    simp [byS, addS, e, grp, List.filter_append, h0]
  | s :: r, hn, hm, h => by
    have hn2 := List.nodup_cons.1 hn
    by_cases hs : s = x.s
    · subst hs
      have e : inS (x.s :: r) x.s = true := by simp [inS]
      have ht : ∀ t ∈ r, ¬ x.s = t := fun t ht e => hn2.1 (e ▸ ht)
      simp only [byS, addS, e, if_true, List.map_cons, grp]
      refine List.cons_eq_cons.2 ⟨by simp [List.filter_append], ?_⟩
      refine List.map_congr_left (fun t hh => ?_)
      simp [List.filter_append, ht t hh]
    · have ih := grp_byS l x r hn2.2 (fun t ht => hm t (List.mem_cons_of_mem _ ht)) (fun hx => h (fun q => (List.mem_cons.1 q).elim (fun e => hs e.symm) hx))
      have e : inS (s :: r) x.s = inS r x.s := by simp [inS, hs]
      have hs2 : ¬ x.s = s := fun e => hs e.symm
      have e2 : addS (s :: r) x = s :: addS r x := by unfold addS; rw [e]; split <;> rfl
      rw [e2]
      simp only [byS, List.map_cons, grp, hs, if_false]
      refine List.cons_eq_cons.2 ⟨by simp [List.filter_append, hs2], ?_⟩
      exact ih
theorem addS_nodup {z : List ByteArray} (x : St) (h : z.Nodup) : (addS z x).Nodup := by
  unfold addS
  split
  · exact h
  · rename_i hh
    have : x.s ∉ z := fun e => hh ((inS_iff z x.s).2 e)
    rw [List.nodup_append]
    exact ⟨h, by simp, fun a ha b hb => by simp at hb; subst hb; exact fun e => this (e ▸ ha)⟩
theorem addS_in (z : List ByteArray) (x : St) (s : ByteArray) : s ∈ addS z x ↔ s ∈ z ∨ s = x.s := by
  unfold addS
  split
  · rename_i hh
    have := (inS_iff z x.s).1 hh
    exact ⟨.inl, fun h => h.elim id (fun e => e ▸ this)⟩
  · simp
theorem groups_byS : ∀ (r l : List St) (z : List ByteArray), z.Nodup → (∀ s, s ∈ z ↔ ∃ y ∈ l, y.s = s) → r.foldl grp (byS l z) = byS (l ++ r) (r.foldl addS z)
  | [], l, z, _, _ => by simp
  | x :: r, l, z, hn, hm => by
    rw [List.foldl_cons, List.foldl_cons, grp_byS l x z hn (fun s hs => (hm s).1 hs) (fun hx => ?_), groups_byS r (l ++ [x]) (addS z x) (addS_nodup x hn) (fun s => ?_)]
    · simp
    · rw [addS_in, hm]
      constructor
      · rintro (⟨y, hy, e⟩ | e)
        · exact ⟨y, by simp [hy], e⟩
        · exact ⟨x, by simp, e.symm⟩
      · rintro ⟨y, hy, e⟩
        rcases List.mem_append.1 hy with hy | hy
        · exact .inl ⟨y, hy, e⟩
        · simp at hy; subst hy; exact .inr e.symm
    · rw [List.filter_eq_nil_iff]
      intro y hy
      simp only [decide_eq_true_eq]
      exact fun e => hx ((hm x.s).2 ⟨y, hy, e⟩)
/-- Both print the same. -/
theorem prt_rprt (l : List St) : prt (groups l) = rprt l := by
  have h := groups_byS l [] [] List.nodup_nil (fun s => by simp)
  have e : groups l = byS l (secs l) := by simpa [groups, secs, byS] using h
  rw [e]
  unfold prt rprt byS
  rw [List.flatMap_map]
  rfl
theorem groups_secs (l : List St) : (groups l).map Prod.fst = secs l := by
  have h := groups_byS l [] [] List.nodup_nil (fun s => by simp)
  have e : groups l = byS l (secs l) := by simpa [groups, secs, byS] using h
  rw [e]
  simp [byS, Function.comp_def]
end Go.Proofs.YtiinhfbfciccnaaDoor
