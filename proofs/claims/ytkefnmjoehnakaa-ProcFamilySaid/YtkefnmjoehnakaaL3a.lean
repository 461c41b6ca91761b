/- What ProcTree asks of a table: plain. -/
import Derived.Test.YtkefnmjoehnakaaL2
namespace Go.Proofs.Ytkefnmjoehnakaa
open Go.RowKit Go.Shelf
/-- Each has a parent that is there and hasn't ended, of a lesser number, or is the first one's. -/
def Tree (l : Ps) : Prop := ∀ p ∈ l, p.par = 1 ∨ ∃ q ∈ l, q.pid = p.par ∧ q.zom = false ∧ q.pid < p.pid
theorem Tree.spawn {room last : Int} {l : Ps} (h : Tree l) (hw : Wf room last l) (k : Int) (g c : ByteArray) : Tree (spP room last l k g c).l := by
  unfold spP
  cases hm : mayP l k with
  | false => simpa using h
  | true =>
    simp only [if_true]
    split
    · exact h
    · intro p hp
      rcases List.mem_append.1 hp with hp | hp
      · rcases h p hp with e | ⟨q, hq, e⟩
        · exact .inl e
        · exact .inr ⟨q, List.mem_append_left _ hq, e⟩
      · simp at hp
        subst hp
        show k = 1 ∨ _
        by_cases hk : k = 1
        · exact .inl hk
        · right
          unfold mayP thereP getP at hm
          rw [if_neg hk, decide_eq_false hk] at hm
          cases hl : lk l k with
          | none => rw [hl] at hm; simp at hm
          | some q =>
            rw [hl] at hm
            have hq := lk_mem hl
            have := hw.rng q hq
            have hqk := lk_pid hl
            exact ⟨q, List.mem_append_left _ hq, hqk, by simpa using hm, by show q.pid < last + 1; omega⟩
theorem Tree.fork {room last : Int} {l : Ps} (h : Tree l) (hw : Wf room last l) (k : Int) : Tree (fkP room last l k).l := by
  unfold fkP
  split
  · exact h.spawn hw _ _ _
  · exact h
theorem Tree.exit {room last : Int} {l : Ps} (h : Tree l) (hw : Wf room last l) (k s : Int) : Tree (exL l k s) := by
  unfold exL
  split
  · rename_i hl
    obtain ⟨x, hx, hxk, hmem, _⟩ := liv_some hl
    rw [hx]
    simp only [Option.getD_some]
    intro p hp
    obtain ⟨p1, hp1, rfl⟩ := List.mem_map.1 hp
    obtain ⟨p0, hp0, e0⟩ := List.mem_map.1 hp1
    by_cases hpk : p1.par = k
    · left; unfold orph; rw [if_pos hpk]
    · have ho : orph k p1 = p1 := by unfold orph; rw [if_neg hpk]
      rw [ho]
      have hpar : p1.par = p0.par ∧ p1.pid = p0.pid := by
        by_cases e : p0.pid = x.pid
        · rw [if_pos e] at e0
          have : p0 = x := by
            have a := lk_of_mem hw.srt hp0
            rw [e, hxk, hx] at a
            exact (Option.some.inj a).symm
          subst this
          rw [← e0]
          exact ⟨rfl, rfl⟩
        · rw [if_neg e] at e0; rw [e0]; exact ⟨rfl, rfl⟩
      rcases h p0 hp0 with e | ⟨q, hq, e1, e2, e3⟩
      · left; rw [hpar.1]; exact e
      · right
        have hqk : q.pid ≠ x.pid := by rw [hxk]; intro e; exact hpk (by rw [hpar.1, ← e1, e])
        refine ⟨orph k q, List.mem_map.2 ⟨q, List.mem_map.2 ⟨q, hq, by rw [if_neg hqk]⟩, rfl⟩, ?_, ?_, ?_⟩
        · rw [orph_pid, hpar.1]; exact e1
        · unfold orph; split <;> exact e2
        · rw [orph_pid, hpar.2]; exact e3
  · exact h
theorem Tree.reap {room last : Int} {l : Ps} (h : Tree l) (hw : Wf room last l) (k : Int) : Tree (rpL l k) := by
  unfold rpL
  split
  · rename_i x hx
    have hxz : x.zom = true := by
      have := List.find?_some hx
      simp [rpB] at this
      exact this.2
    have hxm : x ∈ l := List.mem_of_find?_eq_some hx
    intro p hp
    obtain ⟨hp1, hp2⟩ := List.mem_filter.1 hp
    rcases h p hp1 with e | ⟨q, hq, e1, e2, e3⟩
    · exact .inl e
    · by_cases hqx : q.pid = x.pid
      · have a := lk_of_mem hw.srt hq
        rw [hqx, lk_of_mem hw.srt hxm] at a
        rw [← Option.some.inj a, hxz] at e2
        cases e2
      · exact .inr ⟨q, List.mem_filter.2 ⟨hq, by simp [hqx]⟩, e1, e2, e3⟩
  · exact h
theorem fk_two (room last : Int) (l : Ps) (k : Int) : ((fkP room last l k).n = last + 1 ∧ (fkP room last l k).e = 0 ∧ (fkP room last l k).last = last + 1) ∨ ((fkP room last l k).e ≠ 0 ∧ (fkP room last l k).n = 0 ∧ (fkP room last l k).last = last) := by
  unfold fkP
  split
  · unfold spP
    split
    · split
      · exact .inr ⟨by simp, rfl, rfl⟩
      · exact .inl ⟨rfl, rfl, rfl⟩
    · exact .inr ⟨by simp, rfl, rfl⟩
  · exact .inr ⟨by simp, rfl, rfl⟩
theorem rp_one {l : Ps} {x : Pr} (h : rpP l 1 = some x) : x.par = 1 ∧ x.zom = true := by
  have := List.find?_some h
  simpa [rpB] using this
theorem rp_gone {room last : Int} {l : Ps} {x : Pr} (hw : Wf room last l) (h : rpP l 1 = some x) : thereP (rpL l 1) x.pid = false := by
  have hx := hw.rng x (List.mem_of_find?_eq_some h)
  unfold rpL thereP
  rw [h]
  have hn : lk (del l x.pid) x.pid = none := by
    rw [lk_none]
    intro p hp
    have := (List.mem_filter.1 hp).2
    simpa using this
  simp only [hn]
  simp
  omega
theorem srt_one {room last : Int} {l : Ps} (hw : Wf room last l) : Srt (one :: l) := List.pairwise_cons.2 ⟨fun p hp => by have := hw.rng p hp; show 1 < p.pid; omega, hw.srt⟩
/-- What stands at a place of the list of all, and ahead of it. -/
theorem tree_at {room last : Int} {l : Ps} {k : Nat} (hw : Wf room last l) (ht : Tree l) (hk : k < l.length + 1) (h1 : 1 ≤ k) :
    ∃ x y, (one :: l)[k]? = some x ∧ (one :: l)[k - 1]? = some y ∧ y.pid < x.pid ∧ x.par < x.pid ∧ thereP l x.par = true ∧ (getP l x.par).zom = false ∧ 1 ≤ x.par ∧ x.par ≤ last := by
  obtain ⟨x, hx⟩ : ∃ x, (one :: l)[k]? = some x := ⟨_, List.getElem?_eq_getElem (by simpa using hk)⟩
  obtain ⟨y, hy⟩ : ∃ y, (one :: l)[k - 1]? = some y := ⟨_, List.getElem?_eq_getElem (by simp; omega)⟩
  have hs := srt_one hw
  obtain ⟨hkx, ex⟩ := List.getElem?_eq_some_iff.1 hx
  obtain ⟨hky, ey⟩ := List.getElem?_eq_some_iff.1 hy
  have hlt := List.pairwise_iff_getElem.1 hs (k - 1) k hky hkx (by omega)
  rw [ex, ey] at hlt
  have hxm : x ∈ l := by
    obtain ⟨m, rfl⟩ : ∃ m, k = m + 1 := ⟨k - 1, by omega⟩
    rw [List.getElem?_cons_succ] at hx
    exact List.mem_of_getElem? hx
  have hxr := hw.rng x hxm
  refine ⟨x, y, hx, hy, hlt, ?_⟩
  rcases ht x hxm with e | ⟨q, hq, e1, e2, e3⟩
  · rw [e]
    exact ⟨by omega, by simp [thereP], by simp [getP, one], by omega, hw.la⟩
  · have hqr := hw.rng q hq
    have hne : x.par ≠ 1 := by omega
    have hl := lk_of_mem hw.srt hq
    rw [e1] at hl
    refine ⟨by omega, by simp [thereP, hl], ?_, by omega, by omega⟩
    unfold getP
    rw [if_neg hne, hl]
    exact e2
end Go.Proofs.Ytkefnmjoehnakaa
