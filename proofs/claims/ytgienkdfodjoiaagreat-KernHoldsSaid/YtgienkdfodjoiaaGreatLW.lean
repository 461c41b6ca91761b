/- A table that a law has made, step by step. -/
import Derived.Test.YtgienkdfodjoiaaGreatPI
namespace Go.Proofs.YtgienkdfodjoiaaGreat.Pc
open Go.RowKit Go.Shelf
variable {X : Nat → Option Value}
/-- A table as it may be. -/
structure Wf (room last : Int) (l : Ps) : Prop where
  srt : Srt l
  rng : ∀ p ∈ l, 2 ≤ p.pid ∧ p.pid ≤ last
  la : 1 ≤ last
  len : l = [] ∨ (l.length : Int) ≤ room
  rm : room ≤ 64
theorem Wf.len' {room last : Int} {l : Ps} (h : Wf room last l) : l.length ≤ 64 := by
  have := h.rm
  rcases h.len with e | e
  · rw [e]; simp
  · omega
theorem Wf.new (r : Int) : Wf (roomOf r) 1 [] := ⟨List.Pairwise.nil, fun p h => by simp at h, by omega, .inl rfl, by unfold roomOf; omega⟩
theorem Wf.pids {room last : Int} {l l' : Ps} (h : Wf room last l) (e : l'.map (·.pid) = l.map (·.pid)) : Wf room last l' := by
  have hl : l'.length = l.length := by simpa using congrArg List.length e
  refine ⟨srt_pids e h.srt, fun p hp => ?_, h.la, ?_, h.rm⟩
  · have : p.pid ∈ l.map (·.pid) := by rw [← e]; exact List.mem_map_of_mem (f := (·.pid)) hp
    obtain ⟨q, hq, e'⟩ := List.mem_map.1 this
    have := h.rng q hq
    omega
  · rcases h.len with e2 | e2
    · left; rw [e2] at hl; exact List.eq_nil_of_length_eq_zero (by simpa using hl)
    · right; omega
theorem Wf.kill {room last : Int} {l : Ps} (h : Wf room last l) (k sig : Int) : Wf room last (klL l k sig) := by
  unfold klL
  split
  · exact h.pids (rep_pids _ _)
  · exact h
theorem Wf.exit {room last : Int} {l : Ps} (h : Wf room last l) (k s : Int) : Wf room last (exL l k s) := by
  unfold exL
  split
  · refine h.pids ?_
    rw [List.map_map]
    exact (List.map_congr_left (fun q _ => orph_pid k q)).trans (rep_pids _ _)
  · exact h
theorem Wf.reap {room last : Int} {l : Ps} (h : Wf room last l) (k : Int) : Wf room last (rpL l k) := by
  unfold rpL
  split
  · rename_i p _
    have hsub : (del l p.pid).Sublist l := List.filter_sublist
    refine ⟨h.srt.sublist hsub, fun q hq => h.rng q (hsub.subset hq), h.la, ?_, h.rm⟩
    have := hsub.length_le
    rcases h.len with e | e
    · left; rw [e]; rfl
    · right; omega
  · exact h
theorem Wf.spawn {room last : Int} {l : Ps} (h : Wf room last l) (k : Int) (g c : ByteArray) : Wf room (spP room last l k g c).last (spP room last l k g c).l := by
  unfold spP
  split
  · split
    · exact h
    · rename_i hr
      refine ⟨?_, fun p hp => ?_, by show 1 ≤ last + 1; have := h.la; omega, .inr (by simp; omega), h.rm⟩
      · refine List.pairwise_append.2 ⟨h.srt, by simp, fun a ha b hb => ?_⟩
        simp at hb; subst hb
        have := h.rng a ha
        show a.pid < last + 1
        omega
      · rcases List.mem_append.1 hp with hp | hp
        · have := h.rng p hp; show _ ∧ _ ≤ last + 1; omega
        · simp at hp; subst hp; have := h.la; show 2 ≤ last + 1 ∧ last + 1 ≤ last + 1; omega
  · exact h
theorem Wf.fork {room last : Int} {l : Ps} (h : Wf room last l) (k : Int) : Wf room (fkP room last l k).last (fkP room last l k).l := by
  unfold fkP
  split
  · exact h.spawn _ _ _
  · exact h
theorem sp_last (room last : Int) (l : Ps) (k : Int) (g c : ByteArray) : last ≤ (spP room last l k g c).last ∧ (spP room last l k g c).last ≤ last + 1 := by
  unfold spP
  split
  · split
    · show last ≤ last ∧ last ≤ last + 1; omega
    · show last ≤ last + 1 ∧ last + 1 ≤ last + 1; omega
  · show last ≤ last ∧ last ≤ last + 1; omega
theorem fk_last (room last : Int) (l : Ps) (k : Int) : last ≤ (fkP room last l k).last ∧ (fkP room last l k).last ≤ last + 1 := by
  unfold fkP
  split
  · exact sp_last _ _ _ _ _ _
  · show last ≤ last ∧ last ≤ last + 1; omega
end Go.Proofs.YtgienkdfodjoiaaGreat.Pc
