/- Reap, plain: the reference's row without the one that is reaped is process 1 and what the code keeps. -/
import Derived.Test.YtcikjnifkoagpaaRQ9
namespace Go.Proofs.Ytcikjnifkoagpaa
open Go.RowKit Go.Shelf
theorem del_at {a b : Ps} {p : Pr} (hs : Srt (a ++ p :: b)) : del (a ++ p :: b) p.pid = a ++ b := by
  obtain ⟨h1, h2, h3⟩ := List.pairwise_append.1 hs
  obtain ⟨h4, h5⟩ := List.pairwise_cons.1 h2
  have ha : del a p.pid = a := del_none (fun x hx e => by have := h3 x hx p List.mem_cons_self; omega)
  have hb : del b p.pid = b := del_none (fun x hx e => by have := h4 x hx; omega)
  unfold del at *
  rw [List.filter_append, List.filter_cons, ha, hb]
  simp
theorem reap_one (l : Ps) (k : Int) : rpP (one :: l) k = rpP l k := by
  unfold rpP
  rw [List.find?_cons]
  have : rpB k one = false := by unfold rpB one; simp
  rw [this]
/-- The first that is to be reaped lies behind process 1, at a place of its own. -/
theorem reap_at {l : Ps} {k : Int} {p : Pr} (h : rpP l k = some p) : ∃ a b, l = a ++ p :: b ∧ rpB k p = true ∧ ∀ x ∈ one :: a, rpB k x = false := by
  unfold rpP at h
  obtain ⟨hp, a, b, e, hn⟩ := List.find?_eq_some_iff_append.1 h
  refine ⟨a, b, e, hp, fun x hx => ?_⟩
  rcases List.mem_cons.1 hx with q | q
  · rw [q]; unfold rpB one; simp
  · simpa using hn x q
theorem reap_agree {room last : Int} {l : Ps} (hw : Wf room last l) {k : Int} {p : Pr} {a b : Ps} (h : rpP l k = some p) (e : one :: l = a ++ p :: b) (hn : ∀ x ∈ a, rpB k x = false) : a ++ b = one :: rpL l k := by
  have hp : rpB k p = true := by unfold rpP at h; exact List.find?_some h
  cases a with
  | nil =>
    have : p = one := by simp at e; exact e.1.symm
    rw [this] at hp
    unfold rpB one at hp
    simp at hp
  | cons x a =>
    simp only [List.cons_append, List.cons.injEq] at e
    obtain ⟨ex, el⟩ := e
    have hs := hw.srt
    rw [el] at hs
    unfold rpL
    rw [h]
    simp only
    rw [el, del_at hs, ← ex]
    rfl
end Go.Proofs.Ytcikjnifkoagpaa
