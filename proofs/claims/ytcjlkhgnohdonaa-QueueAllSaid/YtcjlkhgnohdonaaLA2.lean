/- QueueAll: the queue beside what the law keeps. -/
import Derived.Test.YtcjlkhgnohdonaaLA3
namespace Go.Proofs.Ytcjlkhgnohdonaa
open Go.RowKit Go.Shelf Go.Lib
attribute [local go_sem] Oper.semAt_some
set_option maxRecDepth 100000 in
set_option maxHeartbeats 1000000 in
theorem bf_all : Qi.Bf 18 (fun x => x) := by
  refine ⟨enters_of Try.func18 (by kernel_rfl) rfl, fun a b w => ?_⟩
  go_enter Try.func18, Try.ntmps18
  go_wp2_with fail
  go_ret
  exact ⟨rfl, Below.refl _ _⟩
/-- The queue, apart from what is kept (Pf). -/
def Qk (w0 : World) (Pf : Nat → Prop) (W : World) (q : Nat) (L : List Int) (n : Nat) : Prop :=
  ∃ E B, Qi.Qu 18 (fun x => x) W q E B L n ∧ (∀ k, E k ∨ B k → w0.heap.size ≤ k ∧ ¬ Pf k) ∧ (∀ k, Pf k → k < W.heap.size) ∧ Below w0.heap.size w0 W
theorem Qk.go {w0 W : World} {Pf : Nat → Prop} {q : Nat} {L L' : List Int} {n n' f : Nat} {args : Array Value} {R : Ending → Prop} (h : Qk w0 Pf W q L n) (hc : ∀ E B, Qi.Qu 18 (fun x => x) W q E B L n → Calls Try.prog f args W fun e V => R e ∧ Qi.Qg 18 (fun x => x) W q E B L' n' V) : Calls Try.prog f args W fun e V => R e ∧ Qk w0 Pf V q L' n' ∧ Mv (fun k => ¬ Pf k) W V := by
  obtain ⟨E, B, h1, h2, h3, h4⟩ := h
  refine (hc E B h1).mono ?_
  rintro e V ⟨hR, E', B', q1, q2, q3, q4⟩
  have sz := h4.size
  refine ⟨hR, ⟨E', B', q1, fun k hk => ?_, fun k hk => Nat.lt_of_lt_of_le (h3 k hk) q2.size, h4.trans (q2.toBelow h4.size (fun k hk e => by have := (h2 k (.inl e)).1; omega))⟩, q2.mono fun k _ e => (h2 k (.inl e)).2⟩
  have : (E k ∨ B k) ∨ W.heap.size ≤ k := by
    rcases hk with hk | hk
    · exact (q3 k hk).imp .inl id
    · exact (q4 k hk).imp .inr id
  rcases this with s | s
  · exact h2 k s
  · exact ⟨by omega, fun p => by have := h3 k p; omega⟩
theorem Qk.more {w0 W V : World} {Pf Pf' F : Nat → Prop} {q : Nat} {L : List Int} {n : Nat} (h : Qk w0 Pf W q L n) (m : Mv F W V) (hF : ∀ k, F k → Pf k ∧ w0.heap.size ≤ k ∨ W.heap.size ≤ k) (hP : ∀ k, Pf' k → Pf k ∨ (W.heap.size ≤ k ∧ k < V.heap.size)) : Qk w0 Pf' V q L n := by
  obtain ⟨E, B, h1, h2, h3, h4⟩ := h
  obtain ⟨lE, lB⟩ := h1.lt
  have sz := h4.size
  have lEB : ∀ k, E k ∨ B k → k < W.heap.size := fun k hk => hk.elim (lE k) (lB k)
  have nF : ∀ k, E k ∨ B k → ¬ F k := fun k hk f => by
    rcases hF k f with s | s
    · exact (h2 k hk).2 s.1
    · have := lEB k hk; omega
  refine ⟨E, B, h1.mv m (fun k hk => nF k (.inl hk)) (fun k hk => nF k (.inr hk)), fun k hk => ⟨(h2 k hk).1, fun p => ?_⟩, fun k hk => ?_, h4.trans (m.toBelow h4.size (fun k hk f => ?_))⟩
  · rcases hP k p with s | s
    · exact (h2 k hk).2 s
    · have := lEB k hk; omega
  · rcases hP k hk with s | s
    · exact Nat.lt_of_lt_of_le (h3 k s) m.size
    · exact s.2
  · rcases hF k f with s | s <;> omega
theorem Qk.len {w0 W : World} {Pf : Nat → Prop} {q : Nat} {L : List Int} {n : Nat} (h : Qk w0 Pf W q L n) : Calls Try.prog 17 #[Qi.qp q] W fun e V => e = .returned (.int .i64 L.length) ∧ V = W := by
  obtain ⟨E, B, h1, _⟩ := h
  exact Qi.len_any h1
/-- All of the queue, told to a taker whose territory is kept. -/
theorem Qk.all {w0 W : World} {Pf : Nat → Prop} {q bl : Nat} {L : List Int} {n : Nat} (h : Qk w0 Pf W q L n) (hbl : W.cell? ⟨bl, 0, none⟩ = some (Qi.qp q)) {f : Nat} {caps : Array Value} (eg : ∀ args w, (callFunc f args).run Try.prog w = .ok (.enter f args) w) {J : List Int → (Nat → Prop) → World → Prop} {Jx : (Nat → Prop) → World → Prop} (tJ : Ter W.heap.size J) (hT : Qi.Tak f caps J Jx) {D : Nat → Prop} (h0 : J L D W) (hD : ∀ k, D k → Pf k ∧ w0.heap.size ≤ k) :
    Calls Try.prog 31 #[.func (.func f) #[] caps, .pointer (some ⟨bl, 0, none⟩)] W fun e V => e = .returned (.tuple #[]) ∧ Mv D W V ∧ (∃ D', Gr D W D' ∧ (J [] D' V ∨ Jx D' V)) ∧ ∀ Pf', (∀ k, Pf' k → Pf k ∨ (W.heap.size ≤ k ∧ k < V.heap.size)) → Qk w0 Pf' V q L n := by
  have hh := h
  obtain ⟨E, B, h1, h2, h3, h4⟩ := h
  refine (Qi.all_run bf_all h1 hbl eg tJ hT h0 (fun k hk d => (h2 k (.inr hk)).2 (hD k d).1)).mono ?_
  rintro e V ⟨rfl, m, D', g, hj⟩
  exact ⟨rfl, m, ⟨D', g, hj⟩, fun Pf' hP => hh.more m (fun k d => .inl (hD k d)) hP⟩
end Go.Proofs.Ytcjlkhgnohdonaa
