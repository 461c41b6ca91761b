/- QueueAll: its second taker. -/
import Derived.Test.YtcjlkhgnohdonaaLA1
namespace Go.Proofs.Ytcjlkhgnohdonaa
open Go.RowKit Go.Shelf Go.Lib
attribute [local go_sem] Oper.semAt_some
/-- The second taker's: so far all is as it was told first. -/
def J3 (B : Nat) (L : List Int) (okb atb fb nb : Nat) (pf : Option Addr) (cf : Nat) (nn : Int) (rest : List Int) (D : Nat → Prop) (W : World) : Prop :=
  ∃ done, done ++ rest = L ∧ (∀ k, D k ↔ (k = okb ∨ k = atb)) ∧ Cl okb (.bool true) W ∧ Cl atb (.int .i64 done.length) W ∧ (fb < B ∧ W.cell? ⟨fb, 0, none⟩ = some (.slice pf L.length cf)) ∧ (∀ i x, L[i]? = some x → ∃ g, pf = some ⟨g, 0, none⟩ ∧ W.cell? ⟨g, i, none⟩ = some (.int .i64 x) ∧ g ≠ okb ∧ g ≠ atb ∧ g < B) ∧ (nb < B ∧ W.cell? ⟨nb, 0, none⟩ = some (.int .i64 nn)) ∧ (done = [] ∨ (done.length : Int) < nn)
theorem J3.ter {B : Nat} {L : List Int} {okb atb fb nb : Nat} {pf : Option Addr} {cf : Nat} {nn : Int} : Ter B (J3 B L okb atb fb nb pf cf nn) :=
  ⟨fun s E W V h m => by
    obtain ⟨done, h1, h2, h3, h4, h5, h6, h7, h8⟩ := h
    refine ⟨done, h1, h2, h3.mv m (fun f => f.1 ((h2 _).2 (.inl rfl))), h4.mv m (fun f => f.1 ((h2 _).2 (.inr rfl))), ⟨h5.1, m.cell (a := ⟨fb, 0, none⟩) (fun f => by have := f.2; have := h5.1; simp at *; omega) h5.2⟩, fun i x hx => ?_, ⟨h7.1, m.cell (a := ⟨nb, 0, none⟩) (fun f => by have := f.2; have := h7.1; simp at *; omega) h7.2⟩, h8⟩
    obtain ⟨g, e, c, n1, n2, lg⟩ := h6 i x hx
    exact ⟨g, e, m.cell (a := ⟨g, i, none⟩) (fun f => by have := f.2; simp at *; omega) c, n1, n2, lg⟩, fun s E W h k hk => by
    obtain ⟨done, h1, h2, h3, h4, _⟩ := h
    rcases (h2 k).1 hk with rfl | rfl
    · exact h3.lt
    · exact h4.lt⟩
def JX3 (okb atb : Nat) (nn : Int) (_ : Nat → Prop) (W : World) : Prop := ∃ a : Nat, Cl okb (.bool true) W ∧ Cl atb (.int .i64 a) W ∧ ((a : Int) = nn ∨ nn = 0 ∧ a = 1)
set_option maxRecDepth 100000 in
set_option maxHeartbeats 4000000 in
theorem tak3 {B : Nat} {L : List Int} {okb atb fb nb : Nat} {pf : Option Addr} {cf : Nat} {nn : Int} (hL : L.length ≤ 1000) (hnn : 0 ≤ nn) (hn2 : nn ≤ 1000) (d1 : okb ≠ atb) (d2 : fb ≠ okb ∧ fb ≠ atb) (d3 : nb ≠ okb ∧ nb ≠ atb) :
    Qi.Tak 21 #[.pointer (some ⟨okb, 0, none⟩), .pointer (some ⟨atb, 0, none⟩), .pointer (some ⟨fb, 0, none⟩), .pointer (some ⟨nb, 0, none⟩)] (J3 B L okb atb fb nb pf cf nn) (JX3 okb atb nn) := by
  rintro x rest D W ⟨done, h1, h2, h3, h4, h5, h6, h7, h8⟩
  obtain ⟨a, ha⟩ : ∃ a, done.length = a := ⟨_, rfl⟩
  obtain ⟨m, hm⟩ : ∃ m, L.length = m := ⟨_, rfl⟩
  have hLx : L[a]? = some x := by rw [← h1, ← ha]; simp
  have ham : a < m := by rw [← hm]; exact (List.getElem?_eq_some_iff.1 hLx).1
  obtain ⟨g, rfl, cg, g1, g2, gB⟩ := h6 a x hLx
  rw [ha] at h4 h8
  obtain ⟨W2, hW2⟩ : ∃ W2, W.setCell ⟨okb, 0, none⟩ (.bool true) = W2 := ⟨_, rfl⟩
  obtain ⟨W3, hW3⟩ : ∃ W3, W2.setCell ⟨atb, 0, none⟩ (.int .i64 ((a : Int) + 1)) = W3 := ⟨_, rfl⟩
  have m2 : Mv (fun k => k = okb) W W2 := by rw [← hW2]; exact Mv.set1 (E := fun k => k = okb) rfl _
  have m3 : Mv (fun k => k = atb) W2 W3 := by rw [← hW3]; exact Mv.set1 (E := fun k => k = atb) rfl _
  have o2 : Cl okb (.bool true) W2 := by rw [← hW2]; exact h3.set _
  have a2 : Cl atb (.int .i64 a) W2 := h4.mv m2 (fun e => d1 e.symm)
  have o3 : Cl okb (.bool true) W3 := o2.mv m3 d1
  have a3 : Cl atb (.int .i64 ((a : Int) + 1)) W3 := by rw [← hW3]; exact a2.set _
  have nb3 : W3.cell? ⟨nb, 0, none⟩ = some (.int .i64 nn) := m3.cell (a := ⟨nb, 0, none⟩) d3.2 (m2.cell (a := ⟨nb, 0, none⟩) d3.1 h7.2)
  have m13 : Mv D W W3 := (m2.mono fun k _ e => (h2 k).2 (.inl e)).trans' (m3.mono fun k _ e => (h2 k).2 (.inr e))
  have hD : Gr D W D := Gr.refl _ _
  have cok := h3.c
  have fok := h3.f
  have cat := h4.c
  have c2 := a2.c
  have f2 := a2.f
  have c3 := a3.c
  have cfb := h5.2
  rw [hm] at cfb
  have hamI : (a : Int) < (m : Int) := by omega
  have hmI : (m : Int) ≤ 1000 := by omega
  have nxt : Hid ((a : Int) + 1 < nn → J3 B L okb atb fb nb (some ⟨g, 0, none⟩) cf nn rest D W3) := fun hlt => by
    refine ⟨done ++ [x], by rw [List.append_assoc]; exact h1, h2, o3, ?_, ⟨h5.1, m3.cell (a := ⟨fb, 0, none⟩) d2.2 (m2.cell (a := ⟨fb, 0, none⟩) d2.1 h5.2)⟩, fun i y hy => ?_, ⟨h7.1, nb3⟩, .inr ?_⟩
    · rw [show ((done ++ [x]).length : Int) = (a : Int) + 1 by simp [ha]]; exact a3
    · obtain ⟨g', e, c, n1, n2, lg⟩ := h6 i y hy
      exact ⟨g', e, m3.cell (a := ⟨g', i, none⟩) n2 (m2.cell (a := ⟨g', i, none⟩) n1 c), n1, n2, lg⟩
    · rw [show ((done ++ [x]).length : Int) = (a : Int) + 1 by simp [ha]]; exact hlt
  have stp : Hid (¬ (a : Int) + 1 < nn → JX3 okb atb nn D W3) := fun hlt => by
    refine ⟨a + 1, o3, by simpa using a3, ?_⟩
    rcases h8 with e | e
    · have : a = 0 := by rw [← ha, e]; rfl
      subst this
      by_cases h0 : nn = 0
      · exact .inr ⟨h0, rfl⟩
      · exact .inl (by simp; omega)
    · exact .inl (by simp; omega)
  have m13H := hidP m13
  clear h1 h2 h3 h4 h5 h6 h7 h8 m2 m3 o2 a2 o3 a3 m13 hD ha hm hLx
  show Calls _ _ (#[.int .i64 x, .pointer (some ⟨okb, 0, none⟩), .pointer (some ⟨atb, 0, none⟩), .pointer (some ⟨fb, 0, none⟩), .pointer (some ⟨nb, 0, none⟩)]) _ _
  go_enter Try.func21, Try.ntmps21
  go_wp2_with (first | rw [hW2] | rw [hW3])
  go_ret
  by_cases hlt : (a : Int) + 1 < nn
  · exact ⟨m13H.out, .inl ⟨by simp [hlt], D, Gr.refl _ _, nxt.out hlt⟩⟩
  · exact ⟨m13H.out, .inr ⟨by simp; omega, D, Gr.refl _ _, stp.out (by omega)⟩⟩
end Go.Proofs.Ytcjlkhgnohdonaa
