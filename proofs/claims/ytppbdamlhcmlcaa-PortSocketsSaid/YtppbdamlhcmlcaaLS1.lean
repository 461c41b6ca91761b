/- PortSockets: what lies in memory between two steps. -/
import Derived.Test.YtppbdamlhcmlcaaLO
namespace Go.Proofs.Ytppbdamlhcmlcaa
open Go.RowKit Go.Shelf Go.Lib
def nm (k : Nat) : ByteArray := ⟨#[(97 + k).toUInt8]⟩
theorem nm_inj {i k : Nat} (hi : i < 3) (hk : k < 3) (h : nm i = nm k) : i = k := by
  match i, hi, k, hk with
  | 0, _, 0, _ => rfl
  | 1, _, 1, _ => rfl
  | 2, _, 2, _ => rfl
  | 0, _, 1, _ => revert h; decide
  | 0, _, 2, _ => revert h; decide
  | 1, _, 0, _ => revert h; decide
  | 1, _, 2, _ => revert h; decide
  | 2, _, 0, _ => revert h; decide
  | 2, _, 1, _ => revert h; decide
theorem nm_size (k : Nat) : (nm k).size = 1 := rfl
theorem nm_ne (k : Nat) : nm k ≠ noName := fun h => by have := congrArg ByteArray.size h; rw [nm_size] at this; cases this
def upF {α : Type} (f : Nat → α) (k : Nat) (v : α) (x : Nat) : α := if x = k then v else f x
theorem upF_same {α : Type} (f : Nat → α) (k : Nat) (v : α) : upF f k v k = v := if_pos rfl
theorem upF_other {α : Type} (f : Nat → α) {k x : Nat} (v : α) (h : x ≠ k) : upF f k v x = f x := if_neg h
structure Ls (w : World) (bt A B : Nat) (wv : Nat → Value) (ws : Nat → List Int) (S : St) (W : World) : Prop where
  f : Fr w S W
  bt : S.bt = bt
  na : ∀ k, k < 3 → W.cell? ⟨A, k, none⟩ = some (.string (nm k))
  c : ∀ k, k < 3 → W.cell? ⟨B, k, none⟩ = some (wv k) ∧ W.frozen? ⟨B, k, none⟩ = false
  is : ∀ k, k < 3 → IS W (wv k) (ws k)
  q : ∀ k, k < 3 → (pl S).q (nm k) = some ((ws k).map (tgd (nm k)))
  ln : ∀ k, k < 3 → (ws k).length ≤ 16
  aB : A ≠ B
  a1 : w.heap.size ≤ A ∧ ¬ hasB S A
  b1 : w.heap.size ≤ B ∧ ¬ hasB S B
  v1 : ∀ k, k < 3 → ∀ g, nb (wv k) = some g → w.heap.size ≤ g ∧ ¬ hasB S g ∧ g ≠ A ∧ g ≠ B
  v2 : ∀ i k, i < 3 → k < 3 → i ≠ k → ∀ g, nb (wv i) = some g → nb (wv k) ≠ some g
theorem Ls.step {w W W' : World} {bt A B : Nat} {wv : Nat → Value} {ws : Nat → List Int} {S S' : St} {d : Nat} (h : Ls w bt A B wv ws S W) (g : Goes S W S' W' d) (hq : ∀ k, k < 3 → (pl S').q (nm k) = (pl S).q (nm k)) : Ls w bt A B wv ws S' W' :=
  ⟨h.f.step g, g.bt.trans h.bt, fun k hk => g.mv.cell (a := ⟨A, k, none⟩) h.a1.2 (h.na k hk), fun k hk => ⟨g.mv.cell (a := ⟨B, k, none⟩) h.b1.2 (h.c k hk).1, (g.mv.froz (a := ⟨B, k, none⟩) h.b1.2 (cell_lt (h.c k hk).1)).trans (h.c k hk).2⟩,
    fun k hk => (h.is k hk).mv g.mv (fun x hx => (h.v1 k hk x hx).2.1), fun k hk => (hq k hk).trans (h.q k hk), h.ln, h.aB, ⟨h.a1.1, (g.beside (cell_lt (h.na 0 (by decide))) h.a1.2).2⟩, ⟨h.b1.1, (g.beside (cell_lt (h.c 0 (by decide)).1) h.b1.2).2⟩, fun k hk x hx => ⟨(h.v1 k hk x hx).1, (g.beside ((h.is k hk).lt hx) (h.v1 k hk x hx).2.1).2, (h.v1 k hk x hx).2.2⟩, h.v2⟩
theorem Ls.below {w W W' : World} {bt A B : Nat} {wv : Nat → Value} {ws : Nat → List Int} {S : St} (h : Ls w bt A B wv ws S W) (b : Below W.heap.size W W') : Ls w bt A B wv ws S W' := h.step (Goes.below h.f.g b) (fun _ _ => rfl)
/-- What is told of one socket turns, and its row of numbers too. -/
theorem Ls.turn {w W W4 : World} {bt A B : Nat} {wv : Nat → Value} {ws : Nat → List Int} {S S' : St} {k : Nat} {v' : Value} {r : List Int} {d : Nat} {Wm : World} (h : Ls w bt A B wv ws S W) (hk : k < 3) (g : Goes S W S' Wm d)
    (hq : ∀ i, i < 3 → i ≠ k → (pl S').q (nm i) = (pl S).q (nm i)) (hqk : (pl S').q (nm k) = some (r.map (tgd (nm k)))) (hl : r.length ≤ 16)
    (m : Mv (fun x => nb (wv k) = some x) Wm W4) (hi : IS W4 v' r) (hn : nb v' = nb (wv k) ∨ ∃ x, nb v' = some x ∧ Wm.heap.size ≤ x) :
    W4.cell? ⟨B, k, none⟩ = some (wv k) ∧ W4.frozen? ⟨B, k, none⟩ = false ∧ Ls w bt A B (upF wv k v') (upF ws k r) S' (W4.setCell ⟨B, k, none⟩ v') := by
  have F' := h.f.step g
  have aS := (g.beside (cell_lt (h.na 0 (by decide))) h.a1.2)
  have bS := (g.beside (cell_lt (h.c 0 (by decide)).1) h.b1.2)
  have vS : ∀ i, i < 3 → ∀ x, nb (wv i) = some x → ¬ hasB S' x := fun i hi x hx => (g.beside ((h.is i hi).lt hx) (h.v1 i hi x hx).2.1).2
  have nA : ¬ nb (wv k) = some A := fun e => (h.v1 k hk A e).2.2.1 rfl
  have nB : ¬ nb (wv k) = some B := fun e => (h.v1 k hk B e).2.2.2 rfl
  have cB : ∀ i, i < 3 → W4.cell? ⟨B, i, none⟩ = some (wv i) ∧ W4.frozen? ⟨B, i, none⟩ = false := fun i hi => by
    have e1 := g.mv.cell (a := ⟨B, i, none⟩) h.b1.2 (h.c i hi).1
    exact ⟨m.cell (a := ⟨B, i, none⟩) nB e1, (m.froz (a := ⟨B, i, none⟩) nB (cell_lt e1)).trans ((g.mv.froz (a := ⟨B, i, none⟩) h.b1.2 (cell_lt (h.c i hi).1)).trans (h.c i hi).2)⟩
  have hv' : ∀ x, nb v' = some x → w.heap.size ≤ x ∧ ¬ hasB S' x ∧ x ≠ A ∧ x ≠ B ∧ (nb (wv k) = some x ∨ Wm.heap.size ≤ x) := fun x hx => by
    rcases hn with e | ⟨y, e, hy⟩
    · rw [e] at hx
      exact ⟨(h.v1 k hk x hx).1, vS k hk x hx, (h.v1 k hk x hx).2.2.1, (h.v1 k hk x hx).2.2.2, .inl hx⟩
    · rw [hx] at e; injection e with e; subst e
      have la := cell_lt (g.mv.cell (a := ⟨A, 0, none⟩) h.a1.2 (h.na 0 (by decide)))
      have lb := cell_lt (g.mv.cell (a := ⟨B, 0, none⟩) h.b1.2 (h.c 0 (by decide)).1)
      exact ⟨Nat.le_trans F'.b.size hy, fun e => (by have := F'.g.ltB e; omega), fun e => (by simp only at la; omega), fun e => (by simp only at lb; omega), .inr hy⟩
  have ms : Mv (fun x => x = B) W4 (W4.setCell ⟨B, k, none⟩ v') := (Mv.refl (fun x => x = B) W4).setc (p := ⟨B, k, none⟩) (.inl rfl) _
  refine ⟨(cB k hk).1, (cB k hk).2, ⟨⟨?_, ?_, F'.n⟩, g.bt.trans h.bt, fun i hi => ?_, fun i hi => ?_, fun i hi => ?_, fun i hi => ?_, fun i hi => ?_, h.aB, ⟨h.a1.1, aS.2⟩, ⟨h.b1.1, bS.2⟩, fun i hi x hx => ?_, fun i j hi hj hij x hx => ?_⟩⟩
  · exact (F'.g.mv m (fun x hx e => vS k hk x e hx)).mv ms (fun x hx e => bS.2 (e ▸ hx))
  · exact (F'.b.trans (m.toBelow F'.b.size (fun x hx e => by have := (h.v1 k hk x e).1; omega))).trans (ms.toBelow (Nat.le_trans F'.b.size m.size) (fun x hx e => by have := h.b1.1; omega))
  · exact ms.cell (a := ⟨A, i, none⟩) h.aB (m.cell (a := ⟨A, i, none⟩) nA (g.mv.cell (a := ⟨A, i, none⟩) h.a1.2 (h.na i hi)))
  · by_cases hik : i = k
    · subst hik
      rw [upF_same]
      exact ⟨World.cell?_setCell_same' _ _ _ (by rw [(cB i hi).1]; rfl), by rw [World.frozen?_setCell]; exact (cB i hi).2⟩
    · rw [upF_other _ _ hik]
      exact ⟨(World.cell?_setCell_other _ _ _ _ (by simp; try omega)).trans (cB i hi).1, by rw [World.frozen?_setCell]; exact (cB i hi).2⟩
  · by_cases hik : i = k
    · subst hik
      rw [upF_same, upF_same]
      rename_i hi0
      exact IS.mv (by assumption) ms (fun x hx e => (hv' x hx).2.2.2.1 e)
    · rw [upF_other _ _ hik, upF_other _ _ hik]
      exact (((h.is i hi).mv g.mv (fun x hx => (h.v1 i hi x hx).2.1)).mv m (fun x hx e => h.v2 i k hi hk hik x hx e)).mv ms (fun x hx e => (h.v1 i hi x hx).2.2.2 e)
  · by_cases hik : i = k
    · subst hik; rw [upF_same]; exact hqk
    · rw [upF_other _ _ hik]; exact (hq i hi hik).trans (h.q i hi)
  · by_cases hik : i = k
    · subst hik; rw [upF_same]; exact hl
    · rw [upF_other _ _ hik]; exact h.ln i hi
  · by_cases hik : i = k
    · subst hik; rw [upF_same] at hx
      exact ⟨(hv' x hx).1, (hv' x hx).2.1, (hv' x hx).2.2.1, (hv' x hx).2.2.2.1⟩
    · rw [upF_other _ _ hik] at hx
      exact ⟨(h.v1 i hi x hx).1, vS i hi x hx, (h.v1 i hi x hx).2.2⟩
  · by_cases hik : i = k
    · have hjk : j ≠ k := fun e => hij (hik.trans e.symm)
      subst hik
      rw [upF_same] at hx
      rw [upF_other _ _ hjk]
      intro e
      rcases (hv' x hx).2.2.2.2 with t | t
      · exact h.v2 i j hi hj hij x t e
      · have := (h.is j hj).lt e
        have := g.mv.size
        omega
    · rw [upF_other _ _ hik] at hx
      by_cases hjk : j = k
      · subst hjk
        rw [upF_same]
        intro e
        rcases (hv' x e).2.2.2.2 with t | t
        · exact h.v2 i j hi hj hij x hx t
        · have := (h.is i hi).lt hx
          have := g.mv.size
          omega
      · rw [upF_other _ _ hjk]; exact h.v2 i j hi hj hij x hx
end Go.Proofs.Ytppbdamlhcmlcaa
