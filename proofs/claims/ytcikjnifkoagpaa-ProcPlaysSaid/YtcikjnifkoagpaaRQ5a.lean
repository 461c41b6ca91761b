/- The reference's Kill. -/
import Derived.Test.YtcikjnifkoagpaaRQ4
namespace Go.Proofs.Ytcikjnifkoagpaa
open Go.RowKit Go.Shelf Go.Lib
theorem own_set {w : World} {base : Nat} {e : TypeId} {size : Nat} {n g cap j : Nat} {xs : List Value} (h : w.ownsRow base e size (.slice (some ⟨g, 0, none⟩) n cap) n xs) (u : Value) :
    (w.setCell ⟨g, j, none⟩ u).ownsRow base e size (.slice (some ⟨g, 0, none⟩) n cap) n (xs.set j u) := by
  refine ⟨by rw [List.length_set]; exact h.1, .inr ?_⟩
  rcases h.2 with ⟨e, _⟩ | ⟨g2, cap2, cur, e, hb, hg, h1, h2, h3, h4⟩
  · cases e
  · injection e with e1 e2 e3
    injection e1 with e1
    injection e1 with a b c
    subst a
    subst e3
    refine ⟨g, cap, cur.setIfInBounds j u, rfl, hb, ?_, h1, h2, by simpa using h3, ?_⟩
    · simp [World.setCell, Array.getElem?_modify, hg]
    · rw [← h4]
      rw [Array.toList_setIfInBounds, List.take_set]
theorem reF_cons (x : Pr) (r : Ps) : reF (x :: r) = reC x ++ reF r := by simp [reF]
theorem reF_set {p p' : Pr} {q : Nat} {v : Value} (hq : q < 8) (e : reC p' = (reC p).set q v) : ∀ (l : Ps) (i : Nat), l[i]? = some p → reF (l.set i p') = (reF l).set (i * 8 + q) v
  | [], i, h => by simp at h
  | x :: r, 0, h => by
    have hx : x = p := by simpa using h
    subst hx
    rw [List.set_cons_zero, reF_cons, reF_cons, Nat.zero_mul, Nat.zero_add, List.set_append_left _ _ (by rw [reC_len]; exact hq), e]
  | x :: r, i + 1, h => by
    rw [List.set_cons_succ, reF_cons, reF_cons, List.set_append_right _ _ (by rw [reC_len]; omega), reC_len, show (i + 1) * 8 + q - 8 = i * 8 + q by omega, reF_set hq e r i (by simpa using h)]
/-- A cell of an entry turns. -/
theorem RO.set {W : World} {b g cap : Nat} {room last : Int} {l : Ps} (h : RO W b g cap room last l) {i q : Nat} {p p' : Pr} {v : Value} (hp : l[i]? = some p) (hq : q < 8) (e : reC p' = (reC p).set q v) : RO (W.setCell ⟨g, i * 8 + q, none⟩ v) b g cap room last (l.set i p') := by
  have m : Mv (fun k => k = g) W (W.setCell ⟨g, i * 8 + q, none⟩ v) := (Mv.refl (fun k => k = g) W).setc (p := ⟨g, i * 8 + q, none⟩) (.inl rfl) _
  have hb : ¬ b = g := h.ne
  refine ⟨by rw [List.length_set]; exact m.cell (a := ⟨b, 0, none⟩) hb h.c0, m.cell (a := ⟨b, 1, none⟩) hb h.c1, m.cell (a := ⟨b, 2, none⟩) hb h.c2, fun j => (m.froz (a := ⟨b, j, none⟩) hb h.ltb).trans (h.fz j), ?_, h.ne, by rw [List.length_set]; exact h.len⟩
  rw [List.length_set, reF_set hq e l i hp]
  exact own_set h.ow v
theorem RO.frz {W : World} {b g cap : Nat} {room last : Int} {l : Ps} (h : RO W b g cap room last l) (j : Nat) : W.frozen? ⟨g, j, none⟩ = false := by
  rcases h.ow.2 with ⟨e, _⟩ | ⟨g2, cap2, cur, e, _, hg, _⟩
  · cases e
  · injection e with e1
    injection e1 with e1
    injection e1 with a
    subst a
    unfold World.frozen?
    rw [hg]
    simp
def klPr (s : Int) (p : Pr) : Pr := { p with term := p.term || decide (s = 15), kill := p.kill || decide (s = 9) }
end Go.Proofs.Ytcikjnifkoagpaa
