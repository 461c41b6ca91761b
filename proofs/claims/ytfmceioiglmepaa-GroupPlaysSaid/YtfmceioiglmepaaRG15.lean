/- The rows that the reference's Put makes. -/
import Derived.Test.YtfmceioiglmepaaRG14
namespace Go.Proofs.Ytfmceioiglmepaa
open Go.RowKit Go.Shelf Go.Lib
theorem IR.take {W : World} {q : Option Addr} {d j : Nat} {ps : List Int} (h : IR W (.slice q ps.length d) ps) (hj : j ≤ ps.length) : IR W (.slice q j d) (ps.take j) := by
  obtain ⟨p, c, e, h⟩ := h
  injection e with e1 e2 e3
  subst e1
  refine ⟨q, d, by rw [List.length_take, Nat.min_eq_left hj], ?_⟩
  rcases h with h | ⟨g, o, hp, h⟩
  · exact .inl (by rw [h]; simp)
  · refine .inr ⟨g, o, hp, fun t x hx => h t x ?_⟩
    rw [List.getElem?_take] at hx
    split at hx
    · exact hx
    · cases hx
theorem IR.drop {W : World} {g o : Nat} {d j c : Nat} {p : Option Addr} {ps : List Int} (h : IR W (.slice (some ⟨g, o, none⟩) ps.length d) ps) (hp : ps.length = j ∨ p = some ⟨g, o + j, none⟩) : IR W (.slice p (ps.length - j) c) (ps.drop j) := by
  obtain ⟨p', c', e, h⟩ := h
  injection e with e1 e2 e3
  subst e1
  refine ⟨p, c, by rw [List.length_drop], ?_⟩
  rcases hp with hp | rfl
  · exact .inl (by rw [← hp]; simp)
  rcases h with h | ⟨g', o', hp', h⟩
  · exact .inl (by rw [h]; simp)
  · cases hp'
    refine .inr ⟨g, o + j, rfl, fun t x hx => ?_⟩
    rw [List.getElem?_drop] at hx
    have := h (j + t) x hx
    rw [← Nat.add_assoc] at this
    exact this
theorem own_shape {w : World} {base : Nat} {e : TypeId} {size : Nat} {v : Value} {n : Nat} {xs : List Value} (h : w.ownsRow base e size v n xs) : ∃ p m c, v = .slice p m c := by
  rcases h.2 with ⟨rfl, _⟩ | ⟨g, cap, cur, rfl, _⟩
  · exact ⟨_, _, _, rfl⟩
  · exact ⟨_, _, _, rfl⟩
theorem put_runs {w : World} {q : Option Addr} {d j : Nat} {a : Int} {ps : List Int} (hq : IR w (.slice q ps.length d) ps) (hj : j ≤ ps.length) (hl : ps.length ≤ 1000) :
    ∃ v5 W5, (Builtin.append_ #[43, 43] 43 #[.slice none 0 0, .slice q j d]).run Try.prog w = .ok v5 W5 ∧ (∃ p m c, v5 = .slice p m c) ∧ Mv (fun _ => False) w W5 ∧
    ∃ v6 W6, (Builtin.append_ #[43, 43] 43 #[v5, .slice (some ⟨W5.heap.size, 0, none⟩) 1 1]).run Try.prog (W5.drew.alloc (.cells #[.int .i64 a] 3)) = .ok v6 W6 ∧ (∃ p m c, v6 = .slice p m c) ∧ Mv (fun _ => False) w W6 ∧
    ∀ u, IR W6 u (ps.drop j) → ∃ v7 W7, (Builtin.append_ #[43, 43] 43 #[v6, u]).run Try.prog W6 = .ok v7 W7 ∧ (∃ p m c, v7 = .slice p m c) ∧ Mv (fun _ => False) w W7 ∧
      IR W7 v7 (ps.take j ++ a :: ps.drop j) ∧ capV v7 ∧ ∀ k, nb v7 = some k → k < W7.heap.size ∧ w.heap.size ≤ k := by
  have htl : (ps.take j).length ≤ 1000 := Nat.le_trans (by rw [List.length_take]; exact Nat.min_le_right _ _) hl
  have hdl : (ps.drop j).length ≤ 1000 := by rw [List.length_drop]; omega
  obtain ⟨v5, W5, hrun5, own5, gr5, _⟩ := app_ints (B := w.heap.size) (v := .slice none 0 0) (xs := []) (World.ownsRow_nil _ _ _ _) (hq.take hj) (by simp) (by omega) (Nat.le_refl _)
  have hb5 : Below w.heap.size w W5 := ⟨gr5.os, gr5.tape, gr5.output, gr5.size, fun x hx => gr5.block x hx (by simp [Value.ownBlock])⟩
  rw [List.nil_append] at own5
  obtain ⟨v6, W6, hrun6, own6, hb6, sh6⟩ := app_int1 (W := W5.drew) (x := a) own5 (by omega) hb5.size
  have m5 : Mv (fun _ => False) w W5 := Mv.below hb5
  have m5d : Mv (fun _ => False) w W5.drew := m5.trans' (Mv.drew _ _)
  have m6 : Mv (fun _ => False) w W6 := ⟨hb6.os.trans m5d.os, hb6.tape.trans m5d.tape, hb6.output.trans m5d.output, Nat.le_trans m5d.size hb6.size, fun k hk _ => (hb6.block k hk).trans (m5d.block k hk (fun h => h))⟩
  refine ⟨v5, W5, hrun5, own_shape own5, m5, v6, W6, hrun6, sh6, m6, fun u hu => ?_⟩
  obtain ⟨v7, W7, hrun7, own7, gr7, _⟩ := app_ints own6 hu (by simp; omega) (by omega) m6.size
  have hk6 : ∀ k, v6.ownBlock = some k → w.heap.size ≤ k := fun k hk => by
    rcases own6.2 with ⟨e, _⟩ | ⟨g, cap, cur, e, hg, _⟩
    · rw [e] at hk; cases hk
    · rw [e] at hk; cases hk; exact hg
  refine ⟨v7, W7, hrun7, own_shape own7, ⟨gr7.os.trans m6.os, gr7.tape.trans m6.tape, gr7.output.trans m6.output, Nat.le_trans m6.size gr7.size, fun k hk _ => (gr7.block k (Nat.lt_of_lt_of_le hk m6.size) (fun e => by have := hk6 k e.symm; omega)).trans (m6.block k hk (fun h => h))⟩, ?_, own_cap own7, fun k hk => ?_⟩
  · have := IR.own own7
    simpa using this
  · rcases own7.2 with ⟨e, _⟩ | ⟨g, cap, cur, e, hg, hh, _⟩
    · rw [e] at hk; cases hk
    · rw [e] at hk; cases hk; exact ⟨lt_of_heap hh, hg⟩
end Go.Proofs.Ytfmceioiglmepaa
