/- Rows of strings: one more set among them. -/
import Derived.Test.YtimmieelpaoncaaDoorS3
import Derived.Laws.CopyOwn
namespace Go.Proofs.YtimmieelpaoncaaDoor
open Go.RowKit Nam
theorem splice_ins (A cur : List Value) (e X : Value) (m : Nat) (hm : m ≤ A.length) (hc : cur.take (A.length + 1) = A ++ [e]) :
    ((splice cur (m + 1) (A.drop m)).set m X).take (A.length + 1) = A.take m ++ X :: A.drop m := by
  have hcl : A.length + 1 ≤ cur.length := by
    have := congrArg List.length hc
    rw [List.length_take, List.length_append, List.length_singleton] at this
    omega
  obtain ⟨z, hz⟩ : ∃ z, cur.take (m + 1) = A.take m ++ [z] := by
    have h1 : cur.take (m + 1) = (A ++ [e]).take (m + 1) := by rw [← hc, List.take_take, Nat.min_eq_left (by omega)]
    have hl : m < (A ++ [e]).length := by simp; omega
    refine ⟨(A ++ [e])[m], ?_⟩
    rw [h1, List.take_add_one, List.getElem?_eq_getElem hl, List.take_append_of_le_length hm]; rfl
  have hlen : (A.take m).length = m := by rw [List.length_take]; omega
  have h2 : splice cur (m + 1) (A.drop m) = A.take m ++ z :: (A.drop m ++ cur.drop (A.length + 1)) := by
    unfold splice
    rw [hz, List.length_drop, show m + 1 + (A.length - m) = A.length + 1 by omega, List.append_assoc]; rfl
  rw [h2, List.set_append_right _ _ (by omega), hlen, Nat.sub_self, List.set_cons_zero]
  have h3 : A.take m ++ X :: (A.drop m ++ cur.drop (A.length + 1)) = (A.take m ++ X :: A.drop m) ++ cur.drop (A.length + 1) := by simp
  rw [h3, List.take_append_of_le_length (by simp; omega), List.take_of_length_le (by simp; omega)]
theorem set_heap {w : World} {g : Nat} {M : List Value} {t : TypeId} (h : w.heap[g]? = some (.cells M.toArray t (0, 0))) (m : Nat) (X : Value) :
    (w.setCell ⟨g, m, none⟩ X).heap[g]? = some (.cells (M.set m X).toArray t (0, 0)) := by
  simp [World.setCell, Array.getElem?_modify, h]
theorem own_ins {w2 : World} {base g cap m : Nat} {t : TypeId} {A cur : List Value} {e X : Value} (hm : m ≤ A.length)
    (hb : base ≤ g) (hn : A.length + 1 ≤ cap) (hx : cap ≤ maxLen) (hs : cur.length = cap) (hc : cur.take (A.length + 1) = A ++ [e])
    (h2 : w2.heap[g]? = some (.cells (splice cur (m + 1) (A.drop m)).toArray t (0, 0))) :
    (w2.setCell ⟨g, m, none⟩ X).ownsRow base t 1 (.slice (some ⟨g, 0, none⟩) (A.length + 1) cap) (A.length + 1) (A.take m ++ X :: A.drop m) := by
  refine ⟨by simp; omega, .inr ⟨g, cap, _, rfl, hb, set_heap h2 m X, hn, hx, ?_, ?_⟩⟩
  · rw [List.size_toArray, List.length_set, length_splice _ _ _ (by rw [List.length_drop]; omega), Nat.mul_one, hs]
  · rw [Nat.mul_one]
    exact splice_ins A cur e X m hm hc
end Go.Proofs.YtimmieelpaoncaaDoor
