/- The reference's Make. -/
import Derived.Test.YtfmceioiglmepaaRG6
namespace Go.Proofs.Ytfmceioiglmepaa
open Go.RowKit Go.Shelf Go.Lib
theorem infoG : ∃ i, Try.prog.info? 49 = some i ∧ i.zero = some (.agg #[.string ⟨#[]⟩, .slice none 0 0]) ∧ i.size = 2 ∧ i.bytes = 40 := by
  have h : (Try.prog.info? 49).map (fun i => (i.zero, i.size, i.bytes)) = some (some (.agg #[.string ⟨#[]⟩, .slice none 0 0]), 2, 40) := by kernel_rfl
  cases e : Try.prog.info? 49 with
  | none => rw [e] at h; cases h
  | some i => rw [e] at h; simp at h; exact ⟨i, rfl, h⟩
theorem copy2 (w : World) (b o dLen dCap : Nat) (a : Addr) (sLen sCap : Nat) (cs : List Value) (ty : TypeId) (hn : cs.length = Nat.min sLen dLen * 2)
    (hsrc : ∀ j v, cs[j]? = some v → w.cell? (a.add j) = some v) (hc : ∀ j, j < cs.length → (w.cell? ⟨b, o + j, none⟩).isSome = true) (hf : ∀ j, j < cs.length → w.frozen? ⟨b, o + j, none⟩ = false) (h1 : ∀ v ∈ cs, v.oneCell' = true) :
    (Builtin.copy_ #[27, 27] ty #[.slice (some ⟨b, o, none⟩) dLen dCap, .slice (some a) sLen sCap]).run Try.prog w = .ok (goInt (Nat.min sLen dLen)) (w.setCells b o cs) := by
  obtain ⟨i, hi, _, hz, _⟩ := infoG
  have hl := run_loadCells_list (P := Try.prog) w a cs hsrc
  have hst := run_storeCells_cells (P := Try.prog) b o cs 0 w (by simpa using hc) (by simpa using hf) h1
  rw [hn] at hl
  simp [Builtin.copy_, run_underlying Try.underlying27, Builtin.lenOf, Builtin.firstCells, sizeOf, typeInfo, hi, hz, hl, hst]
theorem copy2_none (w : World) (d a : Option Addr) (dCap sLen sCap : Nat) (ty : TypeId) :
    (Builtin.copy_ #[27, 27] ty #[.slice d 0 dCap, .slice a sLen sCap]).run Try.prog w = .ok (goInt 0) w := by
  obtain ⟨i, hi, _⟩ := infoG
  have hl : ∀ (x : Addr), (loadCells x 0).run Try.prog w = .ok #[] w := fun x => by simpa using run_loadCells_list (P := Try.prog) w x [] (by simp)
  cases d <;> cases a <;> simp [Builtin.copy_, run_underlying Try.underlying27, Builtin.lenOf, Builtin.firstCells, sizeOf, typeInfo, hi, storeCells, hl]
def setL : List Value → Nat → List Value → List Value
  | xs, _, [] => xs
  | xs, o, v :: r => setL (xs.set o v) (o + 1) r
theorem setL_eq : ∀ (vs xs : List Value) (o : Nat), o + vs.length ≤ xs.length → setL xs o vs = xs.take o ++ vs ++ xs.drop (o + vs.length)
  | [], xs, o, _ => by simp [setL]
  | v :: r, xs, o, h => by
    simp only [List.length_cons] at h
    unfold setL
    rw [setL_eq r (xs.set o v) (o + 1) (by rw [List.length_set]; omega)]
    rw [List.take_set, List.drop_set_of_lt (by omega), show o + 1 + r.length = o + (v :: r).length by simp; omega]
    congr 1
    have : (xs.take (o + 1)).set o v = xs.take o ++ [v] := by
      apply List.ext_getElem?
      intro j
      rw [List.getElem?_set]
      by_cases e : o = j
      · subst e
        rw [if_pos rfl, if_pos (by rw [List.length_take]; omega), List.getElem?_append_right (by rw [List.length_take]; omega), List.length_take, Nat.min_eq_left (by omega), Nat.sub_self]
        rfl
      · rw [if_neg e]
        rcases Nat.lt_or_ge j o with q | q
        · rw [List.getElem?_append_left (by rw [List.length_take]; omega), List.getElem?_take_of_lt (by omega), List.getElem?_take_of_lt q]
        · rw [List.getElem?_eq_none (by rw [List.length_take]; omega), List.getElem?_eq_none (by rw [List.length_append, List.length_take]; simp; omega)]
    rw [this]
    simp
theorem own_sets {base : Nat} {e : TypeId} {size n g cap : Nat} : ∀ (vs : List Value) (xs : List Value) (o : Nat) (w : World), w.ownsRow base e size (.slice (some ⟨g, 0, none⟩) n cap) n xs → (w.setCells g o vs).ownsRow base e size (.slice (some ⟨g, 0, none⟩) n cap) n (setL xs o vs)
  | [], _, _, _, h => h
  | v :: r, xs, o, _, h => own_sets r (xs.set o v) (o + 1) _ (own_set h v)
theorem mv_sets {g : Nat} : ∀ (vs : List Value) (o : Nat) (w : World), Mv (fun k => k = g) w (w.setCells g o vs)
  | [], _, _ => Mv.refl _ _
  | v :: r, o, w => ((Mv.refl (fun k => k = g) w).setc (p := ⟨g, o, none⟩) (.inl rfl) v).trans' (mv_sets r (o + 1) _)
theorem cs2_app (a b : List RG) : cs2 (a ++ b) = cs2 a ++ cs2 b := by unfold cs2; rw [List.flatMap_append]
theorem cs2_take : ∀ (l : List RG) (i : Nat), cs2 (l.take i) = (cs2 l).take (i * 2)
  | [], i => by simp [cs2]
  | x :: r, 0 => by simp [cs2]
  | x :: r, i + 1 => by
    rw [List.take_succ_cons, show (i + 1) * 2 = i * 2 + 1 + 1 by omega]
    show (.string x.nm :: x.v :: cs2 (r.take i)) = (.string x.nm :: x.v :: cs2 r).take (i * 2 + 1 + 1)
    rw [cs2_take r i]
    rfl
theorem cs2_drop : ∀ (l : List RG) (i : Nat), cs2 (l.drop i) = (cs2 l).drop (i * 2)
  | [], i => by simp [cs2]
  | x :: r, 0 => by simp
  | x :: r, i + 1 => by
    rw [List.drop_succ_cons, show (i + 1) * 2 = i * 2 + 1 + 1 by omega]
    show cs2 (r.drop i) = (.string x.nm :: x.v :: cs2 r).drop (i * 2 + 1 + 1)
    rw [cs2_drop r i]
    rfl
/-- Shifted by one, then the new one laid: the row with the new one in its place. -/
theorem ins_cells (l : List RG) (i : Nat) (hi : i ≤ l.length) (e1 e2 : Value) (x : RG) :
    ((setL (cs2 l ++ [e1, e2]) ((i + 1) * 2) ((cs2 l).drop (i * 2))).set (i * 2) (.string x.nm)).set (i * 2 + 1) x.v = cs2 (l.take i ++ x :: l.drop i) := by
  have hl := cs2_len l
  have hA : ((cs2 l).take (i * 2)).length = i * 2 := by rw [List.length_take]; omega
  rw [setL_eq _ _ _ (by rw [List.length_drop, List.length_append]; simp; omega), List.length_drop, show (i + 1) * 2 + ((cs2 l).length - i * 2) = (cs2 l ++ [e1, e2]).length by rw [List.length_append]; simp; omega, List.drop_length, List.append_nil]
  have h2 : ∃ a b, (cs2 l ++ [e1, e2]).take ((i + 1) * 2) = (cs2 l).take (i * 2) ++ [a, b] := by
    have h3 : (cs2 l ++ [e1, e2]).take ((i + 1) * 2) = (cs2 l).take (i * 2) ++ ((cs2 l ++ [e1, e2]).drop (i * 2)).take 2 := by
      rw [show (i + 1) * 2 = i * 2 + 2 by omega, List.take_add, List.take_append_of_le_length (by omega)]
    have h4 : (((cs2 l ++ [e1, e2]).drop (i * 2)).take 2).length = 2 := by rw [List.length_take, List.length_drop, List.length_append]; simp; omega
    rw [h3]
    match hq : ((cs2 l ++ [e1, e2]).drop (i * 2)).take 2, h4 with
    | [a, b], _ => exact ⟨a, b, rfl⟩
  obtain ⟨a, b, h2⟩ := h2
  rw [h2, cs2_app, cs2_take]
  show _ = (cs2 l).take (i * 2) ++ (.string x.nm :: x.v :: cs2 (l.drop i))
  rw [cs2_drop, List.append_assoc, List.set_append_right _ _ (by omega), hA, Nat.sub_self]
  rw [List.set_append_right _ _ (by omega), hA, show i * 2 + 1 - i * 2 = 1 by omega]
  rfl
end Go.Proofs.Ytfmceioiglmepaa
