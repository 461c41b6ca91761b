/- The contract of slices.Reverse over settings that the call owns. -/
import Derived.Test.YtmoafagemdnifaaDoorF2
import Derived.Test.YtmoafagemdnifaaDoorShelfR
namespace Go.Proofs.YtmoafagemdnifaaDoor
open Go.RowKit Go.Shelf Go.Sort
abbrev stInh : Inhabited St := ⟨⟨⟨#[]⟩, ⟨#[]⟩, ⟨#[]⟩, 0⟩⟩
theorem stC_len (x : St) : (stC x).length = 4 := rfl
theorem stsC_len : ∀ l : List St, (stsC l).length = l.length * 4
  | [] => rfl
  | x :: r => by
    have := stsC_len r
    simp only [stsC, List.flatMap_cons, List.length_append] at this ⊢
    rw [this, stC_len, List.length_cons]; omega
theorem stsC_at : ∀ (l : List St) (j : Nat) (x : St) (i : Nat), l[j]? = some x → i < 4 → (stsC l)[j * 4 + i]? = (stC x)[i]?
  | [], j, x, i, h, _ => by simp at h
  | y :: r, 0, x, i, h, hi => by
    simp at h; subst h
    simp only [stsC, List.flatMap_cons, Nat.zero_mul, Nat.zero_add]
    rw [List.getElem?_append_left (by rw [stC_len]; exact hi)]
  | y :: r, j + 1, x, i, h, hi => by
    simp only [stsC, List.flatMap_cons]
    rw [List.getElem?_append_right (by rw [stC_len]; omega), stC_len]
    have := stsC_at r j x i (by simpa using h) hi
    rw [show (j + 1) * 4 + i - 4 = j * 4 + i by omega]
    exact this
theorem stsC_get (l : List St) (t : Nat) (h : t < l.length * 4) : (stsC l)[t]? = some ((stC (@getElem! _ _ _ _ _ stInh l.toArray (t / 4)))[t % 4]!) := by
  have h1 : t / 4 < l.length := by omega
  have h2 := stsC_at l (t / 4) l[t / 4] (t % 4) (List.getElem?_eq_getElem h1) (by omega)
  rw [show t / 4 * 4 + t % 4 = t by omega] at h2
  rw [h2]
  letI := stInh
  have e : l.toArray[t / 4]! = l[t / 4] := by rw [getElem!_pos l.toArray (t / 4) (by simpa using h1)]; simp
  rw [e, List.getElem?_eq_getElem (by rw [stC_len]; omega), getElem!_pos _ _ (by rw [stC_len]; omega)]
theorem sts_one (x : St) : ∀ v ∈ stC x, v.oneCell' = true := fun v hv => by simp [stC] at hv; rcases hv with rfl | rfl | rfl | rfl <;> rfl
theorem reverse_any (base : Nat) (v : Value) (l : List St) (w : World) (h : w.ownsRow base 44 4 v l.length (stsC l)) (hl : l.length ≤ 1000000000) :
    Calls Tryd.prog 28 #[v] w fun e w' => e = .returned (.tuple #[]) ∧ w'.ownsRow base 44 4 v l.length (stsC l.reverse) ∧ Mv (fun k => v.ownBlock = some k) w w' := by
  letI := stInh
  obtain ⟨h1, h2⟩ := h
  rcases h2 with ⟨rfl, h0⟩ | ⟨g, cap, cur, rfl, hb, hh, hn, hc, hz, hx⟩
  · refine (Tryd.slices_Reverse_empty none 0 w).mono ?_
    rintro e w' ⟨rfl, rfl⟩
    refine ⟨rfl, ?_, Mv.refl _ _⟩
    have : l = [] := List.length_eq_zero_iff.1 h0
    subst this
    exact World.ownsRow_nil _ _ _ _
  · have hH : HoldsK stC 4 w g 0 l.toArray := by
      intro t ht
      rw [size_flatK] at ht
      have ht' : t < l.length * 4 := by simpa using ht
      have hcur : cur[t]? = some ((stC l.toArray[t / 4]!)[t % 4]!) := by
        have := stsC_get l t ht'
        rw [← hx, List.getElem?_take_of_lt ht', Array.getElem?_toList] at this
        exact this
      refine ⟨?_, ?_⟩
      · rw [get_flatK _ _ _ _ ht, Nat.zero_add]
        unfold World.cell?
        rw [hh]
        exact hcur
      · unfold World.frozen?
        rw [hh]
        simp
    have hr := Tryd.slices_Reverse 4 Tryd.isAgg44 Tryd.sizeOf44 stC stC_len sts_one g 0 cap l.toArray w hH (by simp; omega)
    rw [show l.toArray.size = l.length by simp] at hr
    refine hr.mono ?_
    rintro e w' ⟨rfl, q, rfl⟩
    have hg2 : (putRowK stC 4 (Sort.ahead w q) g 0 l.toArray.reverse).heap[g]? = some (.cells (putCells id 0 (flatK stC 4 l.toArray.reverse) cur) 44 (0, 0)) := by
      show ((Sort.ahead w q).heap.modify g _)[g]? = _
      rw [Array.getElem?_modify]
      simp only [if_true]
      show (w.heap[g]?).map _ = _
      rw [hh]; rfl
    refine ⟨rfl, ⟨by rw [stsC_len, List.length_reverse], .inr ⟨g, cap, _, rfl, hb, hg2, hn, hc, by simp [putCells, hz], ?_⟩⟩, ?_⟩
    · refine List.ext_getElem? fun t => ?_
      by_cases ht : t < l.length * 4
      · rw [List.getElem?_take_of_lt ht, stsC_get l.reverse t (by simpa using ht), Array.getElem?_toList]
        have hc4 : t < cur.size := by rw [hz]; exact Nat.lt_of_lt_of_le ht (Nat.mul_le_mul_right 4 hn)
        have hF : t < (flatK stC 4 l.toArray.reverse).size := by simpa using ht
        simp only [putCells, Array.getElem?_mapIdx, Array.getElem?_eq_getElem hc4, Option.map_some, Nat.zero_le, Nat.zero_add, true_and, Nat.sub_zero, id]
        rw [if_pos hF, get_flatK _ _ _ _ (by simpa using ht)]
        simp
      · rw [List.getElem?_eq_none (by rw [List.length_take]; omega), List.getElem?_eq_none (by rw [stsC_len, List.length_reverse]; omega)]
    · refine ⟨rfl, rfl, rfl, ?_, fun k hk hne => ?_⟩
      · show _ ≤ ((Sort.ahead w q).heap.modify g _).size
        rw [Array.size_modify]; exact Nat.le_refl _
      · show ((Sort.ahead w q).heap.modify g _)[k]? = _
        rw [Array.getElem?_modify, if_neg (fun e => hne (by simp [Value.ownBlock, e]))]
        rfl
end Go.Proofs.YtmoafagemdnifaaDoor
