/- Contract of cgroup's slices.Delete of one note. -/
import Derived.Test.YtgienkdfodjoiaaGreatGC
import Derived.Sort.EncStr
namespace Go.Proofs.YtgienkdfodjoiaaGreat.Cg
open Go.RowKit Go.Shelf Go.Sort
theorem holdsS {w : World} {g o : Nat} {xs : List ByteArray} (h1 : ∀ j x, xs[j]? = some x → w.cell? ⟨g, o + j, none⟩ = some (.string x)) (h2 : ∀ j, j < xs.length → w.frozen? ⟨g, o + j, none⟩ = false) : Holds encStr w g o (xs.map (fun s => s.data.toList)).toArray := by
  intro j hj
  have hj' : j < xs.length := by simpa using hj
  refine ⟨?_, h2 j hj'⟩
  rw [h1 j xs[j] (List.getElem?_eq_getElem hj')]
  rw [getElem!_pos _ j hj]
  simp [encStr]
/-- slices.Delete of one note. -/
theorem delete_one (g o cap i : Nat) (xs : List ByteArray) (w : World) (hg : g < w.heap.size) (h1 : ∀ j x, xs[j]? = some x → w.cell? ⟨g, o + j, none⟩ = some (.string x)) (h2 : ∀ j, j < cap → (w.cell? ⟨g, o + j, none⟩).isSome = true ∧ w.frozen? ⟨g, o + j, none⟩ = false) (hc : xs.length ≤ cap) (hm : cap ≤ maxLen) (hi : i < xs.length) :
    Calls Tryz.prog 104 #[.slice (some ⟨g, o, none⟩) xs.length cap, .int .i64 i, .int .i64 (i + 1 : Nat)] w fun e w' => e = .returned (.slice (some ⟨g, o, none⟩) (xs.length - 1) cap) ∧ NS w' (.slice (some ⟨g, o, none⟩) (xs.length - 1) cap) (xs.eraseIdx i) ∧ Mv (fun k => k = g) w w' := by
  have hl : (xs.map (fun s => s.data.toList)).length = xs.length := by simp
  have hH := holdsS h1 (fun j hj => (h2 j (by omega)).2)
  have := Tryz.slices_Delete_string g o cap i (i + 1) (xs.map (fun s => s.data.toList)) w hH (by rw [hl]; exact hc) (by unfold maxLen at hm; omega) (by omega) (by rw [hl]; omega)
  rw [hl] at this
  refine this.mono ?_
  rintro e w' ⟨rfl, q, rfl⟩
  have hde : ((xs.map (fun s => s.data.toList)).take i ++ (xs.map (fun s => s.data.toList)).drop (i + 1) ++ List.replicate (i + 1 - i) []) = (xs.eraseIdx i).map (fun s => s.data.toList) ++ [[]] := by
    rw [show i + 1 - i = 1 by omega, List.eraseIdx_eq_take_drop_succ]
    simp [List.map_take, List.map_drop]
  have hle : (xs.eraseIdx i).length = xs.length - 1 := by rw [List.length_eraseIdx_of_lt hi]
  rw [hde]
  obtain ⟨d, hd⟩ : ∃ d, ((xs.eraseIdx i).map (fun s : ByteArray => s.data.toList) ++ [[]]).toArray = d := ⟨_, rfl⟩
  have hds : d.size = xs.length := by rw [← hd]; simp [hle]; omega
  rw [hd]
  have hHa : Holds encStr (Go.Sort.ahead w q) g o (xs.map (fun s => s.data.toList)).toArray := hH
  have hP := holds_putRow encStr (Go.Sort.ahead w q) g o _ d hHa (by rw [hds]; simp)
  have hsz : (putRow encStr (Go.Sort.ahead w q) g o d).heap.size = w.heap.size := by rw [size_putRow]; rfl
  refine ⟨by rw [show i + 1 - i = 1 by omega], .inr ⟨g, o, cap, by rw [hle], by rw [hsz]; exact hg, by omega, hm, fun j x hx => ?_, fun j hj => ?_⟩, ?_⟩
  · have hj : j < (xs.eraseIdx i).length := (List.getElem?_eq_some_iff.1 hx).1
    have := (hP j (by omega)).1
    rw [this, getElem!_pos _ j (by omega)]
    have e1 : d[j]'(by omega) = x.data.toList := by
      subst hd
      simp only [List.getElem_toArray]
      rw [List.getElem_append_left (by simpa using hj), List.getElem_map, (List.getElem?_eq_some_iff.1 hx).2]
    rw [e1]
  · rcases Nat.lt_or_ge j xs.length with hj2 | hj2
    · have := hP j (by omega)
      exact ⟨by rw [this.1]; rfl, this.2⟩
    · rw [cell?_putRow_other _ _ _ _ _ _ (.inr (.inr (by show o + d.size ≤ o + j; omega))), frozen?_putRow]
      exact h2 j hj
  · refine ⟨rfl, rfl, rfl, by rw [hsz]; exact Nat.le_refl _, fun k hk hne => ?_⟩
    show (mapBlock (Go.Sort.ahead w q) g _).heap[k]? = _
    unfold mapBlock
    simp only [Array.getElem?_modify]
    rw [if_neg (fun e => hne e.symm)]
    rfl
end Go.Proofs.YtgienkdfodjoiaaGreat.Cg
