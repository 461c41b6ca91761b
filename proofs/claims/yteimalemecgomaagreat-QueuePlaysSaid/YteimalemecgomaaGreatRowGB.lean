/- Rows of one cell an element that came in, opened. -/
import Derived.Test.YteimalemecgomaaGreatOp
import Derived.Test.YteimalemecgomaaGreatRWB
import Derived.Test.YteimalemecgomaaGreatProg
namespace Go.Proofs.YteimalemecgomaaGreat
open Go.RowKit Go.ChangeShapes Go.WideShapes
theorem rd_row1 {α : Type} {W : World} {v : Value} {t e : TypeId} (h : Rd Tryz.prog W t [v]) (ht : Tryz.prog.underlying t = some (.slice e)) (hc : Tryz.prog.cellsOf e = 1) (hb : 1 ≤ Tryz.prog.bytesOf e) (enc : α → Value) (ok : α → Prop) (hel : ∀ cs, Rd Tryz.prog W e cs → ∃ x, ok x ∧ cs = [enc x]) :
    ∃ (p : Option Addr) (cap : Nat) (l : List α), v = .slice p l.length cap ∧ (∀ i x, l[i]? = some x → ok x ∧ ∃ b o, p = some ⟨b, o, none⟩ ∧ W.cell? ⟨b, o + i, none⟩ = some (enc x)) ∧ l.length ≤ 140737488355328 := by
  rcases rd_slice h ht with e' | ⟨a, len, cap, e', hlc, _, hby, hx⟩
  · simp only [List.cons.injEq, and_true] at e'
    subst e'
    exact ⟨none, 0, [], rfl, fun i q hq => by simp at hq, by simp⟩
  · simp only [List.cons.injEq, and_true] at e'
    subst e'
    unfold reachBytes at hby
    have hby2 : cap ≤ 140737488355328 := by have := Nat.le_trans (Nat.le_mul_of_pos_right cap hb) hby; omega
    by_cases h0 : 0 < len
    · obtain ⟨cs0, _, hr0⟩ := hx 0 h0
      obtain ⟨x0, _, _⟩ := hel cs0 hr0
      letI : Inhabited α := ⟨x0⟩
      obtain ⟨f, hf⟩ := Go.Deep.choose_lt (α := α) (n := len) (p := fun i x => ok x ∧ ∃ cs', W.cells? 0 (a.add (i * Tryz.prog.cellsOf e)) (Tryz.prog.cellsOf e) = some cs' ∧ cs' = [enc x]) (fun i hi => by
        obtain ⟨cs', h1, h2⟩ := hx i hi
        obtain ⟨q, hok, hq⟩ := hel cs' h2
        exact ⟨q, hok, cs', h1, hq⟩)
      have hln : ((List.range len).map f).length = len := by simp
      obtain ⟨b, o, spot⟩ := a
      have hspot : spot = none := by
        obtain ⟨_, cs0, g1, g2⟩ := hf 0 h0
        rw [hc] at g1
        have c0 := (rd_cell g1).2 0 (by omega)
        rw [g2] at c0
        have := World.cell?_spot c0
        simpa [Addr.add] using this
      subst hspot
      refine ⟨some ⟨b, o, none⟩, cap, (List.range len).map f, by rw [hln], fun i x hq => ?_, by rw [hln]; omega⟩
      have hi : i < len := by have := (List.getElem?_eq_some_iff.1 hq).1; rwa [hln] at this
      have hq' : f i = x := by
        rw [List.getElem?_map, List.getElem?_range hi] at hq
        simpa using hq
      obtain ⟨hok, cs', h1, h2⟩ := hf i hi
      rw [hq'] at h2 hok
      rw [hc] at h1
      obtain ⟨_, hcc⟩ := rd_cell h1
      have c := hcc 0 (by omega)
      rw [h2, Addr.add_lit, Addr.add_lit] at c
      refine ⟨hok, b, o, rfl, ?_⟩
      simpa using c
    · obtain rfl : len = 0 := by omega
      exact ⟨some a, cap, [], rfl, fun i q hq => by simp at hq, by simp⟩
end Go.Proofs.YteimalemecgomaaGreat
