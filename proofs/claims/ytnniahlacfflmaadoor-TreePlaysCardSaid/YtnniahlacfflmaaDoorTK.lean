/- The contract of package tree's New. -/
import Derived.Test.YtnniahlacfflmaaDoorTJ
namespace Go.Proofs.YtnniahlacfflmaaDoor
open Go.RowKit Go.Shelf
attribute [local go_sem] Oper.semAt_some
theorem nw (w : World) : ∃ W3, (Instr.mapUpdate 62 (.map (some w.heap.size)) (.string ⟨#[47]⟩) (.agg #[.bool true, .int .i64 0, .bool false, .string ⟨#[]⟩, .int .i64 0])).run Tryd.prog (w.alloc (.map #[] 0)) = .ok () W3 ∧ MS W3 w.heap.size 1 (hf pl0) ∧ Mv (fun k => k = w.heap.size) (w.alloc (.map #[] 0)) W3 := by
  obtain ⟨W3, hr, ho, mv⟩ := (MapIs.made (κ := ByteArray) (k := 9) (e := eS) w).store lawS (fun _ _ => eS_inj) klS Tryd.underlying62 (keyS (s := ⟨#[47]⟩) (by decide)) (.agg #[.bool true, .int .i64 0, .bool false, .string ⟨#[]⟩, .int .i64 0]) (by unfold maxLen; omega)
  refine ⟨W3, hr, ho.cong (fun x => ?_), mv⟩
  unfold hf
  by_cases e : x = rootS
  · have e' : x = ⟨#[47]⟩ := e
    rw [if_pos e', if_pos (inS_iff.2 (by rw [e]; simp [pl0])), e]
    rfl
  · have e' : ¬ x = ⟨#[47]⟩ := e
    rw [if_neg e', if_neg (fun q => e (by have := inS_iff.1 q; simpa [pl0] using this))]
set_option maxRecDepth 100000 in
set_option maxHeartbeats 2000000 in
theorem new_any (w : World) (hg : Mx w) : Calls Tryd.prog 8 #[] w fun e w' => ∃ S : St, e = .returned (.pointer (some ⟨S.bt, 0, none⟩)) ∧ Ts w' S ∧ S.p = pl0 ∧ S.c = 1 ∧ Below w.heap.size w w' ∧ w.heap.size ≤ S.bt ∧ w.heap.size ≤ S.bh ∧ w.heap.size ≤ S.bs := by
  obtain ⟨W3, hr, ho, mv⟩ := nw w
  have hmm := @run_makeMap Tryd.prog
  obtain ⟨W, hW⟩ : ∃ W, w.alloc (.map #[] 0) = W := ⟨_, rfl⟩
  rw [hW] at hr mv
  have bl : Below w.heap.size w W := by rw [← hW]; exact (Below.refl _ _).alloc (Nat.le_refl _) _
  have b3 : Below w.heap.size w W3 := bl.trans (mv.toBelow bl.size (fun k hk e => by omega))
  have hl3 := ho.lt
  obtain ⟨W4, hW4⟩ : ∃ W4, W3.alloc (.map #[] 0) = W4 := ⟨_, rfl⟩
  have hs4 : W4.heap.size = W3.heap.size + 1 := by rw [← hW4]; simp
  have m4 : MS W4 W3.heap.size 0 (fun _ => none) := by rw [← hW4]; exact MapIs.made W3
  have b4 : Below w.heap.size w W4 := by rw [← hW4]; exact b3.alloc (by omega) _
  have mv4 : Mv (fun _ => False) W3 W4 := by rw [← hW4]; exact Mv.alloc _ _ _
  obtain ⟨W5, hW5⟩ : ∃ W5, W4.alloc (.cells #[.map (some w.heap.size), .map (some W3.heap.size)] 65) = W5 := ⟨_, rfl⟩
  have b5 : Below w.heap.size w W5 := by rw [← hW5]; exact b4.alloc (by omega) _
  have mv5 : Mv (fun _ => False) W4 W5 := by rw [← hW5]; exact Mv.alloc _ _ _
  have fin : Hid (∃ S : St, Ending.returned (.pointer (some ⟨W4.heap.size, 0, none⟩)) = .returned (.pointer (some ⟨S.bt, 0, none⟩)) ∧ Ts W5 S ∧ S.p = pl0 ∧ S.c = 1 ∧ Below w.heap.size w W5 ∧ w.heap.size ≤ S.bt ∧ w.heap.size ≤ S.bh ∧ w.heap.size ≤ S.bs) := by
    refine ⟨⟨W4.heap.size, w.heap.size, W3.heap.size, pl0, 1⟩, rfl, ⟨?_, ?_, ⟨1, Nat.le_refl _, (ho.mv mv4 (fun h => h)).mv mv5 (fun h => h)⟩, ⟨0, _, by omega, m4.mv mv5 (fun h => h), fun x => rfl⟩, by show w.heap.size ≠ W3.heap.size; omega, wf0.z, fun x => ?_, fun x => ?_, fun x => ⟨Int.le_refl _, by show (0 : Int) ≤ 1; omega⟩, ?_⟩, rfl, rfl, b5, by show w.heap.size ≤ W4.heap.size; omega, Nat.le_refl _, by show w.heap.size ≤ W3.heap.size; omega⟩
    · rw [← hW5]; exact cell_at rfl rfl
    · rw [← hW5]; exact cell_at rfl rfl
    · show -1 ≤ (up (fun _ => ndZ) rootS { ndZ with f := true } x).ins ∧ (up (fun _ => ndZ) rootS { ndZ with f := true } x).ins ≤ 1
      unfold up ndZ
      split <;> simp
    · show -1 ≤ (up (fun _ => ndZ) rootS { ndZ with f := true } x).un ∧ (up (fun _ => ndZ) rootS { ndZ with f := true } x).un ≤ 1
      unfold up ndZ
      split <;> simp
    · exact hg.mv (E := fun k => w.heap.size ≤ k) ⟨b5.os, b5.tape, b5.output, b5.size, fun k hk _ => b5.block k hk⟩ (by have := mxne hg; omega)
  clear ho mv bl b3 hl3 hs4 m4 b4 mv4 b5 mv5
  go_enter Tryd.func8, Tryd.ntmps8
  go_wp2_with (first | rw [hW] | rw [hW4] | rw [hW5])
  go_ret
  exact fin.out
end Go.Proofs.YtnniahlacfflmaaDoor
