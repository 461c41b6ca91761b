/- The contract of package line's Lines: a text too long. -/
import Derived.Test.YtmoafagemdnifaaDoorB5
namespace Go.Proofs.YtmoafagemdnifaaDoor
open Go.RowKit Go.Shelf Lin
attribute [local go_sem] Oper.semAt_some
set_option maxRecDepth 100000 in
set_option maxHeartbeats 4000000 in
theorem lines_long (s : ByteArray) (w : World) (hz : 4000 < s.size) : Calls Tryd.prog 24 #[.string s] w (LinesP (lns s.data.toList) w) := by
  have hR : Hid (lns s.data.toList = .error (0, 51)) := by show _ = _; unfold lns; rw [size_list, if_pos hz]
  obtain ⟨R0, hR0⟩ : ∃ R0, ((w.alloc (.cells #[.slice none 0 0] 56)).alloc (.cells #[.int .i64 0] 3)).alloc (.cells #[.int .i64 0] 26) = R0 := ⟨_, rfl⟩
  have hb0 : Below w.heap.size w R0 := by rw [← hR0]; exact (((Below.refl _ w).alloc (Nat.le_refl _) _).alloc (by simp) _).alloc (by simp; omega) _
  have k0 : Cl w.heap.size (.slice none 0 0) R0 := by
    rw [← hR0]
    exact Cl.mv (E := fun _ => False) (W := w.alloc (.cells #[.slice none 0 0] 56)) ⟨cell_at rfl rfl, World.frozen?_alloc_new _ _ _ _⟩ ((Mv.alloc _ _ _).trans' (Mv.alloc _ _ _)) (fun h => h)
  have k1 : Cl (w.heap.size + 1) (.int .i64 0) R0 := by
    rw [← hR0]
    refine Cl.mv (E := fun _ => False) (W := (w.alloc (.cells #[.slice none 0 0] 56)).alloc (.cells #[.int .i64 0] 3)) ⟨cell_at (by simp) rfl, ?_⟩ (Mv.alloc _ _ _) (fun h => h)
    rw [← World.size_alloc w (.cells #[.slice none 0 0] 56)]
    exact World.frozen?_alloc_new _ _ _ _
  have k2 : Cl (w.heap.size + 1 + 1) (.int .i64 0) R0 := by
    rw [← hR0]
    refine ⟨cell_at (by simp) rfl, ?_⟩
    have := World.frozen?_alloc_new ((w.alloc (.cells #[.slice none 0 0] 56)).alloc (.cells #[.int .i64 0] 3)) #[.int .i64 0] 26 0
    simpa using this
  have a0 := k0.c
  have a1 := k0.f
  have l1 := k1.oth (j := w.heap.size) (by omega) (.slice none 0 0)
  have l2 := (k2.oth (j := w.heap.size) (by omega) (.slice none 0 0)).oth (j := w.heap.size + 1) (by omega) (.int .i64 0)
  have a2 := l1.c
  have a3 := l1.f
  have a4 := l2.c
  have a5 := l2.f
  obtain ⟨R3, hR3⟩ : ∃ R3, ((R0.setCell ⟨w.heap.size, 0, none⟩ (.slice none 0 0)).setCell ⟨w.heap.size + 1, 0, none⟩ (.int .i64 0)).setCell ⟨w.heap.size + 1 + 1, 0, none⟩ (.int .i64 51) = R3 := ⟨_, rfl⟩
  have e0 := (((k0.set (.slice none 0 0)).oth (j := w.heap.size + 1) (by omega) (.int .i64 0)).oth (j := w.heap.size + 1 + 1) (by omega) (.int .i64 51)).c
  have e1 := ((l1.set (.int .i64 0)).oth (j := w.heap.size + 1 + 1) (by omega) (.int .i64 51)).c
  have e2 := (l2.set (.int .i64 51)).c
  have hb3 : Below w.heap.size w R3 := by rw [← hR3]; exact ((hb0.setCell (p := ⟨w.heap.size, 0, none⟩) (by simp) _).setCell (p := ⟨w.heap.size + 1, 0, none⟩) (by simp) _).setCell (p := ⟨w.heap.size + 1 + 1, 0, none⟩) (by simp; omega) _
  rw [hR3] at e0 e1 e2
  have hzI : (4000 : Int) < (s.size : Int) := by omega
  go_enter Tryd.func24, Tryd.ntmps24
  go_wp2_with (first | rw [hR0] | rw [hR3])
  refine bodyPost_ret (v := .tuple #[.slice none 0 0, .int .i64 0, .int .i64 51]) (by simp [results, Tryd.results24, go_sem, e0, e1, e2]) rfl ?_
  rw [hR.out]
  exact ⟨rfl, hb3⟩
end Go.Proofs.YtmoafagemdnifaaDoor
