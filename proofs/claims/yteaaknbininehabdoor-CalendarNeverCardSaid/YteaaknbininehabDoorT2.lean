/- The contract of package calendar's timesAbove: a row of times. -/
import Derived.Test.YteaaknbininehabDoorD3
import Derived.Test.YteaaknbininehabDoorU1
namespace Go.Proofs.YteaaknbininehabDoor
open Go.RowKit Go.Shelf
attribute [local go_sem] Oper.semAt_some
abbrev aggC (S : Nat → Sl) : Value := .agg #[slv (S 0), slv (S 1), slv (S 2), slv (S 3), slv (S 4), slv (S 5), slv (S 6)]
theorem calBox_new {E : Nat → Prop} {U : World} (S : Nat → Sl) (c : Cal.C7) (t : TypeId) (low : ∀ k, E k → k < U.heap.size) :
    CalBox E (U.alloc (.cells #[slv (S 0), slv (S 1), slv (S 2), slv (S 3), slv (S 4), slv (S 5), slv (S 6)] t)) U.heap.size S c :=
  ⟨fun h => by have := low _ h; omega, cell_at rfl rfl, cell_at rfl rfl, cell_at rfl rfl, cell_at rfl rfl, cell_at rfl rfl, cell_at rfl rfl, cell_at rfl rfl⟩
set_option maxHeartbeats 1000000 in
theorem daysSince_any (S : Nat → Sl) (c : Cal.C7) (y m d : Int) (E : Nat → Prop) (w : World) (hp : CalPin E w S c) (hg : Gl E w) (low : ∀ k, E k → k < w.heap.size) (ho : CalOk c) (hv : Civ.vldB y m d = true) :
    Calls Tryd.prog 35 #[aggC S, .agg #[.int .i64 y, .int .i64 m, .int .i64 d]] w fun e w' => ∃ lb, e = .returned (.func (.func 55) #[] lb) ∧ Below w.heap.size w w' ∧ Row Tryd.prog 55 lb encI (Cal.ds c y m d) E w' := by
  go_enter Tryd.func35, Tryd.ntmps35
  go_wp2
  go_ret
  refine ⟨_, rfl, ((Below.refl _ w).alloc (Nat.le_refl _) _).alloc (by simp) _, ?_⟩
  have mv : Mv E w ((w.alloc (.cells #[slv (S 0), slv (S 1), slv (S 2), slv (S 3), slv (S 4), slv (S 5), slv (S 6)] 26)).alloc (.cells #[.int .i64 y, .int .i64 m, .int .i64 d] 35)) := (Mv.alloc _ _ _).trans' (Mv.alloc _ _ _)
  refine day_row E _ _ _ S c y m d ((calBox_new S c _ low).mv (Mv.alloc _ _ _) (Gr.refl _ _)) (hp.mv mv (Gr.refl _ _)) (hg.mv mv (Gr.refl _ _)) (fun h => by have := low _ h; omega) ?_ ?_ ?_ ho hv
  all_goals exact cell_at (by simp) rfl
set_option maxHeartbeats 1000000 in
theorem secondsSince_any (S : Nat → Sl) (c : Cal.C7) (f : Int) (E : Nat → Prop) (w : World) (hp : CalPin E w S c) (hg : Gl E w) (low : ∀ k, E k → k < w.heap.size) (ho : CalOk c) (f0 : 0 ≤ f) (f1 : f ≤ 100000) :
    Calls Tryd.prog 36 #[aggC S, .int .i64 f] w fun e w' => ∃ lb, e = .returned (.func (.func 60) #[] lb) ∧ Below w.heap.size w w' ∧ Row Tryd.prog 60 lb encI (Cal.ss c f) E w' := by
  go_enter Tryd.func36, Tryd.ntmps36
  go_wp2
  go_ret
  refine ⟨_, rfl, ((Below.refl _ w).alloc (Nat.le_refl _) _).alloc (by simp) _, ?_⟩
  have mv : Mv E w ((w.alloc (.cells #[slv (S 0), slv (S 1), slv (S 2), slv (S 3), slv (S 4), slv (S 5), slv (S 6)] 26)).alloc (.cells #[.int .i64 f] 3)) := (Mv.alloc _ _ _).trans' (Mv.alloc _ _ _)
  refine sec_row E _ _ _ S c f ((calBox_new S c _ low).mv (Mv.alloc _ _ _) (Gr.refl _ _)) (hp.mv mv (Gr.refl _ _)) (hg.mv mv (Gr.refl _ _)) ⟨cell_at (by simp) rfl, fun h => by have := low _ h; omega⟩ ho f0 f1
end Go.Proofs.YteaaknbininehabDoor
