/- Contracts of package calendar's timesAbove and first. -/
import Derived.Test.YteaaknbininehabDoorT3
namespace Go.Proofs.YteaaknbininehabDoor
open Go.RowKit Go.Shelf
attribute [local go_sem] Oper.semAt_some
theorem Mv.setCell {E : Nat → Prop} {W : World} {b : Nat} (h : E b) (v : Value) : Mv E W (W.setCell ⟨b, 0, none⟩ v) :=
  let hg := grownBy_setCell' W b v
  ⟨hg.os, hg.tape, hg.output, hg.size, fun k hk he => hg.block k hk (fun e => by cases e; exact he h)⟩
set_option maxHeartbeats 1000000 in
theorem timesAbove_any (S : Nat → Sl) (c : Cal.C7) (t : Int) (E : Nat → Prop) (w : World) (hp : CalPin E w S c) (hg : Gl E w) (low : ∀ k, E k → k < w.heap.size) (ho : CalOk c) (tmax : t ≤ 9223372036854775807) :
    Calls Tryd.prog 16 #[aggC S, .int .i64 t] w fun e w' => ∃ lb, e = .returned (.func (.func 33) #[] lb) ∧ Below w.heap.size w w' ∧ Row Tryd.prog 33 lb encI (Cal.ts c t) E w' := by
  go_enter Tryd.func16, Tryd.ntmps16
  go_wp2
  go_ret
  refine ⟨_, rfl, ((Below.refl _ w).alloc (Nat.le_refl _) _).alloc (by simp) _, ?_⟩
  have mv : Mv E w ((w.alloc (.cells #[slv (S 0), slv (S 1), slv (S 2), slv (S 3), slv (S 4), slv (S 5), slv (S 6)] 26)).alloc (.cells #[.int .i64 t] 2)) := (Mv.alloc _ _ _).trans' (Mv.alloc _ _ _)
  refine time_row E _ _ _ S c t ((calBox_new S c _ low).mv (Mv.alloc _ _ _) (Gr.refl _ _)) (hp.mv mv (Gr.refl _ _)) (hg.mv mv (Gr.refl _ _)) ⟨cell_at (by simp) rfl, fun h => by have := low _ h; omega⟩ ho tmax
/-- The two results of 'first'. -/
structure FirB (s : Nat) (x : Int) (b : Bool) (W : World) : Prop where
  c0 : W.cell? ⟨s, 0, none⟩ = some (.int .i64 x)
  c1 : W.cell? ⟨s + 1, 0, none⟩ = some (.bool b)
  f0 : W.frozen? ⟨s, 0, none⟩ = false
  f1 : W.frozen? ⟨s + 1, 0, none⟩ = false
theorem FirB.keep {s : Nat} {x : Int} {b : Bool} {W V : World} (h : FirB s x b W) (h0 : V.heap[s]? = W.heap[s]?) (h1 : V.heap[s + 1]? = W.heap[s + 1]?) : FirB s x b V :=
  ⟨(World.cell?_of_block (a := ⟨s, 0, none⟩) h0).trans h.c0, (World.cell?_of_block (a := ⟨s + 1, 0, none⟩) h1).trans h.c1, (World.frozen?_of_block (a := ⟨s, 0, none⟩) h0).trans h.f0, (World.frozen?_of_block (a := ⟨s + 1, 0, none⟩) h1).trans h.f1⟩
theorem FirB.ter {β : Type} (B s : Nat) (p : β → Prop) (x : β → Int) (b : β → Bool) : Ter B (fun (q : β) E W => (p q ∧ ∀ k, E k ↔ (k = s ∨ k = s + 1)) ∧ FirB s (x q) (b q) W) :=
  ⟨fun q E W V h m => ⟨h.1, h.2.keep (m.block s (cell_lt h.2.c0) (fun hh => hh.1 ((h.1.2 s).2 (.inl rfl)))) (m.block (s + 1) (cell_lt h.2.c1) (fun hh => hh.1 ((h.1.2 (s + 1)).2 (.inr rfl))))⟩,
   fun q E W h k hk => by
    rcases (h.1.2 k).1 hk with rfl | rfl
    · exact cell_lt h.2.c0
    · exact cell_lt h.2.c1⟩
theorem FirB.set {s : Nat} {x : Int} {b : Bool} {W : World} (h : FirB s x b W) (x' : Int) (b' : Bool) : FirB s x' b' ((W.setCell ⟨s, 0, none⟩ (.int .i64 x')).setCell ⟨s + 1, 0, none⟩ (.bool b')) := by
  have n1 : (⟨s, 0, none⟩ : Addr) ≠ ⟨s + 1, 0, none⟩ := fun e => by cases e
  refine ⟨?_, ?_, ?_, ?_⟩
  · rw [World.cell?_setCell_other _ _ _ _ (fun e => by simp at e)]
    exact World.cell?_setCell_same' _ _ _ (by rw [h.c0]; rfl)
  · exact World.cell?_setCell_same' _ _ _ (by rw [World.cell?_setCell_other _ _ _ _ (fun e => by simp at e), h.c1]; rfl)
  · rw [World.frozen?_setCell, World.frozen?_setCell]; exact h.f0
  · rw [World.frozen?_setCell, World.frozen?_setCell]; exact h.f1
set_option maxRecDepth 100000 in
set_option maxHeartbeats 4000000 in
theorem first_any (lb : Array Value) (xs : List Int) (w : World) (hrow : Row Tryd.prog 33 lb encI xs (fun _ => False) w) :
    Calls Tryd.prog 15 #[.func (.func 33) #[] lb] w fun e w' => e = .returned (.tuple #[.int .i64 (xs.head?.getD 0), .bool xs.head?.isSome]) ∧ Below w.heap.size w w' := by
  refine (callsIn_wide (n := 5)).1 ?_
  refine callsIn_of_wp_marks Tryd.func15 rfl trivial ?_ rfl
  simp only [Tryd.ntmps15, List.size_toArray, List.length_cons, List.length_nil, Nat.reduceAdd, Nat.reduceSub, Array.replicate_succ, Array.replicate_zero, List.push_toArray, List.append_toArray, List.nil_append, List.cons_append]
  gi_wp2_with fail
  have mB : Below w.heap.size w ((w.alloc (.cells #[.int .i64 0] 2)).alloc (.cells #[.bool false] 4)) := ((Below.refl _ w).alloc (Nat.le_refl _) _).alloc (by simp) _
  have hrow1 : Row Tryd.prog 33 lb encI xs (fun k => k = w.heap.size ∨ k = w.heap.size + 1) ((w.alloc (.cells #[.int .i64 0] 2)).alloc (.cells #[.bool false] 4)) := hrow.later (Mv.below mB) (fun k hk => .inr (by omega))
  have hB : FirB w.heap.size 0 false ((w.alloc (.cells #[.int .i64 0] 2)).alloc (.cells #[.bool false] 4)) := by
    refine ⟨by rw [cell_old (by simp)]; exact cell_at rfl rfl, cell_at (by simp) rfl, ?_, ?_⟩
    · rw [World.frozen?_of_block (Below.heap_alloc _ _ _ (by simp))]; exact World.frozen?_alloc_new _ _ _ _
    · have := World.frozen?_alloc_new (w.alloc (.cells #[.int .i64 0] 2)) #[.bool false] 4 0
      rw [World.size_alloc] at this; exact this
  have hs : ((w.alloc (.cells #[.int .i64 0] 2)).alloc (.cells #[.bool false] 4)).heap.size = w.heap.size + 2 := by simp
  revert mB hrow1 hB hs
  generalize (w.alloc (.cells #[.int .i64 0] 2)).alloc (.cells #[.bool false] 4) = W0
  intro mB hrow1 hB hs
  have tI := FirB.ter (β := List Int) W0.heap.size w.heap.size (fun rest => rest = xs) (fun _ => 0) (fun _ => false)
  have tX := FirB.ter (β := Code) W0.heap.size w.heap.size (fun c => c = Code.ret ∧ xs ≠ []) (fun _ => xs.head?.getD 0) (fun _ => true)
  refine loop_out (gf := 33) (lb := lb) rfl (enters_of Tryd.func33 (by kernel_rfl) rfl) hrow1 (fun _ => rfl) _ _ tI tX ⟨⟨rfl, fun _ => Iff.rfl⟩, hB⟩ ?round ?done ?stop
  case round =>
    rintro l1 hl1 x rest E2 U hi hm hg hEl hrec
    simp only [encI]
    gi_wp2
    refine ⟨⟨Mv.refl _ _, trivial⟩, fun U2 tw => ?_⟩
    obtain ⟨⟨⟨rfl, hE⟩, hb2⟩, hm2⟩ := tw.go tI hi (Mv.refl _ _) hm (Nat.le_refl _) hl1 hEl
    have k0 := hb2.c0
    have k1 := hb2.c1
    have k2 := hb2.f0
    have k3 := hb2.f1
    clear hi hm hrec
    gi_wp2_with fail
    exact ⟨(Mv.setCell ((hE _).2 (.inl rfl)) _).trans' (Mv.setCell ((hE _).2 (.inr rfl)) _), E2, Gr.refl _ _, ⟨⟨rfl, by simp⟩, hE⟩, hb2.set x true⟩
  case done =>
    rintro D E2 U hD hK hnD hm hg ⟨⟨rfl, hE⟩, hb2⟩
    have k0 := hb2.c0
    have k1 := hb2.c1
    have k2 := hb2.f0
    have k3 := hb2.f1
    gi_wp2_with fail
    have hK2 := (KeepsOthers.setCell (U.setCell ⟨w.heap.size, 0, none⟩ (.int .i64 0)) ⟨w.heap.size + 1, 0, none⟩ (.bool false)).same D _ ((KeepsOthers.setCell U ⟨w.heap.size, 0, none⟩ (.int .i64 0)).same D _ hK rfl) rfl
    have hb3 := hb2.set 0 false
    have mS : Mv E2 U ((U.setCell ⟨w.heap.size, 0, none⟩ (.int .i64 0)).setCell ⟨w.heap.size + 1, 0, none⟩ (.bool false)) := (Mv.setCell ((hE _).2 (.inl rfl)) _).trans' (Mv.setCell ((hE _).2 (.inr rfl)) _)
    refine ⟨by simp, .inl ⟨_, _, rfl, run_takeDeferred hK2, ?_⟩⟩
    have g0 := cell_kept hb3.c0 (grownBy_putObj' _ D (.deferred none)) (fun r e => by cases e; exact ⟨_, hK2, rfl⟩)
    have g1 := cell_kept hb3.c1 (grownBy_putObj' _ D (.deferred none)) (fun r e => by cases e; exact ⟨_, hK2, rfl⟩)
    refine ⟨.tuple #[.int .i64 0, .bool false], ?_, rfl, ?_⟩
    · simp [results, Tryd.results15, go_sem, g0, g1]
    · exact mB.trans (((hm.trans hg mS).put_new (l := D) (by omega) _).toBelow (by omega) (fun k hk h => by omega))
  case stop =>
    rintro D c E2 U hD hK hnD hm hg ⟨⟨⟨rfl, hne⟩, hE⟩, hb2⟩
    gi_wp2_with fail
    refine ⟨by simp, .inl ⟨_, _, rfl, run_takeDeferred hK, ?_⟩⟩
    have g0 := cell_kept hb2.c0 (grownBy_putObj' _ D (.deferred none)) (fun r e => by cases e; exact ⟨_, hK, rfl⟩)
    have g1 := cell_kept hb2.c1 (grownBy_putObj' _ D (.deferred none)) (fun r e => by cases e; exact ⟨_, hK, rfl⟩)
    refine ⟨.tuple #[.int .i64 (xs.head?.getD 0), .bool true], ?_, ?_, ?_⟩
    · simp [results, Tryd.results15, go_sem, g0, g1]
    · cases xs with
      | nil => exact absurd rfl hne
      | cons a r => rfl
    · exact mB.trans ((hm.put_new (l := D) (by omega) _).toBelow (by omega) (fun k hk h => by omega))
end Go.Proofs.YteaaknbininehabDoor
