/- The contract of package name's hasParts. -/
import Derived.Test.YtimmieelpaoncaaDoorB2
namespace Go.Proofs.YtimmieelpaoncaaDoor
open Go.RowKit Go.Shelf Nam
attribute [local go_sem] Oper.semAt_some
set_option maxHeartbeats 1000000 in
theorem splitSeq0_any (s t : ByteArray) (w : World) :
    Calls Tryd.prog 71 #[.string s, .string t, .int .i64 0] w fun e w' => e = .returned (.func (.func 76) #[] #[.pointer (some ⟨w.heap.size + 1, 0, none⟩), .pointer (some ⟨w.heap.size, 0, none⟩), .pointer (some ⟨w.heap.size + 2, 0, none⟩)]) ∧ w' = ((w.alloc (.cells #[.string s] 9)).alloc (.cells #[.string t] 9)).alloc (.cells #[.int .i64 0] 3) := by
  go_enter Tryd.func71, Tryd.ntmps71
  go_wp2_with fail
  go_ret
  exact ⟨rfl, rfl⟩
set_option maxHeartbeats 1000000 in
theorem splitSeq_any (s t : ByteArray) (w : World) :
    Calls Tryd.prog 61 #[.string s, .string t] w fun e w' => e = .returned (.func (.func 76) #[] #[.pointer (some ⟨w.heap.size + 1, 0, none⟩), .pointer (some ⟨w.heap.size, 0, none⟩), .pointer (some ⟨w.heap.size + 2, 0, none⟩)]) ∧ w' = ((w.alloc (.cells #[.string s] 9)).alloc (.cells #[.string t] 9)).alloc (.cells #[.int .i64 0] 3) := by
  go_enter Tryd.func61, Tryd.ntmps61
  go_wp2_with fail
  refine (splitSeq0_any s t w).mono ?_
  rintro e w1 ⟨rfl, rfl⟩
  go_wp2_with fail
  go_ret
  exact ⟨rfl, rfl⟩
/-- The result's cell. -/
structure ResB (s : Nat) (b : Bool) (W : World) : Prop where
  c0 : W.cell? ⟨s, 0, none⟩ = some (.bool b)
  f0 : W.frozen? ⟨s, 0, none⟩ = false
theorem ResB.keep {s : Nat} {b : Bool} {W V : World} (h : ResB s b W) (h0 : V.heap[s]? = W.heap[s]?) : ResB s b V :=
  ⟨(World.cell?_of_block (a := ⟨s, 0, none⟩) h0).trans h.c0, (World.frozen?_of_block (a := ⟨s, 0, none⟩) h0).trans h.f0⟩
theorem ResB.ter {β : Type} (B s : Nat) (p : β → Prop) : Ter B (fun (q : β) E W => (p q ∧ ∀ k, E k ↔ k = s) ∧ ResB s false W) :=
  ⟨fun q E W V h m => ⟨h.1, h.2.keep (m.block s (cell_lt h.2.c0) (fun hh => hh.1 ((h.1.2 s).2 rfl)))⟩,
   fun q E W h k hk => by
    rcases (h.1.2 k).1 hk with rfl
    exact cell_lt h.2.c0⟩
theorem ResB.set {s : Nat} {b : Bool} {W : World} (h : ResB s b W) (b' : Bool) : ResB s b' (W.setCell ⟨s, 0, none⟩ (.bool b')) :=
  ⟨World.cell?_setCell_same' _ _ _ (by rw [h.c0]; rfl), by rw [World.frozen?_setCell]; exact h.f0⟩
set_option maxRecDepth 100000 in
set_option maxHeartbeats 4000000 in
theorem hasParts_any (s : ByteArray) (w : World) (hg : GlN w) (hs : s.size ≤ 2000000) :
    Calls Tryd.prog 50 #[.string s] w fun e w' => e = .returned (.bool (okAll (pieces s.data.toList))) ∧ Below w.heap.size w w' := by
  obtain ⟨mx, hmx⟩ := hg.mx
  have h1w : 1 < w.heap.size := cell_lt hmx
  refine (callsIn_wide (n := 5)).1 ?_
  refine callsIn_of_wp_marks Tryd.func50 rfl trivial ?_ rfl
  simp only [Tryd.ntmps50, List.size_toArray, List.length_cons, List.length_nil, Nat.reduceAdd, Nat.reduceSub, Array.replicate_succ, Array.replicate_zero, List.push_toArray, List.append_toArray, List.nil_append, List.cons_append]
  gi_wp2_with fail
  have mB : Below w.heap.size w (w.alloc (.cells #[.bool false] 4)) := (Below.refl _ w).alloc (Nat.le_refl _) _
  have hB : ResB w.heap.size false (w.alloc (.cells #[.bool false] 4)) := ⟨cell_at rfl rfl, World.frozen?_alloc_new _ _ _ _⟩
  have hs0 : (w.alloc (.cells #[.bool false] 4)).heap.size = w.heap.size + 1 := by simp
  revert mB hB hs0
  generalize w.alloc (.cells #[.bool false] 4) = W0
  intro mB hB hs0
  refine ⟨trivial, (callsIn_wide.2 (splitSeq_any s ⟨#[47]⟩ W0)).mono ?_⟩
  rintro e W1 ⟨rfl, hW1⟩
  have m1 : Mv (fun k => k = w.heap.size) W0 W1 := by rw [hW1]; exact ((Mv.alloc _ _ _).trans' (Mv.alloc _ _ _)).trans' (Mv.alloc _ _ _)
  have hs1 : W1.heap.size = W0.heap.size + 3 := by rw [hW1]; simp
  have hB1 : ResB w.heap.size false W1 := hB.keep (by rw [hW1]; rw [Below.heap_alloc _ _ _ (by simp; omega), Below.heap_alloc _ _ _ (by simp; omega), Below.heap_alloc _ _ _ (by omega)])
  have c0 : W1.cell? ⟨W0.heap.size, 0, none⟩ = some (.string s) := by
    rw [hW1, World.cell?_alloc_lt _ _ _ (by simp; omega), World.cell?_alloc_lt _ _ _ (by simp)]; exact cell_at rfl rfl
  have z0 : W1.frozen? ⟨W0.heap.size, 0, none⟩ = false := by
    rw [hW1, World.frozen?_of_block (Below.heap_alloc _ _ _ (by simp; omega)), World.frozen?_of_block (Below.heap_alloc _ _ _ (by simp))]; exact World.frozen?_alloc_new _ _ _ _
  have c1 : W1.cell? ⟨W0.heap.size + 1, 0, none⟩ = some (.string ⟨#[47]⟩) := by
    rw [hW1, World.cell?_alloc_lt _ _ _ (by simp)]; exact cell_at (by simp) rfl
  have c3 : W1.cell? ⟨W0.heap.size + 2, 0, none⟩ = some (.int .i64 0) := by
    rw [hW1]; exact cell_at (by simp) rfl
  have cm : W1.cell? ⟨1, 0, none⟩ = some (.int .i64 mx) := m1.cell (by show ¬ 1 = _; omega) ((mB.cell (p := ⟨1, 0, none⟩) h1w).trans hmx)
  clear hW1
  have hrow := split1_row s W0.heap.size (W0.heap.size + 1) (W0.heap.size + 2) W0.heap.size mx (fun k => k = w.heap.size) W1 hs (Nat.le_refl _) c0 z0 (by omega) c1 (by omega) (by omega) c3 (by omega) (by omega) cm (by omega) (by omega)
  have hrow' : RowB Tryd.prog 76 #[.pointer (some ⟨w.heap.size + 1 + 1, 0, none⟩), .pointer (some ⟨w.heap.size + 1, 0, none⟩), .pointer (some ⟨w.heap.size + 1 + 2, 0, none⟩)] encS (pieces s.data.toList) (w.heap.size + 1) W0.heap.size (fun k => k = w.heap.size) W1 := by
    rw [← hs0]; exact hrow
  gi_wp2_with fail
  have tI := ResB.ter (β := List L) W0.heap.size w.heap.size (fun rest => Hid (okAll (pieces s.data.toList) = okAll rest))
  have tX := ResB.ter (β := Code) W0.heap.size w.heap.size (fun c => c = Code.ret ∧ Hid (okAll (pieces s.data.toList) = false))
  refine loop_outB (gf := 76) (lb := #[.pointer (some ⟨w.heap.size + 1 + 1, 0, none⟩), .pointer (some ⟨w.heap.size + 1, 0, none⟩), .pointer (some ⟨w.heap.size + 1 + 2, 0, none⟩)]) rfl (enters_of Tryd.func76 (by kernel_rfl) rfl) W0 m1 (by omega) hrow' (fun _ => rfl) _ _ tI tX ⟨⟨rfl, fun _ => Iff.rfl⟩, hB1⟩ ?round ?done ?stop
  case round =>
    rintro l1 hl1 x rest E2 U hi hm hg hEl hrec
    obtain ⟨X, rfl, _, hXe⟩ := letters x
    simp only [encS, hXe]
    gi_wp2
    refine ⟨Mv.refl _ _, fun U2 tw => ?_⟩
    obtain ⟨⟨⟨hq, hE⟩, hb2⟩, hm2⟩ := tw.go tI hi (Mv.refl _ _) hm (Nat.le_refl _) (by omega) hEl
    have k0 := hb2.c0
    have k2 := hb2.f0
    have hqH : Hid (okAll (pieces s.data.toList) = (okp X.data.toList && okAll rest)) := by show _ = _; rw [hq.out, okAll_cons]
    clear hi hm hrec hq
    cases t0 : (X.toList == [])
    · cases t1 : (X.toList == [46])
      · cases t2 : (X.toList == [46, 46])
        · have hok : Hid (okAll (pieces s.data.toList) = okAll rest) := by
            show _ = _
            rw [hqH.out, okp, ← Lib.toList_data, t0, t1, t2]; rfl
          gi_wp2_with fail
          exact ⟨Mv.refl _ _, E2, Gr.refl _ _, ⟨hok, hE⟩, hb2⟩
        · have hok : Hid (okAll (pieces s.data.toList) = false) := by
            show _ = _
            rw [hqH.out, okp, ← Lib.toList_data, t2]; simp
          gi_wp2_with fail
          exact ⟨Mv.set ((hE _).2 rfl) _, E2, Gr.refl _ _, ⟨⟨rfl, hok⟩, hE⟩, hb2.set false⟩
      · have hok : Hid (okAll (pieces s.data.toList) = false) := by
          show _ = _
          rw [hqH.out, okp, ← Lib.toList_data, t1]; simp
        gi_wp2_with fail
        exact ⟨Mv.set ((hE _).2 rfl) _, E2, Gr.refl _ _, ⟨⟨rfl, hok⟩, hE⟩, hb2.set false⟩
    · have hok : Hid (okAll (pieces s.data.toList) = false) := by
        show _ = _
        rw [hqH.out, okp, ← Lib.toList_data, t0]; simp
      gi_wp2_with fail
      exact ⟨Mv.set ((hE _).2 rfl) _, E2, Gr.refl _ _, ⟨⟨rfl, hok⟩, hE⟩, hb2.set false⟩
  case done =>
    rintro D E2 U hD hK hnD hm hg ⟨⟨hq, hE⟩, hb2⟩
    have hok : Hid (okAll (pieces s.data.toList) = true) := hq
    clear hq
    have k0 := hb2.c0
    have k2 := hb2.f0
    gi_wp2_with fail
    have hK2 := (KeepsOthers.setCell U ⟨w.heap.size, 0, none⟩ (.bool true)).same D _ hK rfl
    have hb3 := hb2.set true
    have mS : Mv E2 U (U.setCell ⟨w.heap.size, 0, none⟩ (.bool true)) := Mv.set ((hE _).2 rfl) _
    refine ⟨by simp, .inl ⟨_, _, rfl, run_takeDeferred hK2, ?_⟩⟩
    have g0 := cell_kept hb3.c0 (grownBy_putObj' _ D (.deferred none)) (fun r e => by cases e; exact ⟨_, hK2, rfl⟩)
    refine ⟨.bool true, ?_, by rw [hok.out], ?_⟩
    · simp [results, Tryd.results50, go_sem, g0]
    · exact mB.trans (((hm.trans hg mS).put_new (l := D) (by omega) _).toBelow (by omega) (fun k hk h => by omega))
  case stop =>
    rintro D c E2 U hD hK hnD hm hg ⟨⟨⟨rfl, hq⟩, hE⟩, hb2⟩
    have hok : Hid (okAll (pieces s.data.toList) = false) := hq
    clear hq
    gi_wp2_with fail
    refine ⟨by simp, .inl ⟨_, _, rfl, run_takeDeferred hK, ?_⟩⟩
    have g0 := cell_kept hb2.c0 (grownBy_putObj' _ D (.deferred none)) (fun r e => by cases e; exact ⟨_, hK, rfl⟩)
    refine ⟨.bool false, ?_, by rw [hok.out], ?_⟩
    · simp [results, Tryd.results50, go_sem, g0]
    · exact mB.trans ((hm.put_new (l := D) (by omega) _).toBelow (by omega) (fun k hk h => by omega))
end Go.Proofs.YtimmieelpaoncaaDoor
