/- Contracts of package calendar's parseNumbers, parseDate, parseClock. -/
import Derived.Test.YteaaknbininehabDoorP4
namespace Go.Proofs.YteaaknbininehabDoor
open Go.RowKit
def pNs (s : ByteArray) (lo hi : Int) : Option (List Part) := if (s.toList == [42]) = true then some [(true, 0, 0, 0)] else pL (fun t => pPart t lo hi) (splitT s (str1 44) 12)
/-- Of what lay, nothing has turned but the cell o of block b, which now holds v. -/
structure Upd (b o : Nat) (v : Value) (w w' : World) : Prop where
  os : w'.os = w.os
  tape : w'.tape = w.tape
  output : w'.output = w.output
  size : w.heap.size ≤ w'.heap.size
  block : ∀ k, k < w.heap.size → k ≠ b → w'.heap[k]? = w.heap[k]?
  cell : ∀ j, j ≠ o → w'.cell? ⟨b, j, none⟩ = w.cell? ⟨b, j, none⟩
  froz : ∀ j, w'.frozen? ⟨b, j, none⟩ = w.frozen? ⟨b, j, none⟩
  here : w'.cell? ⟨b, o, none⟩ = some v
theorem upd_of {b o : Nat} {v u : Value} {w w1 : World} (hb : Below w.heap.size w w1) (hl : b < w.heap.size) (h : w.cell? ⟨b, o, none⟩ = some u) : Upd b o v w (w1.setCell ⟨b, o, none⟩ v) := by
  have hc : w1.cell? ⟨b, o, none⟩ = some u := (hb.cell (p := ⟨b, o, none⟩) hl).trans h
  refine ⟨hb.os, hb.tape, hb.output, by simpa using hb.size, fun k hk hne => ?_, fun j hj => ?_, fun j => ?_, ?_⟩
  · rw [← hb.block k hk]
    exact heap_setCell_other _ _ _ _ hne
  · rw [World.cell?_setCell_other _ _ _ _ (fun e => hj (by cases e; rfl))]
    exact hb.cell (p := ⟨b, j, none⟩) hl
  · rw [World.frozen?_setCell]
    exact hb.frozen (p := ⟨b, j, none⟩) hl
  · exact World.cell?_setCell_same' _ _ _ (by rw [hc]; rfl)
theorem pin_one {w : World} {n : Nat} (hn : n ≤ w.heap.size) (t : TypeId) : Pin (fun k => k < n) (w.alloc (.cells #[.bool true, .int .i64 0, .int .i64 0, .int .i64 0] t)) (slv (some ⟨w.heap.size, 0, none⟩, 1, 1)) [(true, 0, 0, 0)] := by
  refine ⟨some ⟨w.heap.size, 0, none⟩, 1, rfl, by simp, fun i q h => ?_⟩
  cases i with
  | zero =>
    simp at h; subst h
    exact ⟨w.heap.size, 0, rfl, by omega, cell_at rfl rfl, cell_at rfl rfl, cell_at rfl rfl, cell_at rfl rfl⟩
  | succ i => simp at h
theorem pin_set {E : Nat → Prop} {W : World} {v u : Value} {ps : List Part} {b o : Nat} (h : Pin E W v ps) (hb : E b) : Pin E (W.setCell ⟨b, o, none⟩ u) v ps := by
  obtain ⟨p, cap, rfl, hl, hc⟩ := h
  refine ⟨p, cap, rfl, hl, fun i q hq => ?_⟩
  obtain ⟨b', o', rfl, hE, c0, c1, c2, c3⟩ := hc i q hq
  have hne : b' ≠ b := fun e => hE (e ▸ hb)
  refine ⟨b', o', rfl, hE, ?_, ?_, ?_, ?_⟩
  all_goals (rw [World.cell?_setCell_other _ _ _ _ (fun e => hne (by cases e; rfl))]; assumption)
set_option maxRecDepth 100000 in
set_option maxHeartbeats 2000000 in
theorem parseNumbers_any (s : ByteArray) (lo hi : Int) (b o : Nat) (u : Value) (w : World) (hg : GlP w) (hs : s.size ≤ 100000) (hc : w.cell? ⟨b, o, none⟩ = some u) (hf : w.frozen? ⟨b, o, none⟩ = false) :
    Calls Tryd.prog 51 #[.pointer (some ⟨b, o, none⟩), .string s, .agg #[.int .i64 lo, .int .i64 hi]] w fun e w' => e = .returned (.bool (pNs s lo hi).isSome) ∧ ∃ sl : Sl, Upd b o (slv sl) w w' ∧ Pin (fun k => k < w.heap.size) w' (slv sl) ((pNs s lo hi).getD []) := by
  have bl : b < w.heap.size := cell_lt hc
  have hB : Below w.heap.size w (w.alloc (.cells #[.int .i64 lo, .int .i64 hi] 74)) := (Below.refl _ _).alloc (Nat.le_refl _) _
  cases hstar : (s.toList == [42])
  · have hP : Hid (pNs s lo hi = pL (fun t => pPart t lo hi) (splitT s (str1 44) 12)) := by show _ = _; unfold pNs; rw [hstar]; rfl
    have hLs := listN_any s lo hi w.heap.size _ (hg.below hB) hs (cell_at rfl rfl) (cell_at rfl rfl)
    rw [← hP.out] at hLs
    go_enter Tryd.func51, Tryd.ntmps51
    go_wp2_with fail
    refine hLs.mono ?_
    rintro e w1 ⟨sl, rfl, hb1, hpin⟩
    have hB2 := hB.trans (hb1.mono (by simp))
    have c1 : w1.cell? ⟨b, o, none⟩ = some u := (hB2.cell (p := ⟨b, o, none⟩) bl).trans hc
    have f1 : w1.frozen? ⟨b, o, none⟩ = false := (hB2.frozen (p := ⟨b, o, none⟩) bl).trans hf
    go_wp2_with fail
    go_ret
    refine ⟨rfl, sl, upd_of hB2 bl hc, ?_⟩
    obtain ⟨p, cap, hv, hl, hcc⟩ := pin_set (u := slv sl) (o := o) (b := b) hpin (by simp; omega)
    exact ⟨p, cap, hv, hl, fun i q hq => by obtain ⟨b', o', e, hE, r⟩ := hcc i q hq; exact ⟨b', o', e, fun h => hE (by simp; omega), r⟩⟩
  · have hP : Hid (pNs s lo hi = some [(true, 0, 0, 0)]) := by show _ = _; unfold pNs; rw [hstar]; rfl
    have bl1 : b < w.heap.size + 1 := by omega
    go_enter Tryd.func51, Tryd.ntmps51
    go_wp2_with fail
    go_ret
    refine ⟨by rw [hP.out]; rfl, (some ⟨w.heap.size + 1, 0, none⟩, 1, 1), ?_, ?_⟩
    · have := upd_of (o := o) (v := slv (some ⟨w.heap.size + 1, 0, none⟩, 1, 1)) (hB.alloc (by simp) (.cells #[.bool true, .int .i64 0, .int .i64 0, .int .i64 0] 88)) bl hc
      rw [World.setCell_alloc_past _ _ _ _ (by simp; omega), World.setCell_alloc_past _ _ _ _ bl] at this
      exact this
    · rw [hP.out]
      have := pin_set (o := o) (u := slv (some ⟨w.heap.size + 1, 0, none⟩, 1, 1)) (pin_one (w := w.alloc (.cells #[.int .i64 lo, .int .i64 hi] 74)) (n := w.heap.size) (by simp) 88) bl
      rw [World.setCell_alloc_past _ _ _ _ (by simp; omega), World.setCell_alloc_past _ _ _ _ bl] at this
      simpa using this
theorem Upd.glp {b o : Nat} {v : Value} {w w' : World} (h : Upd b o v w w') (hg : GlP w) (hb : 2 < b) : GlP w' := by
  have hc : ∀ (k j : Nat) (u : Value), k < 3 → w.cell? ⟨k, j, none⟩ = some u → w'.cell? ⟨k, j, none⟩ = some u := fun k j u hk hu => by
    rw [← hu]
    exact World.cell?_of_block (a := ⟨k, j, none⟩) (h.block k (cell_lt hu) (by omega))
  obtain ⟨m, hm⟩ := hg.mx
  exact ⟨⟨fun j v hv => hc 0 j _ (by omega) (hg.gl.lim j v hv), fun j v hv => hc 1 j _ (by omega) (hg.gl.len j v hv), fun h => h, fun h => h⟩, ⟨m, hc 2 0 _ (by omega) hm⟩⟩
theorem Upd.old {b o : Nat} {v : Value} {w w' : World} (h : Upd b o v w w') {k j : Nat} {u : Value} (hk : k ≠ b) (hu : w.cell? ⟨k, j, none⟩ = some u) : w'.cell? ⟨k, j, none⟩ = some u := by
  rw [← hu]
  exact World.cell?_of_block (a := ⟨k, j, none⟩) (h.block k (cell_lt hu) hk)
theorem Upd.pin {b o : Nat} {v : Value} {w w' : World} (h : Upd b o v w w') {E : Nat → Prop} {u : Value} {ps : List Part} (hp : Pin E w u ps) (hb : E b) : Pin E w' u ps := by
  obtain ⟨p, cap, rfl, hl, hc⟩ := hp
  refine ⟨p, cap, rfl, hl, fun i q hq => ?_⟩
  obtain ⟨b', o', rfl, hE, c0, c1, c2, c3⟩ := hc i q hq
  have hne : b' ≠ b := fun e => hE (e ▸ hb)
  exact ⟨b', o', rfl, hE, h.old hne c0, h.old hne c1, h.old hne c2, h.old hne c3⟩
end Go.Proofs.YteaaknbininehabDoor
