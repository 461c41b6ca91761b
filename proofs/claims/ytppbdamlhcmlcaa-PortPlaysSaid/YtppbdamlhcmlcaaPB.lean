/- Contracts of port's Accept, Send, Receive, Datagrams. -/
import Derived.Test.YtppbdamlhcmlcaaPA
namespace Go.Proofs.Ytppbdamlhcmlcaa
open Go.RowKit Go.Shelf Go.Lib
set_option maxRecDepth 100000 in
set_option maxHeartbeats 2000000 in
theorem accept_none (S : St) (s : ByteArray) (w : World) (h : Ps w S) (hs : s.size ≤ 1000) (hq : S.sock s = none) : Calls Try.prog 15 #[.pointer (some ⟨S.bt, 0, none⟩), .string s] w fun e w' => e = .returned (.tuple #[.agg #[.int .i64 0, .string ⟨#[]⟩], .int .i64 100]) ∧ Below w.heap.size w w' := by
  obtain ⟨W0, hW0⟩ : ∃ W0, w.alloc (.cells #[.int .i64 0, .string ⟨#[]⟩] 41) = W0 := ⟨_, rfl⟩
  have b0 : Below w.heap.size w W0 := by rw [← hW0]; exact (Below.refl _ _).alloc (Nat.le_refl _) _
  have h0 := h.below b0
  have hl := h0.look_none hs hq
  have c0 := h0.c0
  have r0 : W0.cell? ⟨w.heap.size, 0, none⟩ = some (.int .i64 0) := by rw [← hW0]; exact cell_at rfl rfl
  have r1 : W0.cell? ⟨w.heap.size, 1, none⟩ = some (.string ⟨#[]⟩) := by rw [← hW0]; exact cell_at rfl rfl
  have z0 : W0.frozen? ⟨w.heap.size, 0, none⟩ = false := by rw [← hW0]; exact froz_new rfl
  have z1 : W0.frozen? ⟨w.heap.size, 1, none⟩ = false := by rw [← hW0]; exact froz_new rfl
  have r2 : (W0.setCell ⟨w.heap.size, 0, none⟩ (.int .i64 0)).cell? ⟨w.heap.size, 0, none⟩ = some (.int .i64 0) := World.cell?_setCell_same' _ _ _ (by rw [r0]; rfl)
  have r3 : ((W0.setCell ⟨w.heap.size, 0, none⟩ (.int .i64 0)).setCell ⟨w.heap.size, 1, none⟩ (.string ⟨#[]⟩)).cell? ⟨w.heap.size, 1, none⟩ = some (.string ⟨#[]⟩) := World.cell?_setCell_same' _ _ _ (by rw [World.cell?_setCell_other _ _ _ _ (by simp), r1]; rfl)
  have fin : Hid (Below w.heap.size w ((W0.setCell ⟨w.heap.size, 0, none⟩ (.int .i64 0)).setCell ⟨w.heap.size, 1, none⟩ (.string ⟨#[]⟩))) := (b0.setCell (by exact Nat.le_refl _) _).setCell (by exact Nat.le_refl _) _
  clear h hq h0 b0
  go_enter Try.func15, Try.ntmps15
  go_wp2_with (rw [hW0])
  exact bodyPost_ret (v := .tuple #[.agg #[.int .i64 0, .string ⟨#[]⟩], .int .i64 100]) (by simp [results, Try.results15, go_sem, r2, r3]) rfl ⟨rfl, fin.out⟩
set_option maxRecDepth 100000 in
set_option maxHeartbeats 2000000 in
theorem accept_empty (S : St) (s : ByteArray) (q : Sk) (w : World) (h : Ps w S) (hs : s.size ≤ 1000) (hq : S.sock s = some q) (hx : q.xs = []) : Calls Try.prog 15 #[.pointer (some ⟨S.bt, 0, none⟩), .string s] w fun e w' => e = .returned (.tuple #[.agg #[.int .i64 0, .string ⟨#[]⟩], .int .i64 100]) ∧ Below w.heap.size w w' := by
  obtain ⟨W0, hW0⟩ : ∃ W0, w.alloc (.cells #[.int .i64 0, .string ⟨#[]⟩] 41) = W0 := ⟨_, rfl⟩
  have b0 : Below w.heap.size w W0 := by rw [← hW0]; exact (Below.refl _ _).alloc (Nat.le_refl _) _
  have h0 := h.below b0
  have hl := h0.look_some hs hq
  have c0 := h0.c0
  have hp := hidP (popC_none q.blk 0 q.sv W0 (h0.sk s q hq).1.c (by have := (h0.sk s q hq).2.1; rw [hx] at this; exact this))
  have r0 : W0.cell? ⟨w.heap.size, 0, none⟩ = some (.int .i64 0) := by rw [← hW0]; exact cell_at rfl rfl
  have r1 : W0.cell? ⟨w.heap.size, 1, none⟩ = some (.string ⟨#[]⟩) := by rw [← hW0]; exact cell_at rfl rfl
  have z0 : W0.frozen? ⟨w.heap.size, 0, none⟩ = false := by rw [← hW0]; exact froz_new rfl
  have z1 : W0.frozen? ⟨w.heap.size, 1, none⟩ = false := by rw [← hW0]; exact froz_new rfl
  have hs0 : W0.heap.size = w.heap.size + 1 := by rw [← hW0]; simp
  have hid := hidP (And.intro r0 (And.intro r1 (And.intro z0 (And.intro z1 (And.intro hs0 b0)))))
  clear h hq h0 b0 r0 r1 z0 z1 hx hs0
  go_enter Try.func15, Try.ntmps15
  go_wp2_with (rw [hW0])
  refine hp.out.mono ?_
  rintro e w2 ⟨rfl, hb⟩
  obtain ⟨r0, r1, z0, z1, hs0, b0⟩ := hid.out
  obtain ⟨W3, hW3⟩ : ∃ W3, w2.alloc (.cells #[.int .i64 0, .string ⟨#[]⟩] 41) = W3 := ⟨_, rfl⟩
  have hb3 : Below W0.heap.size W0 W3 := by rw [← hW3]; exact hb.alloc hb.size _
  have m3 : Mv (fun _ => False) W0 W3 := Mv.below hb3
  have r0' := m3.cell (a := ⟨w.heap.size, 0, none⟩) (fun h => h) r0
  have r1' := m3.cell (a := ⟨w.heap.size, 1, none⟩) (fun h => h) r1
  have z0' := (m3.froz (a := ⟨w.heap.size, 0, none⟩) (fun h => h) (by show w.heap.size < _; omega)).trans z0
  have z1' := (m3.froz (a := ⟨w.heap.size, 1, none⟩) (fun h => h) (by show w.heap.size < _; omega)).trans z1
  have r2 : (W3.setCell ⟨w.heap.size, 0, none⟩ (.int .i64 0)).cell? ⟨w.heap.size, 0, none⟩ = some (.int .i64 0) := World.cell?_setCell_same' _ _ _ (by rw [r0']; rfl)
  have r3 : ((W3.setCell ⟨w.heap.size, 0, none⟩ (.int .i64 0)).setCell ⟨w.heap.size, 1, none⟩ (.string ⟨#[]⟩)).cell? ⟨w.heap.size, 1, none⟩ = some (.string ⟨#[]⟩) := World.cell?_setCell_same' _ _ _ (by rw [World.cell?_setCell_other _ _ _ _ (by simp), r1']; rfl)
  have fin : Hid (Below w.heap.size w ((W3.setCell ⟨w.heap.size, 0, none⟩ (.int .i64 0)).setCell ⟨w.heap.size, 1, none⟩ (.string ⟨#[]⟩))) := ((b0.trans (hb3.mono (by omega))).setCell (by exact Nat.le_refl _) _).setCell (by exact Nat.le_refl _) _
  clear hb hb3 m3 r0 r1 z0 z1 hs0 b0 hid hl c0 hp hW0
  subst hW3
  go_wp2_with fail
  exact bodyPost_ret (v := .tuple #[.agg #[.int .i64 0, .string ⟨#[]⟩], .int .i64 100]) (by simp [results, Try.results15, go_sem, r2, r3]) rfl ⟨rfl, fin.out⟩
set_option maxRecDepth 100000 in
set_option maxHeartbeats 2000000 in
theorem accept_ok (S : St) (s : ByteArray) (q : Sk) (i : Int) (t : ByteArray) (r : List Pr) (w : World) (h : Ps w S) (hs : s.size ≤ 1000) (hq : S.sock s = some q) (hx : q.xs = (i, t) :: r) : Calls Try.prog 15 #[.pointer (some ⟨S.bt, 0, none⟩), .string s] w fun e w' => e = .returned (.tuple #[.agg #[.int .i64 i, .string t], .int .i64 0]) ∧ ∃ sv', Goes S w { S with sock := upd S.sock s (some ⟨q.blk, sv', r⟩) } w' 0 := by
  obtain ⟨W0, hW0⟩ : ∃ W0, w.alloc (.cells #[.int .i64 0, .string ⟨#[]⟩] 41) = W0 := ⟨_, rfl⟩
  have b0 : Below w.heap.size w W0 := by rw [← hW0]; exact (Below.refl _ _).alloc (Nat.le_refl _) _
  have h0 := h.below b0
  have hl := h0.look_some hs hq
  have c0 := h0.c0
  have hp := hidP (popC_ok q.blk 0 q.sv i t r W0 (h0.sk s q hq).1.c (h0.sk s q hq).1.f (by have := (h0.sk s q hq).2.1; rw [hx] at this; exact this) (h0.nq hq))
  have r0 : W0.cell? ⟨w.heap.size, 0, none⟩ = some (.int .i64 0) := by rw [← hW0]; exact cell_at rfl rfl
  have r1 : W0.cell? ⟨w.heap.size, 1, none⟩ = some (.string ⟨#[]⟩) := by rw [← hW0]; exact cell_at rfl rfl
  have z0 : W0.frozen? ⟨w.heap.size, 0, none⟩ = false := by rw [← hW0]; exact froz_new rfl
  have z1 : W0.frozen? ⟨w.heap.size, 1, none⟩ = false := by rw [← hW0]; exact froz_new rfl
  have hs0 : W0.heap.size = w.heap.size + 1 := by rw [← hW0]; simp
  have hid := hidP (And.intro r0 (And.intro r1 (And.intro z0 (And.intro z1 (And.intro hs0 b0)))))
  have hH := hidP h
  have hqH := hidP hq
  have hxH := hidP hx
  clear h hq h0 b0 r0 r1 z0 z1 hx hs0
  go_enter Try.func15, Try.ntmps15
  go_wp2_with (rw [hW0])
  refine hp.out.mono ?_
  rintro e w2 ⟨rfl, sv', T, hqs⟩
  obtain ⟨r0, r1, z0, z1, hs0, b0⟩ := hid.out
  have hrl : r.length ≤ 16 := by have := (hH.out.sk s q hqH.out).2.2; rw [hxH.out] at this; simp at this; omega
  have g1 := (Goes.below hH.out b0).trans ((hH.out.below b0).turnQ hqH.out T hqs hrl)
  obtain ⟨n, hn⟩ : ∃ n, w.heap.size = n := ⟨_, rfl⟩
  have hnB : ¬ hasB S n := fun e => by have := hH.out.ltB e; omega
  obtain ⟨W3, hW3⟩ : ∃ W3, w2.alloc (.cells #[.int .i64 i, .string t] 41) = W3 := ⟨_, rfl⟩
  have g3 := g1.then (u := W3) (by rw [← hW3]; exact (Below.refl _ _).alloc (Nat.le_refl _) _)
  have hE : ∀ k, k = n → ¬ (k = q.blk ∨ nb q.sv = some k) := fun k e h => by
    subst e
    rcases h with h | h
    · exact hnB ⟨.q s, q, hqH.out, h⟩
    · exact hnB ⟨.v s, q, hqH.out, h⟩
  have m3 : Mv (fun k => k = q.blk ∨ nb q.sv = some k) W0 W3 := by rw [← hW3]; exact T.mv.trans' (Mv.alloc _ _ _)
  rw [hn] at r0 r1 z0 z1 hs0
  have r0' := m3.cell (a := ⟨n, 0, none⟩) (hE n rfl) r0
  have r1' := m3.cell (a := ⟨n, 1, none⟩) (hE n rfl) r1
  have z0' := (m3.froz (a := ⟨n, 0, none⟩) (hE n rfl) (by show n < _; omega)).trans z0
  have z1' := (m3.froz (a := ⟨n, 1, none⟩) (hE n rfl) (by show n < _; omega)).trans z1
  have hsz : n + 1 ≤ w2.heap.size := by have := T.mv.size; omega
  have v0 : W3.cell? ⟨w2.heap.size, 0, none⟩ = some (.int .i64 i) := by rw [← hW3]; exact cell_at rfl rfl
  have v1 : W3.cell? ⟨w2.heap.size, 1, none⟩ = some (.string t) := by rw [← hW3]; exact cell_at rfl rfl
  have r2 : (W3.setCell ⟨n, 0, none⟩ (.int .i64 i)).cell? ⟨n, 0, none⟩ = some (.int .i64 i) := World.cell?_setCell_same' _ _ _ (by rw [r0']; rfl)
  have r3 : ((W3.setCell ⟨n, 0, none⟩ (.int .i64 i)).setCell ⟨n, 1, none⟩ (.string t)).cell? ⟨n, 1, none⟩ = some (.string t) := World.cell?_setCell_same' _ _ _ (by rw [World.cell?_setCell_other _ _ _ _ (by simp), r1']; rfl)
  have hnB3 : ¬ hasB { S with sock := upd S.sock s (some ⟨q.blk, sv', r⟩) } n := fun e => by
    rcases T.nbs with t | ⟨k, t, hk⟩
    · obtain ⟨a, e⟩ := e
      cases a with
      | t => exact hnB ⟨.t, e⟩
      | h => exact hnB ⟨.h, e⟩
      | m => exact hnB ⟨.m, e⟩
      | q x =>
        obtain ⟨q2, e, e2⟩ := e
        by_cases hx : x = s
        · subst hx; simp only [upd_same] at e; injection e with e; subst e; exact hnB ⟨.q x, q, hqH.out, e2⟩
        · simp only [upd_other _ _ hx] at e; exact hnB ⟨.q x, q2, e, e2⟩
      | v x =>
        obtain ⟨q2, e, e2⟩ := e
        by_cases hx : x = s
        · subst hx; simp only [upd_same] at e; injection e with e; subst e; exact hnB ⟨.v x, q, hqH.out, t ▸ e2⟩
        · simp only [upd_other _ _ hx] at e; exact hnB ⟨.v x, q2, e, e2⟩
    · obtain ⟨a, e⟩ := e
      cases a with
      | t => exact hnB ⟨.t, e⟩
      | h => exact hnB ⟨.h, e⟩
      | m => exact hnB ⟨.m, e⟩
      | q x =>
        obtain ⟨q2, e, e2⟩ := e
        by_cases hx : x = s
        · subst hx; simp only [upd_same] at e; injection e with e; subst e; exact hnB ⟨.q x, q, hqH.out, e2⟩
        · simp only [upd_other _ _ hx] at e; exact hnB ⟨.q x, q2, e, e2⟩
      | v x =>
        obtain ⟨q2, e, e2⟩ := e
        by_cases hx : x = s
        · subst hx; simp only [upd_same] at e; injection e with e; subst e
          rw [show nb sv' = some n from e2] at t; injection t with t; omega
        · simp only [upd_other _ _ hx] at e; exact hnB ⟨.v x, q2, e, e2⟩
  have fin : Hid (∃ sv', Goes S w { S with sock := upd S.sock s (some ⟨q.blk, sv', r⟩) } ((W3.setCell ⟨n, 0, none⟩ (.int .i64 i)).setCell ⟨n, 1, none⟩ (.string t)) 0) := by
    have mm : Mv (fun k => k = n) W3 ((W3.setCell ⟨n, 0, none⟩ (.int .i64 i)).setCell ⟨n, 1, none⟩ (.string t)) := ((Mv.refl (fun k => k = n) W3).setc (p := ⟨n, 0, none⟩) (.inl rfl) _).setc (p := ⟨n, 1, none⟩) (.inl rfl) _
    exact ⟨sv', g3.g.mv mm (fun k hk e => hnB3 (e ▸ hk)), rfl, ⟨mm.os.trans g3.mv.os, mm.tape.trans g3.mv.tape, mm.output.trans g3.mv.output, Nat.le_trans g3.mv.size mm.size, fun k hk he => (mm.block k (Nat.lt_of_lt_of_le hk g3.mv.size) (by omega)).trans (g3.mv.block k hk he)⟩, g3.gr, by simp⟩
  have hne : w2.heap.size ≠ n := by omega
  have hne2 : n ≠ w2.heap.size := by omega
  rw [hn]
  clear T hqs g1 g3 hE m3 r0 r1 z0 z1 hs0 b0 hid hl c0 hp hW0 hnB hnB3 hsz hH hqH hxH
  go_wp2_with (rw [hW3])
  exact bodyPost_ret (v := .tuple #[.agg #[.int .i64 i, .string t], .int .i64 0]) (by simp [results, Try.results15, go_sem, r2, r3]) rfl ⟨rfl, fin.out⟩
end Go.Proofs.Ytppbdamlhcmlcaa
