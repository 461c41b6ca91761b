/- Contracts of port's Send, Receive, Datagrams. -/
import Derived.Test.YtppbdamlhcmlcaaPB
namespace Go.Proofs.Ytppbdamlhcmlcaa
open Go.RowKit Go.Shelf Go.Lib
set_option maxRecDepth 100000 in
set_option maxHeartbeats 2000000 in
theorem send_long (S : St) (i : Int) (t : ByteArray) (w : World) (ht : 200 < t.size) : Calls Try.prog 17 #[.pointer (some ⟨S.bt, 0, none⟩), .int .i64 i, .string t] w fun e w' => e = .returned (.int .i64 100) ∧ w' = w := by
  have ht' : (200 : Int) < (t.size : Int) := by omega
  clear ht
  go_enter Try.func17, Try.ntmps17
  go_wp2_with fail
  go_ret
  exact ⟨rfl, rfl⟩
set_option maxRecDepth 100000 in
set_option maxHeartbeats 2000000 in
theorem send_full (S : St) (i : Int) (t : ByteArray) (w : World) (h : Ps w S) (ht : t.size ≤ 200) (hl : S.ms.length = 16) : Calls Try.prog 17 #[.pointer (some ⟨S.bt, 0, none⟩), .int .i64 i, .string t] w fun e w' => e = .returned (.int .i64 102) ∧ Below w.heap.size w w' := by
  have ht' : ¬ (200 : Int) < (t.size : Int) := by omega
  have hp := hidP (pushD_full S.bt 1 S.mv S.ms i t w h.c1 h.ml hl)
  clear ht h hl
  go_enter Try.func17, Try.ntmps17
  go_wp2_with fail
  refine hp.out.mono ?_
  rintro e w2 ⟨rfl, hb⟩
  go_wp2_with fail
  go_ret
  exact ⟨rfl, hb⟩
set_option maxRecDepth 100000 in
set_option maxHeartbeats 2000000 in
theorem send_ok (S : St) (i : Int) (t : ByteArray) (w : World) (h : Ps w S) (ht : t.size ≤ 200) (hl : S.ms.length < 16) : Calls Try.prog 17 #[.pointer (some ⟨S.bt, 0, none⟩), .int .i64 i, .string t] w fun e w' => e = .returned (.int .i64 0) ∧ ∃ mv, Goes S w { S with mv := mv, ms := S.ms ++ [(i, t)] } w' 0 := by
  have ht' : ¬ (200 : Int) < (t.size : Int) := by omega
  have hp := hidP (pushD_ok S.bt 1 S.mv S.ms i t w h.c1 h.f1 h.ml h.nm hl)
  have hH := hidP h
  have hlH := hidP hl
  clear ht h hl
  go_enter Try.func17, Try.ntmps17
  go_wp2_with fail
  refine hp.out.mono ?_
  rintro e w2 ⟨rfl, sv', T, hqs⟩
  have fin : Hid (∃ mv, Goes S w { S with mv := mv, ms := S.ms ++ [(i, t)] } w2 0) := ⟨sv', hH.out.turnM T hqs (by have := hlH.out; simp; omega)⟩
  clear T hqs hH hlH hp
  go_wp2_with fail
  go_ret
  exact ⟨rfl, fin.out⟩
set_option maxRecDepth 100000 in
set_option maxHeartbeats 2000000 in
theorem datagrams_any (S : St) (w : World) (h : Ps w S) : Calls Try.prog 21 #[.pointer (some ⟨S.bt, 0, none⟩)] w fun e w' => e = .returned (.int .i64 S.ms.length) ∧ w' = w := by
  obtain ⟨p, c, hv⟩ := h.ml.shape
  have c1 := h.c1
  rw [hv] at c1
  have hlen : Hid (Calls Try.prog 33 #[.pointer (some ⟨S.bt, 1, none⟩)] w fun e w' => e = .returned (.int .i64 S.ms.length) ∧ w' = w) := by
    clear hv h
    go_enter Try.func33, Try.ntmps33
    go_wp2_with fail
    go_ret
    exact ⟨rfl, rfl⟩
  clear h hv
  go_enter Try.func21, Try.ntmps21
  go_wp2_with fail
  refine hlen.out.mono ?_
  rintro e w2 ⟨rfl, rfl⟩
  go_wp2_with fail
  go_ret
  exact ⟨rfl, rfl⟩
set_option maxRecDepth 100000 in
set_option maxHeartbeats 2000000 in
theorem receive_none (S : St) (w : World) (h : Ps w S) (hx : S.ms = []) : Calls Try.prog 19 #[.pointer (some ⟨S.bt, 0, none⟩)] w fun e w' => e = .returned (.tuple #[.agg #[.int .i64 0, .string ⟨#[]⟩], .bool false]) ∧ Below w.heap.size w w' := by
  obtain ⟨W0, hW0⟩ : ∃ W0, w.alloc (.cells #[.int .i64 0, .string ⟨#[]⟩] 49) = W0 := ⟨_, rfl⟩
  have b0 : Below w.heap.size w W0 := by rw [← hW0]; exact (Below.refl _ _).alloc (Nat.le_refl _) _
  have h0 := h.below b0
  have hp := hidP (popD_none S.bt 1 S.mv W0 h0.c1 (by have := h0.ml; rw [hx] at this; exact this))
  have r0 : W0.cell? ⟨w.heap.size, 0, none⟩ = some (.int .i64 0) := by rw [← hW0]; exact cell_at rfl rfl
  have r1 : W0.cell? ⟨w.heap.size, 1, none⟩ = some (.string ⟨#[]⟩) := by rw [← hW0]; exact cell_at rfl rfl
  have z0 : W0.frozen? ⟨w.heap.size, 0, none⟩ = false := by rw [← hW0]; exact froz_new rfl
  have z1 : W0.frozen? ⟨w.heap.size, 1, none⟩ = false := by rw [← hW0]; exact froz_new rfl
  have hs0 : W0.heap.size = w.heap.size + 1 := by rw [← hW0]; simp
  have hid := hidP (And.intro r0 (And.intro r1 (And.intro z0 (And.intro z1 (And.intro hs0 b0)))))
  clear h h0 b0 r0 r1 z0 z1 hx hs0
  go_enter Try.func19, Try.ntmps19
  go_wp2_with (rw [hW0])
  refine hp.out.mono ?_
  rintro e W3 ⟨rfl, hb3⟩
  obtain ⟨r0, r1, z0, z1, hs0, b0⟩ := hid.out
  have m3 : Mv (fun _ => False) W0 W3 := Mv.below hb3
  have r0' := m3.cell (a := ⟨w.heap.size, 0, none⟩) (fun h => h) r0
  have r1' := m3.cell (a := ⟨w.heap.size, 1, none⟩) (fun h => h) r1
  have z0' := (m3.froz (a := ⟨w.heap.size, 0, none⟩) (fun h => h) (by show w.heap.size < _; omega)).trans z0
  have z1' := (m3.froz (a := ⟨w.heap.size, 1, none⟩) (fun h => h) (by show w.heap.size < _; omega)).trans z1
  have r2 : (W3.setCell ⟨w.heap.size, 0, none⟩ (.int .i64 0)).cell? ⟨w.heap.size, 0, none⟩ = some (.int .i64 0) := World.cell?_setCell_same' _ _ _ (by rw [r0']; rfl)
  have r3 : ((W3.setCell ⟨w.heap.size, 0, none⟩ (.int .i64 0)).setCell ⟨w.heap.size, 1, none⟩ (.string ⟨#[]⟩)).cell? ⟨w.heap.size, 1, none⟩ = some (.string ⟨#[]⟩) := World.cell?_setCell_same' _ _ _ (by rw [World.cell?_setCell_other _ _ _ _ (by simp), r1']; rfl)
  have fin : Hid (Below w.heap.size w ((W3.setCell ⟨w.heap.size, 0, none⟩ (.int .i64 0)).setCell ⟨w.heap.size, 1, none⟩ (.string ⟨#[]⟩))) := ((b0.trans (hb3.mono (by omega))).setCell (by exact Nat.le_refl _) _).setCell (by exact Nat.le_refl _) _
  clear hb3 m3 r0 r1 z0 z1 hs0 b0 hid hp hW0
  go_wp2_with fail
  exact bodyPost_ret (v := .tuple #[.agg #[.int .i64 0, .string ⟨#[]⟩], .bool false]) (by simp [results, Try.results19, go_sem, r2, r3]) rfl ⟨rfl, fin.out⟩
theorem noB_mail {S : St} {n : Nat} {sv' : Value} {r : List Pr} (hnB : ¬ hasB S n) (h : nb sv' ≠ some n) : ¬ hasB { S with mv := sv', ms := r } n := fun ⟨a, e⟩ => by
  cases a with
  | t => exact hnB ⟨.t, e⟩
  | h => exact hnB ⟨.h, e⟩
  | m => exact h e
  | q x => exact hnB ⟨.q x, e⟩
  | v x => exact hnB ⟨.v x, e⟩
set_option maxRecDepth 100000 in
set_option maxHeartbeats 2000000 in
theorem receive_ok (S : St) (i : Int) (t : ByteArray) (r : List Pr) (w : World) (h : Ps w S) (hx : S.ms = (i, t) :: r) : Calls Try.prog 19 #[.pointer (some ⟨S.bt, 0, none⟩)] w fun e w' => e = .returned (.tuple #[.agg #[.int .i64 i, .string t], .bool true]) ∧ ∃ mv, Goes S w { S with mv := mv, ms := r } w' 0 := by
  obtain ⟨W0, hW0⟩ : ∃ W0, w.alloc (.cells #[.int .i64 0, .string ⟨#[]⟩] 49) = W0 := ⟨_, rfl⟩
  have b0 : Below w.heap.size w W0 := by rw [← hW0]; exact (Below.refl _ _).alloc (Nat.le_refl _) _
  have h0 := h.below b0
  have hp := hidP (popD_ok S.bt 1 S.mv i t r W0 h0.c1 h0.f1 (by have := h0.ml; rw [hx] at this; exact this) h0.nm)
  have r0 : W0.cell? ⟨w.heap.size, 0, none⟩ = some (.int .i64 0) := by rw [← hW0]; exact cell_at rfl rfl
  have r1 : W0.cell? ⟨w.heap.size, 1, none⟩ = some (.string ⟨#[]⟩) := by rw [← hW0]; exact cell_at rfl rfl
  have z0 : W0.frozen? ⟨w.heap.size, 0, none⟩ = false := by rw [← hW0]; exact froz_new rfl
  have z1 : W0.frozen? ⟨w.heap.size, 1, none⟩ = false := by rw [← hW0]; exact froz_new rfl
  have hs0 : W0.heap.size = w.heap.size + 1 := by rw [← hW0]; simp
  have hid := hidP (And.intro r0 (And.intro r1 (And.intro z0 (And.intro z1 (And.intro hs0 b0)))))
  have hH := hidP h
  have hxH := hidP hx
  clear h h0 b0 r0 r1 z0 z1 hx hs0
  go_enter Try.func19, Try.ntmps19
  go_wp2_with (rw [hW0])
  refine hp.out.mono ?_
  rintro e W3 ⟨rfl, sv', T, hqs⟩
  obtain ⟨r0, r1, z0, z1, hs0, b0⟩ := hid.out
  have hrl : r.length ≤ 16 := by have := hH.out.mll; rw [hxH.out] at this; simp at this; omega
  have g3 := (Goes.below hH.out b0).trans ((hH.out.below b0).turnM T hqs hrl)
  obtain ⟨n, hn⟩ : ∃ n, w.heap.size = n := ⟨_, rfl⟩
  have hnB : ¬ hasB S n := fun e => by have := hH.out.ltB e; omega
  have hE : ¬ (n = S.bt ∨ nb S.mv = some n) := fun h => by
    rcases h with h | h
    · exact hnB ⟨.t, h⟩
    · exact hnB ⟨.m, h⟩
  have m3 := T.mv
  rw [hn] at r0 r1 z0 z1 hs0
  have r0' := m3.cell (a := ⟨n, 0, none⟩) hE r0
  have r1' := m3.cell (a := ⟨n, 1, none⟩) hE r1
  have z0' := (m3.froz (a := ⟨n, 0, none⟩) hE (by show n < _; omega)).trans z0
  have z1' := (m3.froz (a := ⟨n, 1, none⟩) hE (by show n < _; omega)).trans z1
  have r2 : (W3.setCell ⟨n, 0, none⟩ (.int .i64 i)).cell? ⟨n, 0, none⟩ = some (.int .i64 i) := World.cell?_setCell_same' _ _ _ (by rw [r0']; rfl)
  have r3 : ((W3.setCell ⟨n, 0, none⟩ (.int .i64 i)).setCell ⟨n, 1, none⟩ (.string t)).cell? ⟨n, 1, none⟩ = some (.string t) := World.cell?_setCell_same' _ _ _ (by rw [World.cell?_setCell_other _ _ _ _ (by simp), r1']; rfl)
  have hnB3 : ¬ hasB { S with mv := sv', ms := r } n := noB_mail hnB (fun e => by
    rcases T.nbs with t | ⟨k, t, hk⟩
    · exact hnB ⟨.m, t.symm.trans e⟩
    · rw [e] at t; injection t with t; omega)
  have fin : Hid (∃ mv, Goes S w { S with mv := mv, ms := r } ((W3.setCell ⟨n, 0, none⟩ (.int .i64 i)).setCell ⟨n, 1, none⟩ (.string t)) 0) := by
    have mm : Mv (fun k => k = n) W3 ((W3.setCell ⟨n, 0, none⟩ (.int .i64 i)).setCell ⟨n, 1, none⟩ (.string t)) := ((Mv.refl (fun k => k = n) W3).setc (p := ⟨n, 0, none⟩) (.inl rfl) _).setc (p := ⟨n, 1, none⟩) (.inl rfl) _
    exact ⟨sv', g3.g.mv mm (fun k hk e => hnB3 (e ▸ hk)), rfl, ⟨mm.os.trans g3.mv.os, mm.tape.trans g3.mv.tape, mm.output.trans g3.mv.output, Nat.le_trans g3.mv.size mm.size, fun k hk he => (mm.block k (Nat.lt_of_lt_of_le hk g3.mv.size) (by omega)).trans (g3.mv.block k hk he)⟩, g3.gr, by simp⟩
  rw [hn]
  clear T hqs g3 hE m3 r0 r1 z0 z1 hs0 b0 hid hp hW0 hnB hnB3 hH hxH
  go_wp2_with fail
  exact bodyPost_ret (v := .tuple #[.agg #[.int .i64 i, .string t], .bool true]) (by simp [results, Try.results19, go_sem, r2, r3]) rfl ⟨rfl, fin.out⟩
end Go.Proofs.Ytppbdamlhcmlcaa
