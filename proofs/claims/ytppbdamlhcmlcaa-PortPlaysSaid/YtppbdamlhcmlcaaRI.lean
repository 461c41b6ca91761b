/- The reference's Send, Receive. -/
import Derived.Test.YtppbdamlhcmlcaaRF
namespace Go.Proofs.Ytppbdamlhcmlcaa
open Go.RowKit Go.Shelf Go.Lib
/-- The row of datagrams turns. -/
theorem Rs.turnD {w w' : World} {R : Rt} {v' : Value} {ys : List Pr} (h : Rs w R) (m : Mv (fun _ => False) w w') (hq : QS w' v' ys) (hk : ∀ k, nb v' = some k → nb R.dv = some k ∨ w.heap.size ≤ k) : RGoes R w { R with dv := v', ds := ys } (w'.setCell ⟨R.b, 2, none⟩ v') := by
  have h' := h.mv m (fun _ _ h => h) (fun _ _ _ _ h => h) (fun _ _ h => h)
  have ms : Mv (fun k => k = R.b) w' (w'.setCell ⟨R.b, 2, none⟩ v') := (Mv.refl (fun k => k = R.b) _).setc (p := ⟨R.b, 2, none⟩) (.inl rfl) _
  have hnb : ∀ k, nb v' = some k → ¬ hasR R k := fun k q t => by
    rcases hk k q with e | e
    · exact (h.dd.2 k e).2 t
    · have := h.lt t; omega
  refine ⟨⟨(World.cell?_setCell_other _ _ _ _ (by simp)).trans h'.c0, (World.cell?_setCell_other _ _ _ _ (by simp)).trans h'.c1, World.cell?_setCell_same' _ _ _ (by rw [h'.c2]; rfl), fun j => by rw [World.frozen?_setCell]; exact h'.f0 j, own_mv h'.row ms (fun g hg e => h.n1 g hg e), fun x hx => ⟨(h'.ps x hx).1.mv ms (fun k q e => ((h'.ps x hx).2 k q).2 (.inl e)), fun k q => ⟨Nat.lt_of_lt_of_le ((h'.ps x hx).2 k q).1 ms.size, ((h'.ps x hx).2 k q).2⟩⟩, ⟨hq.mv ms (fun k q e => hnb k q (.inl e)), fun k q => ⟨Nat.lt_of_lt_of_le (hq.lt q) ms.size, hnb k q⟩⟩, h.n1⟩, rfl, (m.mono (fun _ _ h => h.elim)).trans' (ms.mono (fun k _ e => .inl e)), fun k hk => .inl hk, fun k q => by
    rcases q with q | q | q
    · exact .inl (.inl q)
    · exact .inl (.inr (.inl q))
    · exact (hk k q).imp (fun t => .inr (.inr t)) id⟩
set_option maxRecDepth 100000 in
set_option maxHeartbeats 400000 in
theorem rsend_long (R : Rt) (i : Int) (t : ByteArray) (w : World) (h2 : 200 < t.size) :
    Calls Try.prog 18 #[.pointer (some ⟨R.b, 0, none⟩), .int .i64 i, .string t] w fun e w' => e = .returned (.int .i64 100) ∧ w' = w := by
  have ht' : (200 : Int) < (t.size : Int) := by omega
  clear h2
  go_enter Try.func18, Try.ntmps18
  go_wp2_with fail
  go_ret
  exact ⟨rfl, rfl⟩
set_option maxRecDepth 100000 in
set_option maxHeartbeats 400000 in
theorem rsend_full (R : Rt) (i : Int) (t : ByteArray) (w : World) (h : Rs w R) (h2 : t.size ≤ 200) (hp : 16 ≤ R.ds.length) :
    Calls Try.prog 18 #[.pointer (some ⟨R.b, 0, none⟩), .int .i64 i, .string t] w fun e w' => e = .returned (.int .i64 102) ∧ w' = w := by
  have ht' : ¬ (200 : Int) < (t.size : Int) := by omega
  obtain ⟨p, c, hv⟩ := h.dd.1.shape
  obtain ⟨m, hm⟩ : ∃ m, R.ds.length = m := ⟨_, rfl⟩
  rw [hm] at hv hp
  have hpI : (16 : Int) ≤ (m : Int) := by omega
  have c2 := h.c2
  rw [hv] at c2
  clear h2 h hv hm hp
  go_enter Try.func18, Try.ntmps18
  go_wp2_with fail
  go_ret
  exact ⟨rfl, rfl⟩
set_option maxRecDepth 100000 in
set_option maxHeartbeats 1000000 in
theorem rsend_ok (R : Rt) (i : Int) (t : ByteArray) (w : World) (h : Rs w R) (h2 : t.size ≤ 200) (hp : R.ds.length < 16) :
    Calls Try.prog 18 #[.pointer (some ⟨R.b, 0, none⟩), .int .i64 i, .string t] w fun e w' => e = .returned (.int .i64 0) ∧ ∃ v', RGoes R w { R with dv := v', ds := R.ds ++ [(i, t)] } w' := by
  have ht' : ¬ (200 : Int) < (t.size : Int) := by omega
  obtain ⟨p, c, hv⟩ := h.dd.1.shape
  obtain ⟨m, hm⟩ : ∃ m, R.ds.length = m := ⟨_, rfl⟩
  have hpI : ¬ (16 : Int) ≤ (m : Int) := by omega
  have hmc : m ≤ c := by
    rcases h.dd.1 with ⟨e, e2⟩ | ⟨g, o, cap, e, _, h1, _⟩
    · rw [e2] at hm; simp at hm; omega
    · rw [hv] at e; injection e with _ _ e; omega
  have hmcI : (m : Int) ≤ (c : Int) := by omega
  have hcm : (c : Int) ≤ 9223372036854775807 := by
    rcases h.dd.1 with ⟨e, e2⟩ | ⟨g, o, cap, e, _, _, h1, _⟩
    · rw [hv] at e; injection e with _ _ e; omega
    · rw [hv] at e; injection e with _ _ e; unfold maxLen at h1; omega
  obtain ⟨V, hV⟩ : ∃ V, w.drew.alloc (.cells #[.int .i64 i, .string t] 49) = V := ⟨_, rfl⟩
  have mV : Mv (fun _ => False) w V := by rw [← hV]; exact (Mv.drew _ _).trans' (Mv.alloc _ _ _)
  obtain ⟨v', w4, hrun, hq4, m4, k4, hk4, hn4⟩ := (h.dd.1.mv mV (fun _ _ h => h)).grow tyD (p := p) (c0 := c) hv (a := ⟨w.heap.size, 0, none⟩) (x := (i, t)) (c := 1) (by rw [← hV]; exact cell_at rfl rfl) (by rw [Addr.add_lit, ← hV]; exact cell_at rfl rfl) (by omega) 28
  rw [hm] at hrun
  have mm : Mv (fun _ => False) w w4 := mV.trans' m4
  have c2 := h.c2
  rw [hv, hm] at c2
  have z5 := mm.cell (a := ⟨R.b, 2, none⟩) (fun h => h) c2
  have z6 : w4.frozen? ⟨R.b, 2, none⟩ = false := (mm.froz (a := ⟨R.b, 2, none⟩) (fun h => h) (cell_lt c2)).trans (h.f0 2)
  have fin : Hid (RGoes R w { R with dv := v', ds := R.ds ++ [(i, t)] } (w4.setCell ⟨R.b, 2, none⟩ v')) := h.turnD mm hq4 (fun k q => .inr (by rw [hk4] at q; injection q with q; subst q; exact Nat.le_trans mV.size hn4))
  obtain ⟨p', c', hv'⟩ := hq4.shape
  obtain ⟨m', hm'⟩ : ∃ m', (R.ds ++ [(i, t)]).length = m' := ⟨_, rfl⟩
  rw [hm'] at hv'
  subst hv'
  have d2 : Hid (w.drew.cell? ⟨R.b, 2, none⟩ = some (.slice p m c)) := c2
  have d3 : Hid (V.cell? ⟨R.b, 2, none⟩ = some (.slice p m c)) := mV.cell (a := ⟨R.b, 2, none⟩) (fun h => h) c2
  clear h h2 hp hv hm mV hq4 m4 hk4 hn4 mm hm'
  go_enter Try.func18, Try.ntmps18
  go_wp2_with fail
  refine Zs.region (S := fun y => y.cell? ⟨R.b, 2, none⟩ = some (.slice p m c)) 23 (by kernel_rfl) ?_
  have hHeld := d2.out
  refine Zs.take (i := 0) (oi := ⟨some 18, _, _, _, _, _⟩) (v := ?v0) rfl (by kernel_rfl) (by kernel_rfl) (by kernel_rfl) (by decide) (by kernel_rfl) (by kernel_rfl) (fun _ _ _ h => h) (Or.inl ⟨by rfl, ?hy0⟩) (by assumption) ?_
  case hy0 => (intro w hSw; (try dsimp only at hSw); go_simp; try with_reducible rfl)
  simp only [Act.put, List.setIfInBounds_toArray, List.set_cons_zero, List.set_cons_succ]
  refine Zs.take (i := 1) (oi := ⟨some 19, _, _, _, _, _⟩) (v := ?v1) rfl (by kernel_rfl) (by kernel_rfl) (by kernel_rfl) (by decide) (by kernel_rfl) (by kernel_rfl) (fun _ _ _ h => h) (Or.inl ⟨by rfl, ?hy1⟩) (by assumption) ?_
  case hy1 => (intro w hSw; (try dsimp only at hSw); go_simp; try with_reducible rfl)
  simp only [Act.put, List.setIfInBounds_toArray, List.set_cons_zero, List.set_cons_succ]
  refine Zs.take (i := 2) (oi := ⟨some 20, _, _, _, _, _⟩) (v := ?v2) rfl (by kernel_rfl) (by kernel_rfl) (by kernel_rfl) (by decide) (by kernel_rfl) (by kernel_rfl) (fun _ _ _ h => h) (Or.inl ⟨by rfl, ?hy2⟩) (by assumption) ?_
  case hy2 => (intro w hSw; (try dsimp only at hSw); go_simp; try with_reducible rfl)
  simp only [Act.put, List.setIfInBounds_toArray, List.set_cons_zero, List.set_cons_succ]
  refine Zs.take (i := 3) (oi := ⟨some 21, _, _, _, _, _⟩) (v := ?v3) rfl (by kernel_rfl) (by kernel_rfl) (by kernel_rfl) (by decide) (by kernel_rfl) (by kernel_rfl) (fun _ _ _ h => h) (Or.inl ⟨by rfl, ?hy3⟩) (by assumption) ?_
  case hy3 => (intro w hSw; (try dsimp only at hSw); go_simp; try with_reducible rfl)
  simp only [Act.put, List.setIfInBounds_toArray, List.set_cons_zero, List.set_cons_succ]
  refine Zs.take (i := 4) (oi := ⟨some 22, _, _, _, _, _⟩) (v := ?v4) rfl (by kernel_rfl) (by kernel_rfl) (by kernel_rfl) (by decide) (by kernel_rfl) (by kernel_rfl) (fun _ _ _ h => h) (Or.inl ⟨by rfl, ?hy4⟩) (by assumption) ?_
  case hy4 => (intro w hSw; (try dsimp only at hSw); go_simp; try with_reducible rfl)
  simp only [Act.put, List.setIfInBounds_toArray, List.set_cons_zero, List.set_cons_succ]
  refine Zs.take (i := 5) (oi := ⟨some 23, _, _, _, _, _⟩) (v := ?v5) rfl (by kernel_rfl) (by kernel_rfl) (by kernel_rfl) (by decide) (by kernel_rfl) (by kernel_rfl) (fun _ _ _ h => h) (Or.inl ⟨by rfl, ?hy5⟩) (by assumption) ?_
  case hy5 => (intro w hSw; (try dsimp only at hSw); go_simp; try with_reducible rfl)
  simp only [Act.put, List.setIfInBounds_toArray, List.set_cons_zero, List.set_cons_succ]
  refine Zs.take (i := 6) (oi := ⟨some 24, _, _, _, _, _⟩) (v := ?v6) rfl (by kernel_rfl) (by kernel_rfl) (by kernel_rfl) (by decide) (by kernel_rfl) (by kernel_rfl) (fun _ _ _ h => h) (Or.inl ⟨by rfl, ?hy6⟩) (by assumption) ?_
  case hy6 => (intro w hSw; (try dsimp only at hSw); go_simp; try with_reducible rfl)
  simp only [Act.put, List.setIfInBounds_toArray, List.set_cons_zero, List.set_cons_succ]
  refine Zs.take (i := 7) (oi := ⟨some 25, _, _, _, _, _⟩) (v := ?v7) rfl (by kernel_rfl) (by kernel_rfl) (by kernel_rfl) (by decide) (by kernel_rfl) (by kernel_rfl) (fun _ _ _ h => h) (Or.inl ⟨by rfl, ?hy7⟩) (by assumption) ?_
  case hy7 => (intro w hSw; (try dsimp only at hSw); go_simp; try with_reducible rfl)
  simp only [Act.put, List.setIfInBounds_toArray, List.set_cons_zero, List.set_cons_succ]
  refine Zs.take (i := 8) (oi := ⟨some 26, _, _, _, _, _⟩) (v := ?v8) rfl (by kernel_rfl) (by kernel_rfl) (by kernel_rfl) (by decide) (by kernel_rfl) (by kernel_rfl) (fun _ _ _ h => h) (Or.inl ⟨by rfl, ?hy8⟩) (by assumption) ?_
  case hy8 => (intro w hSw; (try dsimp only at hSw); go_simp; try with_reducible rfl)
  simp only [Act.put, List.setIfInBounds_toArray, List.set_cons_zero, List.set_cons_succ]
  refine Zs.take (i := 9) (oi := ⟨some 27, _, _, _, _, _⟩) (v := ?v9) rfl (by kernel_rfl) (by kernel_rfl) (by kernel_rfl) (by decide) (by kernel_rfl) (by kernel_rfl) (fun _ _ _ h => h) (Or.inl ⟨by rfl, ?hy9⟩) (by assumption) ?_
  case hy9 => (intro w hSw; (try dsimp only at hSw); go_simp; try with_reducible rfl)
  simp only [Act.put, List.setIfInBounds_toArray, List.set_cons_zero, List.set_cons_succ]
  refine Zs.take (i := 10) (oi := ⟨some 28, _, _, _, _, _⟩) (v := ?v10) rfl (by kernel_rfl) (by kernel_rfl) (by kernel_rfl) (by decide) (by kernel_rfl) (by kernel_rfl) (fun _ _ _ h => h) (Or.inl ⟨by rfl, ?hy10⟩) (by assumption) ?_
  case hy10 => (intro w hSw; (try dsimp only at hSw); go_simp; try with_reducible rfl)
  simp only [Act.put, List.setIfInBounds_toArray, List.set_cons_zero, List.set_cons_succ]
  refine Zs.take (i := 11) (oi := ⟨some 29, _, _, _, _, _⟩) (v := ?v11) rfl (by kernel_rfl) (by kernel_rfl) (by kernel_rfl) (by decide) (by kernel_rfl) (by kernel_rfl) (fun _ _ _ h => h) (Or.inl ⟨by rfl, ?hy11⟩) (by assumption) ?_
  case hy11 => (intro w hSw; (try dsimp only at hSw); go_simp; try with_reducible rfl)
  simp only [Act.put, List.setIfInBounds_toArray, List.set_cons_zero, List.set_cons_succ]
  refine Zs.take (i := 12) (oi := ⟨some 30, _, _, _, _, _⟩) (v := ?v12) rfl (by kernel_rfl) (by kernel_rfl) (by kernel_rfl) (by decide) (by kernel_rfl) (by kernel_rfl) (fun _ _ _ h => h) (Or.inl ⟨by rfl, ?hy12⟩) (by assumption) ?_
  case hy12 => (intro w hSw; (try dsimp only at hSw); go_simp; try with_reducible rfl)
  simp only [Act.put, List.setIfInBounds_toArray, List.set_cons_zero, List.set_cons_succ]
  refine Zs.take (i := 13) (oi := ⟨some 31, _, _, _, _, _⟩) (v := ?v13) rfl (by kernel_rfl) (by kernel_rfl) (by kernel_rfl) (by decide) (by kernel_rfl) (by kernel_rfl) (fun _ _ _ h => h) (Or.inl ⟨by rfl, ?hy13⟩) (by assumption) ?_
  case hy13 => (intro w hSw; (try dsimp only at hSw); go_simp; try with_reducible rfl)
  simp only [Act.put, List.setIfInBounds_toArray, List.set_cons_zero, List.set_cons_succ]
  refine Zs.take (i := 14) (oi := ⟨some 32, _, _, _, _, _⟩) (v := ?v14) rfl (by kernel_rfl) (by kernel_rfl) (by kernel_rfl) (by decide) (by kernel_rfl) (by kernel_rfl) (fun _ _ _ h => h) (Or.inl ⟨by rfl, ?hy14⟩) (by assumption) ?_
  case hy14 => (intro w hSw; (try dsimp only at hSw); go_simp; try with_reducible rfl)
  simp only [Act.put, List.setIfInBounds_toArray, List.set_cons_zero, List.set_cons_succ]
  refine Zs.take (i := 15) (oi := ⟨some 33, _, _, _, _, _⟩) (v := ?v15) rfl (by kernel_rfl) (by kernel_rfl) (by kernel_rfl) (by decide) (by kernel_rfl) (by kernel_rfl) (fun _ _ _ h => h) (Or.inl ⟨by rfl, ?hy15⟩) (by assumption) ?_
  case hy15 => (intro w hSw; (try dsimp only at hSw); go_simp; try with_reducible rfl)
  simp only [Act.put, List.setIfInBounds_toArray, List.set_cons_zero, List.set_cons_succ]
  refine Zs.take (i := 16) (oi := ⟨some 34, _, _, _, _, _⟩) (v := ?v16) rfl (by kernel_rfl) (by kernel_rfl) (by kernel_rfl) (by decide) (by kernel_rfl) (by kernel_rfl) (fun _ _ _ h => h) (Or.inl ⟨by rfl, ?hy16⟩) (by assumption) ?_
  case hy16 => (intro w hSw; (try dsimp only at hSw); go_simp; try with_reducible rfl)
  simp only [Act.put, List.setIfInBounds_toArray, List.set_cons_zero, List.set_cons_succ]
  refine Zs.take (i := 17) (oi := ⟨some 35, _, _, _, _, _⟩) (v := ?v17) rfl (by kernel_rfl) (by kernel_rfl) (by kernel_rfl) (by decide) (by kernel_rfl) (by kernel_rfl) (fun _ _ _ h => h) (Or.inl ⟨by rfl, ?hy17⟩) (by assumption) ?_
  case hy17 => (intro w hSw; (try dsimp only at hSw); go_simp; try with_reducible rfl)
  simp only [Act.put, List.setIfInBounds_toArray, List.set_cons_zero, List.set_cons_succ]
  refine Zs.take (i := 18) (oi := ⟨some 36, _, _, _, _, _⟩) (v := ?v18) rfl (by kernel_rfl) (by kernel_rfl) (by kernel_rfl) (by decide) (by kernel_rfl) (by kernel_rfl) (fun _ _ _ h => h) (Or.inl ⟨by rfl, ?hy18⟩) (by assumption) ?_
  case hy18 => (intro w hSw; (try dsimp only at hSw); go_simp; try with_reducible rfl)
  simp only [Act.put, List.setIfInBounds_toArray, List.set_cons_zero, List.set_cons_succ]
  refine Zs.one (i := 19) (oi := ⟨some 37, _, _, _, _, _⟩) (by kernel_rfl) rfl (fun K hK => ?_)
  go_simp
  refine hK.out _ _ (fun _ => d3.out) ?_
  clear hK K
  try simp only [Act.put, List.setIfInBounds_toArray, List.set_cons_zero, List.set_cons_succ]
  refine Zs.one (i := 20) (oi := ⟨some 38, _, _, _, _, _⟩) (by kernel_rfl) rfl (fun K hK => ?_)
  refine step_append_run rfl (.tmp 33) (.tmp 37) 28 rfl _ _ _ _ rfl rfl hrun ?_
  refine hK.out _ _ (fun _ => z5) ?_
  clear hK K
  try simp only [Act.put, List.setIfInBounds_toArray, List.set_cons_zero, List.set_cons_succ]
  refine Zs.pure (i := 21) (oi := ⟨some 39, _, _, _, _, _⟩) (v := ?v21) rfl (by kernel_rfl) (by kernel_rfl) (by kernel_rfl) (by decide) (fun _ _ _ h => h) (Or.inl ⟨by rfl, ?hy21⟩) (by assumption) ?_
  case hy21 => (intro w hSw; (try dsimp only at hSw); go_simp; try with_reducible rfl)
  simp only [Act.put, List.setIfInBounds_toArray, List.set_cons_zero, List.set_cons_succ]
  refine Zs.take (i := 22) (oi := ⟨some 40, _, _, _, _, _⟩) (v := ?v22) rfl (by kernel_rfl) (by kernel_rfl) (by kernel_rfl) (by decide) (by kernel_rfl) (by kernel_rfl) (fun _ _ _ h => h) (Or.inl ⟨by rfl, ?hy22⟩) (by assumption) ?_
  case hy22 => (intro w hSw; (try dsimp only at hSw); go_simp; try with_reducible rfl)
  simp only [Act.put, List.setIfInBounds_toArray, List.set_cons_zero, List.set_cons_succ]
  refine Zs.one (i := 23) (oi := ⟨none, _, _, _, _, _⟩) (by kernel_rfl) rfl (fun K hK => ?_)
  go_simp
  refine hK.out _ _ (fun q => absurd q (by decide)) ?_
  clear hK K
  refine Zs.done (by kernel_rfl) ?_ _
  go_wp2_with fail
  go_ret
  exact ⟨rfl, _, fin.out⟩
set_option maxRecDepth 100000 in
set_option maxHeartbeats 400000 in
theorem rreceive_none (R : Rt) (w : World) (h : Rs w R) (hp : R.ds = []) :
    Calls Try.prog 20 #[.pointer (some ⟨R.b, 0, none⟩)] w fun e w' => e = .returned (.tuple #[.agg #[.int .i64 0, .string ⟨#[]⟩], .bool false]) ∧ Below w.heap.size w w' := by
  obtain ⟨W0, hW0⟩ : ∃ W0, w.alloc (.cells #[.int .i64 0, .string ⟨#[]⟩] 49) = W0 := ⟨_, rfl⟩
  have b0 : Below w.heap.size w W0 := by rw [← hW0]; exact (Below.refl _ _).alloc (Nat.le_refl _) _
  have h0 := h.below b0
  obtain ⟨p, c, hv⟩ := h0.dd.1.shape
  rw [hp, List.length_nil] at hv
  have c2 := h0.c2
  rw [hv] at c2
  have r0 : W0.cell? ⟨w.heap.size, 0, none⟩ = some (.int .i64 0) := by rw [← hW0]; exact cell_at rfl rfl
  have r1 : W0.cell? ⟨w.heap.size, 1, none⟩ = some (.string ⟨#[]⟩) := by rw [← hW0]; exact cell_at rfl rfl
  have z0 : W0.frozen? ⟨w.heap.size, 0, none⟩ = false := by rw [← hW0]; exact froz_new rfl
  have z1 : W0.frozen? ⟨w.heap.size, 1, none⟩ = false := by rw [← hW0]; exact froz_new rfl
  have r2 : (W0.setCell ⟨w.heap.size, 0, none⟩ (.int .i64 0)).cell? ⟨w.heap.size, 0, none⟩ = some (.int .i64 0) := World.cell?_setCell_same' _ _ _ (by rw [r0]; rfl)
  have r3 : ((W0.setCell ⟨w.heap.size, 0, none⟩ (.int .i64 0)).setCell ⟨w.heap.size, 1, none⟩ (.string ⟨#[]⟩)).cell? ⟨w.heap.size, 1, none⟩ = some (.string ⟨#[]⟩) := World.cell?_setCell_same' _ _ _ (by rw [World.cell?_setCell_other _ _ _ _ (by simp), r1]; rfl)
  have fin : Hid (Below w.heap.size w ((W0.setCell ⟨w.heap.size, 0, none⟩ (.int .i64 0)).setCell ⟨w.heap.size, 1, none⟩ (.string ⟨#[]⟩))) := (b0.setCell (by exact Nat.le_refl _) _).setCell (by exact Nat.le_refl _) _
  clear h hv h0 b0 hp
  go_enter Try.func20, Try.ntmps20
  go_wp2_with (rw [hW0])
  exact bodyPost_ret (v := .tuple #[.agg #[.int .i64 0, .string ⟨#[]⟩], .bool false]) (by simp [results, Try.results20, go_sem, r2, r3]) rfl ⟨rfl, fin.out⟩
set_option maxRecDepth 100000 in
set_option maxHeartbeats 1000000 in
theorem rreceive_ok (R : Rt) (ia : Int) (ta : ByteArray) (r : List Pr) (w : World) (h : Rs w R) (hp : R.ds = (ia, ta) :: r) :
    Calls Try.prog 20 #[.pointer (some ⟨R.b, 0, none⟩)] w fun e w' => e = .returned (.tuple #[.agg #[.int .i64 ia, .string ta], .bool true]) ∧ ∃ v', RGoes R w { R with dv := v', ds := r } w' := by
  obtain ⟨W0, hW0⟩ : ∃ W0, w.alloc (.cells #[.int .i64 0, .string ⟨#[]⟩] 49) = W0 := ⟨_, rfl⟩
  have b0 : Below w.heap.size w W0 := by rw [← hW0]; exact (Below.refl _ _).alloc (Nat.le_refl _) _
  have h0 := h.below b0
  have hq := h0.dd.1
  rw [hp] at hq
  obtain ⟨g2, o2, cp, hv, y0, y1, hcap, hcm, hg2, hcut⟩ := hq.cut
  obtain ⟨nr, hnr⟩ : ∃ nr, r.length = nr := ⟨_, rfl⟩
  rw [hnr] at hv hcap hcut
  have hg2w : g2 < w.heap.size := (h.dd.2 g2 (by rw [hv]; rfl)).1
  have hg2n : ¬ hasR R g2 := (h.dd.2 g2 (by rw [hv]; rfl)).2
  have c2 := h0.c2
  rw [hv] at c2
  have hn2 : ¬ (nr : Int) + 1 = 0 := by omega
  have hn0 : (0 : Int) < (nr : Int) + 1 := by omega
  have hn1 : (1 : Int) ≤ (nr : Int) + 1 := by omega
  have hcmI : (cp : Int) ≤ 9223372036854775807 := by unfold maxLen at hcm; omega
  obtain ⟨N, hN⟩ : ∃ N, w.heap.size = N := ⟨_, rfl⟩
  have hs0 : W0.heap.size = N + 1 := by rw [← hW0]; simp [hN]
  obtain ⟨V, hV⟩ : ∃ V, W0.alloc (.cells #[.int .i64 ia, .string ta] 49) = V := ⟨_, rfl⟩
  have bV : Below W0.heap.size W0 V := by rw [← hV]; exact (Below.refl _ _).alloc (Nat.le_refl _) _
  have mV : Mv (fun _ => False) W0 V := Mv.below bV
  have s2 := mV.cell (a := ⟨R.b, 2, none⟩) (fun h => h) c2
  have s4 : V.frozen? ⟨R.b, 2, none⟩ = false := (mV.froz (a := ⟨R.b, 2, none⟩) (fun h => h) (cell_lt c2)).trans (h0.f0 2)
  have v0 : V.cell? ⟨W0.heap.size, 0, none⟩ = some (.int .i64 ia) := by rw [← hV]; exact cell_at rfl rfl
  have v1 : V.cell? ⟨W0.heap.size, 1, none⟩ = some (.string ta) := by rw [← hV]; exact cell_at rfl rfl
  rw [hs0] at v0 v1
  have r0' : V.cell? ⟨N, 0, none⟩ = some (.int .i64 0) := mV.cell (a := ⟨N, 0, none⟩) (fun h => h) (by rw [← hW0]; exact cell_at hN rfl)
  have r1' : V.cell? ⟨N, 1, none⟩ = some (.string ⟨#[]⟩) := mV.cell (a := ⟨N, 1, none⟩) (fun h => h) (by rw [← hW0]; exact cell_at hN rfl)
  have z0' : V.frozen? ⟨N, 0, none⟩ = false := (mV.froz (a := ⟨N, 0, none⟩) (fun h => h) (by show N < _; omega)).trans (by rw [← hW0]; exact froz_new hN)
  have z1' : V.frozen? ⟨N, 1, none⟩ = false := (mV.froz (a := ⟨N, 1, none⟩) (fun h => h) (by show N < _; omega)).trans (by rw [← hW0]; exact froz_new hN)
  have hbl : R.b < N := by have := h.lt (.inl rfl); omega
  have hfin : Hid (∀ v', QS V v' r → (∀ k, nb v' = some k → k = g2) → RGoes R w { R with dv := v', ds := r } (((V.setCell ⟨R.b, 2, none⟩ v').setCell ⟨N, 0, none⟩ (.int .i64 ia)).setCell ⟨N, 1, none⟩ (.string ta))) := fun v' hq hk => by
    have mw : Mv (fun _ => False) w V := (Mv.below b0).trans' mV
    have t1 := h.turnD mw hq (fun k q => .inl (by rw [hk k q, hv]; rfl))
    refine t1.new (((Mv.refl (fun k => k = N) _).setc (p := ⟨N, 0, none⟩) (.inl rfl) _).setc (p := ⟨N, 1, none⟩) (.inl rfl) _) (by omega) (fun q => ?_) (fun y hy q => ?_) (fun q => ?_)
    · have : hasR R N := q
      have := h.lt this
      omega
    · have := ((h.ps y hy).2 N q).1
      omega
    · have := hk N q
      omega
  have hcutH := hidP (And.intro (hcut.mv mV (fun _ _ h => h)) hfin)
  have hbN : R.b ≠ N := by omega
  have hbN1 : R.b ≠ N + 1 := by omega
  clear hfin hcut h h0 hq hp hv hg2 hg2w hg2n b0 bV mV hnr
  by_cases hc1 : cp = 1
  · subst hc1
    rw [if_pos rfl, Nat.sub_self] at hcutH
    clear hcap
    obtain ⟨w5, hw5⟩ : ∃ w5, V.setCell ⟨R.b, 2, none⟩ (.slice (some ⟨g2, o2, none⟩) nr 0) = w5 := ⟨_, rfl⟩
    have fin := hidP (hcutH.out.2 (.slice (some ⟨g2, o2, none⟩) nr 0) hcutH.out.1 (fun k q => by simp [nb] at q; exact q.symm))
    rw [hw5] at fin
    have g0 : w5.cell? ⟨N, 0, none⟩ = some (.int .i64 0) := by rw [← hw5]; exact (World.cell?_setCell_other _ _ _ _ (by simp; try omega)).trans r0'
    have g1 : w5.cell? ⟨N, 1, none⟩ = some (.string ⟨#[]⟩) := by rw [← hw5]; exact (World.cell?_setCell_other _ _ _ _ (by simp; try omega)).trans r1'
    have g2' : (w5.setCell ⟨N, 0, none⟩ (.int .i64 ia)).cell? ⟨N, 0, none⟩ = some (.int .i64 ia) := World.cell?_setCell_same' _ _ _ (by rw [g0]; rfl)
    have g3 : ((w5.setCell ⟨N, 0, none⟩ (.int .i64 ia)).setCell ⟨N, 1, none⟩ (.string ta)).cell? ⟨N, 1, none⟩ = some (.string ta) := World.cell?_setCell_same' _ _ _ (by rw [World.cell?_setCell_other _ _ _ _ (by simp), g1]; rfl)
    have y0' : w5.frozen? ⟨N, 0, none⟩ = false := by rw [← hw5, World.frozen?_setCell]; exact z0'
    have y1' : w5.frozen? ⟨N, 1, none⟩ = false := by rw [← hw5, World.frozen?_setCell]; exact z1'
    have x0 : w5.cell? ⟨N + 1, 0, none⟩ = some (.int .i64 ia) := by rw [← hw5]; exact (World.cell?_setCell_other _ _ _ _ (by simp; try omega)).trans v0
    have x1 : w5.cell? ⟨N + 1, 1, none⟩ = some (.string ta) := by rw [← hw5]; exact (World.cell?_setCell_other _ _ _ _ (by simp; try omega)).trans v1
    clear hcutH r0' r1' z0' z1'
    go_enter Try.func20, Try.ntmps20
    go_wp2_with (first | rw [hW0] | rw [hV] | rw [hw5])
    exact bodyPost_ret (v := .tuple #[.agg #[.int .i64 ia, .string ta], .bool true]) (by simp [results, Try.results20, go_sem, g2', g3]) rfl ⟨rfl, _, fin.out⟩
  · rw [if_neg hc1] at hcutH
    obtain ⟨w5, hw5⟩ : ∃ w5, V.setCell ⟨R.b, 2, none⟩ (.slice (some ⟨g2, o2 + 2, none⟩) nr (cp - 1)) = w5 := ⟨_, rfl⟩
    have fin := hidP (hcutH.out.2 (.slice (some ⟨g2, o2 + 2, none⟩) nr (cp - 1)) hcutH.out.1 (fun k q => by simp [nb] at q; exact q.symm))
    rw [hw5] at fin
    have g0 : w5.cell? ⟨N, 0, none⟩ = some (.int .i64 0) := by rw [← hw5]; exact (World.cell?_setCell_other _ _ _ _ (by simp; try omega)).trans r0'
    have g1 : w5.cell? ⟨N, 1, none⟩ = some (.string ⟨#[]⟩) := by rw [← hw5]; exact (World.cell?_setCell_other _ _ _ _ (by simp; try omega)).trans r1'
    have g2' : (w5.setCell ⟨N, 0, none⟩ (.int .i64 ia)).cell? ⟨N, 0, none⟩ = some (.int .i64 ia) := World.cell?_setCell_same' _ _ _ (by rw [g0]; rfl)
    have g3 : ((w5.setCell ⟨N, 0, none⟩ (.int .i64 ia)).setCell ⟨N, 1, none⟩ (.string ta)).cell? ⟨N, 1, none⟩ = some (.string ta) := World.cell?_setCell_same' _ _ _ (by rw [World.cell?_setCell_other _ _ _ _ (by simp), g1]; rfl)
    have y0' : w5.frozen? ⟨N, 0, none⟩ = false := by rw [← hw5, World.frozen?_setCell]; exact z0'
    have y1' : w5.frozen? ⟨N, 1, none⟩ = false := by rw [← hw5, World.frozen?_setCell]; exact z1'
    have x0 : w5.cell? ⟨N + 1, 0, none⟩ = some (.int .i64 ia) := by rw [← hw5]; exact (World.cell?_setCell_other _ _ _ _ (by simp; try omega)).trans v0
    have x1 : w5.cell? ⟨N + 1, 1, none⟩ = some (.string ta) := by rw [← hw5]; exact (World.cell?_setCell_other _ _ _ _ (by simp; try omega)).trans v1
    clear hcutH r0' r1' z0' z1'
    go_enter Try.func20, Try.ntmps20
    go_wp2_with (first | rw [hW0] | rw [hV] | rw [hw5])
    exact bodyPost_ret (v := .tuple #[.agg #[.int .i64 ia, .string ta], .bool true]) (by simp [results, Try.results20, go_sem, g2', g3]) rfl ⟨rfl, _, fin.out⟩
end Go.Proofs.Ytppbdamlhcmlcaa
