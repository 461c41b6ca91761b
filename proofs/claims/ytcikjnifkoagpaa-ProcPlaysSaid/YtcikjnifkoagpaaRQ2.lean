/- The reference's Spawn. -/
import Derived.Test.YtcikjnifkoagpaaRQ1
namespace Go.Proofs.Ytcikjnifkoagpaa
open Go.RowKit Go.Shelf Go.Lib
theorem infoE : (Try.prog.info? 59).map (fun i => (i.zero, i.size, i.bytes)) = some (some (.agg #[.int .i64 0, .int .i64 0, .string ⟨#[]⟩, .bool false, .int .i64 0, .string ⟨#[]⟩, .bool false, .bool false]), 8, 72) := by kernel_rfl
theorem step_append_run {P : Program} {w : World} {ops : Array Oper} {o : Oper} {a : Act} {K : Act → World → Prop} {Q : Exit → Act → World → Prop} {E : Prop} (hgd : o.guard = none) (s x : Operand) (t : TypeId)
    (ho : o.op = .call { callee := .builtin .append, args := #[s, x], argTypes := #[t, t] }) (v xv v' : Value) (w' : World) (hs : a.eval s = v) (hx : a.eval x = xv)
    (hr : (Builtin.append_ #[t, t] o.type #[v, xv]).run P w = .ok v' w') (h : K (a.put o.dst v') w') : if Region.wanted o (yielded ops a.tmps) = true then Oper.wp P o a w K Q else E := by
  have hw : Region.wanted o (yielded ops a.tmps) = true := by simp [Region.wanted, hgd]
  rw [if_pos hw]
  unfold Oper.wp execOp
  simp only [ho, resolve, invoke, builtin, Sem.run_bind, Sem.run_pure, Result.andThen_ok, List.map_toArray, List.map_cons, List.map_nil, hs, hx, hr]
  exact h
theorem RO.last {W : World} {b g cap : Nat} {room last : Int} {l : Ps} (h : RO W b g cap room last l) (x : Int) : RO (W.setCell ⟨b, 2, none⟩ (.int .i64 x)) b g cap room x l := by
  have m : Mv (fun k => k = b) W (W.setCell ⟨b, 2, none⟩ (.int .i64 x)) := (Mv.refl (fun k => k = b) W).setc (p := ⟨b, 2, none⟩) (.inl rfl) _
  exact ⟨(World.cell?_setCell_other _ _ _ _ (by simp)).trans h.c0, (World.cell?_setCell_other _ _ _ _ (by simp)).trans h.c1, World.cell?_setCell_same' _ _ _ (by rw [h.c2]; rfl), fun j => (World.frozen?_setCell _ _ _ _).trans (h.fz j), own_mv h.ow m (fun k hk e => by cases hk; exact h.ne e.symm), h.ne, h.len⟩
/-- One more entry at the end of the row. -/
theorem RO.app {W : World} {b g cap : Nat} {room last : Int} {l : Ps} (h : RO W b g cap room last l) (p : Pr) (hl : l.length < 900) {N : Nat} (hc : ∀ j u, (reC p)[j]? = some u → W.cell? ⟨N, j, none⟩ = some u) :
    ∃ g' cap' W', (Builtin.append_ #[60, 60] 60 #[.slice (some ⟨g, 0, none⟩) l.length cap, .slice (some ⟨N, 0, none⟩) 1 1]).run Try.prog W = .ok (.slice (some ⟨g', 0, none⟩) (l.length + 1) cap') W' ∧
      Mv (fun k => k = g) W W' ∧ (g' = g ∨ W.heap.size ≤ g') ∧ b ≠ g' ∧ W'.ownsRow 0 59 8 (.slice (some ⟨g', 0, none⟩) (l.length + 1) cap') (l.length + 1) (reF (l ++ [p])) := by
  obtain ⟨i0, hinf, hz0, hz1, hz2⟩ := info_parts infoE
  obtain ⟨v', W', hrun, hown, hgr, _, hat⟩ := run_append_own_at (P := Try.prog) W 0 60 60 59 i0 _ 8 72 Try.underlying60 hinf hz0 hz1 hz2 rfl (by decide) _ _ _ h.ow ⟨N, 0, none⟩ 1 1 (reC p) rfl (fun j u hj => by rw [Addr.add_lit, Nat.zero_add]; exact hc j u hj) (fun u hu => by
    unfold reC at hu
    simp only [List.mem_cons, List.not_mem_nil, or_false] at hu
    rcases hu with rfl | rfl | rfl | rfl | rfl | rfl | rfl | rfl <;> rfl) (by unfold maxLen; omega) (by omega) (Nat.zero_le _)
  rcases hown.2 with ⟨_, e0⟩ | ⟨g', cap', cur, rfl, _, _⟩
  · omega
  refine ⟨g', cap', W', hrun, (Mv.refl _ _).grown hgr (fun k e => .inl (by cases e; rfl)), ?_, ?_, ?_⟩
  · rcases hat with e | e
    · exact .inl (by simpa [Value.ownBlock] using e)
    · exact .inr (by have : g' = W.heap.size := by simpa [Value.ownBlock] using e
                     omega)
  · rcases hat with e | e
    · have e' : g' = g := by simpa [Value.ownBlock] using e
      exact fun q => h.ne (q.trans e')
    · have e' : g' = W.heap.size := by simpa [Value.ownBlock] using e
      have := h.ltb
      omega
  · rw [reF_app]
    simpa [reF] using hown
def rspP (room last : Int) (l : Ps) (k : Int) (g c : ByteArray) : Sp :=
  if lvP l k < 0 then ⟨0, 80, last, l⟩ else if room ≤ (l.length : Int) - 1 then ⟨0, 81, last, l⟩ else ⟨last + 1, 0, last + 1, l ++ [newP last k g c]⟩
set_option maxRecDepth 100000 in
set_option maxHeartbeats 4000000 in
theorem rspawn_any {b g cap : Nat} {room last : Int} {l : Ps} (k : Int) (gr cm : ByteArray) (w : World) (h : RO w b g cap room last l) (hl : l.length < 900) (h0 : 0 ≤ last) (h1 : last ≤ 1000000) :
    Calls Try.prog 8 #[.pointer (some ⟨b, 0, none⟩), .int .i64 k, .string gr, .string cm] w fun e w' => e = .returned (.tuple #[.int .i64 (rspP room last l k gr cm).n, .int .i64 (rspP room last l k gr cm).e]) ∧ ∃ g' cap', Rg b g w g' cap' room (rspP room last l k gr cm).last (rspP room last l k gr cm).l w' := by
  have hL := rlives_any k w h.rt
  obtain ⟨q, hq⟩ : ∃ q, lvP l k = q := ⟨_, rfl⟩
  unfold rspP
  rw [hq] at hL ⊢
  clear hq
  by_cases hq0 : q < 0
  · rw [if_pos hq0]
    have fin : Hid (Rg b g w g cap room last l w) := ⟨h, Mv.refl _ _, .inl rfl⟩
    clear h
    go_enter Try.func8, Try.ntmps8
    go_wp2_with fail
    refine hL.mono ?_
    rintro e w1 ⟨rfl, rfl⟩
    go_wp2_with fail
    go_ret2
    exact ⟨rfl, _, _, fin.out⟩
  rw [if_neg hq0]
  have hqd : decide (q < 0) = false := by simpa using hq0
  obtain ⟨n, hn⟩ : ∃ n, l.length = n := ⟨_, rfl⟩
  have c0 := h.c0
  have c1 := h.c1
  rw [hn] at c0
  have d0 : w.drew.cell? ⟨b, 0, none⟩ = some (.slice (some ⟨g, 0, none⟩) n cap) := c0
  have d1 : w.drew.cell? ⟨b, 1, none⟩ = some (.int .i64 room) := c1
  have hnb : n < 900 := by omega
  have hdr : Hid (RO w.drew b g cap room last l) := h.below ((Below.refl _ _).drew)
  by_cases hr : room ≤ (l.length : Int) - 1
  · rw [if_pos hr]
    have hrI : room ≤ (n : Int) - 1 := by rw [hn] at hr; exact hr
    have fin : Hid (Rg b g w g cap room last l w.drew) := ⟨hdr.out, Mv.drew _ _, .inl rfl⟩
    clear h hr hdr
    go_enter Try.func8, Try.ntmps8
    go_wp2_with fail
    refine hL.mono ?_
    rintro e w1 ⟨rfl, rfl⟩
    go_wp2_with fail
    go_region
    go_wp2_with fail
    go_ret2
    exact ⟨rfl, _, _, fin.out⟩
  · rw [if_neg hr]
    have hrI : ¬ room ≤ (n : Int) - 1 := by rw [hn] at hr; exact hr
    have hrd : decide (room ≤ (n : Int) - 1) = false := by simpa using hrI
    have c2 : w.drew.cell? ⟨b, 2, none⟩ = some (.int .i64 last) := h.c2
    have f2 : w.drew.frozen? ⟨b, 2, none⟩ = false := h.fz 2
    obtain ⟨L2, hL2⟩ : ∃ L2, last + 1 = L2 := ⟨_, rfl⟩
    obtain ⟨W5, hW5⟩ : ∃ W5, w.drew.setCell ⟨b, 2, none⟩ (.int .i64 L2) = W5 := ⟨_, rfl⟩
    have h5 : RO W5 b g cap room L2 l := by rw [← hW5]; exact hdr.out.last L2
    have m5 : Mv (fun k => k = b) w W5 := by rw [← hW5]; exact (Mv.drew (fun k => k = b) _).setc (p := ⟨b, 2, none⟩) (.inl rfl) _
    obtain ⟨N, hN⟩ : ∃ N, W5.heap.size = N := ⟨_, rfl⟩
    have hNd : W5.drew.heap.size = N := hN
    obtain ⟨W6, hW6⟩ : ∃ W6, W5.drew.alloc (.cells #[.int .i64 L2, .int .i64 k, .string gr, .bool false, .int .i64 0, .string cm, .bool false, .bool false] 59) = W6 := ⟨_, rfl⟩
    have h6 : RO W6 b g cap room L2 l := by rw [← hW6]; exact (h5.below ((Below.refl _ _).drew)).below ((Below.refl _ _).alloc (Nat.le_refl _) _)
    have b6 : Below W5.heap.size W5 W6 := by rw [← hW6]; exact ((Below.refl _ _).drew).alloc (show W5.heap.size ≤ W5.heap.size from Nat.le_refl _) _
    obtain ⟨g', cap', W7, hrun, m7, hg7, hne7, how⟩ := h6.app (newP last k gr cm) hl (N := N) (fun j u hj => by
      rw [← hW6]
      refine cell_at hNd ?_
      unfold reC newP at hj
      rw [hL2] at hj
      rw [← Array.getElem?_toList]
      exact hj)
    rw [hn] at hrun
    have hs6 := b6.size
    have m57 : Mv (fun k => k = b ∨ k = g) w W7 := ((m5.mono (fun k _ e => .inl e)).trans' (Mv.below b6)).trans' (m7.mono (fun k _ e => .inr e))
    have fin : Hid (Rg b g w g' cap' room L2 (l ++ [newP last k gr cm]) (W7.setCell ⟨b, 0, none⟩ (.slice (some ⟨g', 0, none⟩) (n + 1) cap'))) := by
      have hbg : ¬ b = g := h.ne
      have mS : Mv (fun k => k = b) W7 (W7.setCell ⟨b, 0, none⟩ (.slice (some ⟨g', 0, none⟩) (n + 1) cap')) := (Mv.refl (fun k => k = b) W7).setc (p := ⟨b, 0, none⟩) (.inl rfl) _
      refine ⟨⟨?_, ?_, ?_, fun j => ?_, ?_, hne7, ?_⟩, m57.setc (p := ⟨b, 0, none⟩) (.inl (.inl rfl)) _, ?_⟩
      · rw [List.length_append, hn]; exact World.cell?_setCell_same' _ _ _ (by rw [m7.cell (a := ⟨b, 0, none⟩) hbg h6.c0]; rfl)
      · exact (World.cell?_setCell_other _ _ _ _ (by simp)).trans (m7.cell (a := ⟨b, 1, none⟩) hbg h6.c1)
      · exact (World.cell?_setCell_other _ _ _ _ (by simp)).trans (m7.cell (a := ⟨b, 2, none⟩) hbg h6.c2)
      · exact (World.frozen?_setCell _ _ _ _).trans ((m7.froz (a := ⟨b, j, none⟩) hbg h6.ltb).trans (h6.fz j))
      · rw [List.length_append]
        rw [hn] at how ⊢
        exact own_mv how mS (fun k hk e => by cases hk; exact hne7 e.symm)
      · rw [List.length_append]; simp; omega
      · rcases hg7 with e | e
        · exact .inl e
        · exact .inr (by have := m5.size; omega)
    have x2 : W5.cell? ⟨b, 2, none⟩ = some (.int .i64 L2) := h5.c2
    have x0 : W5.cell? ⟨b, 0, none⟩ = some (.slice (some ⟨g, 0, none⟩) n cap) := by rw [← hn]; exact h5.c0
    have hHeld : W5.drew.cell? ⟨b, 0, none⟩ = some (.slice (some ⟨g, 0, none⟩) n cap) ∧ W5.drew.cell? ⟨b, 2, none⟩ = some (.int .i64 L2) := ⟨x0, x2⟩
    have hH6 : Hid (W6.cell? ⟨b, 0, none⟩ = some (.slice (some ⟨g, 0, none⟩) n cap) ∧ W6.cell? ⟨b, 2, none⟩ = some (.int .i64 L2)) := ⟨by rw [← hn]; exact h6.c0, h6.c2⟩
    have hH7 : Hid (W7.cell? ⟨b, 0, none⟩ = some (.slice (some ⟨g, 0, none⟩) n cap) ∧ W7.cell? ⟨b, 2, none⟩ = some (.int .i64 L2)) := ⟨m7.cell (a := ⟨b, 0, none⟩) h.ne hH6.out.1, m7.cell (a := ⟨b, 2, none⟩) h.ne hH6.out.2⟩
    have y0 := hH7.out.1
    have f0 : W7.frozen? ⟨b, 0, none⟩ = false := (m7.froz (a := ⟨b, 0, none⟩) h.ne h6.ltb).trans (h6.fz 0)
    obtain ⟨W8, hW8⟩ : ∃ W8, W7.setCell ⟨b, 0, none⟩ (.slice (some ⟨g', 0, none⟩) (n + 1) cap') = W8 := ⟨_, rfl⟩
    have z2 : W8.cell? ⟨b, 2, none⟩ = some (.int .i64 L2) := by rw [← hW8]; exact (World.cell?_setCell_other _ _ _ _ (by simp)).trans hH7.out.2
    rw [hW8] at fin
    rw [hL2]
    have hrunH := hidP hrun
    clear h hr hdr h5 m5 h6 b6 m7 hg7 hne7 how hs6 m57 hrun
    go_enter Try.func8, Try.ntmps8
    go_wp2_with fail
    refine hL.mono ?_
    rintro e w1 ⟨rfl, rfl⟩
    clear hL
    go_wp2_with fail
    go_region
    go_wp2_with (first | rw [hL2] | rw [hW5])
    refine Zs.region (S := fun y => y.cell? ⟨b, 0, none⟩ = some (.slice (some ⟨g, 0, none⟩) n cap) ∧ y.cell? ⟨b, 2, none⟩ = some (.int .i64 L2)) 18 (by kernel_rfl) ?_
    refine Zs.pure (i := 0) (oi := ⟨some 34, _, _, _, _, _⟩) (v := ?v0) rfl (by kernel_rfl) (by kernel_rfl) (by kernel_rfl) (by decide) (fun _ _ _ h => h) (Or.inl ⟨by rfl, ?hy0⟩) hHeld ?_
    case hy0 => (intro w hSw; (try dsimp only at hSw); go_simp; try with_reducible rfl)
    simp only [Act.put, List.setIfInBounds_toArray, List.set_cons_zero, List.set_cons_succ]
    refine Zs.pure (i := 1) (oi := ⟨some 35, _, _, _, _, _⟩) (v := ?v1) rfl (by kernel_rfl) (by kernel_rfl) (by kernel_rfl) (by decide) (fun _ _ _ h => h) (Or.inl ⟨by rfl, ?hy1⟩) hHeld ?_
    case hy1 => (intro w hSw; (try dsimp only at hSw); go_simp; try with_reducible rfl)
    simp only [Act.put, List.setIfInBounds_toArray, List.set_cons_zero, List.set_cons_succ]
    refine Zs.pure (i := 2) (oi := ⟨some 36, _, _, _, _, _⟩) (v := ?v2) rfl (by kernel_rfl) (by kernel_rfl) (by kernel_rfl) (by decide) (fun _ _ _ h => h) (Or.inl ⟨by rfl, ?hy2⟩) hHeld ?_
    case hy2 => (intro w hSw; (try dsimp only at hSw); go_simp; try with_reducible rfl)
    simp only [Act.put, List.setIfInBounds_toArray, List.set_cons_zero, List.set_cons_succ]
    refine Zs.pure (i := 3) (oi := ⟨some 37, _, _, _, _, _⟩) (v := ?v3) rfl (by kernel_rfl) (by kernel_rfl) (by kernel_rfl) (by decide) (fun _ _ _ h => h) (Or.inl ⟨by rfl, ?hy3⟩) hHeld ?_
    case hy3 => (intro w hSw; (try dsimp only at hSw); go_simp; try with_reducible rfl)
    simp only [Act.put, List.setIfInBounds_toArray, List.set_cons_zero, List.set_cons_succ]
    refine Zs.take (i := 4) (oi := ⟨some 38, _, _, _, _, _⟩) (v := ?v4) rfl (by kernel_rfl) (by kernel_rfl) (by kernel_rfl) (by decide) (by kernel_rfl) (by kernel_rfl) (fun _ _ _ h => h) (Or.inl ⟨by rfl, ?hy4⟩) hHeld ?_
    case hy4 => (intro w hSw; (try dsimp only at hSw); go_simp; try with_reducible rfl)
    simp only [Act.put, List.setIfInBounds_toArray, List.set_cons_zero, List.set_cons_succ]
    refine Zs.pure (i := 5) (oi := ⟨some 39, _, _, _, _, _⟩) (v := ?v5) rfl (by kernel_rfl) (by kernel_rfl) (by kernel_rfl) (by decide) (fun _ _ _ h => h) (Or.inl ⟨by rfl, ?hy5⟩) hHeld ?_
    case hy5 => (intro w hSw; (try dsimp only at hSw); go_simp; try with_reducible rfl)
    simp only [Act.put, List.setIfInBounds_toArray, List.set_cons_zero, List.set_cons_succ]
    refine Zs.pure (i := 6) (oi := ⟨some 40, _, _, _, _, _⟩) (v := ?v6) rfl (by kernel_rfl) (by kernel_rfl) (by kernel_rfl) (by decide) (fun _ _ _ h => h) (Or.inl ⟨by rfl, ?hy6⟩) hHeld ?_
    case hy6 => (intro w hSw; (try dsimp only at hSw); go_simp; try with_reducible rfl)
    simp only [Act.put, List.setIfInBounds_toArray, List.set_cons_zero, List.set_cons_succ]
    refine Zs.pure (i := 7) (oi := ⟨some 41, _, _, _, _, _⟩) (v := ?v7) rfl (by kernel_rfl) (by kernel_rfl) (by kernel_rfl) (by decide) (fun _ _ _ h => h) (Or.inl ⟨by rfl, ?hy7⟩) hHeld ?_
    case hy7 => (intro w hSw; (try dsimp only at hSw); go_simp; try with_reducible rfl)
    simp only [Act.put, List.setIfInBounds_toArray, List.set_cons_zero, List.set_cons_succ]
    refine Zs.take (i := 8) (oi := ⟨some 42, _, _, _, _, _⟩) (v := ?v8) rfl (by kernel_rfl) (by kernel_rfl) (by kernel_rfl) (by decide) (by kernel_rfl) (by kernel_rfl) (fun _ _ _ h => h) (Or.inl ⟨by rfl, ?hy8⟩) hHeld ?_
    case hy8 => (intro w hSw; (try dsimp only at hSw); go_simp; try with_reducible rfl)
    simp only [Act.put, List.setIfInBounds_toArray, List.set_cons_zero, List.set_cons_succ]
    refine Zs.pure (i := 9) (oi := ⟨some 43, _, _, _, _, _⟩) (v := ?v9) rfl (by kernel_rfl) (by kernel_rfl) (by kernel_rfl) (by decide) (fun _ _ _ h => h) (Or.inl ⟨by rfl, ?hy9⟩) hHeld ?_
    case hy9 => (intro w hSw; (try dsimp only at hSw); go_simp; try with_reducible rfl)
    simp only [Act.put, List.setIfInBounds_toArray, List.set_cons_zero, List.set_cons_succ]
    refine Zs.pure (i := 10) (oi := ⟨some 44, _, _, _, _, _⟩) (v := ?v10) rfl (by kernel_rfl) (by kernel_rfl) (by kernel_rfl) (by decide) (fun _ _ _ h => h) (Or.inl ⟨by rfl, ?hy10⟩) hHeld ?_
    case hy10 => (intro w hSw; (try dsimp only at hSw); go_simp; try with_reducible rfl)
    simp only [Act.put, List.setIfInBounds_toArray, List.set_cons_zero, List.set_cons_succ]
    refine Zs.pure (i := 11) (oi := ⟨some 45, _, _, _, _, _⟩) (v := ?v11) rfl (by kernel_rfl) (by kernel_rfl) (by kernel_rfl) (by decide) (fun _ _ _ h => h) (Or.inl ⟨by rfl, ?hy11⟩) hHeld ?_
    case hy11 => (intro w hSw; (try dsimp only at hSw); go_simp; try with_reducible rfl)
    simp only [Act.put, List.setIfInBounds_toArray, List.set_cons_zero, List.set_cons_succ]
    refine Zs.pure (i := 12) (oi := ⟨some 46, _, _, _, _, _⟩) (v := ?v12) rfl (by kernel_rfl) (by kernel_rfl) (by kernel_rfl) (by decide) (fun _ _ _ h => h) (Or.inl ⟨by rfl, ?hy12⟩) hHeld ?_
    case hy12 => (intro w hSw; (try dsimp only at hSw); go_simp; try with_reducible rfl)
    simp only [Act.put, List.setIfInBounds_toArray, List.set_cons_zero, List.set_cons_succ]
    refine Zs.pure (i := 13) (oi := ⟨some 47, _, _, _, _, _⟩) (v := ?v13) rfl (by kernel_rfl) (by kernel_rfl) (by kernel_rfl) (by decide) (fun _ _ _ h => h) (Or.inl ⟨by rfl, ?hy13⟩) hHeld ?_
    case hy13 => (intro w hSw; (try dsimp only at hSw); go_simp; try with_reducible rfl)
    simp only [Act.put, List.setIfInBounds_toArray, List.set_cons_zero, List.set_cons_succ]
    refine Zs.one (i := 14) (oi := ⟨some 48, _, _, _, _, _⟩) (by kernel_rfl) rfl (fun K hK => ?_)
    go_simp
    try rw [hW6]
    refine hK.out _ _ (fun _ => hH6.out) ?_
    clear hK K
    try simp only [Act.put, List.setIfInBounds_toArray, List.set_cons_zero, List.set_cons_succ]
    refine Zs.one (i := 15) (oi := ⟨some 49, _, _, _, _, _⟩) (by kernel_rfl) rfl (fun K hK => ?_)
    refine step_append_run (by rfl) _ _ 60 (by rfl) (.slice (some ⟨g, 0, none⟩) n cap) (.slice (some ⟨N, 0, none⟩) 1 1) _ _ (by rfl) (by rfl) hrunH.out ?_
    refine hK.out _ _ (fun _ => hH7.out) ?_
    clear hK K hHeld
    have hHeld := hH7.out
    try simp only [Act.put, List.setIfInBounds_toArray, List.set_cons_zero, List.set_cons_succ]
    refine Zs.pure (i := 16) (oi := ⟨some 50, _, _, _, _, _⟩) (v := ?v16) rfl (by kernel_rfl) (by kernel_rfl) (by kernel_rfl) (by decide) (fun _ _ _ h => h) (Or.inl ⟨by rfl, ?hy16⟩) hHeld ?_
    case hy16 => (intro w hSw; (try dsimp only at hSw); go_simp; try with_reducible rfl)
    simp only [Act.put, List.setIfInBounds_toArray, List.set_cons_zero, List.set_cons_succ]
    refine Zs.pure (i := 17) (oi := ⟨some 51, _, _, _, _, _⟩) (v := ?v17) rfl (by kernel_rfl) (by kernel_rfl) (by kernel_rfl) (by decide) (fun _ _ _ h => h) (Or.inl ⟨by rfl, ?hy17⟩) hHeld ?_
    case hy17 => (intro w hSw; (try dsimp only at hSw); go_simp; try with_reducible rfl)
    simp only [Act.put, List.setIfInBounds_toArray, List.set_cons_zero, List.set_cons_succ]
    refine Zs.one (i := 18) (oi := ⟨none, _, _, _, _, _⟩) (by kernel_rfl) rfl (fun K hK => ?_)
    go_simp
    try rw [hW8]
    refine hK.out _ _ (fun q => absurd q (by decide)) ?_
    clear hK K
    refine Zs.done (by kernel_rfl) ?_ _
    go_wp2_with fail
    go_ret2
    exact ⟨rfl, _, _, fin.out⟩
end Go.Proofs.Ytcikjnifkoagpaa
