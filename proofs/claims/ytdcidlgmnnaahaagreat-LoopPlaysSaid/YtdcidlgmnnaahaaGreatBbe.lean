import Derived.Test.YtdcidlgmnnaahaaGreatBbd
import Derived.Test.YtdcidlgmnnaahaaGreatLKB
/- Forget. -/
namespace Go.Proofs.YtdcidlgmnnaahaaGreat
open Go.RowKit Go.Shelf Go.Lib
attribute [local go_sem] Oper.semAt_some
/-- The unit's timers, its events, are gone. -/
def goneT (u : ByteArray) (T : List Du) : List Du := T.filter fun d => !decide (d.u = u)
def goneL (u : ByteArray) (L : List Wt) : List Wt := L.filter fun x => !decide (x.u = u)
set_option maxRecDepth 100000 in
set_option maxHeartbeats 4000000 in
theorem forget_any {w : World} {lb : Nat} {E : Nat → Prop} {L : List Wt} {n : Nat} {T : List Du} (h : Lo w lb E L n T) (u : ByteArray) :
    Calls Tryz.prog 15 #[lp lb, .string u] w fun e V => e = .returned (.int .i64 (((T.length : Int) - (goneT u T).length) + ((L.length : Int) - (goneL u L).length))) ∧ Lg w lb E (goneL u L) n (goneT u T) V := by
  obtain ⟨N, hN⟩ : ∃ N, w.heap.size = N := ⟨_, rfl⟩
  obtain ⟨W0, hW0⟩ : ∃ W0, w.alloc (.cells #[.string u] 9) = W0 := ⟨_, rfl⟩
  have b0 : Below w.heap.size w W0 := by rw [← hW0]; exact (Below.refl _ _).alloc (Nat.le_refl _) _
  have c0 : W0.cell? ⟨N, 0, none⟩ = some (.string u) := by rw [← hW0]; exact cell_at hN rfl
  have l0 := h.below b0
  have lt0 := h.lt
  have hql : L.length ≤ 200000 := by
    obtain ⟨_, _, _, h1, _⟩ := h
    have := Qu.q h1
    omega
  obtain ⟨mv, c5, f5, tm, sub, fin0⟩ := l0.tm
  obtain ⟨p, rfl⟩ : ∃ p, mv = .map p := by
    rcases tm with ⟨e, _⟩ | ⟨b, e, _⟩
    · exact ⟨_, e⟩
    · exact ⟨_, e⟩
  have hlen0 : (Builtin.len_ #[55] 3 #[.map p]).run Tryz.prog W0 = .ok (.int .i64 T.length) W0 := tm.len 3
  have hT := l0.ts
  have hTl := l0.tlen
  have ne5 : mbk (.map p) ≠ some N := fun e => by have := lt0.1 N (sub N e).1; omega
  have hDel := delf_any tm hT c0 ne5
  have hDel' : Hid (Calls Tryz.prog 32 #[.map p, .func (.func 33) #[] #[.pointer (some ⟨N, 0, none⟩)]] W0 fun e V => e = .returned (.tuple #[]) ∧ Lo V lb E L n (goneT u T) ∧ V.cell? ⟨N, 0, none⟩ = some (.string u) ∧ V.cell? ⟨lb, 5, none⟩ = some (.map p) ∧ TM V (.map p) (goneT u T) ∧ Mv E w V) := by
    refine hDel.mono ?_
    rintro e V ⟨rfl, t', m⟩
    refine ⟨rfl, fin0 V _ t' (hT.filter _) (Nat.le_trans (List.length_filter_le _ _) hTl) m, m.cell (a := ⟨N, 0, none⟩) ne5 c0, m.cell (a := ⟨lb, 5, none⟩) (fun e => (sub lb e).2 rfl) c5, t', (Mv.below b0).trans' (m.mono fun k _ e => (sub k e).1)⟩
  obtain ⟨tn, htn⟩ : ∃ tn, T.length = tn := ⟨_, rfl⟩
  obtain ⟨t1, ht1⟩ : ∃ t1, (goneT u T).length = t1 := ⟨_, rfl⟩
  obtain ⟨ln, hln⟩ : ∃ ln, L.length = ln := ⟨_, rfl⟩
  obtain ⟨l1, hl1⟩ : ∃ l1, (goneL u L).length = l1 := ⟨_, rfl⟩
  have le1 : t1 ≤ tn := by rw [← htn, ← ht1]; exact List.length_filter_le _ _
  have le2 : l1 ≤ ln := by rw [← hln, ← hl1]; exact List.length_filter_le _ _
  rw [htn] at hTl hlen0 ⊢
  rw [hln] at hql ⊢
  rw [ht1, hl1]
  obtain ⟨d1, hd1⟩ : ∃ d1 : Int, (tn : Int) - (t1 : Int) = d1 := ⟨_, rfl⟩
  obtain ⟨d2, hd2⟩ : ∃ d2 : Int, (ln : Int) - (l1 : Int) = d2 := ⟨_, rfl⟩
  obtain ⟨d3, hd3⟩ : ∃ d3 : Int, d1 + d2 = d3 := ⟨_, rfl⟩
  rw [hd1, hd2, hd3]
  have w1 : IntKind.i64.wrap ((tn : Int) - (t1 : Int)) = d1 := by rw [IntKind.wrap_i64]; omega
  have w2 : IntKind.i64.wrap (d1 + d2) = d3 := by rw [IntKind.wrap_i64]; omega
  have hlnH := hidP hln
  have hl1H := hidP hl1
  have hd2H := hidP hd2
  have ht1H := hidP ht1
  have lEH := hidP lt0
  have hNH := hidP hN
  clear h b0 c0 l0 lt0 tm sub fin0 hT hTl ne5 hDel hln hl1 hd1 hd2 hd3 htn ht1 le1 le2 hql f5
  unfold lp at *
  go_enter Tryz.func15, Tryz.ntmps15
  go_wp2_with (rw [hW0])
  refine hDel'.out.mono ?_
  rintro e V1 ⟨rfl, l1', cN, c51, t1', m1⟩
  have hDr0 := dropl_any (l1'.below ((Below.refl V1.heap.size V1).drew)) (br := N) (u := u) cN
  have hS : (V1.drew.cell? ⟨lb, 5, none⟩ = some (.map p)) ∧ (Builtin.len_ #[55] 3 #[.map p]).run Tryz.prog V1.drew = .ok (.int .i64 t1) V1.drew := ⟨c51, by rw [← ht1H.out]; exact (t1'.mv (E := fun _ => False) (Mv.drew _ _) (fun _ _ h => h)).len 3⟩
  have hDr : Hid (Calls Tryz.prog 34 #[.pointer (some ⟨lb, 0, none⟩), .func (.func 35) #[] #[.pointer (some ⟨N, 0, none⟩)]] V1.drew fun e V => e = .returned (.int .i64 d2) ∧ Lg w lb E (goneL u L) n (goneT u T) V ∧ (V.cell? ⟨lb, 5, none⟩ = some (.map p) ∧ (Builtin.len_ #[55] 3 #[.map p]).run Tryz.prog V = .ok (.int .i64 t1) V)) := by
    refine hDr0.mono ?_
    rintro e V ⟨rfl, ⟨E', q1, q2, q3⟩, hv⟩
    obtain ⟨v1, v2⟩ := hv _ c51
    refine ⟨?_, ⟨E', q1, (m1.trans' (Mv.drew _ _)).trans' q2, fun k hk => ?_⟩, v1, by rw [← ht1H.out]; exact v2.len 3⟩
    · have e1 := hlnH.out
      have e2 := hl1H.out
      have e3 := hd2H.out
      unfold goneL at e2
      rw [e1, e2, e3]
    · rcases q3 k hk with s | s
      · exact .inl s
      · have := m1.size
        exact .inr (by have : V1.heap.size ≤ k := s; omega)
  clear hDel' l1' cN c51 t1' m1 hDr0 c5 hlen0 hW0
  go_wp2_with fail
  refine Zs.region (S := fun W => W.cell? ⟨lb, 5, none⟩ = some (.map p) ∧ (Builtin.len_ #[55] 3 #[.map p]).run Tryz.prog W = .ok (.int .i64 t1) W) 13 (by kernel_rfl) ?_
  refine Zs.pure (i := 0) (oi := ⟨some 17, _, _, _, _, _⟩) (v := .int .i64 tn) rfl (by kernel_rfl) (by kernel_rfl) (by kernel_rfl) (by decide) (fun _ _ _ h => h) (Or.inl ⟨by rfl, ?hy0⟩) hS ?_
  case hy0 => (intro w hSw; (try dsimp only at hSw); go_simp; try with_reducible rfl)
  simp only [Act.put, List.setIfInBounds_toArray, List.set_cons_zero, List.set_cons_succ]
  refine Zs.pure (i := 1) (oi := ⟨some 18, _, _, _, _, _⟩) (v := .pointer (some ⟨lb, 0, none⟩)) rfl (by kernel_rfl) (by kernel_rfl) (by kernel_rfl) (by decide) (fun _ _ _ h => h) (Or.inl ⟨by rfl, ?hy1⟩) hS ?_
  case hy1 => (intro w hSw; (try dsimp only at hSw); go_simp; try with_reducible rfl)
  simp only [Act.put, List.setIfInBounds_toArray, List.set_cons_zero, List.set_cons_succ]
  refine Zs.pure (i := 2) (oi := ⟨some 19, _, _, _, _, _⟩) (v := .pointer (some ⟨lb, 0, none⟩)) rfl (by kernel_rfl) (by kernel_rfl) (by kernel_rfl) (by decide) (fun _ _ _ h => h) (Or.inl ⟨by rfl, ?hy2⟩) hS ?_
  case hy2 => (intro w hSw; (try dsimp only at hSw); go_simp; try with_reducible rfl)
  simp only [Act.put, List.setIfInBounds_toArray, List.set_cons_zero, List.set_cons_succ]
  refine Zs.pure (i := 3) (oi := ⟨some 20, _, _, _, _, _⟩) (v := .pointer (some ⟨lb, 5, none⟩)) rfl (by kernel_rfl) (by kernel_rfl) (by kernel_rfl) (by decide) (fun _ _ _ h => h) (Or.inl ⟨by rfl, ?hy3⟩) hS ?_
  case hy3 => (intro w hSw; (try dsimp only at hSw); go_simp; try with_reducible rfl)
  simp only [Act.put, List.setIfInBounds_toArray, List.set_cons_zero, List.set_cons_succ]
  refine Zs.takeC (i := 4) (oi := ⟨some 21, _, _, _, _, _⟩) (v := .map p) 10 rfl (by kernel_rfl) (by kernel_rfl) (by kernel_rfl) (by decide) (by kernel_rfl) (by kernel_rfl) (by kernel_rfl) (fun _ _ _ h => h) (Or.inl ⟨by rfl, ?hy4⟩) hS ?_
  case hy4 => (intro w hSw; (try dsimp only at hSw); go_simp; try with_reducible rfl)
  simp only [Act.put, List.setIfInBounds_toArray, List.set_cons_zero, List.set_cons_succ]
  refine Zs.takeC (i := 5) (oi := ⟨some 22, _, _, _, _, _⟩) (v := .int .i64 t1) 10 rfl (by kernel_rfl) (by kernel_rfl) (by kernel_rfl) (by decide) (by kernel_rfl) (by kernel_rfl) (by kernel_rfl) (fun _ _ _ h => h) (Or.inl ⟨by rfl, ?hy5⟩) hS ?_
  case hy5 => (intro w hSw; (try dsimp only at hSw); go_simp; try with_reducible rfl)
  simp only [Act.put, List.setIfInBounds_toArray, List.set_cons_zero, List.set_cons_succ]
  refine Zs.pure (i := 6) (oi := ⟨some 23, _, _, _, _, _⟩) (v := .int .i64 d1) rfl (by kernel_rfl) (by kernel_rfl) (by kernel_rfl) (by decide) (fun _ _ _ h => h) (Or.inl ⟨by rfl, ?hy6⟩) hS ?_
  case hy6 => (intro w hSw; (try dsimp only at hSw); go_simp; try with_reducible rfl)
  simp only [Act.put, List.setIfInBounds_toArray, List.set_cons_zero, List.set_cons_succ]
  refine Zs.pure (i := 7) (oi := ⟨some 24, _, _, _, _, _⟩) (v := .pointer (some ⟨lb, 0, none⟩)) rfl (by kernel_rfl) (by kernel_rfl) (by kernel_rfl) (by decide) (fun _ _ _ h => h) (Or.inl ⟨by rfl, ?hy7⟩) hS ?_
  case hy7 => (intro w hSw; (try dsimp only at hSw); go_simp; try with_reducible rfl)
  simp only [Act.put, List.setIfInBounds_toArray, List.set_cons_zero, List.set_cons_succ]
  refine Zs.pure (i := 8) (oi := ⟨some 25, _, _, _, _, _⟩) (v := .pointer (some ⟨lb, 0, none⟩)) rfl (by kernel_rfl) (by kernel_rfl) (by kernel_rfl) (by decide) (fun _ _ _ h => h) (Or.inl ⟨by rfl, ?hy8⟩) hS ?_
  case hy8 => (intro w hSw; (try dsimp only at hSw); go_simp; try with_reducible rfl)
  simp only [Act.put, List.setIfInBounds_toArray, List.set_cons_zero, List.set_cons_succ]
  refine Zs.pure (i := 9) (oi := ⟨some 26, _, _, _, _, _⟩) (v := .pointer (some ⟨lb, 0, none⟩)) rfl (by kernel_rfl) (by kernel_rfl) (by kernel_rfl) (by decide) (fun _ _ _ h => h) (Or.inl ⟨by rfl, ?hy9⟩) hS ?_
  case hy9 => (intro w hSw; (try dsimp only at hSw); go_simp; try with_reducible rfl)
  simp only [Act.put, List.setIfInBounds_toArray, List.set_cons_zero, List.set_cons_succ]
  refine Zs.pure (i := 10) (oi := ⟨some 27, _, _, _, _, _⟩) (v := .func (.func 35) #[] #[.pointer (some ⟨N, 0, none⟩)]) rfl (by kernel_rfl) (by kernel_rfl) (by kernel_rfl) (by decide) (fun _ _ _ h => h) (Or.inl ⟨by rfl, ?hy10⟩) hS ?_
  case hy10 => (intro w hSw; (try dsimp only at hSw); go_simp; try with_reducible rfl)
  simp only [Act.put, List.setIfInBounds_toArray, List.set_cons_zero, List.set_cons_succ]
  refine Zs.one (i := 11) (oi := ⟨some 28, _, _, _, _, _⟩) (by kernel_rfl) rfl (fun K hK => ?_)
  go_simp
  refine hDr.out.mono ?_
  rintro e V2 ⟨rfl, hg, hS2⟩
  have hgH := hidP hg
  clear hDr hg
  go_wp2_with fail
  refine hK.out _ _ (fun _ => hS2) ?_
  clear hK K
  try simp only [Act.put, List.setIfInBounds_toArray, List.set_cons_zero, List.set_cons_succ]
  refine Zs.pure (i := 12) (oi := ⟨some 29, _, _, _, _, _⟩) (v := .int .i64 d3) rfl (by kernel_rfl) (by kernel_rfl) (by kernel_rfl) (by decide) (fun _ _ _ h => h) (Or.inl ⟨by rfl, ?hy12⟩) hS2 ?_
  case hy12 => (intro w hSw; (try dsimp only at hSw); go_simp; try with_reducible rfl)
  simp only [Act.put, List.setIfInBounds_toArray, List.set_cons_zero, List.set_cons_succ]
  refine Zs.one (i := 13) (oi := ⟨some 4, _, _, _, _, _⟩) (by kernel_rfl) rfl (fun K hK => ?_)
  go_simp
  refine hK.out _ _ (fun q => absurd q (by decide)) ?_
  clear hK K
  try simp only [Act.put, List.setIfInBounds_toArray, List.set_cons_zero, List.set_cons_succ]
  refine Zs.done (by kernel_rfl) ?_ _
  go_wp2_with fail
  go_ret
  exact ⟨rfl, hgH.out⟩
end Go.Proofs.YtdcidlgmnnaahaaGreat
/- LoopPlays: rows put together; the document's loop, plainly. -/
namespace Go.Proofs.YtdcidlgmnnaahaaGreat.Md
open Go.RowKit Go.Shelf Go.Lib
theorem app_nn (w : World) (p : Option Addr) (c2 : Nat) (ty : TypeId) :
    (Builtin.append_ #[28, 28] ty #[.slice none 0 0, .slice p 0 c2]).run Tryz.prog w = .ok (.slice none 0 0) w := by
  obtain ⟨i0, hi, hz0, hz1, hz2⟩ := infoT
  cases p <;> simp [Builtin.append_, run_underlying Tryz.underlying28, sizeOf, typeInfo, hi, Builtin.lenOf, Builtin.firstCells, loadCells, loadCellsFrom]
/-- append(a, b...). -/
theorem SV.cat {w : World} {v v2 : Value} {l l2 : List Du} (h : SV w v l) (h2 : SV w v2 l2) (hl : l.length ≤ 400000) (hl2 : l2.length ≤ 400000) :
    ∃ v' w', (Builtin.append_ #[28, 28] 28 #[v, v2]).run Tryz.prog w = .ok v' w' ∧ SV w' v' (l ++ l2) ∧ Mv (fun k => Qd.nbk v = some k) w w' ∧ (Qd.nbk v' = Qd.nbk v ∨ ∃ k, Qd.nbk v' = some k ∧ w.heap.size ≤ k) := by
  by_cases e2 : l2 = []
  · subst e2
    obtain ⟨p2, c2, rfl⟩ := h2.shape
    rw [List.append_nil]
    rcases h with ⟨rfl, rfl⟩ | ⟨g, o, c, rfl, h⟩
    · exact ⟨_, w, app_nn w p2 c2 _, .inl ⟨rfl, rfl⟩, Mv.refl _ _, .inl rfl⟩
    · exact ⟨_, w, app_none h p2 c2 _, .inr ⟨g, o, c, rfl, h⟩, Mv.refl _ _, .inl rfl⟩
  · obtain ⟨g2, o2, c2, rfl, r2⟩ := h2.resolve_left (fun z => e2 z.2)
    rcases h with ⟨rfl, rfl⟩ | ⟨g, o, c, rfl, h⟩
    · obtain ⟨g', c', w', hrun, hg, hrs, hb⟩ := app_nil (c2 := c2) r2.ra e2 (by omega) 28
      exact ⟨_, w', hrun, .inr ⟨g', 0, c', rfl, hrs⟩, Mv.below hb, .inr ⟨g', rfl, hg⟩⟩
    · by_cases hroom : l.length + l2.length ≤ c
      · obtain ⟨V', hrun, hrs, hc⟩ := app_room h (c2 := c2) r2.ra hroom 28
        exact ⟨_, V', hrun, .inr ⟨g, o, c, by rw [List.length_append], hrs⟩, hc.mv.mono (fun k _ s => by obtain ⟨j, e, _⟩ := s; subst e; rfl), .inl rfl⟩
      · obtain ⟨g', c', V', hrun, hg, hrs, hb⟩ := app_grow h (c2 := c2) r2.ra (by omega) (by omega) (by omega) 28
        exact ⟨_, V', hrun, .inr ⟨g', 0, c', by rw [List.length_append], hrs⟩, Mv.below hb, .inr ⟨g', rfl, hg⟩⟩
end Go.Proofs.YtdcidlgmnnaahaaGreat.Md
namespace Go.Proofs.YtdcidlgmnnaahaaGreat.Me
open Go.RowKit Go.Shelf Go.Lib
theorem app_nn (w : World) (p : Option Addr) (c2 : Nat) (ty : TypeId) :
    (Builtin.append_ #[27, 27] ty #[.slice none 0 0, .slice p 0 c2]).run Tryz.prog w = .ok (.slice none 0 0) w := by
  obtain ⟨i0, hi, hz0, hz1, hz2⟩ := infoT
  cases p <;> simp [Builtin.append_, run_underlying Tryz.underlying27, sizeOf, typeInfo, hi, Builtin.lenOf, Builtin.firstCells, loadCells, loadCellsFrom]
/-- append(a, b...). -/
theorem SV.cat {w : World} {v v2 : Value} {l l2 : List Wt} (h : SV w v l) (h2 : SV w v2 l2) (hl : l.length ≤ 400000) (hl2 : l2.length ≤ 400000) :
    ∃ v' w', (Builtin.append_ #[27, 27] 27 #[v, v2]).run Tryz.prog w = .ok v' w' ∧ SV w' v' (l ++ l2) ∧ Mv (fun k => Qd.nbk v = some k) w w' ∧ (Qd.nbk v' = Qd.nbk v ∨ ∃ k, Qd.nbk v' = some k ∧ w.heap.size ≤ k) := by
  by_cases e2 : l2 = []
  · subst e2
    obtain ⟨p2, c2, rfl⟩ := h2.shape
    rw [List.append_nil]
    rcases h with ⟨rfl, rfl⟩ | ⟨g, o, c, rfl, h⟩
    · exact ⟨_, w, app_nn w p2 c2 _, .inl ⟨rfl, rfl⟩, Mv.refl _ _, .inl rfl⟩
    · exact ⟨_, w, app_none h p2 c2 _, .inr ⟨g, o, c, rfl, h⟩, Mv.refl _ _, .inl rfl⟩
  · obtain ⟨g2, o2, c2, rfl, r2⟩ := h2.resolve_left (fun z => e2 z.2)
    rcases h with ⟨rfl, rfl⟩ | ⟨g, o, c, rfl, h⟩
    · obtain ⟨g', c', w', hrun, hg, hrs, hb⟩ := app_nil (c2 := c2) r2.ra e2 (by omega) 27
      exact ⟨_, w', hrun, .inr ⟨g', 0, c', rfl, hrs⟩, Mv.below hb, .inr ⟨g', rfl, hg⟩⟩
    · by_cases hroom : l.length + l2.length ≤ c
      · obtain ⟨V', hrun, hrs, hc⟩ := app_room h (c2 := c2) r2.ra hroom 27
        exact ⟨_, V', hrun, .inr ⟨g, o, c, by rw [List.length_append], hrs⟩, hc.mv.mono (fun k _ s => by obtain ⟨j, e, _⟩ := s; subst e; rfl), .inl rfl⟩
      · obtain ⟨g', c', V', hrun, hg, hrs, hb⟩ := app_grow h (c2 := c2) r2.ra (by omega) (by omega) (by omega) 27
        exact ⟨_, V', hrun, .inr ⟨g', 0, c', by rw [List.length_append], hrs⟩, Mv.below hb, .inr ⟨g', rfl, hg⟩⟩
end Go.Proofs.YtdcidlgmnnaahaaGreat.Me
namespace Go.Proofs.YtdcidlgmnnaahaaGreat
theorem insA_at {α : Type} (key : α → Int) (v : α) : ∀ (L : List α) (k : Nat), (∀ y ∈ L.drop k, key v < key y) → (∀ y ∈ L.take k, ¬ key v < key y) → insA key v L = L.take k ++ v :: L.drop k
  | [], k, _, _ => by simp [insA]
  | y :: L, 0, h, _ => by
    have := h y (List.mem_cons_self ..)
    simp [insA, this]
  | y :: L, k + 1, h, g => by
    have h0 : ¬ key v < key y := g y (by simp)
    have ih := insA_at key v L k (fun z hz => h z (by simpa using hz)) (fun z hz => g z (by simp [hz]))
    simp [insA, h0, ih]
theorem take_le {α : Type} (key : α → Int) (v : α) {L : List α} (so : L.Pairwise fun a b => key a ≤ key b) {k : Nat} {x : α} (hx : L[k]? = some x) (h : ¬ key v < key x) : ∀ y ∈ L.take (k + 1), ¬ key v < key y := fun y hy => by
  obtain ⟨i, hi, rfl⟩ := List.mem_iff_getElem.1 hy
  rw [List.length_take] at hi
  rw [List.getElem_take]
  obtain ⟨hk, rfl⟩ := List.getElem?_eq_some_iff.1 hx
  by_cases e : i = k
  · subst e; exact h
  · have := (List.pairwise_iff_getElem.1 so) i k (by omega) hk (by omega)
    omega
theorem insA_in {α : Type} {key : α → Int} {v : α} : ∀ {A : List α} (B : List α), (∃ y ∈ A, key v < key y) → insA key v (A ++ B) = insA key v A ++ B
  | [], _, h => by obtain ⟨y, hy, _⟩ := h; cases hy
  | x :: A, B, h => by
    rw [List.cons_append]
    unfold insA
    by_cases e : key v < key x
    · rw [if_pos e, if_pos e]; rfl
    · rw [if_neg e, if_neg e, insA_in B (by
        obtain ⟨y, hy, hk⟩ := h
        rcases List.mem_cons.1 hy with rfl | hy
        · exact absurd hk e
        · exact ⟨y, hy, hk⟩)]; rfl
theorem insA_end {α : Type} {key : α → Int} {v : α} : ∀ {A : List α}, (∀ y ∈ A, ¬ key v < key y) → insA key v A = A ++ [v]
  | [], _ => rfl
  | x :: A, h => by
    show (if _ then _ else _) = _
    rw [if_neg (h x (List.mem_cons_self ..)), insA_end (fun z hz => h z (List.mem_cons_of_mem _ hz))]; rfl
theorem soon_head (T : List Du) : (soon T).getD 9223372036854775807 = (T.map fun d => d.t).headD 9223372036854775807 := by cases T <;> rfl
/-- By kind, then as they came. -/
def Ks (L : List Wt) : Prop := L.Pairwise fun a b => keyW a ≤ keyW b
theorem keyW_of {x y : Wt} (h : y.n < x.n) : keyW x < keyW y ↔ x.k < y.k := by
  rw [keyW_less]
  constructor
  · rintro (h1 | ⟨h1, h2⟩)
    · exact h1
    · omega
  · exact .inl
theorem keyD_time {a b : Du} (h : keyD a < keyD b) : a.t ≤ b.t := by
  rcases (keyD_less a b).1 h with z | ⟨z, _⟩ <;> omega
/-- T up to the first that isn't due. -/
theorem due_cut {T : List Du} (h : Ts T) {now : Int} {n : Nat} (h1 : ∀ d ∈ T.take n, d.t ≤ now) (h2 : ∀ d, T[n]? = some d → ¬ d.t ≤ now) : T.filter (fun d => decide (d.t ≤ now)) = T.take n ∧ T.filter (fun d => !decide (d.t ≤ now)) = T.drop n := by
  have h3 : ∀ d ∈ T.drop n, ¬ d.t ≤ now := fun d hd => by
    obtain ⟨i, hi, rfl⟩ := List.mem_iff_getElem.1 hd
    rw [List.length_drop] at hi
    rw [List.getElem_drop]
    have hn : n < T.length := by omega
    have g := h2 _ (List.getElem?_eq_getElem hn)
    by_cases e : i = 0
    · subst e; simpa using g
    · have k := (List.pairwise_iff_getElem.1 h.so) n (n + i) hn (by omega) (by omega)
      have := keyD_time k
      omega
  constructor
  · conv => lhs; rw [← List.take_append_drop n T]
    rw [List.filter_append, List.filter_eq_self.2 (fun d hd => by simpa using h1 d hd), List.filter_eq_nil_iff.2 (fun d hd => by simpa using h3 d hd), List.append_nil]
  · conv => lhs; rw [← List.take_append_drop n T]
    rw [List.filter_append, List.filter_eq_nil_iff.2 (fun d hd => by simpa using h1 d hd), List.filter_eq_self.2 (fun d hd => by simpa using h3 d hd), List.nil_append]
theorem delT_app (k : TK) (A B : List Du) : delT k (A ++ B) = delT k A ++ delT k B := List.filter_append ..
theorem take_succ_get {α : Type} {l : List α} {i : Nat} {x : α} (h : l[i]? = some x) : l.take (i + 1) = l.take i ++ [x] := by rw [List.take_add_one, h]; rfl
end Go.Proofs.YtdcidlgmnnaahaaGreat
/- LoopPlays: the loop and the document's, both in memory. -/
namespace Go.Proofs.YtdcidlgmnnaahaaGreat
open Go.RowKit Go.Shelf Go.Lib
/-- From one state of the document's loop to another one. -/
def Rgo (W : World) (rb : Nat) (E : Nat → Prop) (L : List Wt) (T : List Du) (V : World) : Prop := ∃ E', Rl V rb E' L T ∧ Mv E W V ∧ Gr E W E'
theorem Rl.same {W V : World} {rb : Nat} {E : Nat → Prop} {L : List Wt} {T : List Du} (h : Rl W rb E L T) (b : Below W.heap.size W V) : Rgo W rb E L T V :=
  ⟨E, h.mv (F := fun _ => False) (Mv.below b) (fun _ _ f => f), Mv.below b, Gr.refl _ _⟩
/-- Both in memory, apart from what is kept (Pf). -/
def Lp (w : World) (Pf : Nat → Prop) (lb rb : Nat) (L : List Wt) (n : Nat) (T : List Du) (L2 : List Wt) (T2 : List Du) (W : World) : Prop :=
  ∃ E F, Lo W lb E L n T ∧ Rl W rb F L2 T2 ∧ (∀ k, E k → ¬ F k) ∧ (∀ k, E k ∨ F k → w.heap.size ≤ k ∧ ¬ Pf k) ∧ (∀ k, Pf k → k < W.heap.size) ∧ Below w.heap.size w W
section
variable {w : World} {Pf : Nat → Prop} {lb rb : Nat} {L L' : List Wt} {n n' : Nat} {T T' : List Du} {L2 L2' : List Wt} {T2 T2' : List Du} {W V : World}
theorem Lp.b (h : Lp w Pf lb rb L n T L2 T2 W) : Below w.heap.size w W := by
  obtain ⟨E, F, _, _, _, _, _, h⟩ := h
  exact h
theorem Lp.ts (h : Lp w Pf lb rb L n T L2 T2 W) : Ts T := by
  obtain ⟨E, F, h, _⟩ := h
  exact h.ts
theorem Lp.tl (h : Lp w Pf lb rb L n T L2 T2 W) : T.length ≤ 100000 := by
  obtain ⟨E, F, h, _⟩ := h
  exact h.tlen
theorem Lp.nl (h : Lp w Pf lb rb L n T L2 T2 W) : ∀ x ∈ L, x.n < n := by
  obtain ⟨E, F, ⟨_, _, _, _, _, _, _, _, _, h, _⟩, _⟩ := h
  exact h
theorem Lp.code (h : Lp w Pf lb rb L n T L2 T2 W) {f : Nat} {args : Array Value} {R : Ending → World → Prop} (hc : ∀ E, Lo W lb E L n T → Calls Tryz.prog f args W fun e V => R e V ∧ Lg W lb E L' n' T' V) :
    Calls Tryz.prog f args W fun e V => R e V ∧ Lp w Pf lb rb L' n' T' L2 T2 V ∧ Mv (fun k => ¬ Pf k) W V := by
  obtain ⟨E, F, h1, h2, h3, h4, h5, h6⟩ := h
  refine (hc E h1).mono ?_
  rintro e V ⟨hr, E', g1, g2, g3⟩
  have sz := h6.size
  refine ⟨hr, ⟨E', F, g1, h2.mv g2 (fun k f e => h3 k e f), fun k e f => ?_, fun k hk => ?_, fun k p => Nat.lt_of_lt_of_le (h5 k p) g2.size, h6.trans (g2.toBelow h6.size fun k hk e => by have := (h4 k (.inl e)).1; omega)⟩, g2.mono fun k _ e => (h4 k (.inl e)).2⟩
  · rcases g3 k e with s | s
    · exact h3 k s f
    · have := h2.lt f; omega
  · rcases hk with e | f
    · rcases g3 k e with s | s
      · exact h4 k (.inl s)
      · exact ⟨by omega, fun p => by have := h5 k p; omega⟩
    · exact h4 k (.inr f)
theorem Lp.ref (h : Lp w Pf lb rb L n T L2 T2 W) {f : Nat} {args : Array Value} {R : Ending → World → Prop} (hc : ∀ E, Rl W rb E L2 T2 → Calls Tryz.prog f args W fun e V => R e V ∧ Rgo W rb E L2' T2' V) :
    Calls Tryz.prog f args W fun e V => R e V ∧ Lp w Pf lb rb L n T L2' T2' V ∧ Mv (fun k => ¬ Pf k) W V := by
  obtain ⟨E, F, h1, h2, h3, h4, h5, h6⟩ := h
  refine (hc F h2).mono ?_
  rintro e V ⟨hr, F', g1, g2, g3⟩
  have sz := h6.size
  refine ⟨hr, ⟨E, F', h1.mv g2 (fun k e f => h3 k e f), g1, fun k e f => ?_, fun k hk => ?_, fun k p => Nat.lt_of_lt_of_le (h5 k p) g2.size, h6.trans (g2.toBelow h6.size fun k hk e => by have := (h4 k (.inr e)).1; omega)⟩, g2.mono fun k _ e => (h4 k (.inr e)).2⟩
  · rcases g3 k f with s | s
    · exact h3 k e s
    · have := h1.lt.1 k e; omega
  · rcases hk with e | f
    · exact h4 k (.inl e)
    · rcases g3 k f with s | s
      · exact h4 k (.inr s)
      · exact ⟨by omega, fun p => by have := h5 k p; omega⟩
theorem Lp.next {Pf' F : Nat → Prop} (h : Lp w Pf lb rb L n T L2 T2 W) (m : Mv F W V) (hF : ∀ k, F k → Pf k ∧ w.heap.size ≤ k ∨ W.heap.size ≤ k) (hP : ∀ k, Pf' k → Pf k ∨ (W.heap.size ≤ k ∧ k < V.heap.size)) : Lp w Pf' lb rb L n T L2 T2 V := by
  obtain ⟨E, G, h1, h2, h3, h4, h5, h6⟩ := h
  have sz := h6.size
  have nE : ∀ k, E k → ¬ F k := fun k e f => by
    rcases hF k f with z | z
    · exact (h4 k (.inl e)).2 z.1
    · have := h1.lt.1 k e; omega
  have nG : ∀ k, G k → ¬ F k := fun k e f => by
    rcases hF k f with z | z
    · exact (h4 k (.inr e)).2 z.1
    · have := h2.lt e; omega
  refine ⟨E, G, h1.mv m nE, h2.mv m nG, h3, fun k hk => ⟨(h4 k hk).1, fun p => ?_⟩, fun k p => ?_, h6.trans (m.toBelow h6.size fun k hk f => by rcases hF k f with z | z <;> omega)⟩
  · rcases hP k p with z | z
    · exact (h4 k hk).2 z
    · rcases hk with e | e
      · have := h1.lt.1 k e; omega
      · have := h2.lt e; omega
  · rcases hP k p with z | z
    · exact Nat.lt_of_lt_of_le (h5 k z) m.size
    · omega
theorem Lp.below (h : Lp w Pf lb rb L n T L2 T2 W) (b : Below W.heap.size W V) : Lp w Pf lb rb L n T L2 T2 V :=
  h.next (F := fun _ => False) (Mv.below b) (fun _ f => f.elim) (fun _ p => .inl p)
end
end Go.Proofs.YtdcidlgmnnaahaaGreat
