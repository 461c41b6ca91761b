import Derived.Test.YtjcdjkfnmobhkaaGreatBi
import Derived.Test.YtjcdjkfnmobhkaaGreatBr
import Derived.Laws.EntriesVeiled
/- Set on a loop. -/
namespace Go.Proofs.YtjcdjkfnmobhkaaGreat
open Go.RowKit Go.Shelf Go.Lib
attribute [local go_sem] Oper.semAt_some
theorem TM.drop {w : World} {v : Value} {T : List Du} (h : TM w v T) (k : TK) (ty : TypeId) :
    ∃ w', (Builtin.delete_ #[71, 82] ty #[v, kV k]).run Tryz.prog w = .ok (.tuple #[]) w' ∧ TM w' v (delT k T) ∧ Mv (fun k => mbk v = some k) w w' := by
  rcases h with ⟨rfl, rfl⟩ | ⟨b, rfl, h⟩
  · exact ⟨w, Maps.drop_nil lawT Tryz.underlying71 (keyT k) ty, .inl ⟨rfl, rfl⟩, Mv.refl _ _⟩
  · obtain ⟨w', h1, h2, h3⟩ := h.drop Tryz.underlying71 k ty
    exact ⟨w', h1, .inr ⟨b, rfl, h2⟩, h3.mono fun k _ e => by rw [e]; rfl⟩
theorem Lo.tm {W : World} {lb : Nat} {E : Nat → Prop} {L : List Wt} {n : Nat} {T : List Du} (h : Lo W lb E L n T) : ∃ mv, W.cell? ⟨lb, 5, none⟩ = some mv ∧ W.frozen? ⟨lb, 5, none⟩ = false ∧ TM W mv T ∧ (∀ k, mbk mv = some k → E k ∧ k ≠ lb) ∧ ∀ V T', TM V mv T' → Ts T' → T'.length ≤ 100000 → Mv (fun k => mbk mv = some k) W V → Lo V lb E L n T' := by
  obtain ⟨Eq, B, mv, h1, h2, h3, h4, h5, h6, h7, h8⟩ := h
  have x := Qu.xt h1
  have q := (Qu.q h1).1
  refine ⟨mv, x.1 5 (by omega), x.2 5 (by omega), h3, fun k hk => ⟨(h5 k).2 (.inr (.inr hk)), fun e => (h6 k hk).1 (e ▸ q)⟩, fun V T' t1 t2 t3 m => ⟨Eq, B, mv, h1.mv m (fun k hk e => (h6 k e).1 hk) (fun k hk e => (h6 k e).2 hk), fun e => (m.froz (a := ⟨lb, 0, none⟩) (fun e => (h6 lb e).1 q) (h1.lt.1 lb q)).trans (h2 e), t1, t2, h5, h6, h7, t3⟩⟩
/-- A new map. -/
theorem Lo.anew {W V : World} {lb : Nat} {E : Nat → Prop} {L : List Wt} {n : Nat} {T : List Du} (h : Lo W lb E L n T) (hc : W.cell? ⟨lb, 5, none⟩ = some (.map none)) (hV : (W.alloc (.map #[] 0)).setCell ⟨lb, 5, none⟩ (.map (some W.heap.size)) = V) : Lo V lb (fun k => E k ∨ k = W.heap.size) L n T ∧ Mv E W V := by
  have hlt := h.lt
  obtain ⟨Eq, B, mv, h1, h2, h3, h4, h5, h6, h7, h8⟩ := h
  have x := Qu.xt h1
  have q := (Qu.q h1).1
  have hm : mv = .map none := by
    have := x.1 5 (by omega)
    rw [hc] at this
    exact (Option.some.inj this).symm
  subst hm
  have hT : T = [] := by
    rcases h3 with ⟨_, e⟩ | ⟨b, e, _⟩
    · exact e
    · cases e
  subst hT
  have b1 : Below W.heap.size W (W.alloc (.map #[] 0)) := (Below.refl _ _).alloc (Nat.le_refl _) _
  have h1' := h1.mv (D := fun _ => False) (Mv.below b1) (fun _ _ h => h) (fun _ _ h => h)
  obtain ⟨u2, m2⟩ := Qu.setX h1' (j := 5) (by omega) (v0 := .map none) (bcell b1 (hlt.1 lb hlt.2) hc) (.map (some W.heap.size)) (XL n (.map (some W.heap.size))) (fun i hi => by
    unfold nbq XL
    by_cases e : i = 5
    · subst e; simp
    · simp [e])
  rw [hV] at u2 m2
  have ll : ∀ k, Eq k ∨ B k → k < W.heap.size := fun k hk => hlt.1 k ((h5 k).2 (hk.elim .inl (fun e => .inr (.inl e))))
  refine ⟨⟨Eq, B, .map (some W.heap.size), u2, fun e => ?_, .inr ⟨_, rfl, (TMb.made W).mv m2 (fun e => by have := ll lb (.inl q); omega)⟩, h4, fun k => ?_, fun k hk => ?_, h7, h8⟩, (Mv.below b1).trans' (m2.mono fun k _ e => e ▸ hlt.2)⟩
  · rw [← hV, World.frozen?_setCell]
    exact (bfroz b1 (ll lb (.inl q))).trans (h2 e)
  · show (E k ∨ k = W.heap.size) ↔ _
    rw [h5 k]
    constructor
    · rintro ((e | e | e) | e)
      · exact .inl e
      · exact .inr (.inl e)
      · cases e
      · exact .inr (.inr (by rw [e]; rfl))
    · rintro (e | e | e)
      · exact .inl (.inl e)
      · exact .inl (.inr (.inl e))
      · exact .inr (by injection e with e; exact e.symm)
  · injection hk with hk
    subst hk
    exact ⟨fun e => by have := ll _ (.inl e); omega, fun e => by have := ll _ (.inr e); omega⟩
def forever : Int := 9223372036854775807
set_option maxRecDepth 100000 in
set_option maxHeartbeats 4000000 in
theorem setl_never {w : World} {lb : Nat} {E : Nat → Prop} {L : List Wt} {n : Nat} {T : List Du} (h : Lo w lb E L n T) (k : TK) :
    Calls Tryz.prog 13 #[lp lb, .string k.1.1, .string k.1.2, .int .i64 9223372036854775807] w fun e V => e = .returned (.tuple #[]) ∧ Lg w lb E L n (delT k T) V := by
  obtain ⟨N, hN⟩ : ∃ N, w.heap.size = N := ⟨_, rfl⟩
  obtain ⟨W0, hW0⟩ : ∃ W0, w.alloc (.cells #[.string k.1.1, .string k.1.2] 82) = W0 := ⟨_, rfl⟩
  have b0 : Below w.heap.size w W0 := by rw [← hW0]; exact (Below.refl _ _).alloc (Nat.le_refl _) _
  have s0 : W0.heap.size = N + 1 := by rw [← hW0]; simp [hN]
  have bx : W0.cell? ⟨N, 0, none⟩ = some (.string k.1.1) ∧ W0.cell? ⟨N, 1, none⟩ = some (.string k.1.2) := ⟨by rw [← hW0]; exact cell_at hN rfl, by rw [← hW0]; exact cell_at hN rfl⟩
  have lE := h.lt.1
  have b1 : Below w.heap.size w W0.drew := b0.drew
  have h1 := h.below b1
  obtain ⟨mv, c5, f5, tm, sub, fin0⟩ := h1.tm
  obtain ⟨V, hrun, t1, m1⟩ := tm.drop k 0
  have fin : Hid (Lg w lb E L n (delT k T) V) := ⟨E, fin0 V _ t1 (h.ts.del k) (by
    obtain ⟨_, _, _, _, _, _, _, _, _, _, h8⟩ := h
    have := List.length_filter_le (fun d : Du => !decide (d.k = k)) T
    show (List.filter _ T).length ≤ _; omega) m1, (Mv.below b1).trans' (m1.mono fun k _ e => (sub k e).1), Gr.refl _ _⟩
  obtain ⟨u, hu⟩ : ∃ u, k.1.1 = u := ⟨_, rfl⟩
  obtain ⟨x, hx⟩ : ∃ x, k.1.2 = x := ⟨_, rfl⟩
  unfold kV at hrun
  rw [hu, hx] at hrun bx hW0 ⊢
  have hS : (W0.drew.cell? ⟨N, 0, none⟩ = some (.string u) ∧ W0.drew.cell? ⟨N, 1, none⟩ = some (.string x)) ∧ W0.drew.cell? ⟨lb, 5, none⟩ = some mv := ⟨bx, c5⟩
  clear h h1 tm t1 m1 sub fin0 b0 b1 s0 lE hu hx c5 f5
  unfold lp
  go_enter Tryz.func13, Tryz.ntmps13
  go_wp2_with (rw [hW0])
  refine Zs.region (S := fun W => (W.cell? ⟨N, 0, none⟩ = some (.string u) ∧ W.cell? ⟨N, 1, none⟩ = some (.string x)) ∧ W.cell? ⟨lb, 5, none⟩ = some mv) 5 (by kernel_rfl) ?_
  refine Zs.pure (i := 0) (oi := ⟨some 14, _, _, _, _, _⟩) (v := .pointer (some ⟨lb, 0, none⟩)) rfl (by kernel_rfl) (by kernel_rfl) (by kernel_rfl) (by decide) (fun _ _ _ h => h) (Or.inl ⟨by rfl, ?hy0⟩) hS ?_
  case hy0 => (intro w hSw; (try dsimp only at hSw); go_simp; try with_reducible rfl)
  simp only [Act.put, List.setIfInBounds_toArray, List.set_cons_zero, List.set_cons_succ]
  refine Zs.pure (i := 1) (oi := ⟨some 15, _, _, _, _, _⟩) (v := .pointer (some ⟨lb, 0, none⟩)) rfl (by kernel_rfl) (by kernel_rfl) (by kernel_rfl) (by decide) (fun _ _ _ h => h) (Or.inl ⟨by rfl, ?hy1⟩) hS ?_
  case hy1 => (intro w hSw; (try dsimp only at hSw); go_simp; try with_reducible rfl)
  simp only [Act.put, List.setIfInBounds_toArray, List.set_cons_zero, List.set_cons_succ]
  refine Zs.pure (i := 2) (oi := ⟨some 16, _, _, _, _, _⟩) (v := .pointer (some ⟨lb, 5, none⟩)) rfl (by kernel_rfl) (by kernel_rfl) (by kernel_rfl) (by decide) (fun _ _ _ h => h) (Or.inl ⟨by rfl, ?hy2⟩) hS ?_
  case hy2 => (intro w hSw; (try dsimp only at hSw); go_simp; try with_reducible rfl)
  simp only [Act.put, List.setIfInBounds_toArray, List.set_cons_zero, List.set_cons_succ]
  refine Zs.take (i := 3) (oi := ⟨some 17, _, _, _, _, _⟩) (v := mv) rfl (by kernel_rfl) (by kernel_rfl) (by kernel_rfl) (by decide) (by kernel_rfl) (by kernel_rfl) (fun _ _ _ h => h) (Or.inl ⟨by rfl, ?hy3⟩) hS ?_
  case hy3 => (intro w hSw; (try dsimp only at hSw); go_simp; try with_reducible rfl)
  simp only [Act.put, List.setIfInBounds_toArray, List.set_cons_zero, List.set_cons_succ]
  refine Zs.take (i := 4) (oi := ⟨some 18, _, _, _, _, _⟩) (v := .agg #[.string u, .string x]) rfl (by kernel_rfl) (by kernel_rfl) (by kernel_rfl) (by decide) (by kernel_rfl) (by kernel_rfl) (fun _ _ _ h => h) (Or.inl ⟨by rfl, ?hy4⟩) hS ?_
  case hy4 => (intro w hSw; (try dsimp only at hSw); go_simp; try with_reducible rfl)
  simp only [Act.put, List.setIfInBounds_toArray, List.set_cons_zero, List.set_cons_succ]
  refine Zs.one (i := 5) (oi := ⟨none, _, _, _, _, _⟩) (by kernel_rfl) rfl (fun K hK => ?_)
  go_simp
  refine hK.out _ _ (fun q => absurd q (by decide)) ?_
  clear hK K
  try simp only [Act.put, List.setIfInBounds_toArray, List.set_cons_zero, List.set_cons_succ]
  refine Zs.done (by kernel_rfl) ?_ _
  clear hS
  go_wp2_with fail
  refine bodyPost_ret (results_none rfl _ _ _) rfl ?_
  exact ⟨rfl, fin.out⟩
theorem Lo.tlen {w : World} {lb : Nat} {E : Nat → Prop} {L : List Wt} {n : Nat} {T : List Du} (h : Lo w lb E L n T) : T.length ≤ 100000 := by
  obtain ⟨_, _, _, _, _, _, _, _, _, _, h8⟩ := h
  exact h8
theorem setl_fin {w W : World} {lb b : Nat} {E E1 : Nat → Prop} {L : List Wt} {n : Nat} {T : List Du} (h : Lo W lb E1 L n T) (m : Mv E w W) (g : Gr E w E1) (hc : W.cell? ⟨lb, 5, none⟩ = some (.map (some b))) (k : TK) (t : Int) (hl : T.length < 100000) :
    ∃ V, (Instr.mapUpdate 71 (.map (some b)) (kV k) (.int .i64 t)).run Tryz.prog W = .ok () V ∧ Lg w lb E L n (setT k t T) V := by
  obtain ⟨mv, c5, f5, tm, sub, fin0⟩ := h.tm
  rw [hc] at c5
  cases c5
  rcases tm with ⟨e, _⟩ | ⟨b', e, tb⟩
  · cases e
  · cases e
    obtain ⟨V, hrun, t1, m1⟩ := tb.store Tryz.underlying71 k t (by unfold maxLen; omega)
    have hs := setT_len k t T
    have m1' : Mv (fun k => mbk (.map (some b)) = some k) W V := m1.mono fun k _ e => by rw [e]; rfl
    exact ⟨V, hrun, E1, fin0 V _ (.inr ⟨b, rfl, t1⟩) (h.ts.set k t) (by omega) m1', m.trans g (m1'.mono fun k _ e => (sub k e).1), g⟩
set_option maxRecDepth 100000 in
set_option maxHeartbeats 4000000 in
theorem setl_some {w : World} {lb b : Nat} {E : Nat → Prop} {L : List Wt} {n : Nat} {T : List Du} (h : Lo w lb E L n T) (hm : w.cell? ⟨lb, 5, none⟩ = some (.map (some b))) (k : TK) (at_ : Int) (hat : at_ ≠ 9223372036854775807) (hl : T.length < 100000) :
    Calls Tryz.prog 13 #[lp lb, .string k.1.1, .string k.1.2, .int .i64 at_] w fun e V => e = .returned (.tuple #[]) ∧ Lg w lb E L n (setT k at_ T) V := by
  obtain ⟨N, hN⟩ : ∃ N, w.heap.size = N := ⟨_, rfl⟩
  obtain ⟨W0, hW0⟩ : ∃ W0, w.alloc (.cells #[.string k.1.1, .string k.1.2] 82) = W0 := ⟨_, rfl⟩
  have b0 : Below w.heap.size w W0 := by rw [← hW0]; exact (Below.refl _ _).alloc (Nat.le_refl _) _
  have s0 : W0.heap.size = N + 1 := by rw [← hW0]; simp [hN]
  have bx : W0.cell? ⟨N, 0, none⟩ = some (.string k.1.1) ∧ W0.cell? ⟨N, 1, none⟩ = some (.string k.1.2) := ⟨by rw [← hW0]; exact cell_at hN rfl, by rw [← hW0]; exact cell_at hN rfl⟩
  have lE := h.lt.1
  have b1 : Below w.heap.size w W0.drew := b0.drew
  have h1 := h.below b1
  have c5 : W0.cell? ⟨lb, 5, none⟩ = some (.map (some b)) := bcell b0 (lE lb h.lt.2) hm
  obtain ⟨V, hrun, fin'⟩ := setl_fin h1 (Mv.below b1) (Gr.refl _ _) c5 k at_ hl
  have fin := hidP fin'
  obtain ⟨u, hu⟩ : ∃ u, k.1.1 = u := ⟨_, rfl⟩
  obtain ⟨x, hx⟩ : ∃ x, k.1.2 = x := ⟨_, rfl⟩
  unfold kV at hrun
  rw [hu, hx] at hrun bx hW0 ⊢
  have hS : (W0.drew.cell? ⟨N, 0, none⟩ = some (.string u) ∧ W0.drew.cell? ⟨N, 1, none⟩ = some (.string x)) ∧ W0.drew.cell? ⟨lb, 5, none⟩ = some (.map (some b)) := ⟨bx, c5⟩
  have heq : ∀ w, (binOp .eql 71 (.map (some b)) (.map none)).run Tryz.prog w = .ok (.bool false) w := fun w => by first | kernel_rfl | rfl
  clear h h1 b0 b1 s0 lE hu hx hm fin' hl
  unfold lp
  go_enter Tryz.func13, Tryz.ntmps13
  go_wp2_with (rw [hW0])
  refine Zs.region (S := fun W => (W.cell? ⟨N, 0, none⟩ = some (.string u) ∧ W.cell? ⟨N, 1, none⟩ = some (.string x)) ∧ W.cell? ⟨lb, 5, none⟩ = some (.map (some b))) 6 (by kernel_rfl) ?_
  refine Zs.pure (i := 0) (oi := ⟨some 28, _, _, _, _, _⟩) (v := .pointer (some ⟨lb, 0, none⟩)) rfl (by kernel_rfl) (by kernel_rfl) (by kernel_rfl) (by decide) (fun _ _ _ h => h) (Or.inl ⟨by rfl, ?hy0⟩) hS ?_
  case hy0 => (intro w hSw; (try dsimp only at hSw); go_simp; try with_reducible rfl)
  simp only [Act.put, List.setIfInBounds_toArray, List.set_cons_zero, List.set_cons_succ]
  refine Zs.pure (i := 1) (oi := ⟨some 29, _, _, _, _, _⟩) (v := .pointer (some ⟨lb, 0, none⟩)) rfl (by kernel_rfl) (by kernel_rfl) (by kernel_rfl) (by decide) (fun _ _ _ h => h) (Or.inl ⟨by rfl, ?hy1⟩) hS ?_
  case hy1 => (intro w hSw; (try dsimp only at hSw); go_simp; try with_reducible rfl)
  simp only [Act.put, List.setIfInBounds_toArray, List.set_cons_zero, List.set_cons_succ]
  refine Zs.pure (i := 2) (oi := ⟨some 30, _, _, _, _, _⟩) (v := .pointer (some ⟨lb, 5, none⟩)) rfl (by kernel_rfl) (by kernel_rfl) (by kernel_rfl) (by decide) (fun _ _ _ h => h) (Or.inl ⟨by rfl, ?hy2⟩) hS ?_
  case hy2 => (intro w hSw; (try dsimp only at hSw); go_simp; try with_reducible rfl)
  simp only [Act.put, List.setIfInBounds_toArray, List.set_cons_zero, List.set_cons_succ]
  refine Zs.take (i := 3) (oi := ⟨some 31, _, _, _, _, _⟩) (v := .map (some b)) rfl (by kernel_rfl) (by kernel_rfl) (by kernel_rfl) (by decide) (by kernel_rfl) (by kernel_rfl) (fun _ _ _ h => h) (Or.inl ⟨by rfl, ?hy3⟩) hS ?_
  case hy3 => (intro w hSw; (try dsimp only at hSw); go_simp; try with_reducible rfl)
  simp only [Act.put, List.setIfInBounds_toArray, List.set_cons_zero, List.set_cons_succ]
  refine Zs.take (i := 4) (oi := ⟨some 32, _, _, _, _, _⟩) (v := .agg #[.string u, .string x]) rfl (by kernel_rfl) (by kernel_rfl) (by kernel_rfl) (by decide) (by kernel_rfl) (by kernel_rfl) (fun _ _ _ h => h) (Or.inl ⟨by rfl, ?hy4⟩) hS ?_
  case hy4 => (intro w hSw; (try dsimp only at hSw); go_simp; try with_reducible rfl)
  simp only [Act.put, List.setIfInBounds_toArray, List.set_cons_zero, List.set_cons_succ]
  refine Zs.pure (i := 5) (oi := ⟨some 33, _, _, _, _, _⟩) (v := .int .i64 at_) rfl (by kernel_rfl) (by kernel_rfl) (by kernel_rfl) (by decide) (fun _ _ _ h => h) (Or.inl ⟨by rfl, ?hy5⟩) hS ?_
  case hy5 => (intro w hSw; (try dsimp only at hSw); go_simp; try with_reducible rfl)
  simp only [Act.put, List.setIfInBounds_toArray, List.set_cons_zero, List.set_cons_succ]
  refine Zs.one (i := 6) (oi := ⟨none, _, _, _, _, _⟩) (by kernel_rfl) rfl (fun K hK => ?_)
  go_simp
  refine hK.out _ _ (fun q => absurd q (by decide)) ?_
  clear hK K
  try simp only [Act.put, List.setIfInBounds_toArray, List.set_cons_zero, List.set_cons_succ]
  refine Zs.done (by kernel_rfl) ?_ _
  clear hS
  go_wp2_with fail
  go_end0
  exact ⟨rfl, fin.out⟩
set_option maxRecDepth 100000 in
set_option maxHeartbeats 4000000 in
theorem setl_nil {w : World} {lb : Nat} {E : Nat → Prop} {L : List Wt} {n : Nat} {T : List Du} (h : Lo w lb E L n T) (hm : w.cell? ⟨lb, 5, none⟩ = some (.map none)) (k : TK) (at_ : Int) (hat : at_ ≠ 9223372036854775807) (hl : T.length < 100000) :
    Calls Tryz.prog 13 #[lp lb, .string k.1.1, .string k.1.2, .int .i64 at_] w fun e V => e = .returned (.tuple #[]) ∧ Lg w lb E L n (setT k at_ T) V := by
  obtain ⟨N, hN⟩ : ∃ N, w.heap.size = N := ⟨_, rfl⟩
  obtain ⟨W0, hW0⟩ : ∃ W0, w.alloc (.cells #[.string k.1.1, .string k.1.2] 82) = W0 := ⟨_, rfl⟩
  have b0 : Below w.heap.size w W0 := by rw [← hW0]; exact (Below.refl _ _).alloc (Nat.le_refl _) _
  have s0 : W0.heap.size = N + 1 := by rw [← hW0]; simp [hN]
  have bx : W0.cell? ⟨N, 0, none⟩ = some (.string k.1.1) ∧ W0.cell? ⟨N, 1, none⟩ = some (.string k.1.2) := ⟨by rw [← hW0]; exact cell_at hN rfl, by rw [← hW0]; exact cell_at hN rfl⟩
  have lE := h.lt.1
  have h0 := h.below b0
  have llb := lE lb h.lt.2
  have c5 : W0.cell? ⟨lb, 5, none⟩ = some (.map none) := bcell b0 llb hm
  have f5 : W0.frozen? ⟨lb, 5, none⟩ = false := by obtain ⟨mv, _, f5, _⟩ := h0.tm; exact f5
  obtain ⟨A, hA⟩ : ∃ A, W0.alloc (.map #[] 0) = A := ⟨_, rfl⟩
  obtain ⟨W1, hW1⟩ : ∃ W1, A.setCell ⟨lb, 5, none⟩ (.map (some W0.heap.size)) = W1 := ⟨_, rfl⟩
  have bA : Below W0.heap.size W0 A := by rw [← hA]; exact (Below.refl _ _).alloc (Nat.le_refl _) _
  have a5 : A.cell? ⟨lb, 5, none⟩ = some (.map none) := bcell bA (by omega) c5
  have af5 : A.frozen? ⟨lb, 5, none⟩ = false := (bfroz bA (by omega)).trans f5
  obtain ⟨l1, m1⟩ := h0.anew (V := W1) c5 (by rw [hA, hW1])
  have l1d := l1.mv (D := fun _ => False) (Mv.drew _ W1) (fun _ _ h => h)
  obtain ⟨b, hb⟩ : ∃ b, W0.heap.size = b := ⟨_, rfl⟩
  rw [hb] at hW1 l1d
  have d5 : W1.drew.cell? ⟨lb, 5, none⟩ = some (.map (some b)) := by show W1.cell? _ = _; rw [← hW1]; exact World.cell?_setCell_same _ _ _ a5
  have mw : Mv E w W1.drew := ((Mv.below b0).trans' m1).trans' (Mv.drew _ _)
  obtain ⟨V, hrun, fin'⟩ := setl_fin l1d mw (fun k hk => hk.imp id (fun e => by have := b0.size; omega)) d5 k at_ hl
  have fin := hidP fin'
  obtain ⟨u, hu⟩ : ∃ u, k.1.1 = u := ⟨_, rfl⟩
  obtain ⟨x, hx⟩ : ∃ x, k.1.2 = x := ⟨_, rfl⟩
  unfold kV at hrun
  rw [hu, hx] at hrun bx hW0 ⊢
  have nl : lb ≠ N := by omega
  have hS : (W1.drew.cell? ⟨N, 0, none⟩ = some (.string u) ∧ W1.drew.cell? ⟨N, 1, none⟩ = some (.string x)) ∧ W1.drew.cell? ⟨lb, 5, none⟩ = some (.map (some b)) := by
    have f : ∀ {j : Nat} {v : Value}, W0.cell? ⟨N, j, none⟩ = some v → W1.drew.cell? ⟨N, j, none⟩ = some v := fun {j v} c => by
      show W1.cell? _ = _
      rw [← hW1]
      exact (World.cell?_setCell_other _ _ _ _ (by first | (simp; omega) | simp)).trans (bcell bA (by omega) c)
    exact ⟨⟨f bx.1, f bx.2⟩, d5⟩
  have hbH := hidP hb
  have hmm : (Instr.makeMap 71 none).run Tryz.prog W0 = .ok (.map (some b)) A := by
    have := run_makeMap (P := Tryz.prog) 71 W0
    rw [hb, hA] at this
    exact this
  have heq : ∀ w, (binOp .eql 71 (.map none) (.map none)).run Tryz.prog w = .ok (.bool true) w := fun w => by first | kernel_rfl | rfl
  clear h h0 b0 s0 lE hu hx hm fin' hl l1 m1 l1d mw bA llb hb hA
  unfold lp
  go_enter Tryz.func13, Tryz.ntmps13
  go_wp2_with (first | rw [hW0] | rw [hW1])
  refine Zs.region (S := fun W => (W.cell? ⟨N, 0, none⟩ = some (.string u) ∧ W.cell? ⟨N, 1, none⟩ = some (.string x)) ∧ W.cell? ⟨lb, 5, none⟩ = some (.map (some b))) 6 (by kernel_rfl) ?_
  refine Zs.pure (i := 0) (oi := ⟨some 28, _, _, _, _, _⟩) (v := .pointer (some ⟨lb, 0, none⟩)) rfl (by kernel_rfl) (by kernel_rfl) (by kernel_rfl) (by decide) (fun _ _ _ h => h) (Or.inl ⟨by rfl, ?hy0⟩) hS ?_
  case hy0 => (intro w hSw; (try dsimp only at hSw); go_simp; try with_reducible rfl)
  simp only [Act.put, List.setIfInBounds_toArray, List.set_cons_zero, List.set_cons_succ]
  refine Zs.pure (i := 1) (oi := ⟨some 29, _, _, _, _, _⟩) (v := .pointer (some ⟨lb, 0, none⟩)) rfl (by kernel_rfl) (by kernel_rfl) (by kernel_rfl) (by decide) (fun _ _ _ h => h) (Or.inl ⟨by rfl, ?hy1⟩) hS ?_
  case hy1 => (intro w hSw; (try dsimp only at hSw); go_simp; try with_reducible rfl)
  simp only [Act.put, List.setIfInBounds_toArray, List.set_cons_zero, List.set_cons_succ]
  refine Zs.pure (i := 2) (oi := ⟨some 30, _, _, _, _, _⟩) (v := .pointer (some ⟨lb, 5, none⟩)) rfl (by kernel_rfl) (by kernel_rfl) (by kernel_rfl) (by decide) (fun _ _ _ h => h) (Or.inl ⟨by rfl, ?hy2⟩) hS ?_
  case hy2 => (intro w hSw; (try dsimp only at hSw); go_simp; try with_reducible rfl)
  simp only [Act.put, List.setIfInBounds_toArray, List.set_cons_zero, List.set_cons_succ]
  refine Zs.take (i := 3) (oi := ⟨some 31, _, _, _, _, _⟩) (v := .map (some b)) rfl (by kernel_rfl) (by kernel_rfl) (by kernel_rfl) (by decide) (by kernel_rfl) (by kernel_rfl) (fun _ _ _ h => h) (Or.inl ⟨by rfl, ?hy3⟩) hS ?_
  case hy3 => (intro w hSw; (try dsimp only at hSw); go_simp; try with_reducible rfl)
  simp only [Act.put, List.setIfInBounds_toArray, List.set_cons_zero, List.set_cons_succ]
  refine Zs.take (i := 4) (oi := ⟨some 32, _, _, _, _, _⟩) (v := .agg #[.string u, .string x]) rfl (by kernel_rfl) (by kernel_rfl) (by kernel_rfl) (by decide) (by kernel_rfl) (by kernel_rfl) (fun _ _ _ h => h) (Or.inl ⟨by rfl, ?hy4⟩) hS ?_
  case hy4 => (intro w hSw; (try dsimp only at hSw); go_simp; try with_reducible rfl)
  simp only [Act.put, List.setIfInBounds_toArray, List.set_cons_zero, List.set_cons_succ]
  refine Zs.pure (i := 5) (oi := ⟨some 33, _, _, _, _, _⟩) (v := .int .i64 at_) rfl (by kernel_rfl) (by kernel_rfl) (by kernel_rfl) (by decide) (fun _ _ _ h => h) (Or.inl ⟨by rfl, ?hy5⟩) hS ?_
  case hy5 => (intro w hSw; (try dsimp only at hSw); go_simp; try with_reducible rfl)
  simp only [Act.put, List.setIfInBounds_toArray, List.set_cons_zero, List.set_cons_succ]
  refine Zs.one (i := 6) (oi := ⟨none, _, _, _, _, _⟩) (by kernel_rfl) rfl (fun K hK => ?_)
  go_simp
  refine hK.out _ _ (fun q => absurd q (by decide)) ?_
  clear hK K
  try simp only [Act.put, List.setIfInBounds_toArray, List.set_cons_zero, List.set_cons_succ]
  refine Zs.done (by kernel_rfl) ?_ _
  clear hS
  go_wp2_with fail
  go_end0
  exact ⟨rfl, fin.out⟩
theorem setl_any {w : World} {lb : Nat} {E : Nat → Prop} {L : List Wt} {n : Nat} {T : List Du} (h : Lo w lb E L n T) (k : TK) (at_ : Int) (hat : at_ ≠ 9223372036854775807) (hl : T.length < 100000) :
    Calls Tryz.prog 13 #[lp lb, .string k.1.1, .string k.1.2, .int .i64 at_] w fun e V => e = .returned (.tuple #[]) ∧ Lg w lb E L n (setT k at_ T) V := by
  obtain ⟨mv, c5, f5, tm, _⟩ := h.tm
  rcases tm with ⟨rfl, _⟩ | ⟨b, rfl, _⟩
  · exact setl_nil h c5 k at_ hat hl
  · exact setl_some h c5 k at_ hat hl
end Go.Proofs.YtjcdjkfnmobhkaaGreat
/- Going through the map of timers; the queue of those that are due. -/
namespace Go.Proofs.YtjcdjkfnmobhkaaGreat
open Go.RowKit Go.Shelf Go.Lib
attribute [local go_sem] Oper.semAt_some
/-- A going through the map v of the timers T that lies in block r: who is left, how many at most. -/
def Rg (W : World) (r : Nat) (v : Value) (T : List Du) (left : Lit → Bool) (cnt : Nat) : Prop :=
  (v = .map none ∧ T = [] ∧ cnt = 0 ∧ ∃ a s b, W.heap[r]? = some (.mapIter none a s b)) ∨
  ∃ b n l, v = .map (some b) ∧ W.ranges Tryz.prog 82 heldElem b r n (.map l) left cnt ∧ l.Perm (T.map entT)
def mr (r : Nat) (v : Value) (W : World) : Nat := match v with
  | .map (some b) => W.rangeLeft b r
  | _ => 0
theorem Rg.mr {W : World} {r : Nat} {v : Value} {T : List Du} {left : Lit → Bool} {cnt : Nat} (h : Rg W r v T left cnt) : YtjcdjkfnmobhkaaGreat.mr r v W = cnt := by
  rcases h with ⟨rfl, _, rfl, _⟩ | ⟨b, n, l, rfl, h, _⟩
  · rfl
  · exact h.left_eq
theorem Rg.lt {W : World} {r : Nat} {v : Value} {T : List Du} {left : Lit → Bool} {cnt : Nat} (h : Rg W r v T left cnt) : r < W.heap.size := by
  rcases h with ⟨rfl, _, rfl, a, s, b, h⟩ | ⟨b, n, l, rfl, h, _⟩
  · exact (Array.getElem?_eq_some_iff.1 h).1
  · exact h.lt
theorem Rg.mv {W V : World} {r : Nat} {v : Value} {T : List Du} {left : Lit → Bool} {cnt : Nat} {E : Nat → Prop} (h : Rg W r v T left cnt) (m : Mv E W V) (hr : ¬ E r) (hv : ∀ k, mbk v = some k → ¬ E k) : Rg V r v T left cnt := by
  have lt := h.lt
  rcases h with ⟨rfl, h1, h2, a, s, b, h⟩ | ⟨b, n, l, rfl, h, h1⟩
  · exact .inl ⟨rfl, h1, h2, a, s, b, (m.block r lt hr).trans h⟩
  · exact .inr ⟨b, n, l, rfl, ranges_mv h m (hv b rfl) hr, h1⟩
theorem run_next_nil {W : World} {r a b : Nat} {s : Array Nat} (h : W.heap[r]? = some (.mapIter none a s b)) (ty : TypeId) : (Instr.next (.pointer (some ⟨r, 0, none⟩)) false ty).run Tryz.prog W = .ok (.tuple #[.bool false]) W := by
  simp only [Instr.next, getObj, Sem.run_bind, Sem.run, h, Result.andThen]
  rfl
set_option maxRecDepth 100000 in
theorem Rg.next {W : World} {r : Nat} {v : Value} {T : List Du} {left : Lit → Bool} {cnt : Nat} (h : Rg W r v T left cnt) (hT : Ts T) (ty : TypeId) :
    ((∀ d ∈ T, left (eT d.k) = false) ∧ (Instr.next (.pointer (some ⟨r, 0, none⟩)) false ty).run Tryz.prog W = .ok (.tuple #[.bool false]) W) ∨
    ∃ d ∈ T, left (eT d.k) = true ∧ ∃ W' cnt', (Instr.next (.pointer (some ⟨r, 0, none⟩)) false ty).run Tryz.prog W = .ok (.tuple #[.bool true, kV d.k, .int .i64 d.t]) W' ∧ (Instr.entry (.pointer (some ⟨r, 0, none⟩))).run Tryz.prog W' = .ok (.tuple #[kV d.k, .int .i64 d.t]) W' ∧
      Rg W' r v T (fun z => left z && !z.sameKey (eT d.k)) cnt' ∧ cnt' < cnt ∧ Mv (fun k => k = r) W W' ∧ W'.heap.size = W.heap.size := by
  rcases h with ⟨rfl, rfl, rfl, a, s, b, h⟩ | ⟨b, n, l, rfl, h, hp⟩
  · exact .inl ⟨(fun _ h => by cases h), run_next_nil h ty⟩
  · rcases h.next lawT ty with ⟨_, hl, hrun⟩ | ⟨key, v, kl, y, w', cnt', hkey, hlk, hv, hat, hrun, hrg, hlt, hgr, hsz, hen⟩
    · exact .inl ⟨fun d _ => hl _, hrun⟩
    · have hh := Maps.has_true_of_atKey hat
      rw [Maps.has_eq] at hh
      obtain ⟨p, hpl, hs⟩ := List.any_eq_true.1 hh
      obtain ⟨d, hd, rfl⟩ := mem_ent hp hpl
      have ek : kl = eT d.k := (WideAt.sameKey_eq hs).symm
      subst ek
      have hz := hat (.held (.int .i64 0))
      rw [at_lk hT hp, lk_some hT hd] at hz
      have hy : y = (.held v, []) := (Option.some.inj hv).symm
      rw [hy] at hz
      have ev : v = .int .i64 d.t := by injection hz with hz; exact hz.symm
      subst ev
      have e2 : key = kV d.k := lawT.inj hkey (keyT d.k)
      subst e2
      exact .inr ⟨d, hd, hlk, w', cnt', hrun, hen, .inr ⟨b, n, l, rfl, hrg, hp⟩, hlt, (Mv.refl _ _).grown hgr (fun k e => .inl (by cases e; rfl)), hsz⟩
theorem TM.range {w : World} {v : Value} {T : List Du} (h : TM w v T) (hT : Ts T) : ∃ w' left cnt, (Instr.range 71 v).run Tryz.prog w = .ok (.pointer (some ⟨w.heap.size, 0, none⟩)) w' ∧ Rg w' w.heap.size v T left cnt ∧ (∀ d ∈ T, left (eT d.k) = true) ∧ cnt ≤ T.length ∧ Below w.heap.size w w' ∧ w'.heap.size = w.heap.size + 1 := by
  rcases h with ⟨rfl, rfl⟩ | ⟨b, rfl, l, h, hp⟩
  · refine ⟨_, fun _ => false, 0, run_range_nilMap w _ _ _ Tryz.underlying71, .inl ⟨rfl, rfl, rfl, _, _, _, heap_alloc_new w _⟩, (fun _ h => by cases h), Nat.le_refl _, (Below.refl _ _).alloc (Nat.le_refl _) _, by simp⟩
  · obtain ⟨w', hrun, hr, hg, hs⟩ := h.range lawT Tryz.underlying71
    refine ⟨w', _, _, hrun, .inr ⟨b, _, l, rfl, hr, hp⟩, fun d hd => ?_, ?_, ?_, hs⟩
    · rw [has_lk hT hp, lk_some hT hd]; rfl
    · rw [Maps.size_eq, hp.length_eq, List.length_map]; exact Nat.le_refl _
    · exact ((Mv.refl (fun _ => False) w).grown hg (fun k e => by cases e)).toBelow (Nat.le_refl _) (fun _ _ h => h)
def nbD : NB := ⟨55, fun _ => none, .func (.func 55) #[] #[]⟩
theorem bfDue : Qd.Bf nbD keyD := bfD _
/-- How far the timers that are due were put in their order: p tells which of those that are due are in it. -/
def DL (now : Int) (T : List Du) (mv : Value) (N : Nat) (V : World) (q r : Nat) (left : Lit → Bool) (p : Du → Prop) (cnt bd : Nat) (wr : World) : Prop :=
  ∃ L2 n Eq B, Qd.Qu nbD keyD wr q Eq B L2 n ∧ (∀ d, d ∈ L2 ↔ (d ∈ T ∧ d.t ≤ now ∧ p d)) ∧ So keyD L2 ∧ Rg wr r mv T left cnt ∧ n + bd ≤ T.length ∧ Below N V wr ∧ (∀ k, Eq k ∨ B k → q ≤ k ∧ k ≠ r)
theorem DL.mv {now : Int} {T : List Du} {mv : Value} {N : Nat} {V : World} {q r : Nat} {left : Lit → Bool} {p : Du → Prop} {cnt bd : Nat} {w w' : World} (h : DL now T mv N V q r left p cnt bd w) (m : Below w.heap.size w w') (hN : N ≤ w.heap.size) : DL now T mv N V q r left p cnt bd w' := by
  obtain ⟨L2, n, Eq, B, h1, h2, h3, h4, h5, h6, h7⟩ := h
  exact ⟨L2, n, Eq, B, h1.mv (D := fun _ => False) (Mv.below m) (fun _ _ h => h) (fun _ _ h => h), h2, h3, h4.mv (E := fun _ => False) (Mv.below m) (fun h => h) (fun _ _ h => h), h5, h6.trans (m.mono hN), h7⟩
theorem DL.next {now : Int} {T : List Du} (hT : Ts T) {mv : Value} {N : Nat} {V : World} {q r : Nat} {left : Lit → Bool} {cnt : Nat} {w : World} (h : DL now T mv N V q r left (fun d => left (eT d.k) = false) cnt cnt w) (hv : ∀ k, mbk mv = some k → k < q) (hq : N ≤ q) (hr : N ≤ r) (ty : TypeId) :
    ((Instr.next (.pointer (some ⟨r, 0, none⟩)) false ty).run Tryz.prog w = .ok (.tuple #[.bool false]) w ∧ ∃ n Eq B, Qd.Qu nbD keyD w q Eq B (T.filter fun d => decide (d.t ≤ now)) n ∧ Below N V w ∧ (∀ k, Eq k ∨ B k → q ≤ k)) ∨
    ∃ d ∈ T, ∃ W' cnt', (Instr.next (.pointer (some ⟨r, 0, none⟩)) false ty).run Tryz.prog w = .ok (.tuple #[.bool true, kV d.k, .int .i64 d.t]) W' ∧ (Instr.entry (.pointer (some ⟨r, 0, none⟩))).run Tryz.prog W' = .ok (.tuple #[kV d.k, .int .i64 d.t]) W' ∧ W'.heap.size = w.heap.size ∧ cnt' < cnt ∧ Mv (fun k => k = r) w W' ∧
      DL now T mv N V q r (fun z => left z && !z.sameKey (eT d.k)) (fun x => left (eT x.k) = false) cnt' (cnt' + 1) W' ∧ (∀ x ∈ T, (left (eT x.k) && !(eT x.k).sameKey (eT d.k)) = false ↔ (left (eT x.k) = false ∨ x = d)) ∧ left (eT d.k) = true := by
  obtain ⟨L2, n, Eq, B, h1, h2, h3, h4, h5, h6, h7⟩ := h
  have lts : q < w.heap.size := h1.lt.1 q (by obtain ⟨_, _, _, _, _, _, _, _, _, a6⟩ := h1; exact (a6 q).2 (.inl rfl))
  rcases h4.next hT ty with ⟨hl, hrun⟩ | ⟨d, hd, hl, W', cnt', hrun, hen, hrg, hlt, hm, hsz⟩
  · refine .inl ⟨hrun, n, Eq, B, ?_, h6, fun k hk => (h7 k hk).1⟩
    have e : L2 = T.filter fun d => decide (d.t ≤ now) := by
      refine So.eq h3 (hT.so.filter _) fun x => ?_
      rw [h2 x, List.mem_filter, decide_eq_true_iff]
      exact ⟨fun z => ⟨z.1, z.2.1⟩, fun z => ⟨z.1, z.2, hl x z.1⟩⟩
    rw [← e]; exact h1
  · have nr : ∀ k, mbk mv = some k → k ≠ r := fun k hk e => by
      rcases h4 with ⟨rfl, _⟩ | ⟨b, n, l, rfl, hrg4, _⟩
      · cases hk
      · injection hk with hk
        exact hrg4.ne (e.symm.trans hk.symm)
    refine .inr ⟨d, hd, W', cnt', hrun, hen, hsz, hlt, hm, ⟨L2, n, Eq, B, h1.mv hm (fun k hk e => (h7 k (.inl hk)).2 e) (fun k hk e => (h7 k (.inr hk)).2 e), h2, h3, hrg, by omega, h6.trans (hm.toBelow (by omega) (fun k hk e => by omega)), h7⟩, fun x hx => ?_, hl⟩
    by_cases e : x = d
    · subst e
      simp [WideAt.sameKey_self (klT _)]
    · have : (eT x.k).sameKey (eT d.k) = false := Maps.sameKey_ne fun z => e (hT.one hx hd (eT_inj z))
      rw [this]; simp [e]
/-- One that isn't due. -/
theorem DL.skip {now : Int} {T : List Du} {mv : Value} {N : Nat} {V : World} {q r : Nat} {left left' : Lit → Bool} {cnt : Nat} {w : World} {d : Du} (h : DL now T mv N V q r left' (fun x => left (eT x.k) = false) cnt (cnt + 1) w) (hd : ¬ d.t ≤ now) (hl : ∀ x ∈ T, left' (eT x.k) = false ↔ (left (eT x.k) = false ∨ x = d)) : DL now T mv N V q r left' (fun x => left' (eT x.k) = false) cnt cnt w := by
  obtain ⟨L2, n, Eq, B, h1, h2, h3, h4, h5, h6, h7⟩ := h
  refine ⟨L2, n, Eq, B, h1, fun x => ?_, h3, h4, by omega, h6, h7⟩
  rw [h2 x]
  constructor
  · rintro ⟨a, b, c⟩
    exact ⟨a, b, (hl x a).2 (.inl c)⟩
  · rintro ⟨a, b, c⟩
    rcases (hl x a).1 c with z | z
    · exact ⟨a, b, z⟩
    · subst z; exact absurd b hd
/-- One that is due. -/
theorem DL.push {now : Int} {T : List Du} {mv : Value} {N : Nat} {V : World} {q r : Nat} {left left' : Lit → Bool} {cnt : Nat} {w : World} {d : Du} (h : DL now T mv N V q r left' (fun x => left (eT x.k) = false) cnt (cnt + 1) w) (hdT : d ∈ T) (hd : d.t ≤ now) (hl : ∀ x ∈ T, left' (eT x.k) = false ↔ (left (eT x.k) = false ∨ x = d)) (hl0 : left (eT d.k) = true) (hT : T.length ≤ 100000) (hv : ∀ k, mbk mv = some k → k < q) (hq : N ≤ q) :
    Calls Tryz.prog 56 #[Qd.qp q, Qd.ev d] w fun e W => e = .returned (.tuple #[]) ∧ DL now T mv N V q r left' (fun x => left' (eT x.k) = false) cnt cnt W ∧ w.heap.size ≤ W.heap.size := by
  obtain ⟨L2, n, Eq, B, h1, h2, h3, h4, h5, h6, h7⟩ := h
  refine (Qd.push_any bfDue h1 (by omega) d).mono ?_
  rintro e W ⟨rfl, E', B', u1, m, g, gb⟩
  have lr := h4.lt
  have lqq : q < w.heap.size := h1.lt.1 q (by obtain ⟨_, _, _, _, _, _, _, _, _, a6⟩ := h1; exact (a6 q).2 (.inl rfl))
  have nd : d ∉ L2 := fun z => by have : left (eT d.k) = false := ((h2 d).1 z).2.2; rw [hl0] at this; cases this
  refine ⟨rfl, ⟨insA keyD d L2, n + 1, E', B', u1, fun x => ?_, h3.ins (fun y hy e => nd (keyD_inj e ▸ hy)), h4.mv m (fun e => (h7 r (.inl e)).2 rfl) (fun k hk e => by have := (h7 k (.inl e)).1; have := hv k hk; omega), by omega, h6.trans (m.toBelow (by omega) (fun k hk e => by have := (h7 k (.inl e)).1; omega)), fun k hk => ?_⟩, m.size⟩
  · rw [insA_mem, h2 x]
    constructor
    · rintro (z | ⟨a, b, c⟩)
      · subst z; exact ⟨hdT, hd, (hl x hdT).2 (.inr rfl)⟩
      · exact ⟨a, b, (hl x a).2 (.inl c)⟩
    · rintro ⟨a, b, c⟩
      rcases (hl x a).1 c with z | z
      · exact .inr ⟨a, b, z⟩
      · exact .inl z
  · have lq := h1.lt
    rcases hk with e | e
    · rcases g k e with s | s
      · exact h7 k (.inl s)
      · have := (h7 q (.inl (by obtain ⟨_, _, _, _, _, _, _, _, _, a6⟩ := h1; exact (a6 q).2 (.inl rfl)))).1
        have : q < w.heap.size := lq.1 q (by obtain ⟨_, _, _, _, _, _, _, _, _, a6⟩ := h1; exact (a6 q).2 (.inl rfl))
        exact ⟨by omega, by omega⟩
    · rcases gb k e with s | s
      · exact h7 k (.inr s)
      · have : q < w.heap.size := lq.1 q (by obtain ⟨_, _, _, _, _, _, _, _, _, a6⟩ := h1; exact (a6 q).2 (.inl rfl))
        exact ⟨by omega, by omega⟩
end Go.Proofs.YtjcdjkfnmobhkaaGreat
