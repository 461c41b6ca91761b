/- Contracts of cgroup's note, unnote. -/
import Derived.Test.YtgienkdfodjoiaaGreatGA
import Derived.Test.YtgienkdfodjoiaaGreatShelfD
import Derived.Deep.RegionWith
namespace Go.Proofs.YtgienkdfodjoiaaGreat.Cg
open Go.RowKit Go.Shelf
theorem Gs.nes {w : World} {S : St} (h : Gs w S) : S.bt ≠ S.bh ∧ S.bt ≠ S.bo ∧ S.bt ≠ S.bn ∧ S.bh ≠ S.bo ∧ S.bh ≠ S.bn ∧ S.bo ≠ S.bn ∧ ∀ g ∈ S.l, S.bt ≠ g.blk ∧ S.bh ≠ g.blk ∧ S.bo ≠ g.blk ∧ S.bn ≠ g.blk := by
  have := h.ap
  unfold Bs at this
  simp only [List.pairwise_cons, List.mem_cons, List.mem_map, forall_eq_or_imp, forall_exists_index, and_imp, forall_apply_eq_imp_iff₂] at this
  obtain ⟨⟨a1, a2, a3, a4⟩, ⟨b1, b2, b3⟩, ⟨c1, c2⟩, d1, _⟩ := this
  exact ⟨a1, a2, a3, b1, b2, c1, fun g hg => ⟨a4 g hg, b3 g hg, c2 g hg, d1 g hg⟩⟩
theorem Gs.nbs {w : World} {S : St} (h : Gs w S) {k : Nat} (hk : nb S.nv = some k) : k ≠ S.bt ∧ k ≠ S.bh ∧ k ≠ S.bo ∧ k ≠ S.bn ∧ ∀ g ∈ S.l, k ≠ g.blk := by
  have := h.nbp k hk
  unfold Bs at this
  simp only [List.mem_cons, List.mem_map, not_or, not_exists, not_and] at this
  exact ⟨this.1, this.2.1, this.2.2.1, this.2.2.2.1, fun g hg e => this.2.2.2.2 g hg e.symm⟩
/-- The notes turn. -/
theorem Gs.turnN {w w' : World} {S : St} {E : Nat → Prop} (h : Gs w S) (mv : Mv E w w') (hE : ∀ k, E k → k = S.bt ∨ k = S.bn ∨ nb S.nv = some k) {nv : Value} {ns : List ByteArray} {m c : Nat}
    (c0 : w'.cell? ⟨S.bt, 3, none⟩ = some (.map (some S.bh))) (c1 : w'.cell? ⟨S.bt, 4, none⟩ = some (.map (some S.bo))) (c2 : w'.cell? ⟨S.bt, 5, none⟩ = some nv) (c3 : w'.cell? ⟨S.bt, 6, none⟩ = some (.map (some S.bn))) (fz : ∀ j, w'.frozen? ⟨S.bt, j, none⟩ = false) (cx : ∀ j, (j < 3 ∨ 7 ≤ j) → w'.cell? ⟨S.bt, j, none⟩ = S.x j)
    (hn : MS w' S.bn m (setS ns)) (hm : m ≤ c) (hv : NS w' nv ns) (hb : ∀ k, nb nv = some k → nb S.nv = some k ∨ w.heap.size ≤ k) (hnd : ns.Nodup) (hl : ns.length ≤ c) (hc : S.c ≤ c) :
    Goes S w { S with nv := nv, c := c, ns := ns } w' (c - S.c) := by
  obtain ⟨n1, n2, n3, n4, n5, n6, n7⟩ := h.nes
  obtain ⟨m1, a1, q1⟩ := h.held
  obtain ⟨m2, a2, q2⟩ := h.homes
  have off : ∀ k, k ≠ S.bt → k ≠ S.bn → nb S.nv ≠ some k → ¬ E k := fun k x y z e => by rcases hE k e with q | q | q; exact x q; exact y q; exact z q
  refine ⟨⟨c0, c1, c2, c3, fz, ⟨m1, Nat.le_trans a1 hc, q1.mv mv (off _ n1.symm n5 (fun e => (h.nbs e).2.1 rfl))⟩, ⟨m2, Nat.le_trans a2 hc, q2.mv mv (off _ n2.symm n6 (fun e => (h.nbs e).2.2.1 rfl))⟩, ⟨m, hm, hn⟩, fun g hg => (h.mem g hg).mv mv (off _ (n7 g hg).1.symm (n7 g hg).2.2.2.symm (fun e => (h.nbs e).2.2.2.2 g hg rfl)), hv, h.ap, fun k hk hB => ?_, ⟨h.wf.names, h.wf.nd, h.wf.one, h.wf.rng, h.wf.sz, hnd⟩, fun g hg => Nat.le_trans (h.pl g hg) hc, hl, cx⟩, rfl, rfl, mv.mono (fun k _ e => ?_), fun k hk => ?_, by show c ≤ S.c + (c - S.c); omega⟩
  · rcases hb k hk with q | q
    · exact h.nbp k q hB
    · have := h.lt (S := S) (.inl hB); omega
  · rcases hE k e with q | q | q
    · rw [q]; exact hasT S
    · rw [q]; exact hasN S
    · exact .inr q
  · rcases hk with hk | hk
    · exact .inl (.inl hk)
    · rcases hb k hk with q | q
      · exact .inl (.inr q)
      · exact .inr q
theorem wpList_append_run {P : Program} {w : World} {ops : Array Oper} {rest : List Oper} {o : Oper} {a : Act} {Q : Exit → Act → World → Prop} (hgd : o.guard = none) (s x : Operand) (t : TypeId)
    (ho : o.op = .call { callee := .builtin .append, args := #[s, x], argTypes := #[t, t] }) (v xv v' : Value) (w' : World) (hs : a.eval s = v) (hx : a.eval x = xv)
    (hr : (Builtin.append_ #[t, t] o.type #[v, xv]).run P w = .ok v' w') (h : wpList P ops Q rest (a.put o.dst v') w') : wpList P ops Q (o :: rest) a w := by
  refine wpList_plain hgd fun K hK => ?_
  unfold Oper.wp execOp
  simp only [ho, resolve, invoke, builtin, Sem.run_bind, Sem.run_pure, Result.andThen_ok, List.map_toArray, List.map_cons, List.map_nil, hs, hx, hr]
  exact hK _ _ h
theorem NS.shape {w : World} {v : Value} {xs : List ByteArray} (h : NS w v xs) : ∃ p n c, v = .slice p n c := by
  rcases h with ⟨rfl, rfl⟩ | ⟨g, o, cap, rfl, _⟩
  · exact ⟨_, _, _, rfl⟩
  · exact ⟨_, _, _, rfl⟩
theorem setS_add (ns : List ByteArray) (s x : ByteArray) : (if x = s then some unitV else setS ns x) = setS (ns ++ [s]) x := by
  unfold setS
  by_cases e : x = s
  · subst e
    rw [if_pos rfl, if_pos (inN_iff.2 (by simp))]
  · rw [if_neg e]
    have : inN (ns ++ [s]) x = inN ns x := by
      unfold inN
      rw [List.any_append]
      simp only [List.any_cons, List.any_nil, Bool.or_false]
      rw [decide_eq_false (fun h => e h.symm), Bool.or_false]
    rw [this]
set_option maxRecDepth 100000 in
set_option maxHeartbeats 2000000 in
theorem note_yes (S : St) (s : ByteArray) (w : World) (h : Gs w S) (hs : s.size ≤ 1000) (hin : inN S.ns s = true) :
    Calls Tryz.prog 96 #[.pointer (some ⟨S.bt, 3, none⟩), .string s] w fun e w' => e = .returned (.tuple #[]) ∧ Below w.heap.size w w' := by
  obtain ⟨m, _, hn⟩ := h.noted
  have hh := hasS_any S.bn m _ s w hn hs (setS_u _ _)
  rw [show (setS S.ns s).isSome = true by unfold setS; rw [hin]; rfl] at hh
  have c3 := h.c3
  clear h hn
  go_enter Tryz.func96, Tryz.ntmps96
  go_wp2_with fail
  refine hh.mono ?_
  rintro e w1 ⟨rfl, hb⟩
  go_wp2_with fail
  refine bodyPost_ret (v := .tuple #[]) (by simp [results, Tryz.results96, go_sem]) rfl ?_
  exact ⟨rfl, hb⟩
set_option maxRecDepth 100000 in
set_option maxHeartbeats 2000000 in
theorem note_no (S : St) (s : ByteArray) (w : World) (h : Gs w S) (hs : s.size ≤ 1000) (hin : inN S.ns s = false) (hc : S.c ≤ 900000) :
    Calls Tryz.prog 96 #[.pointer (some ⟨S.bt, 3, none⟩), .string s] w fun e w' => e = .returned (.tuple #[]) ∧ ∃ nv, Goes S w { S with nv := nv, c := S.c + 1, ns := S.ns ++ [s] } w' 1 := by
  obtain ⟨m, hm, hn⟩ := h.noted
  have hsn : setS S.ns s = none := by unfold setS; rw [hin]; rfl
  have hh := hasS_any S.bn m _ s w hn hs (setS_u _ _)
  rw [hsn] at hh
  obtain ⟨n1, n2, n3, n4, n5, n6, n7⟩ := hidP h.nes
  have c3 := h.c3
  have hH := hidP h
  have hnH := hidP hn
  clear h hn
  go_enter Tryz.func96, Tryz.ntmps96
  go_wp2_with fail
  refine hh.mono ?_
  rintro e w1 ⟨rfl, hb⟩
  have c3' := (hH.out.below hb).c3
  have ha := addS_any S.bn m _ s w1 (hnH.out.mv (E := fun _ => False) (Mv.below hb) (fun h => h)) hs (by omega)
  clear hh c3
  go_wp2_with fail
  refine ha.mono ?_
  rintro e w2 ⟨rfl, hn2, mv2⟩
  have mv2' : Mv (fun k => k = S.bn) w w2 := (Mv.below hb).trans' mv2
  have hc2 := mv2'.cell (E := fun k => k = S.bn) (a := ⟨S.bt, 5, none⟩) n3 hH.out.c2
  obtain ⟨W, hW⟩ : ∃ W, w2.alloc (.cells #[.string s] 9) = W := ⟨_, rfl⟩
  have mvW : Mv (fun k => k = S.bn) w W := by rw [← hW]; exact mv2'.trans' (Mv.alloc _ _ _)
  have hsW : W.cell? ⟨w2.heap.size, 0, none⟩ = some (.string s) := by rw [← hW]; exact cell_at rfl rfl
  obtain ⟨v', w4, hrun, hns, mv4, hat⟩ := (hH.out.nts.mv mvW (fun k hk e => (hH.out.nbs hk).2.2.2.1 e)).append (c := 1) hsW (by have := hH.out.nl; omega) 105
  have mv5 : Mv (fun k => k = S.bn ∨ nb S.nv = some k) w w4 := (mvW.mono (fun k _ e => .inl e)).trans' (mv4.mono (fun k _ e => .inr e))
  have hbt : ¬ (S.bt = S.bn ∨ nb S.nv = some S.bt) := by rintro (q | q); exact n3 q; exact (hH.out.nbs q).1 rfl
  have d2 := mv5.cell (a := ⟨S.bt, 5, none⟩) hbt hH.out.c2
  have f2 := (mv5.froz (a := ⟨S.bt, 5, none⟩) hbt (cell_lt hH.out.c2)).trans (hH.out.fz 5)
  have hlt := cell_lt hH.out.c2
  have fin : Hid (Goes S w { S with nv := v', c := S.c + 1, ns := S.ns ++ [s] } (w4.setCell ⟨S.bt, 5, none⟩ v') 1) := by
    have hx : ∀ j, j ≠ 5 → ∀ v, w.cell? ⟨S.bt, j, none⟩ = some v → (w4.setCell ⟨S.bt, 5, none⟩ v').cell? ⟨S.bt, j, none⟩ = some v := fun j hj v hv =>
      (World.cell?_setCell_other _ _ _ _ (by simp; try exact hj)).trans (mv5.cell (a := ⟨S.bt, j, none⟩) hbt hv)
    have hbn : ∀ k, nb v' = some k → nb S.nv = some k ∨ w.heap.size ≤ k := by
      intro k hk
      rcases hat with q | ⟨x, q1, q2⟩
      · exact .inl (q ▸ hk)
      · rw [hk] at q1; cases q1
        exact .inr (Nat.le_trans mvW.size q2)
    have := hH.out.turnN (w' := w4.setCell ⟨S.bt, 5, none⟩ v') (E := fun k => k = S.bt ∨ k = S.bn ∨ nb S.nv = some k) (nv := v') (ns := S.ns ++ [s]) (m := upN (setS S.ns s).isSome m) (c := S.c + 1)
      ((mv5.mono (fun k _ e => .inr e)).setc (p := ⟨S.bt, 5, none⟩) (.inl (.inl rfl)) _) (fun k e => e) (hx 3 (by decide) _ hH.out.c0) (hx 4 (by decide) _ hH.out.c1) (World.cell?_setCell_same' _ _ _ (by rw [d2]; rfl)) (hx 6 (by decide) _ hH.out.c3) (fun j => by rw [World.frozen?_setCell]; exact (mv5.froz (a := ⟨S.bt, j, none⟩) hbt (hH.out.lt (hasT S))).trans (hH.out.fz j)) (fun j hj => (World.cell?_setCell_other _ _ _ _ (by intro e; cases e; omega)).trans ((mv5.cellq (a := ⟨S.bt, j, none⟩) hbt (hH.out.lt (hasT S))).trans (hH.out.cx j hj)))
      (((hn2.mv (E := fun _ => False) (by rw [← hW]; exact Mv.alloc _ _ _) (fun h => h)).mv mv4 (fun q => (hH.out.nbs q).2.2.2.1 rfl)).mv ((Mv.refl (fun k => k = S.bt) _).setc (p := ⟨S.bt, 5, none⟩) (.inl rfl) _) n3.symm |>.cong (fun x => (setS_add _ _ _).symm))
      (by rw [hsn]; show m + 1 ≤ _; omega)
      (hns.mv ((Mv.refl (fun k => k = S.bt) _).setc (p := ⟨S.bt, 5, none⟩) (.inl rfl) _) (fun k hk e => by
        rcases hbn k hk with q | q
        · exact (hH.out.nbs q).1 e
        · have : S.bt < w.heap.size := hlt
          omega))
      hbn (List.nodup_append.2 ⟨hH.out.wf.nn, by simp, fun a qa b qb e => by
        simp at qb; rw [e, qb, ← inN_iff, hin] at qa; cases qa⟩) (by have := hH.out.nl; simp; omega) (by omega)
    exact this.mono (by omega)
  obtain ⟨p', n', cp', rfl⟩ := hns.shape
  clear ha c3' hn2 mv2 mv2' mvW hns mv4 mv5 hat hbt hb hH hnH n1 n2 n3 n4 n5 n6 n7 hlt hsW
  go_wp2_with (first | rw [hW] | (at_builtin; refine wpList_append_run rfl _ _ 105 rfl _ _ _ _ rfl rfl hrun ?_))
  refine bodyPost_end (v := .tuple #[]) (by simp [results, Tryz.results96, go_sem]) rfl ?_
  exact ⟨rfl, _, fin.out⟩
theorem note_any (S : St) (s : ByteArray) (w : World) (h : Gs w S) (hs : s.size ≤ 1000) (hc : S.c ≤ 900000) :
    Calls Tryz.prog 96 #[.pointer (some ⟨S.bt, 3, none⟩), .string s] w fun e w' => e = .returned (.tuple #[]) ∧ ∃ S', Goes S w S' w' 1 ∧ S'.l = S.l ∧ S'.ns = noteP S.ns s := by
  cases hin : inN S.ns s with
  | true =>
    refine (note_yes S s w h hs hin).mono ?_
    rintro e w' ⟨rfl, hb⟩
    exact ⟨rfl, S, (Goes.below h hb).mono (by omega), rfl, by unfold noteP; rw [if_pos hin]⟩
  | false =>
    refine (note_no S s w h hs hin hc).mono ?_
    rintro e w' ⟨rfl, nv, hg⟩
    exact ⟨rfl, _, hg, rfl, by unfold noteP; rw [hin]; rfl⟩
end Go.Proofs.YtgienkdfodjoiaaGreat.Cg
