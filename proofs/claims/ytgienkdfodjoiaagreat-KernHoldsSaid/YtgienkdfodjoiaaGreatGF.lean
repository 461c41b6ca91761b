/- Contracts of cgroup's Put whole, New, Make, Of. -/
import Derived.Test.YtgienkdfodjoiaaGreatGE
namespace Go.Proofs.YtgienkdfodjoiaaGreat.Cg
open Go.RowKit Go.Shelf
theorem put_any (S : St) (a : Int) (s : ByteArray) (w : World) (h : Gs w S) (hs : s.size ≤ 1000) (h1 : a ≤ 9223372036854775807) (hc : S.c ≤ 800000) :
    Calls Tryz.prog 60 #[.pointer (some ⟨S.bt, 3, none⟩), .int .i64 a, .string s] w fun e w' => e = .returned (.int .i64 (putE S.l a s)) ∧ ∃ S', Goes S w S' w' 2 ∧ S'.l = putL S.l a s ∧ S'.ns = putN S.l S.ns a s := by
  unfold putE putL putN
  cases hf : fnd S.l s with
  | none =>
    refine (put_none S a s w h hs hf).mono ?_
    rintro e w' ⟨rfl, hb⟩
    exact ⟨rfl, S, (Goes.below h hb).mono (by omega), rfl, rfl⟩
  | some g =>
    rcases Int.lt_or_le a 2 with ha | ha
    · refine (put_low S a s g w h hs hf ha).mono ?_
      rintro e w' ⟨rfl, hb⟩
      refine ⟨?_, S, (Goes.below h hb).mono (by omega), ?_, ?_⟩
      · rw [if_neg (fun q => by have := q.2; omega)]
      · show _ = if _ then _ else _
        rw [if_neg (fun q => by have := q.1; omega)]
      · show _ = if _ then _ else _
        rw [if_neg (fun q => by have := q.1; omega)]
    · by_cases hin : a ∈ g.pids
      · refine (put_stay S a s g w h hs hf ha h1 hin).mono ?_
        rintro e w' ⟨rfl, hb⟩
        refine ⟨?_, S, (Goes.below h hb).mono (by omega), ?_, ?_⟩
        · rw [if_pos ⟨rfl, ha⟩]
        · show _ = if _ then _ else _
          rw [if_neg (fun q => q.2 hin)]
        · show _ = if _ then _ else _
          rw [if_neg (fun q => q.2 hin)]
      · refine (put_new S a s g w h hs hf ha h1 hin hc).mono ?_
        rintro e w' ⟨rfl, S', q1, q2, q3⟩
        refine ⟨?_, S', q1, ?_, ?_⟩
        · rw [if_pos ⟨rfl, ha⟩]
        · show _ = if _ then _ else _
          rw [if_pos ⟨ha, hin⟩]; exact q2
        · show _ = if _ then _ else _
          rw [if_pos ⟨ha, hin⟩]; exact q3
set_option maxRecDepth 100000 in
set_option maxHeartbeats 1000000 in
theorem new_any (w : World) :
    Calls Tryz.prog 52 #[] w fun e w' => e = .returned (.pointer (some ⟨w.heap.size + 3, 0, none⟩)) ∧ w' = ((((w.alloc (.map #[] 0)).alloc (.map #[] 0)).alloc (.map #[] 0)).alloc (.cells #[.map (some w.heap.size), .map (some (w.heap.size + 1)), .slice none 0 0, .map (some (w.heap.size + 2))] 109)) := by
  have hmm := @run_makeMap Tryz.prog
  go_enter Tryz.func52, Tryz.ntmps52
  go_wp2_with fail
  go_ret
  exact ⟨rfl, rfl⟩
/-- Groups come and go. -/
theorem Gs.turnH {w w' : World} {S : St} {E : Nat → Prop} (h : Gs w S) (mv : Mv E w w') (hE : ∀ k, E k → k = S.bh) {l : Gl} {m c : Nat}
    (hh : MS w' S.bh m fun s => (fnd l s).map gV) (hmc : m ≤ c) (hho : ∀ a, hm l a = hm S.l a) (hme : ∀ g ∈ l, g ∈ S.l ∨ (w.heap.size ≤ g.blk ∧ g.pids = [] ∧ MZ w' g.blk 0 (setZ []))) (hp : (l.map G.blk).Pairwise (· ≠ ·)) (hw : Wf l S.ns) (hc : S.c ≤ c) :
    Goes S w { S with c := c, l := l } w' (c - S.c) := by
  obtain ⟨n1, n2, n3, n4, n5, n6, n7⟩ := h.nes
  obtain ⟨m1, a1, q1⟩ := h.homes
  obtain ⟨m3, a3, q3⟩ := h.noted
  have off : ∀ k, k ≠ S.bh → ¬ E k := fun k x e => x (hE k e)
  have ht := off S.bt n1
  have fresh : ∀ k, hasB S k → k < w.heap.size := fun k hk => h.lt hk
  have hnew : ∀ g ∈ l, ∀ k ∈ [S.bt, S.bh, S.bo, S.bn], k ≠ g.blk := by
    intro g hg k hk
    rcases hme g hg with q | q
    · have := n7 g q
      simp only [List.mem_cons, List.not_mem_nil, or_false] at hk
      rcases hk with rfl | rfl | rfl | rfl
      · exact this.1
      · exact this.2.1
      · exact this.2.2.1
      · exact this.2.2.2
    · have : k < w.heap.size := fresh k (.inl (by unfold Bs; simp only [List.mem_cons, List.not_mem_nil, or_false] at hk ⊢; rcases hk with q | q | q | q <;> simp [q]))
      omega
  refine ⟨⟨mv.cell ht h.c0, mv.cell ht h.c1, mv.cell ht h.c2, mv.cell ht h.c3, fun j => (mv.froz (a := ⟨S.bt, j, none⟩) ht (h.lt (hasT S))).trans (h.fz j), ⟨m, hmc, hh⟩, ⟨m1, Nat.le_trans a1 hc, (q1.mv mv (off _ n4.symm)).cong (fun a => by show (hm l a).map gV = _; rw [hho])⟩, ⟨m3, Nat.le_trans a3 hc, q3.mv mv (off _ n5.symm)⟩, fun g hg => ?_, h.nts.mv mv (fun k hk => off k (h.nbs hk).2.1), ?_, fun k hk hB => ?_, hw, fun g hg => ?_, Nat.le_trans h.nl hc, fun j hj => (mv.cellq (a := ⟨S.bt, j, none⟩) ht (h.lt (hasT S))).trans (h.cx j hj)⟩, rfl, rfl, mv.mono (fun k _ e => by rw [hE k e]; exact hasH S), fun k hk => ?_, by show c ≤ S.c + (c - S.c); omega⟩
  · rcases hme g hg with q | ⟨_, q2, q3⟩
    · exact (h.mem g q).mv mv (off _ (n7 g q).2.1.symm)
    · rw [q2]; exact q3
  · show (S.bt :: S.bh :: S.bo :: S.bn :: l.map G.blk).Pairwise (· ≠ ·)
    simp only [List.pairwise_cons, List.mem_cons, List.mem_map, forall_eq_or_imp, forall_exists_index, and_imp, forall_apply_eq_imp_iff₂]
    exact ⟨⟨n1, n2, n3, fun g hg => hnew g hg _ (by simp)⟩, ⟨n4, n5, fun g hg => hnew g hg _ (by simp)⟩, ⟨n6, fun g hg => hnew g hg _ (by simp)⟩, fun g hg => hnew g hg _ (by simp), hp⟩
  · have hlt := h.nts.lt hk
    have := h.nbs hk
    have hB' : k ∈ S.bt :: S.bh :: S.bo :: S.bn :: l.map G.blk := hB
    simp only [List.mem_cons, List.mem_map] at hB'
    rcases hB' with q | q | q | q | ⟨g, hg, q⟩
    · exact this.1 q
    · exact this.2.1 q
    · exact this.2.2.1 q
    · exact this.2.2.2.1 q
    · rcases hme g hg with r | r
      · exact this.2.2.2.2 g r q.symm
      · omega
  · rcases hme g hg with q | ⟨_, q2, _⟩
    · exact Nat.le_trans (h.pl g q) hc
    · rw [q2]; simp
  · rcases hk with hk | hk
    · have hk' : k ∈ S.bt :: S.bh :: S.bo :: S.bn :: l.map G.blk := hk
      simp only [List.mem_cons, List.mem_map] at hk'
      rcases hk' with q | q | q | q | ⟨g, hg, q⟩
      · exact .inl (q ▸ hasT S)
      · exact .inl (q ▸ hasH S)
      · exact .inl (q ▸ hasO S)
      · exact .inl (q ▸ hasN S)
      · rcases hme g hg with r | r
        · exact .inl (q ▸ hasG r)
        · exact .inr (q ▸ r.1)
    · exact .inl (.inr hk)
theorem Wf.ins {l : Gl} {ns : List ByteArray} (w : Wf l ns) {g : G} (hn : fnd l g.name = none) (hp : g.pids = []) (hs : g.name.size ≤ 1000) : Wf (insG g l) ns := by
  refine ⟨((insG_perm g l).pairwise_iff (fun {a b} (h : a.name ≠ b.name) => h.symm)).2 (List.pairwise_cons.2 ⟨fun q hq => (fnd_none.1 hn q hq).symm, w.names⟩), fun q hq => ?_, fun q hq r hr x hx hy => ?_, fun q hq x hx => ?_, fun q hq => ?_, w.nn⟩
  · rcases mem_insG.1 hq with rfl | hq
    · rw [hp]; exact List.Pairwise.nil
    · exact w.nd q hq
  · rcases mem_insG.1 hq with rfl | hq
    · rw [hp] at hx; simp at hx
    · rcases mem_insG.1 hr with rfl | hr
      · rw [hp] at hy; simp at hy
      · exact w.one q hq r hr x hx hy
  · rcases mem_insG.1 hq with rfl | hq
    · rw [hp] at hx; simp at hx
    · exact w.rng q hq x hx
  · rcases mem_insG.1 hq with rfl | hq
    · exact hs
    · exact w.sz q hq
end Go.Proofs.YtgienkdfodjoiaaGreat.Cg
