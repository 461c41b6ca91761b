/- Contracts of cgroup's Gone, Of. -/
import Derived.Test.YtgienkdfodjoiaaGreatGC
namespace Go.Proofs.YtgienkdfodjoiaaGreat.Cg
open Go.RowKit Go.Shelf
/-- Members turn: homes and sets of members. -/
theorem Gs.turnP {w w' : World} {S : St} {E : Nat → Prop} (h : Gs w S) (mv : Mv E w w') (hE : ∀ k, E k → k = S.bo ∨ ∃ g ∈ S.l, k = g.blk) {f : G → G} {m c : Nat} (hf : ∀ g, (f g).name = g.name ∧ (f g).blk = g.blk)
    (ho : MZ w' S.bo m fun a => (hm (S.l.map f) a).map gV) (hmc : m ≤ c) (hme : ∀ g ∈ S.l, MZ w' g.blk (f g).pids.length (setZ (f g).pids)) (hw : Wf (S.l.map f) S.ns) (hpl : ∀ g ∈ S.l, (f g).pids.length ≤ c) (hc : S.c ≤ c) :
    Goes S w { S with c := c, l := S.l.map f } w' (c - S.c) := by
  obtain ⟨n1, n2, n3, n4, n5, n6, n7⟩ := h.nes
  obtain ⟨m1, a1, q1⟩ := h.held
  obtain ⟨m3, a3, q3⟩ := h.noted
  have hB : Bs { S with c := c, l := S.l.map f } = Bs S := by
    unfold Bs
    simp only [List.map_map]
    rw [List.map_congr_left (f := G.blk ∘ f) (g := G.blk) (fun g _ => (hf g).2)]
  have off : ∀ k, k ≠ S.bo → (∀ g ∈ S.l, k ≠ g.blk) → ¬ E k := fun k x y e => by
    rcases hE k e with q | ⟨g, hg, q⟩
    · exact x q
    · exact y g hg q
  have ht := off S.bt n2 (fun g hg => (n7 g hg).1)
  have hfd : ∀ s, (fnd (S.l.map f) s).map gV = (fnd S.l s).map gV := by
    intro s
    rw [fnd_map (fun g => (hf g).1)]
    cases fnd S.l s with
    | none => rfl
    | some g => show some (gV (f g)) = some (gV g); unfold gV; rw [(hf g).1, (hf g).2]
  refine ⟨⟨mv.cell ht h.c0, mv.cell ht h.c1, mv.cell ht h.c2, mv.cell ht h.c3, fun j => (mv.froz (a := ⟨S.bt, j, none⟩) ht (h.lt (hasT S))).trans (h.fz j), ⟨m1, Nat.le_trans a1 hc, (q1.mv mv (off _ n4 (fun g hg => (n7 g hg).2.1))).cong hfd⟩, ⟨m, hmc, ho⟩, ⟨m3, Nat.le_trans a3 hc, q3.mv mv (off _ n6.symm (fun g hg => (n7 g hg).2.2.2))⟩, fun g hg => ?_, h.nts.mv mv (fun k hk => off k (h.nbs hk).2.2.1 (h.nbs hk).2.2.2.2), by rw [hB]; exact h.ap, fun k hk => by rw [hB]; exact h.nbp k hk, hw, fun g hg => ?_, Nat.le_trans h.nl hc, fun j hj => (mv.cellq (a := ⟨S.bt, j, none⟩) ht (h.lt (hasT S))).trans (h.cx j hj)⟩, rfl, rfl, mv.mono (fun k _ e => ?_), fun k hk => ?_, by show c ≤ S.c + (c - S.c); omega⟩
  · obtain ⟨g0, hg0, rfl⟩ := List.mem_map.1 hg
    rw [(hf g0).2]
    exact hme g0 hg0
  · obtain ⟨g0, hg0, rfl⟩ := List.mem_map.1 hg
    exact hpl g0 hg0
  · rcases hE k e with q | ⟨g, hg, q⟩
    · rw [q]; exact hasO S
    · rw [q]; exact hasG hg
  · rcases hk with hk | hk
    · rw [hB] at hk; exact .inl (.inl hk)
    · exact .inl (.inr hk)
theorem Wf.gon {l : Gl} {ns : List ByteArray} (w : Wf l ns) (a : Int) : Wf (gonL l a) ns := by
  unfold gonL
  refine ⟨?_, fun g hg => ?_, fun g hg h hh x hx hy => ?_, fun g hg x hx => ?_, fun g hg => ?_, w.nn⟩
  · exact List.pairwise_map.2 w.names
  · obtain ⟨g0, hg0, rfl⟩ := List.mem_map.1 hg
    exact srt_remI (w.nd g0 hg0)
  · obtain ⟨g0, hg0, rfl⟩ := List.mem_map.1 hg
    obtain ⟨h0, hh0, rfl⟩ := List.mem_map.1 hh
    rw [w.one g0 hg0 h0 hh0 x (mem_remI.1 hx).1 (mem_remI.1 hy).1]
  · obtain ⟨g0, hg0, rfl⟩ := List.mem_map.1 hg
    exact w.rng g0 hg0 x (mem_remI.1 hx).1
  · obtain ⟨g0, hg0, rfl⟩ := List.mem_map.1 hg
    exact w.sz g0 hg0
theorem setZ_rem (l : List Int) (a x : Int) : (if x = a then none else setZ l x) = setZ (remI a l) x := by
  unfold setZ
  by_cases e : x = a
  · rw [if_pos e, if_neg (fun h => (mem_remI.1 h).2 e)]
  · rw [if_neg e]
    by_cases hx : x ∈ l
    · rw [if_pos hx, if_pos (mem_remI.2 ⟨hx, e⟩)]
    · rw [if_neg hx, if_neg (fun h => hx (mem_remI.1 h).1)]
/-- Behind the two deletes. -/
theorem Gs.gone {w w2 w3 : World} {S : St} {g : G} {a : Int} {m : Nat} (h : Gs w S) (hh : hm S.l a = some g) (mv2 : Mv (fun k => k = S.bo) w w2) (ho : MZ w2 S.bo (dnN ((hm S.l a).map gV).isSome m) (fun x => if x = a then none else (hm S.l x).map gV)) (hmc : m ≤ S.c)
    (mv3 : Mv (fun k => k = g.blk) w2 w3) (hg : MZ w3 g.blk (dnN (setZ g.pids a).isSome g.pids.length) (fun x => if x = a then none else setZ g.pids x)) :
    Goes S w { S with l := gonL S.l a } w3 0 := by
  obtain ⟨n1, n2, n3, n4, n5, n6, n7⟩ := h.nes
  have hgl := hm_mem hh
  have hin := hm_in hh
  have mv : Mv (fun k => k = S.bo ∨ k = g.blk) w w3 := (mv2.mono (fun k _ e => .inl e)).trans' (mv3.mono (fun k _ e => .inr e))
  have := h.turnP (w' := w3) mv (fun k e => by rcases e with q | q; exact .inl q; exact .inr ⟨g, hgl, q⟩) (f := fun g => { g with pids := remI a g.pids }) (m := dnN ((hm S.l a).map gV).isSome m) (c := S.c) (fun g => ⟨rfl, rfl⟩)
    ((ho.mv mv3 (n7 g hgl).2.2.1).cong (fun x => by
      show (hm (gonL S.l a) x).map gV = _
      rw [hm_gon]
      by_cases e : x = a
      · rw [if_pos e, if_pos e]; rfl
      · rw [if_neg e, if_neg e]
        cases hm S.l x <;> rfl))
    (by unfold dnN; split <;> omega)
    (fun q hq => by
      by_cases e : q = g
      · subst e
        have : dnN (setZ q.pids a).isSome q.pids.length = (remI a q.pids).length := by
          have := len_remI (h.wf.nd q hq) hin
          unfold dnN setZ
          rw [if_pos hin]
          simp only [Option.isSome_some, if_true]
          omega
        rw [this] at hg
        exact hg.cong (fun x => (setZ_rem _ _ _).symm)
      · have hna : a ∉ q.pids := fun hq2 => e (h.wf.one q hq g hgl a hq2 hin)
        show MZ w3 q.blk (remI a q.pids).length (setZ (remI a q.pids))
        rw [remI_none hna]
        refine (h.mem q hq).mv mv (fun e2 => ?_)
        rcases e2 with e2 | e2
        · exact (n7 q hq).2.2.1 e2.symm
        · have hp := h.ap
          unfold Bs at hp
          have := (List.pairwise_cons.1 (List.pairwise_cons.1 (List.pairwise_cons.1 (List.pairwise_cons.1 hp).2).2).2).2
          rw [List.pairwise_map] at this
          exact e (pair_eq (f := G.blk) this hq hgl e2))
    (h.wf.gon a) (fun q hq => Nat.le_trans (List.length_filter_le _ _) (h.pl q hq)) (Nat.le_refl _)
  exact this.mono (by omega)
set_option maxRecDepth 100000 in
set_option maxHeartbeats 2000000 in
theorem gone_no (S : St) (a : Int) (w : World) (h : Gs w S) (h0 : -9223372036854775808 ≤ a) (h1 : a ≤ 9223372036854775807) (hh : hm S.l a = none) :
    Calls Tryz.prog 68 #[.pointer (some ⟨S.bt, 3, none⟩), .int .i64 a] w fun e w' => e = .returned (.bool false) ∧ Below w.heap.size w w' := by
  obtain ⟨m, hm, ho⟩ := h.homes
  have hlk := ho.look lawZ (t := 104) Tryz.underlying104 (zeroG w) (keyZ h0 h1)
  rw [hh] at hlk
  simp only [Option.map_none, Option.getD_none, Option.isSome_none, gzV] at hlk
  have c1 := h.c1
  clear h hm ho hh
  go_enter Tryz.func68, Tryz.ntmps68
  go_wp2_with fail
  go_ret
  exact ⟨rfl, (Below.refl _ _).alloc (Nat.le_refl _) _⟩
set_option maxRecDepth 100000 in
set_option maxHeartbeats 2000000 in
theorem gone_yes (S : St) (a : Int) (g : G) (w : World) (h : Gs w S) (h0 : -9223372036854775808 ≤ a) (h1 : a ≤ 9223372036854775807) (hh : hm S.l a = some g) (hc : S.c ≤ 900000) :
    Calls Tryz.prog 68 #[.pointer (some ⟨S.bt, 3, none⟩), .int .i64 a] w fun e w' => e = .returned (.bool true) ∧ ∃ S', Goes S w S' w' 1 ∧ S'.l = gonL S.l a ∧ S'.ns = if remI a g.pids = [] then noteP S.ns g.name else S.ns := by
  obtain ⟨N, hN⟩ : ∃ N, (if remI a g.pids = [] then noteP S.ns g.name else S.ns) = N := ⟨_, rfl⟩
  rw [hN]
  have hNH := hidP hN
  clear hN
  obtain ⟨m, hmc, ho⟩ := h.homes
  have hgl := hm_mem hh
  have hlk := ho.look lawZ (t := 104) Tryz.underlying104 (zeroG w) (keyZ h0 h1)
  rw [hh] at hlk
  simp only [Option.map_some, Option.getD_some, Option.isSome_some, gV] at hlk
  have c1 := h.c1
  obtain ⟨W, hW⟩ : ∃ W, w.alloc (.cells #[.string g.name, .map (some g.blk)] 131) = W := ⟨_, rfl⟩
  have hbW : Below w.heap.size w W := by rw [← hW]; exact (Below.refl _ _).alloc (Nat.le_refl _) _
  have c1W := (h.below hbW).c1
  have e0 : W.cell? ⟨w.heap.size, 0, none⟩ = some (.string g.name) := by rw [← hW]; exact cell_at rfl rfl
  have e1 : W.cell? ⟨w.heap.size, 1, none⟩ = some (.map (some g.blk)) := by rw [← hW]; exact cell_at rfl rfl
  obtain ⟨w2, hrun, ho2, mv2⟩ := (ho.mv (E := fun _ => False) (Mv.below hbW) (fun h => h)).drop lawZ (fun _ _ => eZ_inj) (t := 104) Tryz.underlying104 (keyZ h0 h1) 0
  have hol : S.bo < w.heap.size := ho.lt
  have hwne : w.heap.size ≠ S.bo := by omega
  have e0' := mv2.cell hwne e0
  have e1' := mv2.cell hwne e1
  have mv2' : Mv (fun k => k = S.bo) w w2 := (Mv.below hbW).trans' mv2
  have hmem2 := (h.mem g hgl).mv mv2' (h.nes.2.2.2.2.2.2 g hgl).2.2.1.symm
  have hdrop := dropZ_any g.blk _ _ a w2 hmem2 h0 h1
  have hblt : g.blk < w.heap.size := (h.mem g hgl).lt
  have hwnb : w.heap.size ≠ g.blk := by omega
  have hfin : Hid (∀ w3, MZ w3 g.blk (dnN (setZ g.pids a).isSome g.pids.length) (fun x => if x = a then none else setZ g.pids x) → Mv (fun k => k = g.blk) w2 w3 → Goes S w { S with l := gonL S.l a } w3 0) := fun w3 q1 q2 => h.gone hh mv2' ho2 hmc q2 q1
  have hszH : Hid (g.name.size ≤ 1000) := h.wf.sz g hgl
  have hrl : dnN (setZ g.pids a).isSome g.pids.length = (remI a g.pids).length := by
    have := len_remI (h.wf.nd g hgl) (hm_in hh)
    unfold dnN setZ
    rw [if_pos (hm_in hh)]
    simp only [Option.isSome_some, if_true]
    omega
  clear h ho ho2 mv2 mv2' hbW hmem2 hol hblt hh hgl
  go_enter Tryz.func68, Tryz.ntmps68
  go_wp2_with (rw [hW])
  refine hdrop.mono ?_
  rintro e w3 ⟨rfl, hg3, mv3⟩
  have f0 := mv3.cell hwnb e0'
  have f1 := mv3.cell hwnb e1'
  have hG := hidP (hfin.out w3 hg3 mv3)
  have hln := hg3.len (t := 129) Tryz.underlying129 3
  rw [hrl] at hln
  clear hdrop hg3 mv3 hfin e0 e1 e0' e1' c1W c1 hlk hrun hW hwne hwnb
  by_cases hemp : remI a g.pids = []
  · have hNN := hNH.out
    rw [if_pos hemp] at hNN
    have hNNH := hidP hNN
    rw [hemp] at hln
    simp only [List.length_nil] at hln
    have hnote := note_any { S with l := gonL S.l a } g.name w3 hG.out.g hszH.out hc
    go_wp2_with fail
    refine hnote.mono ?_
    rintro e w4 ⟨rfl, S', hg4, hl4, hn4⟩
    have fin := hidP (And.intro (hG.out.trans hg4) (And.intro hl4 hn4))
    clear hnote hg4 hl4 hn4 hG hemp hln hNN
    go_wp2_with fail
    go_ret
    exact ⟨rfl, S', fin.out.1.mono (by omega), fin.out.2.1, fin.out.2.2.trans hNNH.out⟩
  · have hNN := hNH.out
    rw [if_neg hemp] at hNN
    have hNNH := hidP hNN
    clear hNN
    obtain ⟨n, hn⟩ : ∃ n, (remI a g.pids).length = n := ⟨_, rfl⟩
    have hn0 : n ≠ 0 := fun e => hemp (List.eq_nil_of_length_eq_zero (hn.trans e))
    rw [hn] at hln
    have hdd : decide ((n : Int) = 0) = false := by simp; omega
    clear hemp hn hrl
    go_wp2_with fail
    go_ret
    exact ⟨rfl, _, hG.out.mono (by omega), rfl, hNNH.out⟩
theorem gone_any (S : St) (a : Int) (w : World) (h : Gs w S) (h0 : -9223372036854775808 ≤ a) (h1 : a ≤ 9223372036854775807) (hc : S.c ≤ 900000) :
    Calls Tryz.prog 68 #[.pointer (some ⟨S.bt, 3, none⟩), .int .i64 a] w fun e w' => e = .returned (.bool (hm S.l a).isSome) ∧ ∃ S', Goes S w S' w' 1 ∧ S'.l = gonL S.l a ∧ S'.ns = gonN S.l S.ns a := by
  cases hh : hm S.l a with
  | none =>
    refine (gone_no S a w h h0 h1 hh).mono ?_
    rintro e w' ⟨rfl, hb⟩
    refine ⟨rfl, S, (Goes.below h hb).mono (by omega), ?_, by unfold gonN; rw [hh]⟩
    unfold gonL
    rw [List.map_congr_left (g := id) (fun g hg => by show G.mk _ _ _ = _; rw [remI_none (hm_none.1 hh g hg)]; rfl)]
    simp
  | some g =>
    refine (gone_yes S a g w h h0 h1 hh hc).mono ?_
    rintro e w' ⟨rfl, S', q1, q2, q3⟩
    exact ⟨rfl, S', q1, q2, by rw [q3]; unfold gonN; rw [hh]⟩
end Go.Proofs.YtgienkdfodjoiaaGreat.Cg
