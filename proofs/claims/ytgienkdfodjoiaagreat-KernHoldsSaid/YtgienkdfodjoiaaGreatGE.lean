/- Contracts of cgroup's Put, Of. -/
import Derived.Test.YtgienkdfodjoiaaGreatGD
namespace Go.Proofs.YtgienkdfodjoiaaGreat.Cg
open Go.RowKit Go.Shelf
theorem add_name (a : Int) (s : ByteArray) (g : G) : (if g.name = s then { g with pids := insI a g.pids } else g).name = g.name := by split <;> rfl
theorem add_blk (a : Int) (s : ByteArray) (g : G) : (if g.name = s then { g with pids := insI a g.pids } else g).blk = g.blk := by split <;> rfl
theorem mem_add {a x : Int} {s : ByteArray} {g : G} : x ∈ (if g.name = s then { g with pids := insI a g.pids } else g).pids ↔ (x = a ∧ g.name = s) ∨ x ∈ g.pids := by
  by_cases e : g.name = s
  · rw [if_pos e]
    show x ∈ insI a g.pids ↔ _
    rw [mem_insI]
    exact ⟨fun h => h.imp (fun q => ⟨q, e⟩) id, fun h => h.imp (fun q => q.1) id⟩
  · rw [if_neg e]
    exact ⟨.inr, fun h => by rcases h with h | h; exact absurd h.2 e; exact h⟩
theorem Wf.add {l : Gl} {ns : List ByteArray} (w : Wf l ns) {a : Int} (s : ByteArray) (hn : hm l a = none) (h2 : 2 ≤ a) (h3 : a ≤ 9223372036854775807) : Wf (addL l a s) ns := by
  have hno := hm_none.1 hn
  unfold addL
  refine ⟨?_, fun g hg => ?_, fun g hg h hh x hx hy => ?_, fun g hg x hx => ?_, fun g hg => ?_, w.nn⟩
  · rw [List.pairwise_map]
    exact w.names.imp (fun {g h} q => by rw [add_name, add_name]; exact q)
  · obtain ⟨g0, hg0, rfl⟩ := List.mem_map.1 hg
    by_cases e : g0.name = s
    · rw [if_pos e]; exact srt_insI (w.nd g0 hg0) (hno g0 hg0)
    · rw [if_neg e]; exact w.nd g0 hg0
  · obtain ⟨g0, hg0, rfl⟩ := List.mem_map.1 hg
    obtain ⟨h0, hh0, rfl⟩ := List.mem_map.1 hh
    rcases mem_add.1 hx with ⟨rfl, e1⟩ | q1
    · rcases mem_add.1 hy with ⟨_, e2⟩ | q2
      · rw [pair_eq w.names hg0 hh0 (e1.trans e2.symm)]
      · exact absurd q2 (hno h0 hh0)
    · rcases mem_add.1 hy with ⟨rfl, e2⟩ | q2
      · exact absurd q1 (hno g0 hg0)
      · rw [w.one g0 hg0 h0 hh0 x q1 q2]
  · obtain ⟨g0, hg0, rfl⟩ := List.mem_map.1 hg
    rcases mem_add.1 hx with ⟨rfl, _⟩ | q
    · exact ⟨h2, h3⟩
    · exact w.rng g0 hg0 x q
  · obtain ⟨g0, hg0, rfl⟩ := List.mem_map.1 hg
    rw [add_name]; exact w.sz g0 hg0
theorem hm_add {l : Gl} {a : Int} {s : ByteArray} {g : G} (hn : hm l a = none) (hf : fnd l s = some g) (x : Int) : (hm (addL l a s) x).map gV = if x = a then some (gV g) else (hm l x).map gV := by
  have hno := hm_none.1 hn
  have hgv : ∀ q : G, gV (if q.name = s then { q with pids := insI a q.pids } else q) = gV q := fun q => by unfold gV; rw [add_name, add_blk]
  have hmm : ∀ o : Option G, (o.map fun q => if q.name = s then { q with pids := insI a q.pids } else q).map gV = o.map gV := fun o => by
    cases o with
    | none => rfl
    | some q => show some (gV _) = some (gV q); rw [hgv]
  unfold addL
  unfold hm
  rw [List.find?_map, hmm]
  by_cases e : x = a
  · subst e
    rw [if_pos rfl]
    have : l.find? ((fun g => decide (x ∈ g.pids)) ∘ fun q => if q.name = s then { q with pids := insI x q.pids } else q) = fnd l s := find_congr (fun q hq => by
      show decide _ = decide _
      rw [decide_eq_decide, mem_add]
      exact ⟨fun h => by rcases h with h | h; exact h.2; exact absurd h (hno q hq), fun h => .inl ⟨rfl, h⟩⟩)
    rw [this, hf]; rfl
  · rw [if_neg e]
    have : l.find? ((fun g => decide (x ∈ g.pids)) ∘ fun q => if q.name = s then { q with pids := insI a q.pids } else q) = l.find? fun g => decide (x ∈ g.pids) := find_congr (fun q hq => by
      show decide _ = decide _
      rw [decide_eq_decide, mem_add]
      exact ⟨fun h => by rcases h with h | h; exact absurd h.1 e; exact h, .inr⟩)
    rw [this]
theorem setZ_ins (l : List Int) (a x : Int) : (if x = a then some unitV else setZ l x) = setZ (insI a l) x := by
  unfold setZ
  by_cases e : x = a
  · rw [if_pos e, if_pos (mem_insI.2 (.inl e))]
  · rw [if_neg e]
    by_cases hx : x ∈ l
    · rw [if_pos hx, if_pos (mem_insI.2 (.inr hx))]
    · rw [if_neg hx, if_neg (fun h => by rcases mem_insI.1 h with h | h; exact e h; exact hx h)]
theorem Gs.added {w w2 w3 : World} {S : St} {g : G} {a : Int} {s : ByteArray} {m : Nat} (h : Gs w S) (hh : hm S.l a = none) (hf : fnd S.l s = some g) (h2 : 2 ≤ a) (h3 : a ≤ 9223372036854775807) (mv2 : Mv (fun k => k = g.blk) w w2) (hg : MZ w2 g.blk (upN (setZ g.pids a).isSome g.pids.length) (fun x => if x = a then some unitV else setZ g.pids x))
    (mv3 : Mv (fun k => k = S.bo) w2 w3) (ho : MZ w3 S.bo (upN ((hm S.l a).map gV).isSome m) (fun x => if x = a then some (gV g) else (hm S.l x).map gV)) (hmc : m ≤ S.c) :
    Goes S w { S with c := S.c + 1, l := addL S.l a s } w3 1 := by
  obtain ⟨n1, n2, n3, n4, n5, n6, n7⟩ := h.nes
  have hgl := fnd_mem hf
  have hna := hm_none.1 hh g hgl
  have mv : Mv (fun k => k = S.bo ∨ k = g.blk) w w3 := (mv2.mono (fun k _ e => .inr e)).trans' (mv3.mono (fun k _ e => .inl e))
  have := h.turnP (w' := w3) mv (fun k e => by rcases e with q | q; exact .inl q; exact .inr ⟨g, hgl, q⟩) (f := fun g => if g.name = s then { g with pids := insI a g.pids } else g) (m := upN ((hm S.l a).map gV).isSome m) (c := S.c + 1) (fun g => ⟨add_name _ _ _, add_blk _ _ _⟩)
    (ho.cong (fun x => hm_add hh hf x))
    (by unfold upN; split <;> omega)
    (fun q hq => by
      by_cases e : q = g
      · subst e
        rw [if_pos (fnd_name hf)]
        show MZ w3 q.blk (insI a q.pids).length (setZ (insI a q.pids))
        have : upN (setZ q.pids a).isSome q.pids.length = (insI a q.pids).length := by
          rw [len_insI]
          unfold upN setZ
          rw [if_neg hna]
          rfl
        rw [this] at hg
        exact (hg.mv mv3 (n7 q hgl).2.2.1.symm).cong (fun x => (setZ_ins _ _ _).symm)
      · have hns : q.name ≠ s := fun e2 => e (pair_eq h.wf.names hq hgl (e2.trans (fnd_name hf).symm))
        rw [if_neg hns]
        refine (h.mem q hq).mv mv (fun e2 => ?_)
        rcases e2 with e2 | e2
        · exact (n7 q hq).2.2.1 e2.symm
        · have hp := h.ap
          unfold Bs at hp
          have := (List.pairwise_cons.1 (List.pairwise_cons.1 (List.pairwise_cons.1 (List.pairwise_cons.1 hp).2).2).2).2
          rw [List.pairwise_map] at this
          exact e (pair_eq (f := G.blk) this hq hgl e2))
    (h.wf.add s hh h2 h3) (fun q hq => by
      have := h.pl q hq
      split
      · show (insI a q.pids).length ≤ _; rw [len_insI]; omega
      · omega) (by omega)
  exact this.mono (by omega)
/-- What comes of Put. -/
def putE (l : Gl) (a : Int) (s : ByteArray) : Int := if (fnd l s).isSome = true ∧ 2 ≤ a then 0 else 90
def putL (l : Gl) (a : Int) (s : ByteArray) : Gl := match fnd l s with | some g => if 2 ≤ a ∧ a ∉ g.pids then addL (gonL l a) a s else l | none => l
def putN (l : Gl) (ns : List ByteArray) (a : Int) (s : ByteArray) : List ByteArray := match fnd l s with | some g => if 2 ≤ a ∧ a ∉ g.pids then gonN l ns a else ns | none => ns
set_option maxRecDepth 100000 in
set_option maxHeartbeats 2000000 in
theorem put_none (S : St) (a : Int) (s : ByteArray) (w : World) (h : Gs w S) (hs : s.size ≤ 1000) (hf : fnd S.l s = none) :
    Calls Tryz.prog 60 #[.pointer (some ⟨S.bt, 3, none⟩), .int .i64 a, .string s] w fun e w' => e = .returned (.int .i64 90) ∧ Below w.heap.size w w' := by
  obtain ⟨m, hm, ho⟩ := h.held
  have hlk := ho.look lawS (t := 103) Tryz.underlying103 (zeroG w) (keyS hs)
  rw [hf] at hlk
  simp only [Option.map_none, Option.getD_none, Option.isSome_none, gzV] at hlk
  have c0 := h.c0
  clear h hm ho hf
  go_enter Tryz.func60, Tryz.ntmps60
  go_wp2_with fail
  go_ret
  exact ⟨rfl, (Below.refl _ _).alloc (Nat.le_refl _) _⟩
set_option maxRecDepth 100000 in
set_option maxHeartbeats 2000000 in
theorem put_low (S : St) (a : Int) (s : ByteArray) (g : G) (w : World) (h : Gs w S) (hs : s.size ≤ 1000) (hf : fnd S.l s = some g) (ha : a < 2) :
    Calls Tryz.prog 60 #[.pointer (some ⟨S.bt, 3, none⟩), .int .i64 a, .string s] w fun e w' => e = .returned (.int .i64 90) ∧ Below w.heap.size w w' := by
  obtain ⟨m, hm, ho⟩ := h.held
  have hlk := ho.look lawS (t := 103) Tryz.underlying103 (zeroG w) (keyS hs)
  rw [hf] at hlk
  simp only [Option.map_some, Option.getD_some, Option.isSome_some, gV] at hlk
  have c0 := h.c0
  have hd : decide (a < 2) = true := by simp; omega
  clear h hm ho hf
  go_enter Tryz.func60, Tryz.ntmps60
  go_wp2_with fail
  go_ret
  exact ⟨rfl, (Below.refl _ _).alloc (Nat.le_refl _) _⟩
set_option maxRecDepth 100000 in
set_option maxHeartbeats 4000000 in
theorem put_stay (S : St) (a : Int) (s : ByteArray) (g : G) (w : World) (h : Gs w S) (hs : s.size ≤ 1000) (hf : fnd S.l s = some g) (ha : 2 ≤ a) (h1 : a ≤ 9223372036854775807) (hin : a ∈ g.pids) :
    Calls Tryz.prog 60 #[.pointer (some ⟨S.bt, 3, none⟩), .int .i64 a, .string s] w fun e w' => e = .returned (.int .i64 0) ∧ Below w.heap.size w w' := by
  obtain ⟨m, hm, ho⟩ := h.held
  have hgl := fnd_mem hf
  have hlk := ho.look lawS (t := 103) Tryz.underlying103 (zeroG w) (keyS hs)
  rw [hf] at hlk
  simp only [Option.map_some, Option.getD_some, Option.isSome_some, gV] at hlk
  have c0 := h.c0
  have hd : decide (a < 2) = false := by simp; omega
  obtain ⟨W, hW⟩ : ∃ W, w.alloc (.cells #[.string g.name, .map (some g.blk)] 131) = W := ⟨_, rfl⟩
  have hbW : Below w.heap.size w W := by rw [← hW]; exact (Below.refl _ _).alloc (Nat.le_refl _) _
  have e1 : W.cell? ⟨w.heap.size, 1, none⟩ = some (.map (some g.blk)) := by rw [← hW]; exact cell_at rfl rfl
  have hhas := hasZ_any g.blk _ _ a W ((h.mem g hgl).mv (E := fun _ => False) (Mv.below hbW) (fun h => h)) (by omega) h1 (setZ_u _ _)
  rw [show (setZ g.pids a).isSome = true by unfold setZ; rw [if_pos hin]; rfl] at hhas
  have hbH := hidP hbW
  clear h hm ho hf hgl hin hbW
  go_enter Tryz.func60, Tryz.ntmps60
  go_wp2_with (rw [hW])
  refine hhas.mono ?_
  rintro e w1 ⟨rfl, hb1⟩
  have fin := hidP (hbH.out.trans (hb1.mono hbH.out.size))
  clear hb1 hhas
  go_wp2_with fail
  go_ret
  exact ⟨rfl, fin.out⟩
set_option maxRecDepth 100000 in
set_option maxHeartbeats 4000000 in
theorem put_new (S : St) (a : Int) (s : ByteArray) (g : G) (w : World) (h : Gs w S) (hs : s.size ≤ 1000) (hf : fnd S.l s = some g) (ha : 2 ≤ a) (h1 : a ≤ 9223372036854775807) (hin : a ∉ g.pids) (hc : S.c ≤ 800000) :
    Calls Tryz.prog 60 #[.pointer (some ⟨S.bt, 3, none⟩), .int .i64 a, .string s] w fun e w' => e = .returned (.int .i64 0) ∧ ∃ S', Goes S w S' w' 2 ∧ S'.l = addL (gonL S.l a) a s ∧ S'.ns = gonN S.l S.ns a := by
  obtain ⟨m, hm0, ho⟩ := h.held
  have hgl := fnd_mem hf
  have hlk := ho.look lawS (t := 103) Tryz.underlying103 (zeroG w) (keyS hs)
  rw [hf] at hlk
  simp only [Option.map_some, Option.getD_some, Option.isSome_some, gV] at hlk
  have c0 := h.c0
  have hd : decide (a < 2) = false := by simp; omega
  obtain ⟨W, hW⟩ : ∃ W, w.alloc (.cells #[.string g.name, .map (some g.blk)] 131) = W := ⟨_, rfl⟩
  have hbW : Below w.heap.size w W := by rw [← hW]; exact (Below.refl _ _).alloc (Nat.le_refl _) _
  have hsz : w.heap.size < W.heap.size := by rw [← hW]; simp
  have e0 : W.cell? ⟨w.heap.size, 0, none⟩ = some (.string g.name) := by rw [← hW]; exact cell_at rfl rfl
  have e1 : W.cell? ⟨w.heap.size, 1, none⟩ = some (.map (some g.blk)) := by rw [← hW]; exact cell_at rfl rfl
  have hhas := hasZ_any g.blk _ _ a W ((h.mem g hgl).mv (E := fun _ => False) (Mv.below hbW) (fun h => h)) (by omega) h1 (setZ_u _ _)
  rw [show (setZ g.pids a).isSome = false by unfold setZ; rw [if_neg hin]; rfl] at hhas
  have hbH := hidP hbW
  have hH := hidP h
  have hfH := hidP hf
  have hglH := hidP hgl
  have hinH := hidP hin
  have hszH := hidP hsz
  have hnb : Hid (¬ hasB S w.heap.size) := fun q => by have := h.lt q; omega
  clear h hm0 ho hf hgl hin hbW hsz
  go_enter Tryz.func60, Tryz.ntmps60
  go_wp2_with (rw [hW])
  refine hhas.mono ?_
  rintro e w1 ⟨rfl, hb1⟩
  have hb2 : Below w.heap.size w w1 := hbH.out.trans (hb1.mono hbH.out.size)
  have hG1 := (Goes.below hH.out hb2)
  have f0 := (Mv.below (E := fun _ => False) hb1).cell (fun h => h) e0
  have f1 := (Mv.below (E := fun _ => False) hb1).cell (fun h => h) e1
  have hgone := gone_any S a w1 hG1.g (by omega) h1 (by omega)
  have hb1s := hidP (Nat.lt_of_lt_of_le hszH.out hb1.size)
  have hG1H := hidP hG1
  clear hb1 hhas e0 e1 hb2 hG1 hszH hW hlk c0 hbH
  go_wp2_with fail
  refine hgone.mono ?_
  rintro e w2 ⟨rfl, S2, hG2, hl2, hn2⟩
  have hbs := hG2.beside hb1s.out hnb.out
  have g0 : w2.cell? ⟨w.heap.size, 0, none⟩ = some (.string g.name) := (World.cell?_of_block hbs.1).trans f0
  have g1 : w2.cell? ⟨w.heap.size, 1, none⟩ = some (.map (some g.blk)) := (World.cell?_of_block hbs.1).trans f1
  have hgone2 : gonL S.l a = S2.l := hl2.symm
  have hrem : remI a g.pids = g.pids := remI_none hinH.out
  have hf2 : fnd S2.l s = some g := by
    rw [hl2]
    unfold gonL
    rw [fnd_map (f := fun g => { g with pids := remI a g.pids }) (fun _ => rfl), hfH.out]
    show some (G.mk _ _ (remI a g.pids)) = _
    rw [hrem]
  have hh2 : hm S2.l a = none := by rw [hl2, hm_gon, if_pos rfl]
  have hgl2 := fnd_mem hf2
  have hadd := addZ_any g.blk _ _ a w2 (hG2.g.mem _ hgl2) (by omega) h1 (by have := hG2.g.pl _ hgl2; have := hG2.c; omega)
  have hG2H := hidP (hG1H.out.trans hG2)
  have hg2H := hidP hG2.g
  have hf2H := hidP hf2
  have hh2H := hidP hh2
  have hgl2H := hidP hgl2
  have hl2H := hidP hl2
  have hn2H := hidP hn2
  have hbsH := hidP hbs.2
  have hlt2 := hidP (cell_lt g0)
  have hc2 : Hid (S2.c ≤ 900000) := by have := hG2.c; show _ ≤ _; omega
  have hbt : S2.bt = S.bt := hG2.bt
  clear hgone hG2 hbs hgone2 hf2 hrem hh2 hgl2 hl2 hn2 f0 f1 hG1H
  go_wp2_with fail
  refine hadd.mono ?_
  rintro e w3 ⟨rfl, hg3, mv3⟩
  obtain ⟨m, hmc, ho⟩ := hg2H.out.homes
  have hne := hg2H.out.nes
  have hbl : w.heap.size ≠ g.blk := fun q => hbsH.out (q ▸ hasG hgl2H.out)
  have k0 := mv3.cell (a := ⟨w.heap.size, 0, none⟩) hbl g0
  have k1 := mv3.cell (a := ⟨w.heap.size, 1, none⟩) hbl g1
  have kc1 := mv3.cell (a := ⟨S2.bt, 4, none⟩) (hne.2.2.2.2.2.2 _ hgl2H.out).1 hg2H.out.c1
  rw [hbt] at kc1
  obtain ⟨w4, hrun, ho4, mv4⟩ := (((ho.mv mv3 (hne.2.2.2.2.2.2 _ hgl2H.out).2.2.1).mv (Mv.drew (fun _ => False) _) (fun h => h)).store lawZ (fun _ _ => eZ_inj) klZ (t := 104) Tryz.underlying104 (a := a) (keyZ (by omega) h1) (gV g) (by have := hc2.out; unfold maxLen; omega))
  have fin := hidP (hg2H.out.added hh2H.out hf2H.out ha h1 mv3 hg3 ((Mv.drew _ _).trans' mv4) ho4 hmc)
  unfold gV at hrun
  clear hadd hg3 mv3 ho ho4 mv4 hne hbl g0 g1 hg2H hf2H hh2H hgl2H hbsH hlt2 hc2 hbt hmc
  go_wp2_with fail
  go_region
  go_wp2_with fail
  go_ret
  exact ⟨rfl, _, (hG2H.out.trans fin.out).mono (by omega), by show addL S2.l a s = _; rw [hl2H.out], hn2H.out⟩
end Go.Proofs.YtgienkdfodjoiaaGreat.Cg
