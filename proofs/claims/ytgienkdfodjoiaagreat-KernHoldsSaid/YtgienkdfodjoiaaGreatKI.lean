/- KernHolds, plain: who lives is a member of its own group, and of no other one. -/
import Derived.Test.YtgienkdfodjoiaaGreatKQ
namespace Go.Proofs.YtgienkdfodjoiaaGreat
open Go.RowKit Go.Shelf
structure Iv (p : Pl) : Prop where
  a : ∀ q ∈ p.l, q.zom = false → ∃ x ∈ p.gl, x.name = q.grp ∧ q.pid ∈ x.pids
  b : ∀ x ∈ p.gl, ∀ i ∈ x.pids, ∃ q ∈ p.l, q.pid = i ∧ q.zom = false ∧ q.grp = x.name
theorem Iv.map {p : Pl} (h : Iv p) {f : Pc.Pr → Pc.Pr} (h1 : ∀ q, (f q).pid = q.pid) (h2 : ∀ q, (f q).zom = q.zom) (h3 : ∀ q, (f q).grp = q.grp) {p' : Pl} (e1 : p'.l = p.l.map f) (e2 : p'.gl = p.gl) : Iv p' := by
  refine ⟨fun q hq hz => ?_, fun x hx i hi => ?_⟩
  · rw [e1] at hq
    obtain ⟨y, hy, rfl⟩ := List.mem_map.1 hq
    rw [h2] at hz
    obtain ⟨x, hx, hn, hp⟩ := h.a y hy hz
    exact ⟨x, by rw [e2]; exact hx, by rw [h3]; exact hn, by rw [h1]; exact hp⟩
  · rw [e2] at hx
    obtain ⟨q, hq, q1, q2, q3⟩ := h.b x hx i hi
    exact ⟨f q, by rw [e1]; exact List.mem_map_of_mem hq, (h1 q).trans q1, (h2 q).trans q2, (h3 q).trans q3⟩
/-- One more is there, in its group. -/
theorem Iv.grow {p p' : Pl} (h : Iv p) (hw : Pc.Wf p.room p.last p.l) (gw : Cg.Wf p.gl p.ns) {x : Cg.G} (hx : x ∈ p.gl) {nq : Pc.Pr} (hp : nq.pid = p.last + 1) (hz : nq.zom = false) (hg : nq.grp = x.name) (e1 : p'.l = p.l ++ [nq]) (e2 : p'.gl = Cg.putL p.gl (p.last + 1) x.name) : Iv p' := by
  have hout : ∀ y ∈ p.gl, p.last + 1 ∉ y.pids := fun y hy hc => by
    obtain ⟨q, hq, q1, _⟩ := h.b y hy _ hc
    have := (hw.rng q hq).2
    omega
  have hgon : Cg.gonL p.gl (p.last + 1) = p.gl := by
    unfold Cg.gonL
    conv => rhs; rw [← List.map_id p.gl]
    refine List.map_congr_left (fun y hy => ?_)
    show Cg.G.mk _ _ _ = y
    rw [Cg.remI_none (hout y hy)]
  have hput : p'.gl = p.gl.map fun y => if y.name = x.name then { y with pids := Cg.insI (p.last + 1) y.pids } else y := by
    rw [e2]
    unfold Cg.putL
    rw [gw.fnd_of hx]
    simp only
    rw [if_pos ⟨by have := hw.la; omega, hout x hx⟩, hgon]
    rfl
  refine ⟨fun q hq hqz => ?_, fun y hy i hi => ?_⟩
  · rw [e1] at hq
    rcases List.mem_append.1 hq with hq | hq
    · obtain ⟨y, hy, hn, hpi⟩ := h.a q hq hqz
      refine ⟨if y.name = x.name then { y with pids := Cg.insI (p.last + 1) y.pids } else y, by rw [hput]; exact List.mem_map_of_mem (f := fun y : Cg.G => if y.name = x.name then { y with pids := Cg.insI (p.last + 1) y.pids } else y) hy, ?_, ?_⟩
      · split <;> exact hn
      · split
        · exact Cg.mem_insI.2 (.inr hpi)
        · exact hpi
    · have e := List.mem_singleton.1 hq
      subst e
      refine ⟨{ x with pids := Cg.insI (p.last + 1) x.pids }, ?_, hg.symm, by rw [hp]; exact Cg.mem_insI.2 (.inl rfl)⟩
      rw [hput]
      exact List.mem_map.2 ⟨x, hx, by rw [if_pos rfl]⟩
  · rw [hput] at hy
    obtain ⟨y0, hy0, rfl⟩ := List.mem_map.1 hy
    have old : ∀ i, i ∈ y0.pids → ∃ q ∈ p'.l, q.pid = i ∧ q.zom = false ∧ q.grp = y0.name := fun i hi => by
      obtain ⟨q, hq, r⟩ := h.b y0 hy0 i hi
      exact ⟨q, by rw [e1]; exact List.mem_append_left _ hq, r⟩
    by_cases hn : y0.name = x.name
    · rw [if_pos hn] at hi ⊢
      rcases Cg.mem_insI.1 hi with rfl | hi
      · exact ⟨nq, by rw [e1]; simp, hp, hz, hg.trans hn.symm⟩
      · exact old i hi
    · rw [if_neg hn] at hi ⊢
      exact old i hi
theorem Iv.same {p p' : Pl} (h : Iv p) (e1 : p'.l = p.l) (e2 : p'.gl = p.gl) : Iv p' := ⟨fun q hq => by rw [e1] at hq; rw [e2]; exact h.a q hq, fun x hx => by rw [e2] at hx; rw [e1]; exact h.b x hx⟩
theorem sp_ok {room last : Int} {l : Pc.Ps} {k : Int} {g c : ByteArray} (h : (Pc.spP room last l k g c).e = 0) : Pc.spP room last l k g c = ⟨last + 1, 0, last + 1, l ++ [Pc.newP last k g c]⟩ := by
  unfold Pc.spP at h ⊢
  split at h
  · split at h
    · cases h
    · rename_i h1 h2
      rw [if_pos h1, if_neg h2]
  · cases h
theorem sp_no {room last : Int} {l : Pc.Ps} {k : Int} {g c : ByteArray} (h : (Pc.spP room last l k g c).e ≠ 0) : (Pc.spP room last l k g c).last = last ∧ (Pc.spP room last l k g c).l = l ∧ (Pc.spP room last l k g c).n = 0 := by
  unfold Pc.spP at h ⊢
  split at h
  · split at h
    · rename_i h1 h2
      rw [if_pos h1, if_pos h2]; exact ⟨rfl, rfl, rfl⟩
    · exact absurd rfl h
  · rename_i h1
    rw [if_neg h1]; exact ⟨rfl, rfl, rfl⟩
/-- What Spawn leaves: the invariant, and the greatest number. -/
theorem Iv.spawn {p : Pl} (h : Iv p) (hw : Pc.Wf p.room p.last p.l) (gw : Cg.Wf p.gl p.ns) (g c : ByteArray) : Iv (p.with (spQ p g c)) ∧ max p.last (spQ p g c).n = (p.with (spQ p g c)).last := by
  have hla := hw.la
  unfold spQ spawnK Pl.with
  dsimp only
  split
  · rename_i hf
    obtain ⟨x, hx⟩ := Option.isSome_iff_exists.1 hf
    split
    · rename_i he
      have hS := sp_ok he
      rw [hS]
      refine ⟨h.grow hw gw (Cg.fnd_mem hx) (nq := Pc.newP p.last 1 g c) rfl rfl (Cg.fnd_name hx).symm rfl (by rw [Cg.fnd_name hx]), ?_⟩
      dsimp only
      omega
    · rename_i he
      obtain ⟨e1, e2, _⟩ := sp_no he
      refine ⟨h.same e2 rfl, ?_⟩
      dsimp only
      rw [e1]
      omega
  · refine ⟨h.same rfl rfl, ?_⟩
    dsimp only
    omega
theorem fk_no {room last : Int} {l : Pc.Ps} {k : Int} (h : (Pc.fkP room last l k).e ≠ 0) : (Pc.fkP room last l k).last = last ∧ (Pc.fkP room last l k).l = l := by
  unfold Pc.fkP at h ⊢
  split at h
  · rename_i h1
    rw [if_pos h1]
    exact ⟨(sp_no h).1, (sp_no h).2.1⟩
  · rename_i h1
    rw [if_neg h1]
    exact ⟨rfl, rfl⟩
theorem Iv.fork {p : Pl} (h : Iv p) (hw : Pc.Wf p.room p.last p.l) (gw : Cg.Wf p.gl p.ns) (k : Int) : Iv (p.with (fkQ p k)) ∧ max p.last (fkQ p k).n = (p.with (fkQ p k)).last := by
  have hla := hw.la
  unfold fkQ forkK Pl.with
  dsimp only
  by_cases he : (Pc.fkP p.room p.last p.l k).e = 0
  · have hL : Pc.livP p.l k = true := by
      unfold Pc.fkP at he
      split at he
      · rename_i h1; exact h1.1
      · cases he
    obtain ⟨q, hq, hpid, hmem, hz⟩ := Pc.liv_some hL
    obtain ⟨x, hx, hn, hpi⟩ := h.a q hmem hz
    rw [hpid] at hpi
    have hhm := gw.hm_of hx hpi
    have hof : Cg.ofN p.gl k = x.name := by unfold Cg.ofN; rw [hhm]; rfl
    have hF : Pc.fkP p.room p.last p.l k = ⟨p.last + 1, 0, p.last + 1, p.l ++ [Pc.newP p.last k q.grp q.cmd]⟩ := by
      unfold Pc.fkP at he ⊢
      split at he
      · rename_i h1
        rw [if_pos h1]
        rw [hq] at he ⊢
        exact sp_ok he
      · cases he
    rw [if_pos he, if_pos (show (Cg.hm p.gl k).isSome = true by rw [hhm]; rfl), hof, hF]
    refine ⟨h.grow hw gw hx (nq := Pc.newP p.last k q.grp q.cmd) rfl rfl hn.symm rfl rfl, ?_⟩
    dsimp only
    omega
  · rw [if_neg he]
    obtain ⟨e1, e2⟩ := fk_no he
    refine ⟨h.same e2 rfl, ?_⟩
    dsimp only
    rw [e1]
    omega
theorem Iv.exit {p : Pl} (h : Iv p) (hs : Pc.Srt p.l) (k s : Int) : Iv (exQ p k s) := by
  cases hL : Pc.livP p.l k with
  | false =>
    have hE : Pc.exE p.l k = 80 := by unfold Pc.exE; rw [hL]; rfl
    have hl : Pc.exL p.l k s = p.l := by unfold Pc.exL; rw [if_neg (by rw [hL]; simp)]
    refine h.same ?_ ?_
    · unfold exQ; exact hl
    · unfold exQ; dsimp only; rw [hE, if_neg (by decide)]
  | true =>
    have hE : Pc.exE p.l k = 0 := by unfold Pc.exE; rw [if_pos hL]
    have e1 : (exQ p k s).l = p.l.map (ex1 k s) := by unfold exQ; exact exL_map hs hL s
    have e2 : (exQ p k s).gl = p.gl.map fun g => { g with pids := Cg.remI k g.pids } := by unfold exQ; dsimp only; rw [if_pos hE]; rfl
    refine ⟨fun q hq hz => ?_, fun x hx i hi => ?_⟩
    · rw [e1] at hq
      obtain ⟨y, hy, rfl⟩ := List.mem_map.1 hq
      rw [ex1_zom] at hz
      simp only [Bool.or_eq_false_iff, decide_eq_false_iff_not] at hz
      obtain ⟨x, hx, hn, hp⟩ := h.a y hy hz.2
      exact ⟨{ x with pids := Cg.remI k x.pids }, by rw [e2]; exact List.mem_map_of_mem (f := fun g : Cg.G => { g with pids := Cg.remI k g.pids }) hx, by rw [ex1_grp]; exact hn, by rw [ex1_pid]; exact Cg.mem_remI.2 ⟨hp, hz.1⟩⟩
    · rw [e2] at hx
      obtain ⟨x0, hx0, rfl⟩ := List.mem_map.1 hx
      obtain ⟨hi1, hi2⟩ := Cg.mem_remI.1 hi
      obtain ⟨q, hq, q1, q2, q3⟩ := h.b x0 hx0 i hi1
      refine ⟨ex1 k s q, by rw [e1]; exact List.mem_map_of_mem hq, (ex1_pid k s q).trans q1, ?_, (ex1_grp k s q).trans q3⟩
      rw [ex1_zom, q2, q1]
      simpa using hi2
theorem Iv.die {p : Pl} (h : Iv p) (hs : Pc.Srt p.l) (k : Int) : Iv (dieQ p k) := by
  unfold dieQ
  split
  · exact h.exit hs k (-9)
  · exact h
theorem Iv.killg {p : Pl} (h : Iv p) (hs : Pc.Srt p.l) (g : ByteArray) (s : Int) : Iv (kgQ p g s) :=
  h.map (kg1_pid s (Cg.mOf p.gl g)) (kg1_zom s (Cg.mOf p.gl g)) (kg1_grp s (Cg.mOf p.gl g)) (by unfold kgQ; exact kgL_map s _ hs) rfl
def rpQ (p : Pl) : Pl := { p with l := Pc.rpL p.l 1 }
theorem Iv.reap {p : Pl} (h : Iv p) (hs : Pc.Srt p.l) : Iv (rpQ p) := by
  unfold rpQ Pc.rpL
  cases e : Pc.rpP p.l 1 with
  | none => exact h.same rfl rfl
  | some z =>
    have hz : z.zom = true := by
      have := List.find?_some e
      unfold Pc.rpB at this
      simp only [Bool.and_eq_true] at this
      exact this.2
    have hzm : z ∈ p.l := List.mem_of_find?_eq_some e
    refine ⟨fun q hq hqz => h.a q (List.mem_filter.1 hq).1 hqz, fun x hx i hi => ?_⟩
    obtain ⟨q, hq, q1, q2, q3⟩ := h.b x hx i hi
    refine ⟨q, ?_, q1, q2, q3⟩
    show q ∈ Pc.del p.l z.pid
    unfold Pc.del
    refine List.mem_filter.2 ⟨hq, ?_⟩
    simp only [Bool.not_eq_true', decide_eq_false_iff_not]
    intro e2
    have := lk_uniq hs (Pc.lk_of_mem hs hzm) hq e2
    rw [this, hz] at q2
    cases q2
/-- What Get and Of tell of a number. -/
theorem Iv.tells {p : Pl} (h : Iv p) (hs : Pc.Srt p.l) (gw : Cg.Wf p.gl p.ns) {k : Int} (hk : 2 ≤ k) :
    ((Cg.hm p.gl k).isSome = true ∧ Pc.thereP p.l k = true ∧ (Pc.getP p.l k).zom = false ∧ Cg.ofN p.gl k = (Pc.getP p.l k).grp) ∨
    ((Cg.hm p.gl k).isSome = false ∧ Pc.thereP p.l k = false) ∨
    ((Cg.hm p.gl k).isSome = false ∧ Pc.thereP p.l k = true ∧ (Pc.getP p.l k).zom = true) := by
  have hk1 : ¬ k = 1 := by omega
  have hg : Pc.getP p.l k = (Pc.lk p.l k).getD Pc.zPr := by unfold Pc.getP; rw [if_neg hk1]
  have ht : Pc.thereP p.l k = (Pc.lk p.l k).isSome := by unfold Pc.thereP; rw [decide_eq_false hk1]; rfl
  have hno : ∀ x, Cg.hm p.gl k = some x → ∃ q, Pc.lk p.l k = some q ∧ q.zom = false ∧ q.grp = x.name := fun x hx => by
    obtain ⟨q, hq, q1, q2, q3⟩ := h.b x (Cg.hm_mem hx) k (Cg.hm_in hx)
    exact ⟨q, by rw [← q1]; exact Pc.lk_of_mem hs hq, q2, q3⟩
  rw [hg, ht]
  cases e : Pc.lk p.l k with
  | none =>
    right; left
    refine ⟨?_, rfl⟩
    cases e2 : Cg.hm p.gl k with
    | none => rfl
    | some x => obtain ⟨q, hq, _⟩ := hno x e2; rw [e] at hq; cases hq
  | some q =>
    cases hz : q.zom with
    | true =>
      right; right
      refine ⟨?_, rfl, hz⟩
      cases e2 : Cg.hm p.gl k with
      | none => rfl
      | some x => obtain ⟨y, hy, hyz, _⟩ := hno x e2; rw [e] at hy; cases hy; rw [hz] at hyz; cases hyz
    | false =>
      left
      obtain ⟨x, hx, hn, hp⟩ := h.a q (Pc.lk_mem e) hz
      rw [Pc.lk_pid e] at hp
      have hhm := gw.hm_of hx hp
      exact ⟨by rw [hhm]; rfl, rfl, hz, by unfold Cg.ofN; rw [hhm]; exact hn⟩
def nm3 (k : Nat) : ByteArray := if k = 0 then ⟨#[97]⟩ else if k = 1 then ⟨#[98]⟩ else ⟨#[99]⟩
def three (gl : Cg.Gl) : Prop := gl.map Cg.G.name = [nm3 0, nm3 1, nm3 2]
theorem three.to {gl : Cg.Gl} (h : three gl) : ∃ x y z, gl = [x, y, z] ∧ x.name = nm3 0 ∧ y.name = nm3 1 ∧ z.name = nm3 2 := by
  unfold three at h
  match gl, h with
  | [x, y, z], h =>
    simp only [List.map_cons, List.map_nil, List.cons.injEq, and_true] at h
    exact ⟨x, y, z, rfl, h.1, h.2.1, h.2.2⟩
  | [], h => cases h
  | [_], h => simp at h
  | [_, _], h => simp at h
  | _ :: _ :: _ :: _ :: _, h => simp at h
theorem three.map {gl : Cg.Gl} (h : three gl) {f : Cg.G → Cg.G} (hf : ∀ g, (f g).name = g.name) : three (gl.map f) := by
  unfold three at h ⊢
  rw [List.map_map, ← h]
  exact List.map_congr_left (fun g _ => hf g)
theorem three.put {gl : Cg.Gl} (h : three gl) (a : Int) (s : ByteArray) : three (Cg.putL gl a s) := by
  unfold Cg.putL
  split
  · split
    · unfold Cg.addL Cg.gonL
      refine three.map (f := fun g : Cg.G => if g.name = s then { g with pids := Cg.insI a g.pids } else g) (three.map (f := fun g : Cg.G => { g with pids := Cg.remI a g.pids }) h (fun g => rfl)) (fun g => ?_)
      split <;> rfl
    · exact h
  · exact h
theorem three.spawn {p : Pl} (h : three p.gl) (g c : ByteArray) : three (p.with (spQ p g c)).gl := by
  unfold spQ spawnK Pl.with
  dsimp only
  split
  · split
    · exact h.put _ _
    · exact h
  · exact h
theorem three.fork {p : Pl} (h : three p.gl) (k : Int) : three (p.with (fkQ p k)).gl := by
  unfold fkQ forkK Pl.with
  dsimp only
  split
  · split
    · exact h.put _ _
    · exact h
  · exact h
theorem three.exit {p : Pl} (h : three p.gl) (k s : Int) : three (exQ p k s).gl := by
  unfold exQ
  dsimp only
  split
  · exact three.map h (fun g => rfl)
  · exact h
theorem three.die {p : Pl} (h : three p.gl) (k : Int) : three (dieQ p k).gl := by
  unfold dieQ
  split
  · exact h.exit _ _
  · exact h
/-- How many of a row are at most m. -/
def cnt (m : Int) (l : List Int) : Nat := l.countP fun a => decide (a ≤ m)
theorem cnt_step {m : Int} : ∀ {l : List Int}, l.Pairwise (· < ·) → cnt (m + 1) l = cnt m l + (if m + 1 ∈ l then 1 else 0)
  | [], _ => by simp [cnt]
  | x :: r, h => by
    obtain ⟨h1, h2⟩ := List.pairwise_cons.1 h
    have ih := cnt_step (m := m) h2
    unfold cnt at ih ⊢
    rw [List.countP_cons, List.countP_cons, ih]
    by_cases e : x = m + 1
    · have hr : ¬ m + 1 ∈ r := fun hc => by have := h1 _ hc; omega
      rw [if_neg hr, if_pos (by rw [e]; simp)]
      simp [e]
      omega
    · by_cases hle : x ≤ m
      · have : (m + 1 ∈ x :: r) ↔ (m + 1 ∈ r) := by simp; intro h; omega
        simp only [this]
        simp [hle, show x ≤ m + 1 by omega]
        omega
      · have hr : ¬ m + 1 ∈ x :: r := fun hc => by
          rcases List.mem_cons.1 hc with hc | hc
          · exact e hc.symm
          · have := h1 _ hc; omega
        have hr2 : ¬ m + 1 ∈ r := fun hc => hr (by simp [hc])
        rw [if_neg hr, if_neg hr2]
        simp [hle, show ¬ x ≤ m + 1 by omega]
theorem cnt_none {m : Int} {l : List Int} (h : ∀ a ∈ l, m < a) : cnt m l = 0 := by
  unfold cnt
  rw [List.countP_eq_zero]
  intro a ha
  have := h a ha
  simp
  omega
theorem cnt_all {m : Int} {l : List Int} (h : ∀ a ∈ l, a ≤ m) : cnt m l = l.length := by
  unfold cnt
  rw [List.countP_eq_length]
  intro a ha
  simpa using h a ha
def cnt3 (m : Int) (gl : Cg.Gl) : Nat := cnt m (Cg.mOf gl (nm3 0)) + cnt m (Cg.mOf gl (nm3 1)) + cnt m (Cg.mOf gl (nm3 2))
theorem mOf3 {x y z : Cg.G} (hx : x.name = nm3 0) (hy : y.name = nm3 1) (hz : z.name = nm3 2) : Cg.mOf [x, y, z] (nm3 0) = x.pids ∧ Cg.mOf [x, y, z] (nm3 1) = y.pids ∧ Cg.mOf [x, y, z] (nm3 2) = z.pids := by
  unfold Cg.mOf Cg.fnd
  refine ⟨?_, ?_, ?_⟩
  · rw [List.find?_cons_of_pos (by simpa using hx)]; rfl
  · rw [List.find?_cons_of_neg (by rw [hx]; decide), List.find?_cons_of_pos (by simpa using hy)]; rfl
  · rw [List.find?_cons_of_neg (by rw [hx]; decide), List.find?_cons_of_neg (by rw [hy]; decide), List.find?_cons_of_pos (by simpa using hz)]; rfl
theorem cnt3_step {p : Pl} (h3 : three p.gl) (gw : Cg.Wf p.gl p.ns) (m : Int) : cnt3 (m + 1) p.gl = cnt3 m p.gl + (if (Cg.hm p.gl (m + 1)).isSome = true then 1 else 0) := by
  obtain ⟨x, y, z, e, hx, hy, hz⟩ := h3.to
  obtain ⟨o1, o2, o3⟩ := mOf3 hx hy hz
  unfold cnt3
  rw [e] at gw ⊢
  rw [o1, o2, o3, cnt_step (gw.nd x (by simp)), cnt_step (gw.nd y (by simp)), cnt_step (gw.nd z (by simp))]
  have nxy : ¬ x = y := fun q => by rw [q, hy] at hx; revert hx; decide
  have nxz : ¬ x = z := fun q => by rw [q, hz] at hx; revert hx; decide
  have nyz : ¬ y = z := fun q => by rw [q, hz] at hy; revert hy; decide
  have a1 : m + 1 ∈ x.pids → ¬ m + 1 ∈ y.pids := fun a b => nxy (gw.one x (by simp) y (by simp) _ a b)
  have a2 : m + 1 ∈ x.pids → ¬ m + 1 ∈ z.pids := fun a b => nxz (gw.one x (by simp) z (by simp) _ a b)
  have a3 : m + 1 ∈ y.pids → ¬ m + 1 ∈ z.pids := fun a b => nyz (gw.one y (by simp) z (by simp) _ a b)
  have hh : (Cg.hm [x, y, z] (m + 1)).isSome = true ↔ (m + 1 ∈ x.pids ∨ m + 1 ∈ y.pids ∨ m + 1 ∈ z.pids) := by
    unfold Cg.hm
    rw [List.find?_isSome]
    simp
  by_cases c1 : m + 1 ∈ x.pids
  · rw [if_pos c1, if_neg (a1 c1), if_neg (a2 c1), if_pos (hh.2 (.inl c1))]; omega
  · by_cases c2 : m + 1 ∈ y.pids
    · rw [if_neg c1, if_pos c2, if_neg (a3 c2), if_pos (hh.2 (.inr (.inl c2)))]; omega
    · by_cases c3 : m + 1 ∈ z.pids
      · rw [if_neg c1, if_neg c2, if_pos c3, if_pos (hh.2 (.inr (.inr c3)))]; omega
      · rw [if_neg c1, if_neg c2, if_neg c3, if_neg (fun q => by rcases hh.1 q with r | r | r; exact c1 r; exact c2 r; exact c3 r)]; omega
theorem cnt3_ends {p : Pl} (h : Iv p) (h3 : three p.gl) (gw : Cg.Wf p.gl p.ns) (hw : Pc.Wf p.room p.last p.l) : cnt3 1 p.gl = 0 ∧ cnt3 p.last p.gl = (Cg.mOf p.gl (nm3 0)).length + (Cg.mOf p.gl (nm3 1)).length + (Cg.mOf p.gl (nm3 2)).length := by
  obtain ⟨x, y, z, e, hx, hy, hz⟩ := h3.to
  obtain ⟨o1, o2, o3⟩ := mOf3 hx hy hz
  have low : ∀ g ∈ p.gl, ∀ a ∈ g.pids, 1 < a := fun g hg a ha => by have := (gw.rng g hg a ha).1; omega
  have high : ∀ g ∈ p.gl, ∀ a ∈ g.pids, a ≤ p.last := fun g hg a ha => by
    obtain ⟨q, hq, q1, _⟩ := h.b g hg a ha
    have := (hw.rng q hq).2
    omega
  unfold cnt3
  rw [e] at low high ⊢
  rw [o1, o2, o3, cnt_none (low x (by simp)), cnt_none (low y (by simp)), cnt_none (low z (by simp)), cnt_all (high x (by simp)), cnt_all (high y (by simp)), cnt_all (high z (by simp))]
  exact ⟨rfl, rfl⟩
end Go.Proofs.YtgienkdfodjoiaaGreat
