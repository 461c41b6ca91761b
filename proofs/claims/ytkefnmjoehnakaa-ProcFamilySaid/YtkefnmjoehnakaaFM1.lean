/- ProcFamily: plain. -/
import Derived.Test.YtkefnmjoehnakaaLW
import Derived.Test.YtkefnmjoehnakaaL3a
namespace Go.Proofs.Ytkefnmjoehnakaa
open Go.RowKit Go.Shelf
structure Fam (K : List Int) (L : Ps) : Prop where
  live : ∀ p ∈ L, p.zom = false ∧ p.kill = false
  gc : ∀ p ∈ L, p.grp = gB ∧ p.cmd = cB
  two : ∃ p ∈ L, p.pid = 2 ∧ p.par = 1
  kid : ∀ k ∈ K, 3 ≤ k ∧ ∃ p ∈ L, p.pid = k
  par : ∀ p ∈ L, 2 < p.pid → (p.pid ∈ K → p.par = 2) ∧ (p.pid ∉ K → p.par ∈ K)
/-- Fork of one that lives. -/
theorem fk_ok {room last : Int} {L : Ps} {K : List Int} {k : Int} (h : Fam K L) (hw : Wf room last L) (hk : ∃ p ∈ L, p.pid = k) (hr : (L.length : Int) < room) :
    fkP room last L k = ⟨last + 1, 0, last + 1, L ++ [newP last k gB cB]⟩ := by
  obtain ⟨p, hp, rfl⟩ := hk
  have hl := lk_of_mem hw.srt hp
  have h1 := h.live p hp
  have h2 := h.gc p hp
  have h3 := hw.rng p hp
  unfold fkP livP
  rw [hl]
  simp only [Option.isSome_some, Option.getD_some, h1.1, h1.2, h2.1, h2.2, Bool.not_false, Bool.and_self, and_self, if_true]
  unfold spP mayP thereP getP
  rw [hl, if_neg (by omega : ¬ p.pid = 1)]
  simp only [Option.isSome_some, Option.getD_some, h1.1, Bool.not_false, Bool.or_true, Bool.and_self, if_true]
  rw [if_neg (by omega)]
theorem Fam.kid2 {room last : Int} {L : Ps} {K : List Int} (h : Fam K L) (hw : Wf room last L) (h2 : 2 ≤ last) : Fam (K ++ [last + 1]) (L ++ [newP last 2 gB cB]) := by
  refine ⟨fun p hp => ?_, fun p hp => ?_, ?_, fun k hk => ?_, fun p hp hgt => ?_⟩
  · rcases List.mem_append.1 hp with hp | hp
    · exact h.live p hp
    · simp at hp; subst hp; exact ⟨rfl, rfl⟩
  · rcases List.mem_append.1 hp with hp | hp
    · exact h.gc p hp
    · simp at hp; subst hp; exact ⟨rfl, rfl⟩
  · obtain ⟨p, hp, e⟩ := h.two
    exact ⟨p, List.mem_append_left _ hp, e⟩
  · rcases List.mem_append.1 hk with hk | hk
    · obtain ⟨a, p, hp, e⟩ := h.kid k hk
      exact ⟨a, p, List.mem_append_left _ hp, e⟩
    · simp at hk; subst hk
      exact ⟨by omega, newP last 2 gB cB, by simp, rfl⟩
  · rcases List.mem_append.1 hp with hp | hp
    · have hr := hw.rng p hp
      have := h.par p hp hgt
      refine ⟨fun q => ?_, fun q => ?_⟩
      · rcases List.mem_append.1 q with q | q
        · exact this.1 q
        · simp at q; omega
      · exact List.mem_append_left _ (this.2 (fun r => q (List.mem_append_left _ r)))
    · simp at hp; subst hp
      exact ⟨fun _ => rfl, fun q => absurd (List.mem_append_right K (by simp [newP] : (newP last 2 gB cB).pid ∈ [last + 1])) q⟩
theorem Fam.grand {room last : Int} {L : Ps} {K : List Int} {k : Int} (h : Fam K L) (hw : Wf room last L) (hk : k ∈ K) : Fam K (L ++ [newP last k gB cB]) := by
  refine ⟨fun p hp => ?_, fun p hp => ?_, ?_, fun k hk => ?_, fun p hp hgt => ?_⟩
  · rcases List.mem_append.1 hp with hp | hp
    · exact h.live p hp
    · simp at hp; subst hp; exact ⟨rfl, rfl⟩
  · rcases List.mem_append.1 hp with hp | hp
    · exact h.gc p hp
    · simp at hp; subst hp; exact ⟨rfl, rfl⟩
  · obtain ⟨p, hp, e⟩ := h.two
    exact ⟨p, List.mem_append_left _ hp, e⟩
  · obtain ⟨a, p, hp, e⟩ := h.kid k hk
    exact ⟨a, p, List.mem_append_left _ hp, e⟩
  · rcases List.mem_append.1 hp with hp | hp
    · exact h.par p hp hgt
    · simp at hp; subst hp
      refine ⟨fun q => ?_, fun _ => hk⟩
      obtain ⟨_, p, hp, e⟩ := h.kid _ q
      have := hw.rng p hp
      have e' : p.pid = last + 1 := e
      omega
/-- What the law looks at. -/
structure Fin2 (want : Int) (K : List Int) (L : Ps) : Prop where
  hd : ∃ p R, L = p :: R ∧ p.pid = 2 ∧ ∀ q ∈ R, 2 < q.pid
  gc : ∀ p ∈ L, p.grp = gB ∧ p.cmd = cB
  par : ∀ p ∈ L, 2 < p.pid → (p.pid ∈ K → p.par = want) ∧ (p.pid ∉ K → p.par ≠ 1 ∧ p.par ≠ 2)
theorem head2 {room last : Int} {L : Ps} (hw : Wf room last L) (h : ∃ p ∈ L, p.pid = 2) : ∃ p R, L = p :: R ∧ p.pid = 2 ∧ ∀ q ∈ R, 2 < q.pid := by
  obtain ⟨p, hp, e⟩ := h
  cases L with
  | nil => simp at hp
  | cons x R =>
    have hs := List.pairwise_cons.1 hw.srt
    have hx := hw.rng x (by simp)
    have hx2 : x.pid = 2 := by
      rcases List.mem_cons.1 hp with rfl | hp
      · exact e
      · have := hs.1 p hp; omega
    exact ⟨x, R, rfl, hx2, fun q hq => by have := hs.1 q hq; omega⟩
theorem Fam.fin {room last : Int} {L : Ps} {K : List Int} (h : Fam K L) (hw : Wf room last L) : Fin2 2 K L := by
  obtain ⟨p, hp, e1, _⟩ := h.two
  refine ⟨head2 hw ⟨p, hp, e1⟩, h.gc, fun q hq hgt => ⟨(h.par q hq hgt).1, fun hn => ?_⟩⟩
  have := (h.kid _ ((h.par q hq hgt).2 hn)).1
  omega
theorem Fam.exit {room last : Int} {L : Ps} {K : List Int} (h : Fam K L) (hw : Wf room last L) : exE L 2 = 0 ∧ Fin2 1 K (exL L 2 0) ∧ (exL L 2 0).length = L.length := by
  obtain ⟨p2, hp2, e2, _⟩ := h.two
  have hl := lk_of_mem hw.srt hp2
  rw [e2] at hl
  have hlv : livP L 2 = true := by unfold livP; rw [hl]; simp [(h.live p2 hp2).1]
  have hE : exL L 2 0 = (rep L { p2 with zom := true, st := wiP 0 }).map (orph 2) := by unfold exL; rw [if_pos hlv, hl]; rfl
  have hw' := hw.exit 2 0
  have key : ∀ p ∈ exL L 2 0, ∃ q ∈ L, p.pid = q.pid ∧ p.grp = q.grp ∧ p.cmd = q.cmd ∧ p.par = if q.par = 2 then 1 else q.par := by
    intro p hp
    rw [hE] at hp
    obtain ⟨p1, hp1, rfl⟩ := List.mem_map.1 hp
    obtain ⟨q, hq, rfl⟩ := List.mem_map.1 hp1
    refine ⟨q, hq, ?_⟩
    by_cases e : q.pid = p2.pid
    · have hqp : q = p2 := by
        have a := lk_of_mem hw.srt hq
        rw [e, lk_of_mem hw.srt hp2] at a
        exact (Option.some.inj a).symm
      subst hqp
      rw [if_pos rfl]
      unfold orph
      by_cases c : q.par = 2
      · simp [c]
      · simp [c]
    · rw [if_neg e]
      unfold orph
      by_cases c : q.par = 2
      · simp [c]
      · simp [c]
  refine ⟨by unfold exE; rw [if_pos hlv], ⟨head2 hw' ?_, fun p hp => ?_, fun p hp hgt => ?_⟩, ?_⟩
  · refine ⟨orph 2 { p2 with zom := true, st := wiP 0 }, ?_, by rw [orph_pid]; exact e2⟩
    rw [hE]
    exact List.mem_map_of_mem (List.mem_map.2 ⟨p2, hp2, by rw [if_pos rfl]⟩)
  · obtain ⟨q, hq, _, a, b, _⟩ := key p hp
    rw [a, b]; exact h.gc q hq
  · obtain ⟨q, hq, a, _, _, d⟩ := key p hp
    rw [a] at hgt ⊢
    have := h.par q hq hgt
    refine ⟨fun hk => by rw [d, this.1 hk]; rfl, fun hk => ?_⟩
    have hk3 := (h.kid _ (this.2 hk)).1
    rw [d, if_neg (by omega)]
    omega
  · rw [hE]; simp [rep]
theorem Fin2.at {want : Int} {K : List Int} {L : Ps} (h : Fin2 want K L) {i : Nat} {x : Pr} (hx : (one :: L)[i]? = some x) : (i < 2 → x.pid ≤ 2) ∧ (2 ≤ i → 2 < x.pid ∧ x.grp = gB ∧ x.cmd = cB ∧ (x.pid ∈ K → x.par = want) ∧ (x.pid ∉ K → x.par ≠ 1 ∧ x.par ≠ 2)) := by
  obtain ⟨p, R, e, e2, hR⟩ := h.hd
  refine ⟨fun hi => ?_, fun hi => ?_⟩
  · match i, hi with
    | 0, _ => simp at hx; subst hx; show (1 : Int) ≤ 2; omega
    | 1, _ => rw [e] at hx; simp at hx; subst hx; omega
  · obtain ⟨m, rfl⟩ : ∃ m, i = m + 2 := ⟨i - 2, by omega⟩
    rw [e] at hx
    rw [List.getElem?_cons_succ, List.getElem?_cons_succ] at hx
    have hm := List.mem_of_getElem? hx
    have hxL : x ∈ L := by rw [e]; simp [hm]
    exact ⟨hR x hm, (h.gc x hxL).1, (h.gc x hxL).2, h.par x hxL (hR x hm)⟩
/-- The row of the kids. -/
structure Kr (w : World) (bt bm : Nat) (v : Value) (K : List Int) (W : World) : Prop where
  n : W.ownsRow w.heap.size 3 1 v K.length (K.map (Value.int .i64))
  b : ∀ g, v.ownBlock = some g → g ≠ bt ∧ g ≠ bm
theorem Kr.step {w W W' : World} {bt bm : Nat} {v : Value} {K : List Int} (h : Kr w bt bm v K W) (m : Mv (fun k => k = bt ∨ k = bm) W W') : Kr w bt bm v K W' :=
  ⟨own_mv h.n m (fun g hg e => by have := h.b g hg; omega), h.b⟩
end Go.Proofs.Ytkefnmjoehnakaa
