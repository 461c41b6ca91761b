/- KernKills, plain: a group that grows, is killed and dies. -/
import Derived.Test.YtgienkdfodjoiaaGreatKQ
namespace Go.Proofs.YtgienkdfodjoiaaGreat
open Go.RowKit Go.Shelf
def gB : ByteArray := ⟨#[103]⟩
def hB : ByteArray := ⟨#[104]⟩
def cB : ByteArray := ⟨#[99]⟩
def two (b1 b2 : Nat) (G : List Int) : Cg.Gl := [⟨gB, b1, G⟩, ⟨hB, b2, [3]⟩]
/-- All live, none is killed for good; G are the first group's. -/
structure Md (p : Pl) (b1 b2 : Nat) (G : List Int) (n : Nat) : Prop where
  room : p.room = 60
  last : p.last = (n : Int) + 1
  len : p.l.length = n
  n2 : 2 ≤ n
  gl : p.gl = two b1 b2 G
  ns : p.ns = []
  live : ∀ q ∈ p.l, q.zom = false
  kil : ∀ q ∈ p.l, q.kill = false
  mem : ∀ a ∈ G, (Pc.lk p.l a).isSome = true ∧ a ≠ 3
theorem two_fnd (b1 b2 : Nat) (G : List Int) : Cg.fnd (two b1 b2 G) gB = some ⟨gB, b1, G⟩ := by kernel_rfl
theorem two_mOf (b1 b2 : Nat) (G : List Int) : Cg.mOf (two b1 b2 G) gB = G := by kernel_rfl
theorem two_mOfh (b1 b2 : Nat) (G : List Int) : Cg.mOf (two b1 b2 G) hB = [3] := by kernel_rfl
theorem two_hm {b1 b2 : Nat} {G : List Int} {a : Int} (h : a ∈ G) : Cg.hm (two b1 b2 G) a = some ⟨gB, b1, G⟩ := by
  unfold Cg.hm two
  rw [List.find?_cons_of_pos (by simpa using h)]
theorem two_none {b1 b2 : Nat} {G : List Int} {a : Int} (h : a ∉ G) (h3 : a ≠ 3) : Cg.hm (two b1 b2 G) a = none := by
  unfold Cg.hm two
  rw [List.find?_eq_none]
  intro x hx
  simp only [List.mem_cons, List.not_mem_nil, or_false] at hx
  rcases hx with rfl | rfl
  · simpa using h
  · simpa using h3
theorem two_gon (b1 b2 : Nat) (G : List Int) {a : Int} (h3 : a ≠ 3) : Cg.gonL (two b1 b2 G) a = two b1 b2 (Cg.remI a G) := by
  unfold Cg.gonL two
  simp only [List.map_cons, List.map_nil]
  rw [Cg.remI_none (show a ∉ [(3 : Int)] by simpa using h3)]
theorem two_add (b1 b2 : Nat) (G : List Int) (a : Int) : Cg.addL (two b1 b2 G) a gB = two b1 b2 (Cg.insI a G) := by
  unfold Cg.addL two
  simp only [List.map_cons, List.map_nil, if_true]
  rw [if_neg (by decide)]
theorem Md.old {p : Pl} {b1 b2 n : Nat} {G : List Int} (h : Md p b1 b2 G n) (hw : Pc.Wf p.room p.last p.l) {a : Int} (ha : a ∈ G) : a ≤ (n : Int) + 1 ∧ 2 ≤ a := by
  obtain ⟨q, hq⟩ := Option.isSome_iff_exists.1 (h.mem a ha).1
  have := hw.rng q (Pc.lk_mem hq)
  rw [Pc.lk_pid hq, h.last] at this
  omega
theorem rise_len : ∀ {l : List Int} {m : Int} {k : Nat}, l.Pairwise (· < ·) → (∀ a ∈ l, m ≤ a ∧ a < m + k) → l.length ≤ k
  | [], _, _, _, _ => Nat.zero_le _
  | x :: r, m, k, hp, h => by
    obtain ⟨h1, h2⟩ := List.pairwise_cons.1 hp
    have hx := h x (by simp)
    have hk : 0 < k := by omega
    have := rise_len (m := m + 1) (k := k - 1) h2 (fun a ha => by have := h1 a ha; have := h a (by simp [ha]); omega)
    simp only [List.length_cons]
    omega
theorem Md.few {p : Pl} {b1 b2 n : Nat} {G : List Int} (h : Md p b1 b2 G n) (hw : Pc.Wf p.room p.last p.l) (hp : G.Pairwise (· < ·)) (hn : n ≤ 60) : G.length ≤ 60 :=
  Nat.le_trans (rise_len (m := 2) (k := n) hp (fun a ha => by have := h.old hw ha; omega)) hn
/-- One of the group forks. -/
theorem Md.fork {p : Pl} {b1 b2 n : Nat} {G : List Int} (h : Md p b1 b2 G n) (hw : Pc.Wf p.room p.last p.l) (hn : n < 60) {a : Int} (ha : a ∈ G) :
    (fkQ p a).e = 0 ∧ Md (p.with (fkQ p a)) b1 b2 (Cg.insI ((n : Int) + 2) G) (n + 1) := by
  obtain ⟨q, hq⟩ := Option.isSome_iff_exists.1 (h.mem a ha).1
  have hqm := Pc.lk_mem hq
  have ha2 := h.old hw ha
  have hL : Pc.livP p.l a = true := liv_of hq (h.live q hqm)
  have hfk : Pc.fkP p.room p.last p.l a = ⟨(n : Int) + 2, 0, (n : Int) + 2, p.l ++ [Pc.newP ((n : Int) + 1) a q.grp q.cmd]⟩ := by
    unfold Pc.fkP
    rw [hq]
    simp only [Option.getD_some]
    rw [if_pos ⟨hL, h.kil q hqm⟩]
    unfold Pc.spP
    have hm : Pc.mayP p.l a = true := by
      unfold Pc.mayP Pc.thereP Pc.getP
      rw [hq, if_neg (show ¬ a = 1 by omega)]
      simp [h.live q hqm]
    rw [if_pos hm, if_neg (by rw [h.room, h.len]; omega), h.last]
    congr 1 <;> omega
  have hnew : (n : Int) + 2 ∉ G := fun hc => by have := (h.old hw hc).1; omega
  have hpl : Cg.putL p.gl ((n : Int) + 2) gB = two b1 b2 (Cg.insI ((n : Int) + 2) G) := by
    unfold Cg.putL
    rw [h.gl, two_fnd]
    simp only
    rw [if_pos ⟨by omega, hnew⟩, two_gon _ _ _ (by have := h.n2; omega), Cg.remI_none hnew, two_add]
  have hpn : Cg.putN p.gl p.ns ((n : Int) + 2) gB = [] := by
    unfold Cg.putN
    rw [h.gl, two_fnd]
    simp only
    rw [if_pos ⟨by omega, hnew⟩]
    unfold Cg.gonN
    rw [two_none hnew (by have := h.n2; omega)]
    exact h.ns
  have hof : Cg.ofN p.gl a = gB := by unfold Cg.ofN; rw [h.gl, two_hm ha]; rfl
  have hhm : (Cg.hm p.gl a).isSome = true := by rw [h.gl, two_hm ha]; rfl
  have hF : fkQ p a = ⟨(n : Int) + 2, 0, (n : Int) + 2, p.l ++ [Pc.newP ((n : Int) + 1) a q.grp q.cmd], two b1 b2 (Cg.insI ((n : Int) + 2) G), []⟩ := by
    unfold fkQ forkK
    dsimp only
    rw [hfk, if_pos rfl, if_pos hhm, hof]
    dsimp only
    rw [hpl, hpn]
  have hapart : ∀ x ∈ p.l, x.pid ≠ (Pc.newP ((n : Int) + 1) a q.grp q.cmd).pid := fun x hx => by
    have := (hw.rng x hx).2
    rw [h.last] at this
    show x.pid ≠ (n : Int) + 1 + 1
    omega
  rw [hF]
  refine ⟨rfl, ⟨h.room, by show (n : Int) + 2 = _; omega, by show (p.l ++ [_]).length = _; simp [h.len], by omega, rfl, rfl, fun x hx => ?_, fun x hx => ?_, fun x hx => ?_⟩⟩
  · rcases List.mem_append.1 hx with hx | hx
    · exact h.live x hx
    · rw [List.mem_singleton.1 hx]; rfl
  · rcases List.mem_append.1 hx with hx | hx
    · exact h.kil x hx
    · rw [List.mem_singleton.1 hx]; rfl
  · show (Pc.lk (p.l ++ [_]) x).isSome = true ∧ _
    rw [lk_app hapart]
    rcases Cg.mem_insI.1 hx with rfl | hx
    · rw [if_pos (show (n : Int) + 2 = (Pc.newP ((n : Int) + 1) a q.grp q.cmd).pid from (by show (n : Int) + 2 = (n : Int) + 1 + 1; omega))]
      exact ⟨rfl, by have := h.n2; omega⟩
    · have hx' := h.mem x hx
      split
      · exact ⟨rfl, hx'.2⟩
      · exact hx'
/-- The group is asked to end. -/
theorem Md.term {p : Pl} {b1 b2 n : Nat} {G : List Int} (h : Md p b1 b2 G n) (hs : Pc.Srt p.l) : Md (kgQ p gB 15) b1 b2 G n ∧ kgC 15 p.l (Cg.mOf p.gl gB) = G.length := by
  have hm : Cg.mOf p.gl gB = G := by rw [h.gl, two_mOf]
  have hl : (kgQ p gB 15).l = p.l.map (kg1 15 G) := by unfold kgQ; rw [hm]; exact kgL_map 15 G hs
  refine ⟨⟨h.room, h.last, by rw [hl]; simp [h.len], h.n2, h.gl, h.ns, fun x hx => ?_, fun x hx => ?_, fun a ha => ?_⟩, ?_⟩
  · rw [hl] at hx
    obtain ⟨q, hq, rfl⟩ := List.mem_map.1 hx
    rw [kg1_zom]; exact h.live q hq
  · rw [hl] at hx
    obtain ⟨q, hq, rfl⟩ := List.mem_map.1 hx
    unfold kg1
    split
    · exact h.kil q hq
    · exact h.kil q hq
  · rw [hl, lk_map (kg1_pid 15 G), Option.isSome_map]
    exact h.mem a ha
  · rw [hm]
    refine kgC_all 15 (.inl rfl) G hs (fun a ha => ?_)
    obtain ⟨q, hq⟩ := Option.isSome_iff_exists.1 (h.mem a ha).1
    exact liv_of hq (h.live q (Pc.lk_mem hq))
theorem Md.kill0 {p : Pl} {b1 b2 n : Nat} {G : List Int} (h : Md p b1 b2 G n) (k : Int) : killd p.l k = false := by
  unfold killd
  cases e : Pc.lk p.l k with
  | none => rfl
  | some q => exact h.kil q (Pc.lk_mem e)
/-- All of the group are killed for good, and those of R live still. -/
structure Dd (p : Pl) (b1 b2 : Nat) (R : List Int) : Prop where
  gl : p.gl = two b1 b2 R
  ns : p.ns = if R = [] then [gB] else []
  liv : ∀ a ∈ R, ∃ q, Pc.lk p.l a = some q ∧ q.zom = false ∧ q.kill = true
  h3 : killd p.l 3 = false
  n3 : ∀ a ∈ R, a ≠ 3
  srt : R.Pairwise (· < ·)
theorem Md.kill {p : Pl} {b1 b2 n : Nat} {G : List Int} (h : Md p b1 b2 G n) (hs : Pc.Srt p.l) (hG : G ≠ []) (hp : G.Pairwise (· < ·)) : Dd (kgQ p gB 9) b1 b2 G ∧ kgC 9 p.l (Cg.mOf p.gl gB) = G.length := by
  have hm : Cg.mOf p.gl gB = G := by rw [h.gl, two_mOf]
  have hl : (kgQ p gB 9).l = p.l.map (kg1 9 G) := by unfold kgQ; rw [hm]; exact kgL_map 9 G hs
  refine ⟨⟨h.gl, by rw [if_neg hG]; exact h.ns, fun a ha => ?_, ?_, fun a ha => (h.mem a ha).2, hp⟩, ?_⟩
  · obtain ⟨q, hq⟩ := Option.isSome_iff_exists.1 (h.mem a ha).1
    refine ⟨kg1 9 G q, by rw [hl, lk_map (kg1_pid 9 G), hq]; rfl, by rw [kg1_zom]; exact h.live q (Pc.lk_mem hq), ?_⟩
    unfold kg1
    rw [if_pos ⟨by rw [Pc.lk_pid hq]; exact ha, h.live q (Pc.lk_mem hq)⟩, if_neg (by decide), if_pos rfl]
  · unfold killd
    rw [hl, lk_map (kg1_pid 9 G)]
    cases e : Pc.lk p.l 3 with
    | none => rfl
    | some q =>
      show (kg1 9 G q).kill = false
      unfold kg1
      rw [if_neg (fun hc => (h.mem _ hc.1).2 (Pc.lk_pid e))]
      exact h.kil q (Pc.lk_mem e)
  · rw [hm]
    refine kgC_all 9 (.inr rfl) G hs (fun a ha => ?_)
    obtain ⟨q, hq⟩ := Option.isSome_iff_exists.1 (h.mem a ha).1
    exact liv_of hq (h.live q (Pc.lk_mem hq))
theorem Dd.fork {p : Pl} {b1 b2 : Nat} {R : List Int} (h : Dd p b1 b2 R) {a : Int} (ha : a ∈ R) : (fkQ p a).e = 80 ∧ Dd (p.with (fkQ p a)) b1 b2 R := by
  obtain ⟨q, hq, hz, hk⟩ := h.liv a ha
  have hfk : Pc.fkP p.room p.last p.l a = ⟨0, 80, p.last, p.l⟩ := by
    unfold Pc.fkP
    rw [hq]
    simp only [Option.getD_some]
    rw [if_neg (by rw [hk]; simp)]
  have hF : fkQ p a = ⟨0, 80, p.last, p.l, p.gl, p.ns⟩ := by
    unfold fkQ forkK
    dsimp only
    rw [hfk, if_neg (by show ¬ (80 : Int) = 0; decide)]
  rw [hF]
  exact ⟨rfl, h.gl, h.ns, h.liv, h.h3, h.n3, h.srt⟩
theorem Dd.die {p : Pl} {b1 b2 : Nat} {a : Int} {R : List Int} (h : Dd p b1 b2 (a :: R)) (hs : Pc.Srt p.l) : dieQE p a = 0 ∧ Dd (dieQ p a) b1 b2 R := by
  obtain ⟨q, hq, hz, hk⟩ := h.liv a (by simp)
  have hL : Pc.livP p.l a = true := liv_of hq hz
  have hkd : killd p.l a = true := by unfold killd; rw [hq]; exact hk
  have hE : Pc.exE p.l a = 0 := by unfold Pc.exE; rw [if_pos hL]
  have h3 : a ≠ 3 := h.n3 a (by simp)
  obtain ⟨s1, s2⟩ := List.pairwise_cons.1 h.srt
  have hr : Cg.remI a (a :: R) = R := by
    have : Cg.remI a (a :: R) = Cg.remI a R := by unfold Cg.remI; simp
    rw [this]
    exact Cg.remI_none (fun hc => by have := s1 a hc; omega)
  have hQ : dieQ p a = { p with l := p.l.map (ex1 a (-9)), gl := two b1 b2 R, ns := if R = [] then [gB] else [] } := by
    unfold dieQ exQ
    rw [if_pos hkd, if_pos hE, if_pos hE, exL_map hs hL, h.gl, two_gon _ _ _ h3, hr]
    congr 1
    unfold Cg.gonN
    rw [two_hm (show a ∈ a :: R by simp)]
    simp only
    rw [hr, h.ns]
    by_cases e : R = []
    · rw [if_pos e, if_pos e, if_neg (by simp)]; rfl
    · rw [if_neg e, if_neg e, if_neg (by simp)]
  refine ⟨by unfold dieQE; rw [if_pos hkd]; exact hE, ?_⟩
  rw [hQ]
  refine ⟨rfl, rfl, fun x hx => ?_, ?_, fun x hx => h.n3 x (by simp [hx]), s2⟩
  · obtain ⟨y, hy, hyz, hyk⟩ := h.liv x (by simp [hx])
    refine ⟨ex1 a (-9) y, by show Pc.lk (p.l.map _) x = _; rw [lk_map (ex1_pid a (-9)), hy]; rfl, ?_, by rw [ex1_kill]; exact hyk⟩
    rw [ex1_zom, hyz, Pc.lk_pid hy]
    have := s1 x hx
    simp
    omega
  · show killd (p.l.map _) 3 = false
    have h3' := h.h3
    unfold killd at h3' ⊢
    rw [lk_map (ex1_pid a (-9))]
    cases e : Pc.lk p.l 3 with
    | none => rfl
    | some y =>
      rw [e] at h3'
      show (ex1 a (-9) y).kill = false
      rw [ex1_kill]; exact h3'
end Go.Proofs.YtgienkdfodjoiaaGreat
