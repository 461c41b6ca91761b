/- Plain kernels: what kills, ends and forks leave of processes, as maps over them. -/
import Derived.Test.YtgienkdfodjoiaaGreatK9
namespace Go.Proofs.YtgienkdfodjoiaaGreat
open Go.RowKit Go.Shelf
theorem lk_map {l : Pc.Ps} {f : Pc.Pr → Pc.Pr} (hf : ∀ q, (f q).pid = q.pid) (x : Int) : Pc.lk (l.map f) x = (Pc.lk l x).map f := by
  unfold Pc.lk
  rw [List.find?_map]
  congr 1
  apply congrFun; apply congrArg
  funext q
  simp [hf]
theorem lk_uniq {l : Pc.Ps} (hs : Pc.Srt l) {k : Int} {p q : Pc.Pr} (hp : Pc.lk l k = some p) (hq : q ∈ l) (e : q.pid = k) : q = p := by
  have := Pc.lk_of_mem hs hq
  rw [e, hp] at this
  exact (Option.some.inj this).symm
theorem srt_map {l : Pc.Ps} (hs : Pc.Srt l) {f : Pc.Pr → Pc.Pr} (hf : ∀ q, (f q).pid = q.pid) : Pc.Srt (l.map f) :=
  Pc.srt_pids (by rw [List.map_map]; exact List.map_congr_left (fun q _ => hf q)) hs
def kl1 (k s : Int) (q : Pc.Pr) : Pc.Pr := if q.pid = k ∧ q.zom = false then (if s = 15 then { q with term := true } else if s = 9 then { q with kill := true } else q) else q
theorem kl1_pid (k s : Int) (q : Pc.Pr) : (kl1 k s q).pid = q.pid := by unfold kl1; split <;> (try split) <;> (try split) <;> rfl
theorem kl1_zom (k s : Int) (q : Pc.Pr) : (kl1 k s q).zom = q.zom := by unfold kl1; split <;> (try split) <;> (try split) <;> rfl
theorem kl1_grp (k s : Int) (q : Pc.Pr) : (kl1 k s q).grp = q.grp := by unfold kl1; split <;> (try split) <;> (try split) <;> rfl
theorem klL_map {l : Pc.Ps} (hs : Pc.Srt l) (k s : Int) : Pc.klL l k s = l.map (kl1 k s) := by
  cases hl : Pc.livP l k with
  | false =>
    have : Pc.klL l k s = l := by unfold Pc.klL Pc.klP; rw [if_neg (by rw [hl]; simp)]
    rw [this]
    conv => lhs; rw [← List.map_id l]
    refine List.map_congr_left (fun q hq => ?_)
    show q = _
    unfold kl1
    rw [if_neg]
    rintro ⟨e, z⟩
    have := Pc.lk_of_mem hs hq
    rw [e] at this
    unfold Pc.livP at hl
    rw [this] at hl
    simp [z] at hl
  | true =>
    obtain ⟨p, hp, hpid, hmem, hz⟩ := Pc.liv_some hl
    unfold Pc.klL Pc.klP
    rw [if_pos hl, hp]
    simp only [Option.getD_some]
    have key : ∀ p' : Pc.Pr, p'.pid = k → (kl1 k s p = p') → Pc.rep l p' = l.map (kl1 k s) := fun p' e1 e2 => by
      unfold Pc.rep
      refine List.map_congr_left (fun q hq => ?_)
      by_cases e : q.pid = k
      · rw [if_pos (e.trans e1.symm), lk_uniq hs hp hq e, e2]
      · rw [if_neg (fun h => e (h.trans e1))]
        unfold kl1
        rw [if_neg (fun h => e h.1)]
    by_cases h15 : s = 15
    · rw [if_pos h15]
      exact key _ hpid (by unfold kl1; rw [if_pos ⟨hpid, hz⟩, if_pos h15])
    · rw [if_neg h15]
      by_cases h9 : s = 9
      · rw [if_pos h9]
        exact key _ hpid (by unfold kl1; rw [if_pos ⟨hpid, hz⟩, if_neg h15, if_pos h9])
      · rw [if_neg h9]
        conv => lhs; rw [← List.map_id l]
        refine List.map_congr_left (fun q hq => ?_)
        show q = _
        unfold kl1
        rw [if_neg h15, if_neg h9]
        split <;> rfl
theorem livP_map {l : Pc.Ps} {f : Pc.Pr → Pc.Pr} (hf : ∀ q, (f q).pid = q.pid) (hz : ∀ q, (f q).zom = q.zom) (x : Int) : Pc.livP (l.map f) x = Pc.livP l x := by
  unfold Pc.livP
  rw [lk_map hf]
  cases Pc.lk l x with
  | none => rfl
  | some q => simp [hz]
theorem klE_ok {l : Pc.Ps} {k s : Int} (hl : Pc.livP l k = true) (hs : s = 15 ∨ s = 9) : Pc.klE l k s = 0 := by
  unfold Pc.klE Pc.klP
  rw [if_pos hl]
  rcases hs with rfl | rfl
  · rfl
  · rfl
def kg1 (s : Int) (ps : List Int) (q : Pc.Pr) : Pc.Pr := if q.pid ∈ ps ∧ q.zom = false then (if s = 15 then { q with term := true } else if s = 9 then { q with kill := true } else q) else q
theorem kg1_pid (s : Int) (ps : List Int) (q : Pc.Pr) : (kg1 s ps q).pid = q.pid := by unfold kg1; split <;> (try split) <;> (try split) <;> rfl
theorem kg1_zom (s : Int) (ps : List Int) (q : Pc.Pr) : (kg1 s ps q).zom = q.zom := by unfold kg1; split <;> (try split) <;> (try split) <;> rfl
theorem kg1_grp (s : Int) (ps : List Int) (q : Pc.Pr) : (kg1 s ps q).grp = q.grp := by unfold kg1; split <;> (try split) <;> (try split) <;> rfl
theorem kg1_cons (s p : Int) (r : List Int) (q : Pc.Pr) : kg1 s r (kl1 p s q) = kg1 s (p :: r) q := by
  unfold kg1
  rw [kl1_pid, kl1_zom]
  unfold kl1
  by_cases hz : q.zom = false
  · by_cases e1 : q.pid = p
    · rw [if_pos (show q.pid = p ∧ q.zom = false from ⟨e1, hz⟩), if_pos (show q.pid ∈ p :: r ∧ q.zom = false from ⟨by rw [e1]; simp, hz⟩)]
      split <;> (try split) <;> (try split) <;> rfl
    · rw [if_neg (fun h : q.pid = p ∧ q.zom = false => e1 h.1)]
      have : (q.pid ∈ p :: r ∧ q.zom = false) ↔ (q.pid ∈ r ∧ q.zom = false) := by simp [e1]
      simp only [this]
  · rw [if_neg (fun h => hz h.2), if_neg (fun h => hz h.2), if_neg (fun h => hz h.2)]
theorem kgL_map (s : Int) : ∀ (ps : List Int) {l : Pc.Ps}, Pc.Srt l → kgL s l ps = l.map (kg1 s ps)
  | [], l, _ => by
    show l = _
    conv => lhs; rw [← List.map_id l]
    refine List.map_congr_left (fun q _ => ?_)
    show q = _
    unfold kg1
    rw [if_neg (by simp)]
  | p :: r, l, hs => by
    show kgL s (Pc.klL l p s) r = _
    rw [klL_map hs, kgL_map s r (srt_map hs (kl1_pid p s)), List.map_map]
    exact List.map_congr_left (fun q _ => kg1_cons s p r q)
theorem kgC_all (s : Int) (hss : s = 15 ∨ s = 9) : ∀ (ps : List Int) {l : Pc.Ps}, Pc.Srt l → (∀ a ∈ ps, Pc.livP l a = true) → kgC s l ps = ps.length
  | [], _, _, _ => rfl
  | p :: r, l, hs, h => by
    show (if Pc.klE l p s = 0 then 1 else 0) + kgC s (Pc.klL l p s) r = _
    rw [if_pos (klE_ok (h p (by simp)) hss), klL_map hs, kgC_all s hss r (srt_map hs (kl1_pid p s)) (fun a ha => by rw [livP_map (kl1_pid p s) (kl1_zom p s)]; exact h a (by simp [ha]))]
    simp only [List.length_cons]
    omega
def ex1 (k s : Int) (q : Pc.Pr) : Pc.Pr := Pc.orph k (if q.pid = k then { q with zom := true, st := Pc.wiP s } else q)
theorem ex1_pid (k s : Int) (q : Pc.Pr) : (ex1 k s q).pid = q.pid := by unfold ex1; rw [Pc.orph_pid]; split <;> rfl
theorem orph_zom (k : Int) (q : Pc.Pr) : (Pc.orph k q).zom = q.zom := by unfold Pc.orph; split <;> rfl
theorem orph_kill (k : Int) (q : Pc.Pr) : (Pc.orph k q).kill = q.kill := by unfold Pc.orph; split <;> rfl
theorem orph_grp (k : Int) (q : Pc.Pr) : (Pc.orph k q).grp = q.grp := by unfold Pc.orph; split <;> rfl
theorem ex1_zom (k s : Int) (q : Pc.Pr) : (ex1 k s q).zom = (decide (q.pid = k) || q.zom) := by
  unfold ex1
  rw [orph_zom]
  by_cases e : q.pid = k
  · rw [if_pos e]; simp [e]
  · rw [if_neg e]; simp [e]
theorem ex1_kill (k s : Int) (q : Pc.Pr) : (ex1 k s q).kill = q.kill := by unfold ex1; rw [orph_kill]; split <;> rfl
theorem ex1_grp (k s : Int) (q : Pc.Pr) : (ex1 k s q).grp = q.grp := by unfold ex1; rw [orph_grp]; split <;> rfl
theorem exL_map {l : Pc.Ps} (hs : Pc.Srt l) {k : Int} (hl : Pc.livP l k = true) (s : Int) : Pc.exL l k s = l.map (ex1 k s) := by
  obtain ⟨p, hp, hpid, hmem, hz⟩ := Pc.liv_some hl
  unfold Pc.exL
  rw [if_pos hl, hp]
  simp only [Option.getD_some]
  unfold Pc.rep
  rw [List.map_map]
  refine List.map_congr_left (fun q hq => ?_)
  show Pc.orph k _ = _
  dsimp only
  unfold ex1
  by_cases e : q.pid = k
  · rw [if_pos (show q.pid = p.pid from e.trans hpid.symm), if_pos e, lk_uniq hs hp hq e]
  · rw [if_neg (fun h : q.pid = p.pid => e (h.trans hpid)), if_neg e]
theorem liv_of {l : Pc.Ps} {k : Int} {q : Pc.Pr} (h : Pc.lk l k = some q) (hz : q.zom = false) : Pc.livP l k = true := by
  unfold Pc.livP
  rw [h]
  simp [hz]
theorem lk_app {l : Pc.Ps} {n : Pc.Pr} {x : Int} (h : ∀ q ∈ l, q.pid ≠ n.pid) : Pc.lk (l ++ [n]) x = if x = n.pid then some n else Pc.lk l x := by
  unfold Pc.lk
  rw [List.find?_append]
  by_cases e : x = n.pid
  · rw [if_pos e, List.find?_eq_none.2 (fun q hq => by simp; rw [e]; exact h q hq)]
    simp [e]
  · rw [if_neg e]
    have : List.find? (fun p => decide (p.pid = x)) [n] = none := by simp; exact fun h => e h.symm
    rw [this, Option.or_none]
end Go.Proofs.YtgienkdfodjoiaaGreat
