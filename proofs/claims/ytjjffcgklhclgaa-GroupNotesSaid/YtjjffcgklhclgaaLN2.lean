/- GroupNotes: what its calls do. -/
import Derived.Test.YtjjffcgklhclgaaLN1
namespace Go.Proofs.Ytjjffcgklhclgaa
open Go.RowKit Go.Shelf
theorem fN_dn {ag rm dn : Nat → Bool} {k : Nat} (h : dn k = false) : fN ag rm dn k = some [(k : Int) + 2] := by unfold fN; rw [h]; rfl
theorem fN_ne {ag rm dn : Nat → Bool} {k j : Nat} (b : Bool) (h : j ≠ k) : fN ag rm (upd dn k b) j = fN ag rm dn j := by unfold fN; rw [upd_ne _ _ h]
/-- Nobody else has it. -/
theorem fN_other {ag rm dn : Nat → Bool} {k j : Nat} (hk : k < 8) (h8 : j < 8) (hj : j ≠ k) (ps : List Int) (h : fN ag rm dn j = some ps) : ((k : Int) + 2) ∉ ps ∧ ((k : Int) + 20) ∉ ps := by
  unfold fN at h
  split at h
  · split at h
    · cases h; simp; omega
    · split at h
      · cases h
      · cases h; simp
  · cases h; simp; omega
def mid (ag rm dn : Nat → Bool) (k : Nat) (v : Option (List Int)) : Nat → Option (List Int) := upd (fN ag rm dn) k v
theorem map_rem {f : Nat → Option (List Int)} {k : Nat} {p : Int} (h : ∀ ps, f k = some ps → p ∉ ps) : (f k).map (remI p) = f k := by
  cases e : f k with
  | none => rfl
  | some ps => show some _ = _; rw [remI_none (h ps e)]
theorem nm_notin {dn : Nat → Bool} {N : List Nat} (hN : ∀ j ∈ N, j < 8 ∧ dn j = true) {k : Nat} (hk : k < 8) (hd : dn k = false) : nm k ∉ N.map nm := by
  intro h
  obtain ⟨j, hj, e⟩ := List.mem_map.1 h
  have := hN j hj
  rw [nm_inj this.1 hk e, hd] at this
  cases this.2
theorem gone_k {ag rm dn : Nat → Bool} {N E : List Nat} {S : St} {k : Nat} {W : World} (hg : Gs W S) (hp : Pn ag rm dn N E S) (hk : k < 8) (hd : dn k = false) (hc : S.c ≤ 1000) :
    Calls Try.prog 14 #[.pointer (some ⟨S.bt, 0, none⟩), .int .i64 ((k : Int) + 2)] W fun e W' => e = .returned (.bool true) ∧ ∃ S', Goes S W S' W' 1 ∧ Q 8 (mid ag rm dn k (some [])) S'.l ∧ S'.ns = (N ++ [k]).map nm := by
  obtain ⟨g, h1, h2, h3⟩ := hp.q.hm_some (by omega) hg.wf hk (fN_dn hd) (p := (k : Int) + 2) (by simp)
  have := gone_any S ((k : Int) + 2) W hg (by omega) (by omega) (by omega)
  rw [h1] at this
  refine this.mono ?_
  rintro e W' ⟨rfl, S', G', l', n'⟩
  refine ⟨rfl, S', G', ?_, ?_⟩
  · rw [l']
    refine (hp.q.gone _).ext (fun j hj => ?_)
    unfold mid
    by_cases e : j = k
    · subst e
      rw [upd_same, fN_dn hd]
      simp [remI]
    · rw [upd_ne _ _ e]
      exact (map_rem (fun ps q => (fN_other hk hj e ps q).1)).symm
  · rw [n']
    unfold gonN
    rw [h1]
    have he : remI ((k : Int) + 2) g.pids = [] := by rw [h3]; simp [remI]
    show (if remI ((k : Int) + 2) g.pids = [] then _ else _) = _
    rw [if_pos he, h2, hp.ns]
    unfold noteP
    have : inN (N.map nm) (nm k) = false := by
      cases e : inN (N.map nm) (nm k) with
      | false => rfl
      | true => exact absurd (inN_iff.1 e) (nm_notin hp.nk hk hd)
    rw [this]
    simp
theorem put_k {ag rm dn : Nat → Bool} {S : St} {k : Nat} {W : World} (hg : Gs W S) (hq : Q 8 (mid ag rm dn k (some [])) S.l) (hk : k < 8) (hc : S.c ≤ 1000) :
    Calls Try.prog 12 #[.pointer (some ⟨S.bt, 0, none⟩), .int .i64 ((k : Int) + 20), .string (nm k)] W fun e W' => e = .returned (.int .i64 0) ∧ ∃ S', Goes S W S' W' 2 ∧ Q 8 (mid ag rm dn k (some [(k : Int) + 20])) S'.l ∧ S'.ns = S.ns := by
  have := put_any S ((k : Int) + 20) (nm k) W hg (by rw [nm_size]; omega) (by omega) (by omega)
  obtain ⟨h1, h2, _⟩ := hq.put (ns := S.ns) (by omega) hk (ps := []) (upd_same _ _ _) (p := (k : Int) + 20) (by omega)
  obtain ⟨h3, h4, h5⟩ := h2 (by simp)
  rw [h1] at this
  refine this.mono ?_
  rintro e W' ⟨rfl, S', G', l', n'⟩
  refine ⟨rfl, S', G', ?_, ?_⟩
  · rw [l']
    refine h5.ext (fun j hj => ?_)
    unfold mid
    by_cases e : j = k
    · subst e
      rw [upd_same, upd_same]
      simp [insI]
    · rw [upd_ne _ _ e, upd_ne _ _ e]
      have hs : upd (fN ag rm dn) k (some []) j = fN ag rm dn j := upd_ne _ _ e
      rw [hs]
      exact (map_rem (fun ps q => (fN_other hk hj e ps q).2)).symm
  · rw [n', h4]
    have hn : hm S.l ((k : Int) + 20) = none := hq.hm_none (fun j hj ps q => by
      by_cases e : j = k
      · subst e
        unfold mid at q
        rw [upd_same] at q; cases q; simp
      · unfold mid at q
        rw [upd_ne _ _ e] at q
        exact (fN_other hk hj e ps q).2)
    unfold gonN
    rw [hn]
theorem rem_busy {f : Nat → Option (List Int)} {S : St} {k : Nat} {W : World} {x : Int} {r : List Int} (hg : Gs W S) (hq : Q 8 f S.l) (hf : f k = some (x :: r)) (hk : k < 8) (hc : S.c ≤ 1000) :
    Calls Try.prog 10 #[.pointer (some ⟨S.bt, 0, none⟩), .string (nm k)] W fun e W' => e = .returned (.int .i64 91) ∧ ∃ S', Goes S W S' W' 0 ∧ S'.l = S.l ∧ S'.ns = S.ns := by
  have := remove_any S (nm k) W hg (by rw [nm_size]; omega) (by omega)
  obtain ⟨g, h1, h2⟩ := hq.fnd_some (by omega) hk hf
  have hE : remE S.l (nm k) = 91 := by unfold remE; rw [h1]; show (if g.pids = [] then (0 : Int) else 91) = 91; rw [h2]; rfl
  rw [hE] at this
  refine this.mono ?_
  rintro e W' ⟨rfl, S', G', l', n'⟩
  exact ⟨rfl, S', G', by rw [l']; unfold remL; rw [hE]; rfl, by rw [n']; unfold remM; rw [hE]; rfl⟩
theorem rem_k {ag rm dn : Nat → Bool} {N : List Nat} {S : St} {k : Nat} {W : World} (hg : Gs W S) (hq : Q 8 (mid ag rm dn k (some [])) S.l) (hn : S.ns = (N ++ [k]).map nm) (hN : ∀ j ∈ N, j < 8 ∧ dn j = true) (hk : k < 8) (hd : dn k = false) (hc : S.c ≤ 1000) :
    Calls Try.prog 10 #[.pointer (some ⟨S.bt, 0, none⟩), .string (nm k)] W fun e W' => e = .returned (.int .i64 0) ∧ ∃ S', Goes S W S' W' 0 ∧ Q 8 (mid ag rm dn k none) S'.l ∧ S'.ns = N.map nm := by
  have := remove_any S (nm k) W hg (by rw [nm_size]; omega) (by omega)
  obtain ⟨g, h1, h2⟩ := hq.fnd_some (by omega) hk (ps := []) (upd_same _ _ _)
  have hE : remE S.l (nm k) = 0 := by unfold remE; rw [h1]; show (if g.pids = [] then (0 : Int) else 91) = 0; rw [h2]; rfl
  rw [hE] at this
  refine this.mono ?_
  rintro e W' ⟨rfl, S', G', l', n'⟩
  refine ⟨rfl, S', G', ?_, ?_⟩
  · rw [l']
    unfold remL
    rw [hE, if_pos rfl]
    refine (hq.rem (by omega) hk).ext (fun j hj => ?_)
    unfold mid
    by_cases e : j = k
    · subst e; rw [upd_same, upd_same]
    · rw [upd_ne _ _ e, upd_ne _ _ e, upd_ne _ _ e]
  · rw [n']
    unfold remM
    rw [hE, if_pos rfl, hn, List.map_append]
    unfold remN
    rw [List.filter_append]
    have h3 := remN_none (nm_notin hN hk hd)
    unfold remN at h3
    rw [h3]
    simp
/-- How it stands behind the round. -/
theorem Pn.next {ag rm dn : Nat → Bool} {N E N' E' : List Nat} {S S' : St} {k : Nat} {v : Option (List Int)} (hp : Pn ag rm dn N E S) (hk : k < 8) (hd : dn k = false) (hq : Q 8 (mid ag rm dn k v) S'.l) (hv : fN ag rm (upd dn k true) k = v) (hn : S'.ns = N'.map nm)
    (hN : (N' = N ∧ E' = E) ∨ (N' = N ++ [k] ∧ E' = if v.getD [] = [] then E ++ [k] else E)) : Pn ag rm (upd dn k true) N' E' S' := by
  have hkN : ∀ j ∈ N, j ≠ k := fun j hj e => by have := (hp.nk j hj).2; rw [e, hd] at this; cases this
  have hfl : N.filter (fun j => decide ((fN ag rm (upd dn k true) j).getD [] = [])) = E := by
    rw [← hp.e]
    refine List.filter_congr (fun j hj => ?_)
    rw [fN_ne _ (hkN j hj)]
  refine ⟨hq.ext (fun j hj => ?_), hn, fun j hj => ?_, ?_⟩
  · unfold mid
    by_cases e : j = k
    · subst e; rw [upd_same]; exact hv
    · rw [upd_ne _ _ e]; exact fN_ne _ e
  · have hold : ∀ j ∈ N, j < 8 ∧ upd dn k true j = true := fun j hj => ⟨(hp.nk j hj).1, by rw [upd_ne _ _ (hkN j hj)]; exact (hp.nk j hj).2⟩
    rcases hN with ⟨rfl, _⟩ | ⟨rfl, _⟩
    · exact hold j hj
    · rcases List.mem_append.1 hj with hj | hj
      · exact hold j hj
      · simp at hj; subst hj; exact ⟨hk, upd_same _ _ _⟩
  · rcases hN with ⟨rfl, rfl⟩ | ⟨rfl, rfl⟩
    · exact hfl
    · rw [List.filter_append, hfl, List.filter_cons, hv]
      by_cases e : v.getD [] = []
      · simp [e]
      · simp [e]
theorem Q.q1 {j : Nat} {l : Gl} {b : Nat} (q : Q 8 (f1 j) l) (hj : j < 8) : makeE l (nm j) = 0 ∧ Q 8 (upd (f1 j) j (some [])) (insG ⟨nm j, b, []⟩ l) := by
  have hn := q.fnd_none (by omega) hj (by unfold f1; rw [if_neg (by omega)])
  refine ⟨?_, ?_⟩
  · unfold makeE
    rw [if_neg (nm_ne _), hn]
    rfl
  · have := q.make hj (by omega) b
    rw [remG_none hn] at this
    exact this
theorem Q.q2 {j : Nat} {l : Gl} {ns : List ByteArray} (q : Q 8 (upd (f1 j) j (some [])) l) (hj : j < 8) : putE l ((j : Int) + 2) (nm j) = 0 ∧ putN l ns ((j : Int) + 2) (nm j) = ns ∧ Q 8 (f1 (j + 1)) (putL l ((j : Int) + 2) (nm j)) := by
  obtain ⟨h1, h2, _⟩ := q.put (ns := ns) (by omega) hj (ps := []) (upd_same _ _ _) (p := (j : Int) + 2) (by omega)
  obtain ⟨h3, h4, h5⟩ := h2 (by simp)
  have hno : ∀ i, i < 8 → ∀ ps, upd (f1 j) j (some []) i = some ps → ((j : Int) + 2) ∉ ps := fun i hi ps h => by
    by_cases e : i = j
    · subst e; rw [upd_same] at h; cases h; simp
    · rw [upd_ne _ _ e] at h
      unfold f1 at h
      split at h
      · cases h; simp; omega
      · cases h
  refine ⟨h1, ?_, h5.ext (fun i hi => ?_)⟩
  · rw [h4]
    unfold gonN
    rw [q.hm_none hno]
  · by_cases e : i = j
    · subst e
      rw [upd_same]
      unfold f1
      rw [if_pos (by omega)]
      simp [insI]
    · rw [upd_ne _ _ e, map_rem (hno i hi), upd_ne _ _ e]
      unfold f1
      by_cases h : i < j
      · rw [if_pos h, if_pos (by omega)]
      · rw [if_neg h, if_neg (by omega)]
theorem Q.q8 {ag rm : Nat → Bool} {l : Gl} (q : Q 8 (f1 8) l) : Q 8 (fN ag rm (fun _ => false)) l := q.ext (fun k hk => by rw [fN_dn rfl]; unfold f1; rw [if_pos hk])
theorem Q.nil : Q 8 (f1 0) [] := ⟨fun g hg => by simp at hg, fun k _ ps h => by simp [f1] at h⟩
end Go.Proofs.Ytjjffcgklhclgaa
