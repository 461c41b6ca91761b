/- What the code's ports tell, and what the reference's tell. -/
import Derived.Test.YtppbdamlhcmlcaaRH
import Derived.Test.YtppbdamlhcmlcaaRI
import Derived.Test.YtppbdamlhcmlcaaPL
namespace Go.Proofs.Ytppbdamlhcmlcaa
open Go.RowKit Go.Shelf Go.Lib Go.Sort
theorem sLt_irr (a : ByteArray) : sLt a a = false := by
  cases h : sLt a a with
  | false => rfl
  | true => rw [sLt_iff] at h; exact absurd h (List.lt_irrefl _)
theorem sLt_tr {a b c : ByteArray} (h : sLt a b = true) (k : sLt b c = true) : sLt a c = true := by
  rw [sLt_iff] at *
  exact List.lt_trans h k
theorem sLt_tot {a b : ByteArray} (h : sLt a b = false) (hne : a ≠ b) : sLt b a = true := by
  rw [sLt_iff]
  have h' : ¬ byt a < byt b := fun q => by rw [(sLt_iff a b).2 q] at h; cases h
  rcases List.le_iff_lt_or_eq.1 (List.not_lt.1 h') with q | q
  · exact q
  · exact absurd (byt_inj q.symm) hne
def srtR (l : List RG) : Prop := l.Pairwise fun x y => sLt x.nm y.nm = true
/-- What waits at a name. -/
def lkR (l : List RG) (s : ByteArray) : Option (List Pr) := (l.find? fun x => decide (x.nm = s)).map RG.ps
theorem lkR_cons (x : RG) (r : List RG) (s : ByteArray) : lkR (x :: r) s = if x.nm = s then some x.ps else lkR r s := by
  unfold lkR
  rw [List.find?_cons]
  by_cases h : x.nm = s <;> simp [h]
theorem lkR_none {l : List RG} {s : ByteArray} (h : ∀ x ∈ l, x.nm ≠ s) : lkR l s = none := by
  unfold lkR
  rw [List.find?_eq_none.2 (fun x hx => by simpa using h x hx)]; rfl
theorem lkR_app (a b : List RG) (s : ByteArray) (h : ∀ x ∈ a, x.nm ≠ s) : lkR (a ++ b) s = lkR b s := by
  induction a with
  | nil => rfl
  | cons x r ih =>
    rw [List.cons_append, lkR_cons, if_neg (h x (by simp)), ih (fun y hy => h y (by simp [hy]))]
/-- Where it stands. -/
theorem at_spec : ∀ {l : List RG} (_ : srtR l) (s : ByteArray), (∀ x ∈ l.take (atP l s), sLt x.nm s = true) ∧ (∀ x ∈ l.drop (atP l s), sLt x.nm s = false) ∧ thereR l s = (lkR l s).isSome ∧ (thereR l s = true → ∃ x, l[atP l s]? = some x ∧ x.nm = s ∧ lkR l s = some x.ps)
  | [], _, s => ⟨by simp, by simp, rfl, fun h => by cases h⟩
  | x :: r, hs, s => by
    obtain ⟨h1, h2⟩ := List.pairwise_cons.1 hs
    cases hc : sLt x.nm s with
    | true =>
      obtain ⟨a, b, c, d⟩ := at_spec h2 s
      have e : atP (x :: r) s = atP r s + 1 := by show (if sLt x.nm s = true then atP r s + 1 else 0) = _; rw [hc]; rfl
      have hne : x.nm ≠ s := fun q => by rw [q, sLt_irr] at hc; cases hc
      have ht : thereR (x :: r) s = thereR r s := by unfold thereR; rw [e]; rfl
      rw [e, ht, lkR_cons, if_neg hne]
      refine ⟨fun y hy => ?_, b, c, d⟩
      rw [List.take_succ_cons] at hy
      rcases List.mem_cons.1 hy with rfl | hy
      · exact hc
      · exact a y hy
    | false =>
      have e : atP (x :: r) s = 0 := by show (if sLt x.nm s = true then atP r s + 1 else 0) = _; rw [hc]; rfl
      have hall : ∀ y ∈ r, sLt y.nm s = false := fun y hy => by
        cases q : sLt y.nm s with
        | false => rfl
        | true => rw [sLt_tr (h1 y hy) q] at hc; cases hc
      rw [e]
      refine ⟨by simp, fun y hy => ?_, ?_, fun h => ?_⟩
      · rcases List.mem_cons.1 hy with rfl | hy
        · exact hc
        · exact hall y hy
      · unfold thereR
        rw [e]
        show decide (x.nm = s) = _
        rw [lkR_cons]
        by_cases q : x.nm = s
        · rw [if_pos q]; simp [q]
        · rw [if_neg q, lkR_none (fun y hy w => ?_)]
          · simp [q]
          · have := sLt_tot hc q
            have h3 := sLt_tr this (h1 y hy)
            rw [w, sLt_irr] at h3
            cases h3
      · unfold thereR at h
        rw [e] at h
        have q : x.nm = s := by simpa using h
        exact ⟨x, rfl, q, by rw [lkR_cons, if_pos q]⟩
/-- The two agree. -/
structure Ag (P : Pl) (R : Rt) : Prop where
  s : srtR R.l
  q : ∀ s, P.q s = lkR R.l s
  m : P.ms = R.ds
  n : P.last = R.nx
theorem Ag.there {P : Pl} {R : Rt} (h : Ag P R) (s : ByteArray) : thereR R.l s = (P.q s).isSome := by rw [(at_spec h.s s).2.2.1, h.q]
theorem Ag.at {P : Pl} {R : Rt} (h : Ag P R) {s : ByteArray} {xs : List Pr} (hq : P.q s = some xs) : thereR R.l s = true ∧ ∃ x, R.l[atP R.l s]? = some x ∧ x.nm = s ∧ x.ps = xs := by
  have ht : thereR R.l s = true := by rw [h.there, hq]; rfl
  obtain ⟨x, h1, h2, h3⟩ := (at_spec h.s s).2.2.2 ht
  rw [← h.q, hq] at h3
  injection h3 with h3
  exact ⟨ht, x, h1, h2, h3.symm⟩
theorem Ag.no {P : Pl} {R : Rt} (h : Ag P R) {s : ByteArray} (hq : P.q s = none) : thereR R.l s = false := by rw [h.there, hq]; rfl
/-- A new one in its place. -/
theorem Ag.ins {P : Pl} {R : Rt} (h : Ag P R) {s : ByteArray} (hq : P.q s = none) (v : Value) {lv : Value} : Ag ⟨upP P.q s (some []), P.ms, P.last⟩ { R with lv := lv, l := R.l.take (atP R.l s) ++ ⟨s, [], v⟩ :: R.l.drop (atP R.l s) } := by
  obtain ⟨a, b, _, _⟩ := at_spec h.s s
  have hne : ∀ x ∈ R.l, x.nm ≠ s := fun x hx e => by
    have := h.q s
    rw [hq] at this
    unfold lkR at this
    have := Option.map_eq_none_iff.1 this.symm
    have := List.find?_eq_none.1 this x hx
    simp [e] at this
  have hb : ∀ x ∈ R.l.drop (atP R.l s), sLt s x.nm = true := fun x hx => sLt_tot (b x hx) (hne x (List.mem_of_mem_drop hx))
  refine ⟨?_, fun t => ?_, h.m, h.n⟩
  · have hs := h.s
    rw [← List.take_append_drop (atP R.l s) R.l] at hs
    obtain ⟨s1, s2, s3⟩ := List.pairwise_append.1 hs
    refine List.pairwise_append.2 ⟨s1, List.pairwise_cons.2 ⟨hb, s2⟩, fun x hx y hy => ?_⟩
    rcases List.mem_cons.1 hy with rfl | hy
    · exact a x hx
    · exact s3 x hx y hy
  · show upP P.q s (some []) t = lkR (R.l.take (atP R.l s) ++ ⟨s, [], v⟩ :: R.l.drop (atP R.l s)) t
    by_cases ht : t = s
    · subst ht
      rw [upP_same, lkR_app _ _ _ (fun x hx => hne x (List.mem_of_mem_take hx)), lkR_cons, if_pos rfl]
    · rw [upP_other _ _ ht, h.q]
      conv => lhs; rw [← List.take_append_drop (atP R.l s) R.l]
      unfold lkR
      rw [List.find?_append, List.find?_append, List.find?_cons]
      simp [show ¬ s = t from fun e => ht e.symm]
theorem nm_ne {l : List RG} (hs : srtR l) {i j : Nat} {x y : RG} (hx : l[i]? = some x) (hy : l[j]? = some y) (hij : i ≠ j) : x.nm ≠ y.nm := fun e => by
  obtain ⟨hi, rfl⟩ := List.getElem?_eq_some_iff.1 hx
  obtain ⟨hj, rfl⟩ := List.getElem?_eq_some_iff.1 hy
  rcases Nat.lt_or_ge i j with h | h
  · have := List.pairwise_iff_getElem.1 hs i j hi hj h
    rw [e, sLt_irr] at this; cases this
  · have := List.pairwise_iff_getElem.1 hs j i hj hi (by omega)
    rw [e, sLt_irr] at this; cases this
theorem lkR_at {l : List RG} (hs : srtR l) {i : Nat} {x : RG} (hx : l[i]? = some x) : lkR l x.nm = some x.ps := by
  unfold lkR
  have hm := List.mem_of_getElem? hx
  cases hf : l.find? (fun y => decide (y.nm = x.nm)) with
  | none => have := List.find?_eq_none.1 hf x hm; simp at this
  | some y =>
    have h1 : y.nm = x.nm := by simpa using List.find?_some hf
    obtain ⟨j, hj, e⟩ := List.getElem_of_mem (List.mem_of_find?_eq_some hf)
    by_cases hij : i = j
    · subst hij
      rw [List.getElem?_eq_getElem hj, e] at hx
      cases hx; rfl
    · exact absurd h1.symm (nm_ne hs hx (List.getElem?_eq_some_iff.2 ⟨hj, e⟩) hij)
theorem lkR_of {l : List RG} (hs : srtR l) {s : ByteArray} {xs : List Pr} : lkR l s = some xs ↔ ∃ (i : Nat) (x : RG), l[i]? = some x ∧ x.nm = s ∧ x.ps = xs := by
  constructor
  · intro h
    unfold lkR at h
    obtain ⟨y, hy, rfl⟩ := Option.map_eq_some_iff.1 h
    obtain ⟨j, hj, e⟩ := List.getElem_of_mem (List.mem_of_find?_eq_some hy)
    exact ⟨j, y, List.getElem?_eq_some_iff.2 ⟨hj, e⟩, by simpa using List.find?_some hy, rfl⟩
  · rintro ⟨i, x, hx, rfl, rfl⟩
    exact lkR_at hs hx
/-- One turns. -/
theorem Ag.set {P : Pl} {R : Rt} (h : Ag P R) {i : Nat} {x : RG} {s : ByteArray} (hx : R.l[i]? = some x) (hn : x.nm = s) (ys : List Pr) (v : Value) (nx : Int) : Ag ⟨upP P.q s (some ys), P.ms, nx⟩ { R with l := R.l.set i ⟨x.nm, ys, v⟩, nx := nx } := by
  have hlt := (List.getElem?_eq_some_iff.1 hx).1
  have hs' : srtR (R.l.set i ⟨x.nm, ys, v⟩) := by
    have e : (R.l.set i ⟨x.nm, ys, v⟩).map RG.nm = R.l.map RG.nm := by
      rw [List.map_set]
      apply List.ext_getElem?
      intro j
      rw [List.getElem?_set]
      split
      · rename_i e; subst e
        rw [List.getElem?_map, hx]; simp [hlt]
      · rfl
    have h1 : (R.l.map RG.nm).Pairwise fun a b => sLt a b = true := List.pairwise_map.2 h.s
    rw [← e] at h1
    exact List.pairwise_map.1 h1
  refine ⟨hs', fun t => ?_, h.m, rfl⟩
  show upP P.q s (some ys) t = lkR (R.l.set i ⟨x.nm, ys, v⟩) t
  by_cases ht : t = s
  · subst ht
    rw [upP_same]
    exact ((lkR_of hs').2 ⟨i, ⟨x.nm, ys, v⟩, by rw [List.getElem?_set]; simp [hlt], hn, rfl⟩).symm
  · rw [upP_other _ _ ht, h.q]
    apply Option.ext
    intro zs
    rw [lkR_of h.s, lkR_of hs']
    constructor
    · rintro ⟨j, y, hy, h1, h2⟩
      have hij : i ≠ j := fun e => by subst e; rw [hx] at hy; cases hy; exact ht (h1.symm.trans hn)
      exact ⟨j, y, by rw [List.getElem?_set_ne hij]; exact hy, h1, h2⟩
    · rintro ⟨j, y, hy, h1, h2⟩
      have hij : i ≠ j := fun e => by
        subst e
        rw [List.getElem?_set] at hy
        simp [hlt] at hy
        subst hy
        exact ht (h1.symm.trans hn)
      exact ⟨j, y, by rw [List.getElem?_set_ne hij] at hy; exact hy, h1, h2⟩
/-- One is gone. -/
theorem Ag.del {P : Pl} {R : Rt} (h : Ag P R) {i : Nat} {x : RG} {s : ByteArray} (hx : R.l[i]? = some x) (hn : x.nm = s) {lv : Value} : Ag ⟨upP P.q s none, P.ms, P.last⟩ { R with lv := lv, l := R.l.eraseIdx i } := by
  have hlt := (List.getElem?_eq_some_iff.1 hx).1
  have hs' : srtR (R.l.eraseIdx i) := h.s.sublist (List.eraseIdx_sublist _ _)
  refine ⟨hs', fun t => ?_, h.m, h.n⟩
  show upP P.q s none t = lkR (R.l.eraseIdx i) t
  by_cases ht : t = s
  · subst ht
    rw [upP_same]
    refine (lkR_none (fun y hy e => ?_)).symm
    obtain ⟨j, hj, hne, rfl⟩ := List.mem_eraseIdx_iff_getElem.1 hy
    exact nm_ne h.s hx (List.getElem?_eq_getElem hj) (fun e => hne e.symm) (hn.trans e.symm)
  · rw [upP_other _ _ ht, h.q]
    apply Option.ext
    intro zs
    rw [lkR_of h.s, lkR_of hs']
    constructor
    · rintro ⟨j, y, hy, h1, h2⟩
      have hij : j ≠ i := fun e => by subst e; rw [hx] at hy; cases hy; exact ht (h1.symm.trans hn)
      have hm : y ∈ R.l.eraseIdx i := by
        obtain ⟨hj, e⟩ := List.getElem?_eq_some_iff.1 hy
        exact List.mem_eraseIdx_iff_getElem.2 ⟨j, hj, hij, e⟩
      obtain ⟨k, hk, e⟩ := List.getElem_of_mem hm
      exact ⟨k, y, List.getElem?_eq_some_iff.2 ⟨hk, e⟩, h1, h2⟩
    · rintro ⟨j, y, hy, h1, h2⟩
      have hm : y ∈ R.l := List.mem_of_mem_eraseIdx (List.mem_of_getElem? hy)
      obtain ⟨k, hk, e⟩ := List.getElem_of_mem hm
      exact ⟨k, y, List.getElem?_eq_some_iff.2 ⟨hk, e⟩, h1, h2⟩
end Go.Proofs.Ytppbdamlhcmlcaa
