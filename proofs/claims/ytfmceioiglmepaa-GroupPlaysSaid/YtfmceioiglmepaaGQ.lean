/- The code's groups and the reference's, plain. -/
import Derived.Test.YtfmceioiglmepaaRG6
namespace Go.Proofs.Ytfmceioiglmepaa
open Go.RowKit Go.Shelf Go.Lib
def Rel (l : Gl) (r : List RG) : Prop := l.map (fun g => (g.name, g.pids)) = r.map (fun x => (x.nm, x.ps))
def srtG (l : Gl) : Prop := l.Pairwise fun g h => sLt g.name h.name = true
theorem Rel.len {l : Gl} {r : List RG} (h : Rel l r) : l.length = r.length := by simpa using congrArg List.length h
theorem Rel.at {l : Gl} {r : List RG} (h : Rel l r) {i : Nat} {x : RG} (hx : r[i]? = some x) : ∃ g, l[i]? = some g ∧ g.name = x.nm ∧ g.pids = x.ps := by
  have h1 : (r.map fun x => (x.nm, x.ps))[i]? = some (x.nm, x.ps) := by rw [List.getElem?_map, hx]; rfl
  rw [← h, List.getElem?_map] at h1
  cases e : l[i]? with
  | none => rw [e] at h1; cases h1
  | some g =>
    rw [e] at h1
    simp only [Option.map_some, Option.some.injEq, Prod.mk.injEq] at h1
    exact ⟨g, rfl, h1.1, h1.2⟩
theorem Rel.to {l : Gl} {r : List RG} (h : Rel l r) {i : Nat} {g : G} (hg : l[i]? = some g) : ∃ x, r[i]? = some x ∧ g.name = x.nm ∧ g.pids = x.ps := by
  have h1 : (l.map fun g => (g.name, g.pids))[i]? = some (g.name, g.pids) := by rw [List.getElem?_map, hg]; rfl
  rw [h, List.getElem?_map] at h1
  cases e : r[i]? with
  | none => rw [e] at h1; cases h1
  | some x =>
    rw [e] at h1
    simp only [Option.map_some, Option.some.injEq, Prod.mk.injEq] at h1
    exact ⟨x, rfl, h1.1.symm, h1.2.symm⟩
theorem Rel.srt {l : Gl} {r : List RG} (h : Rel l r) (hs : srtG l) : srtR r := by
  have h1 : (l.map fun g => (g.name, g.pids)).Pairwise fun x y => sLt x.1 y.1 = true := List.pairwise_map.2 hs
  rw [h] at h1
  exact List.pairwise_map.1 h1
/-- Whether it is there, and its members. -/
theorem Rel.there {l : Gl} {r : List RG} (h : Rel l r) (hs : srtG l) (s : ByteArray) : thereR r s = (fnd l s).isSome ∧ mOfR r s = mOf l s := by
  cases e : fnd l s with
  | none =>
    have hn : thereR r s = false := by
      cases q : thereR r s with
      | false => rfl
      | true =>
        obtain ⟨x, hx, hxn⟩ := thereR_some q
        obtain ⟨g, hg, e1, _⟩ := h.at hx
        exact absurd (e1.trans hxn) (fnd_none.1 e g (List.mem_of_getElem? hg))
    refine ⟨hn, ?_⟩
    unfold mOfR mOf
    rw [hn, e]
    rfl
  | some g =>
    obtain ⟨i, hi, hg⟩ := List.getElem_of_mem (fnd_mem e)
    obtain ⟨x, hx, e1, e2⟩ := h.to (i := i) (g := g) (by rw [List.getElem?_eq_getElem hi, hg])
    have hxs : x.nm = s := e1.symm.trans (fnd_name e)
    have ht := there_idx (h.srt hs) hx
    have ha := at_idx (h.srt hs) hx
    rw [hxs] at ht ha
    refine ⟨by rw [ht]; rfl, ?_⟩
    unfold mOfR mOf
    rw [ht, ha, hx, e]
    exact e2.symm
theorem Rel.home {l : Gl} {r : List RG} (h : Rel l r) (a : Int) : (hm l a).isSome = (hmR r a).isSome ∧ ((hm l a).map G.name).getD noName = ((hmR r a).map RG.nm).getD ⟨#[]⟩ ∧ (hm l a).map G.pids = (hmR r a).map RG.ps := by
  induction l generalizing r with
  | nil =>
    cases r with
    | nil => exact ⟨rfl, rfl, rfl⟩
    | cons x r => cases h
  | cons g l ih =>
    cases r with
    | nil => cases h
    | cons x r =>
      have h0 : g.name = x.nm ∧ g.pids = x.ps := by
        have := congrArg List.head? h
        simpa using this
      have ht : Rel l r := by
        have := congrArg List.tail h
        simpa [Rel] using this
      unfold hm hmR
      rw [List.find?_cons, List.find?_cons, ← h0.2]
      cases decide (a ∈ g.pids) with
      | true => exact ⟨rfl, h0.1, congrArg some h0.2⟩
      | false => exact ih ht
/-- Emptied: as long as each note's group is there. -/
theorem Rel.emp {l : Gl} {r : List RG} (h : Rel l r) (hs : srtG l) : ∀ ns : List ByteArray, (∀ s ∈ ns, (fnd l s).isSome = true) → empRR r ns = empR l ns
  | [], _ => rfl
  | x :: t, hsub => by
    obtain ⟨h1, h2⟩ := h.there hs x
    have ih := Rel.emp h hs t (fun s hs => hsub s (by simp [hs]))
    unfold empRR empR
    rw [h1, h2, hsub x (by simp), ih]
    by_cases e : mOf l x = []
    · rw [if_pos ⟨rfl, e⟩, if_pos e]
    · rw [if_neg (fun q => e q.2), if_neg e]
theorem Rel.gone {l : Gl} {r : List RG} {ns : List ByteArray} (h : Rel l r) (w : Wf l ns) {a : Int} {i : Nat} {x : RG} (hx : r[i]? = some x) (ha : a ∈ x.ps) (v : Value) : Rel (gonL l a) (r.set i ⟨x.nm, remI a x.ps, v⟩) := by
  unfold Rel gonL
  rw [List.map_map]
  apply List.ext_getElem?
  intro j
  rw [List.getElem?_map, List.getElem?_map]
  by_cases e : j = i
  · subst e
    obtain ⟨g, hg, e1, e2⟩ := h.at hx
    rw [hg, List.getElem?_set_self (List.getElem?_eq_some_iff.1 hx).1]
    simp only [Option.map_some, Function.comp]
    rw [e1, e2]
  · rw [List.getElem?_set_ne (fun q => e q.symm)]
    cases hj : l[j]? with
    | none =>
      cases hr : r[j]? with
      | none => rfl
      | some y => obtain ⟨g, hg, _⟩ := h.at hr; rw [hj] at hg; cases hg
    | some g =>
      obtain ⟨y, hy, e1, e2⟩ := h.to hj
      rw [hy]
      simp only [Option.map_some, Function.comp]
      have hna : a ∉ g.pids := fun hin => by
        obtain ⟨g2, hg2, e3, e4⟩ := h.at hx
        have hgg := w.one g (List.mem_of_getElem? hj) g2 (List.mem_of_getElem? hg2) a hin (by rw [e4]; exact ha)
        have hi1 := (List.getElem?_eq_some_iff.1 hj)
        have hi2 := (List.getElem?_eq_some_iff.1 hg2)
        obtain ⟨a1, b1⟩ := hi1
        obtain ⟨a2, b2⟩ := hi2
        rcases Nat.lt_or_gt_of_ne e with q | q
        · have := List.pairwise_iff_getElem.1 w.names j i a1 a2 q
          exact this (by rw [b1, b2, hgg])
        · have := List.pairwise_iff_getElem.1 w.names i j a2 a1 q
          exact this (by rw [b1, b2, hgg])
      rw [remI_none hna, e1, e2]
theorem srt_gon {l : Gl} (hs : srtG l) (a : Int) : srtG (gonL l a) := List.pairwise_map.2 hs
theorem srt_add {l : Gl} (hs : srtG l) (a : Int) (s : ByteArray) : srtG (addL l a s) := by
  unfold srtG addL
  rw [List.pairwise_map]
  exact hs.imp (fun {g h} q => by rw [add_name, add_name]; exact q)
theorem srt_rem {l : Gl} (hs : srtG l) (s : ByteArray) : srtG (remG l s) := List.Pairwise.filter _ hs
theorem Rel.add {l : Gl} {r : List RG} {ns : List ByteArray} (h : Rel l r) (w : Wf l ns) {s : ByteArray} {i : Nat} {x : RG} (hx : r[i]? = some x) (hn : x.nm = s) (a : Int) (v : Value) : Rel (addL l a s) (r.set i ⟨x.nm, insI a x.ps, v⟩) := by
  unfold Rel addL
  rw [List.map_map]
  apply List.ext_getElem?
  intro j
  rw [List.getElem?_map, List.getElem?_map]
  by_cases e : j = i
  · subst e
    obtain ⟨g, hg, e1, e2⟩ := h.at hx
    rw [hg, List.getElem?_set_self (List.getElem?_eq_some_iff.1 hx).1]
    simp only [Option.map_some, Function.comp]
    rw [if_pos (e1.trans hn)]
    show some (g.name, insI a g.pids) = _
    rw [e1, e2]
  · rw [List.getElem?_set_ne (fun q => e q.symm)]
    cases hj : l[j]? with
    | none =>
      cases hr : r[j]? with
      | none => rfl
      | some y => obtain ⟨g, hg, _⟩ := h.at hr; rw [hj] at hg; cases hg
    | some g =>
      obtain ⟨y, hy, e1, e2⟩ := h.to hj
      rw [hy]
      simp only [Option.map_some, Function.comp]
      have hne : g.name ≠ s := fun q => by
        obtain ⟨g2, hg2, e3, _⟩ := h.at hx
        obtain ⟨a1, b1⟩ := List.getElem?_eq_some_iff.1 hj
        obtain ⟨a2, b2⟩ := List.getElem?_eq_some_iff.1 hg2
        rcases Nat.lt_or_gt_of_ne e with t | t
        · exact List.pairwise_iff_getElem.1 w.names j i a1 a2 t (by rw [b1, b2, q, e3, hn])
        · exact List.pairwise_iff_getElem.1 w.names i j a2 a1 t (by rw [b1, b2, q, e3, hn])
      rw [if_neg hne, e1, e2]
/-- Where a new one goes. -/
theorem Rel.ins {l : Gl} {r : List RG} {s : ByteArray} {b : Nat} {v : Value} (h : Rel l r) (hs : srtG l) (hn : fnd l s = none) (htot : ∀ g ∈ l, sLt g.name s = false → sLt s g.name = true) : Rel (insG ⟨s, b, []⟩ l) (r.take (atP r s) ++ ⟨s, [], v⟩ :: r.drop (atP r s)) := by
  induction l generalizing r with
  | nil =>
    cases r with
    | nil => rfl
    | cons x r => cases h
  | cons g l ih =>
    cases r with
    | nil => cases h
    | cons x r =>
      have h0 : g.name = x.nm ∧ g.pids = x.ps := by
        have := congrArg List.head? h
        simpa using this
      have ht : Rel l r := by
        have := congrArg List.tail h
        simpa [Rel] using this
      obtain ⟨hs1, hs2⟩ := List.pairwise_cons.1 hs
      unfold insG atP
      cases hc : sLt x.nm s with
      | true =>
        have hc2 : sLt s g.name = false := by
          cases q : sLt s g.name with
          | false => rfl
          | true =>
            rw [h0.1] at q
            unfold sLt at q hc
            rw [bytesLess_eq] at q hc
            simp only [decide_eq_true_eq] at q hc
            exact absurd (List.lt_trans q hc) (List.lt_irrefl _)
        have e1 : ¬ sLt (G.mk s b []).name g.name = true := by show ¬ sLt s g.name = true; rw [hc2]; simp
        rw [if_neg e1, if_pos rfl]
        have := ih ht hs2 (by rw [fnd_none] at hn ⊢; exact fun y hy => hn y (by simp [hy])) (fun y hy => htot y (by simp [hy]))
        unfold Rel at this ⊢
        simp only [List.take_succ_cons, List.drop_succ_cons, List.cons_append, List.map_cons]
        rw [this, h0.1, h0.2]
      | false =>
        have e1 : sLt (G.mk s b []).name g.name = true := htot g (by simp) (by rw [h0.1]; exact hc)
        rw [if_pos e1]
        simp only [Bool.false_eq_true, if_false, List.take_zero, List.drop_zero, List.nil_append]
        unfold Rel at h ⊢
        rw [List.map_cons, h]
        rfl
theorem sLt_tot {a b : ByteArray} (h : sLt a b = false) (hne : a ≠ b) : sLt b a = true := by
  unfold sLt at h ⊢
  rw [bytesLess_eq] at h ⊢
  simp only [decide_eq_false_iff_not, decide_eq_true_eq] at h ⊢
  have hne' : a.toList ≠ b.toList := fun e => hne (by rw [ByteArray.toList_eq, ByteArray.toList_eq] at e; exact ByteArray.ext (Array.toList_inj.1 e))
  rcases List.le_iff_lt_or_eq.1 (List.not_lt.1 h) with q | q
  · exact q
  · exact absurd q.symm hne'
theorem sLt_trans {a b c : ByteArray} (h : sLt a b = true) (k : sLt b c = true) : sLt a c = true := by
  unfold sLt at h k ⊢
  rw [bytesLess_eq] at h k ⊢
  simp only [decide_eq_true_eq] at h k ⊢
  exact List.lt_trans h k
theorem srt_ins {l : Gl} (hs : srtG l) {g : G} (hn : fnd l g.name = none) : srtG (insG g l) := by
  induction l with
  | nil => exact List.pairwise_singleton _ _
  | cons q r ih =>
    obtain ⟨h1, h2⟩ := List.pairwise_cons.1 hs
    unfold insG
    cases hc : sLt g.name q.name with
    | true =>
      rw [if_pos rfl]
      refine List.pairwise_cons.2 ⟨fun x hx => ?_, hs⟩
      rcases List.mem_cons.1 hx with rfl | hx
      · exact hc
      · exact sLt_trans hc (h1 x hx)
    | false =>
      rw [if_neg (by simp)]
      have hqn := fnd_none.1 hn q (by simp)
      refine List.pairwise_cons.2 ⟨fun x hx => ?_, ih h2 (by rw [fnd_none] at hn ⊢; exact fun y hy => hn y (by simp [hy]))⟩
      rcases mem_insG.1 hx with rfl | hx
      · exact sLt_tot hc (fun e => hqn e.symm)
      · exact h1 x hx
theorem Rel.rem {l : Gl} {r : List RG} (h : Rel l r) (hs : srtG l) {i : Nat} {x : RG} (hx : r[i]? = some x) : Rel (remG l x.nm) (r.eraseIdx i) := by
  induction l generalizing r i with
  | nil =>
    cases r with
    | nil => simp at hx
    | cons y r => cases h
  | cons g l ih =>
    cases r with
    | nil => cases h
    | cons y r =>
      have h0 : g.name = y.nm ∧ g.pids = y.ps := by
        have := congrArg List.head? h
        simpa using this
      have ht : Rel l r := by
        have := congrArg List.tail h
        simpa [Rel] using this
      obtain ⟨hs1, hs2⟩ := List.pairwise_cons.1 hs
      cases i with
      | zero =>
        simp at hx
        subst hx
        have : remG (g :: l) y.nm = l := by
          unfold remG
          rw [List.filter_cons, decide_eq_true h0.1]
          simp only [Bool.not_true, Bool.false_eq_true, if_false]
          rw [List.filter_eq_self]
          intro z hz
          simp only [Bool.not_eq_true', decide_eq_false_iff_not]
          intro e
          have := hs1 z hz
          rw [h0.1, e, sLt_irr] at this
          cases this
        rw [this]
        exact ht
      | succ i =>
        have hx' : r[i]? = some x := by simpa using hx
        have := ih ht hs2 hx'
        obtain ⟨g2, hg2, e1, _⟩ := ht.at hx'
        have hne : g.name ≠ x.nm := fun e => by
          have := hs1 g2 (List.mem_of_getElem? hg2)
          rw [e, ← e1, sLt_irr] at this
          cases this
        have e2 : remG (g :: l) x.nm = g :: remG l x.nm := by
          unfold remG
          rw [List.filter_cons, decide_eq_false hne]
          rfl
        rw [e2]
        unfold Rel at this ⊢
        rw [List.eraseIdx_cons_succ, List.map_cons, List.map_cons, this, h0.1, h0.2]
end Go.Proofs.Ytfmceioiglmepaa
