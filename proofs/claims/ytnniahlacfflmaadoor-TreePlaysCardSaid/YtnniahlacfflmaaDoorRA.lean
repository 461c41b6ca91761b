/- The document's trees, plain: rows of files, stamps and mounts; how the code's trees agree with them. -/
import Derived.Test.YtnniahlacfflmaaDoorTW
namespace Go.Proofs.YtnniahlacfflmaaDoor
open Go.RowKit Go.Shelf Go.Sort
structure Rf where
  l : List (ByteArray × Bool)
  st : List (ByteArray × Int)
  mt : List (ByteArray × ByteArray)
def rSt (s : ByteArray) : List (ByteArray × Int) → Int
  | [] => 0
  | (p, n) :: r => if p = s then n else rSt s r
def rMark (s : ByteArray) : List (ByteArray × Int) → List (ByteArray × Int)
  | [] => [(s, 1)]
  | (p, n) :: r => if p = s then (p, n + 1) :: r else (p, n) :: rMark s r
theorem rMark_st (s x : ByteArray) : ∀ l, rSt x (rMark s l) = if x = s then rSt s l + 1 else rSt x l
  | [] => by
    by_cases e : x = s
    · subst e; simp [rMark, rSt]
    · have : ¬ s = x := fun q => e q.symm
      simp [rMark, rSt, e, this]
  | (p, n) :: r => by
    unfold rMark
    by_cases e : p = s
    · subst e
      rw [if_pos rfl]
      by_cases q : x = p
      · subst q; simp [rSt]
      · have : ¬ p = x := fun h => q h.symm
        simp [rSt, q, this]
    · rw [if_neg e]
      have ih := rMark_st s x r
      by_cases q : p = x
      · subst q; simp [rSt, e]
      · simp only [rSt, if_neg q, if_neg e]; exact ih
theorem rMark_bump {s : ByteArray} {l : List (ByteArray × Int)} {st : ByteArray → Int} (h : ∀ x, rSt x l = st x) (x : ByteArray) : rSt x (rMark s l) = bump st s x := by
  rw [rMark_st]; unfold bump up; simp only [h]
def rMt (s : ByteArray) : List (ByteArray × ByteArray) → Option ByteArray
  | [] => none
  | (t, w) :: r => if w = s then some t else rMt s r
theorem rMt_none {s : ByteArray} : ∀ {l : List (ByteArray × ByteArray)}, rMt s l = none ↔ ∀ e ∈ l, e.2 ≠ s
  | [] => by simp [rMt]
  | (t, w) :: r => by
    unfold rMt
    by_cases e : w = s
    · simp [e]
    · rw [if_neg e, rMt_none]; simp [e]
theorem rMt_add (s t x : ByteArray) : ∀ {l : List (ByteArray × ByteArray)}, rMt s l = none → rMt x (l ++ [(t, s)]) = if x = s then some t else rMt x l
  | [], _ => by
    by_cases e : x = s
    · subst e; simp [rMt]
    · have : ¬ s = x := fun q => e q.symm
      simp [rMt, e, this]
  | (t', w) :: r, h => by
    unfold rMt at h
    by_cases e : w = s
    · simp [e] at h
    · rw [if_neg e] at h
      have ih := rMt_add s t x h
      by_cases q : w = x
      · subst q; simp [rMt, e]
      · simp only [List.cons_append, rMt, if_neg q]; exact ih
def rCut (s : ByteArray) : List (ByteArray × ByteArray) → List (ByteArray × ByteArray)
  | [] => []
  | (t, w) :: r => if w = s then r else (t, w) :: rCut s r
theorem rCut_mt (s x : ByteArray) : ∀ {l : List (ByteArray × ByteArray)}, (l.map (·.2)).Nodup → rMt x (rCut s l) = if x = s then none else rMt x l
  | [], _ => by simp [rCut, rMt]
  | (t, w) :: r, hn => by
    obtain ⟨h1, h2⟩ := List.nodup_cons.1 hn
    unfold rCut
    by_cases e : w = s
    · subst e
      rw [if_pos rfl]
      by_cases q : x = w
      · subst q
        rw [if_pos rfl, rMt_none]
        intro e he e2
        exact h1 (List.mem_map.2 ⟨e, he, e2⟩)
      · have : ¬ w = x := fun h => q h.symm
        simp [rMt, q, this]
    · rw [if_neg e]
      have ih := rCut_mt s x h2
      by_cases q : w = x
      · subst q; simp [rMt, e]
      · simp only [rMt, if_neg q]; exact ih
theorem rCut_sub (s : ByteArray) : ∀ l : List (ByteArray × ByteArray), (rCut s l).Sublist l
  | [] => List.Sublist.refl _
  | (t, w) :: r => by
    unfold rCut
    split
    · exact List.sublist_cons_self _ _
    · exact (rCut_sub s r).cons_cons _
/-- The code's tree and the document's say the same. -/
structure Ag (P : Pl) (R : Rf) : Prop where
  l : R.l = P.ks.map fun x => (x, (P.nd x).f)
  st : ∀ x, rSt x R.st = P.st x
  mt : ∀ x, rMt x R.mt = if (P.nd x).m = true then some (P.nd x).wh else none
  nd : (R.mt.map (·.2)).Nodup
theorem ag0 : Ag pl0 ⟨[(rootS, true)], [], []⟩ := by
  refine ⟨rfl, fun _ => rfl, fun x => ?_, List.nodup_nil⟩
  by_cases e : x = rootS
  · subst e; rfl
  · show none = _
    unfold pl0
    simp only
    rw [up_other _ _ e]
    rfl
theorem Ag.m_iff {P : Pl} {R : Rf} (a : Ag P R) (x : ByteArray) : (P.nd x).m = true ↔ ∃ e ∈ R.mt, e.2 = x := by
  have h := a.mt x
  by_cases m : (P.nd x).m = true
  · rw [if_pos m] at h
    refine ⟨fun _ => ?_, fun _ => m⟩
    apply Classical.byContradiction
    intro no
    have : rMt x R.mt = none := rMt_none.2 fun e he q => no ⟨e, he, q⟩
    rw [this] at h; cases h
  · rw [if_neg m] at h
    refine ⟨fun q => absurd q m, ?_⟩
    rintro ⟨e, he, q⟩
    exact absurd q (rMt_none.1 h e he)
/-- Something is right in a folder if, and only if, something is below it. -/
theorem Wf.ins_iff {P : Pl} (h : Wf P) {x : ByteArray} (hx : x ∈ P.ks) : 0 < (P.nd x).ins ↔ ∃ q ∈ P.ks, x ∈ abv q := by
  rw [h.ins x hx]
  refine ⟨fun q => ?_, ?_⟩
  · have : 0 < P.ks.countP (kid x) := by omega
    obtain ⟨q, hq, hk⟩ := List.countP_pos_iff.1 this
    unfold kid at hk
    obtain ⟨h1, h2⟩ := of_decide_eq_true hk
    refine ⟨q, hq, ?_⟩
    rw [abv_step (isP_hd (h.ok q hq)) h1, h2]
    exact List.mem_cons_self
  · rintro ⟨q, hq, ha⟩
    have : ¬ P.ks.countP (kid x) = 0 := fun z => h.bare (fun y hy => count_zero.1 z y hy) hq ha
    omega
theorem Wf.m_in {P : Pl} (h : Wf P) {x : ByteArray} (hm : (P.nd x).m = true) : x ∈ P.ks := by
  apply Classical.byContradiction
  intro no
  rw [h.z x no] at hm
  cases hm
/-- A mount is below a folder if, and only if, the folder counts one. -/
theorem Wf.un_iff {P : Pl} (h : Wf P) {R : Rf} (a : Ag P R) {x : ByteArray} (hx : x ∈ P.ks) : 0 < (P.nd x).un ↔ ∃ e ∈ R.mt, x ∈ abv e.2 := by
  rw [h.un x hx]
  refine ⟨fun q => ?_, ?_⟩
  · have : 0 < P.ks.countP (mbl P.nd x) := by omega
    obtain ⟨q, hq, hk⟩ := List.countP_pos_iff.1 this
    unfold mbl at hk
    obtain ⟨h1, h2⟩ := Bool.and_eq_true_iff.1 hk
    obtain ⟨e, he, rfl⟩ := (a.m_iff q).1 h1
    exact ⟨e, he, inS_iff.1 h2⟩
  · rintro ⟨e, he, ha⟩
    have hm := (a.m_iff e.2).2 ⟨e, he, rfl⟩
    have : 0 < P.ks.countP (mbl P.nd x) := List.countP_pos_iff.2 ⟨e.2, h.m_in hm, by unfold mbl; rw [hm, inS_iff.2 ha]; rfl⟩
    omega
theorem bumpU_keep (d : Int) : ∀ (l : List ByteArray) (nd : ByteArray → Nd) (x : ByteArray), (bumpU d l nd x).f = (nd x).f ∧ (bumpU d l nd x).m = (nd x).m ∧ (bumpU d l nd x).wh = (nd x).wh
  | [], nd, x => ⟨rfl, rfl, rfl⟩
  | y :: r, nd, x => by
    unfold bumpU
    obtain ⟨h1, h2, h3⟩ := bumpU_keep d r (up nd y { nd y with un := (nd y).un + d }) x
    rw [h1, h2, h3]
    by_cases e : x = y
    · subst e; rw [up_same]; exact ⟨rfl, rfl, rfl⟩
    · rw [up_other _ _ e]; exact ⟨rfl, rfl, rfl⟩
theorem bumpN_keep (nd : ByteArray → Nd) (s : ByteArray) (d : Int) (x : ByteArray) : (bumpN nd s d x).f = (nd x).f ∧ (bumpN nd s d x).m = (nd x).m ∧ (bumpN nd s d x).wh = (nd x).wh := by
  unfold bumpN
  by_cases e : x = s
  · subst e; rw [up_same]; exact ⟨rfl, rfl, rfl⟩
  · rw [up_other _ _ e]; exact ⟨rfl, rfl, rfl⟩
/-- Where a path belongs in a row that is laid by path. -/
def posS (s : ByteArray) (l : List ByteArray) : Nat := (l.takeWhile fun q => sLt q s).length
theorem insS_cut (s : ByteArray) : ∀ {l : List ByteArray}, s ∉ l → insS s l = l.take (posS s l) ++ s :: l.drop (posS s l)
  | [], _ => rfl
  | q :: r, hn => by
    have hne : q ≠ s := fun e => hn (by rw [e]; exact List.mem_cons_self)
    have hr : s ∉ r := fun e => hn (List.mem_cons_of_mem _ e)
    unfold insS posS
    rw [List.takeWhile_cons]
    by_cases e : sLt q s = true
    · have : sLt s q = false := by
        cases h : sLt s q with
        | false => rfl
        | true => have := sLt_trans e h; rw [sLt_irr] at this; cases this
      rw [if_pos e, this]
      have ih := insS_cut s hr
      unfold posS at ih
      simp only [List.length_cons, List.take_succ_cons, List.drop_succ_cons, List.cons_append, Bool.false_eq_true, if_false]
      rw [ih]
    · have e' : sLt q s = false := by simpa using e
      rw [if_neg e, sLt_tot e' hne]
      simp
theorem Ag.make {P : Pl} {R : Rf} (h : Wf P) (a : Ag P R) {s : ByteArray} (f : Bool) (h1 : isP s = true) (h2 : inS s P.ks = false) (h3 : (P.nd (fo s)).f = true) :
    Ag (makeP P s f).2 ⟨R.l.take (posS s P.ks) ++ (s, f) :: R.l.drop (posS s P.ks), rMark (fo s) (rMark s R.st), R.mt⟩ := by
  have hno := inS_no.1 h2
  have hfo : fo s ≠ s := fun e => by rw [e, h.z s hno] at h3; cases h3
  unfold makeP
  rw [h1, h2, h3]
  simp only [Bool.true_eq_false, Bool.false_eq_true, if_false]
  have hk : ∀ x, x ≠ s → ((bumpN (up P.nd s ⟨f, 0, false, noS, 0⟩) (fo s) 1 x).f = (P.nd x).f ∧ (bumpN (up P.nd s ⟨f, 0, false, noS, 0⟩) (fo s) 1 x).m = (P.nd x).m ∧ (bumpN (up P.nd s ⟨f, 0, false, noS, 0⟩) (fo s) 1 x).wh = (P.nd x).wh) := fun x hx => by
    have := bumpN_keep (up P.nd s ⟨f, 0, false, noS, 0⟩) (fo s) 1 x
    rw [up_other _ _ hx] at this
    exact this
  have hs := bumpN_keep (up P.nd s ⟨f, 0, false, noS, 0⟩) (fo s) 1 s
  rw [up_same] at hs
  refine ⟨?_, fun x => ?_, fun x => ?_, a.nd⟩
  · show _ = (insS s P.ks).map _
    have hm : ∀ l : List ByteArray, s ∉ l → l.map (fun x => (x, (P.nd x).f)) = l.map fun x => (x, (bumpN (up P.nd s ⟨f, 0, false, noS, 0⟩) (fo s) 1 x).f) := fun l hl => List.map_congr_left fun x hx => by
      rw [(hk x (fun e => hl (by rw [← e]; exact hx))).1]
    rw [insS_cut s hno, List.map_append, List.map_cons, hs.1]
    show _ = _ ++ (s, f) :: _
    rw [a.l, ← List.map_take, ← List.map_drop, hm _ (fun e => hno (List.mem_of_mem_take e)), hm _ (fun e => hno (List.mem_of_mem_drop e))]
  · exact rMark_bump (fun y => rMark_bump a.st y) x
  · show rMt x R.mt = _
    rw [a.mt x]
    by_cases e : x = s
    · subst e
      rw [h.z x hno]
      show none = if (bumpN _ _ _ x).m = true then _ else none
      rw [hs.2.1]; rfl
    · show _ = if (bumpN _ _ _ x).m = true then some (bumpN _ _ _ x).wh else none
      rw [(hk x e).2.1, (hk x e).2.2]
theorem Ag.touch {P : Pl} {R : Rf} (a : Ag P R) {s : ByteArray} (h1 : isP s = true) (h2 : inS s P.ks = true) : Ag (touchP P s).2 { R with st := rMark s R.st } := by
  unfold touchP
  rw [h1, h2]
  exact ⟨a.l, fun x => rMark_bump a.st x, a.mt, a.nd⟩
theorem Ag.remove {P : Pl} {R : Rf} (a : Ag P R) {s : ByteArray} (h1 : isP s = true) (h2 : inS s P.ks = true) (h3 : ¬ (s = rootS ∨ (0 < (P.nd s).ins ∨ (P.nd s).m = true))) :
    Ag (removeP P s).2 ⟨R.l.filter (fun e => !decide (e.1 = s)), rMark (fo s) (rMark s R.st), R.mt⟩ := by
  unfold removeP
  rw [h1, h2]
  simp only [Bool.true_eq_false, if_false, if_true, if_neg h3]
  have hk : ∀ x, x ≠ s → ((bumpN (up P.nd s ndZ) (fo s) (-1) x).f = (P.nd x).f ∧ (bumpN (up P.nd s ndZ) (fo s) (-1) x).m = (P.nd x).m ∧ (bumpN (up P.nd s ndZ) (fo s) (-1) x).wh = (P.nd x).wh) := fun x hx => by
    have := bumpN_keep (up P.nd s ndZ) (fo s) (-1) x
    rw [up_other _ _ hx] at this
    exact this
  have hs := bumpN_keep (up P.nd s ndZ) (fo s) (-1) s
  rw [up_same] at hs
  refine ⟨?_, fun x => rMark_bump (fun y => rMark_bump a.st y) x, fun x => ?_, a.nd⟩
  · show _ = (remS s P.ks).map _
    rw [a.l]
    unfold remS
    rw [List.filter_map]
    refine List.map_congr_left fun x hx => ?_
    have hx' : x ≠ s := by simpa using (List.mem_filter.1 hx).2
    rw [(hk x hx').1]
  · show rMt x R.mt = _
    rw [a.mt x]
    by_cases e : x = s
    · subst e
      have hm : ¬ (P.nd x).m = true := fun q => h3 (.inr (.inr q))
      rw [if_neg hm]
      show none = if (bumpN _ _ _ x).m = true then _ else none
      rw [hs.2.1]; rfl
    · show _ = if (bumpN _ _ _ x).m = true then some (bumpN _ _ _ x).wh else none
      rw [(hk x e).2.1, (hk x e).2.2]
theorem Ag.mount {P : Pl} {R : Rf} (a : Ag P R) {t s : ByteArray} (h1 : isP s = true) (h2 : inS s P.ks = true) (h3 : (P.nd s).f = true) (h4 : (P.nd s).m = false) :
    Ag (mountP P t s).2 { R with mt := R.mt ++ [(t, s)] } := by
  have hno : rMt s R.mt = none := by rw [a.mt s, h4]; rfl
  unfold mountP
  rw [h1, h2, h3, h4]
  simp only [Bool.true_eq_false, Bool.false_eq_true, if_false, if_true]
  have hk := fun x => bumpU_keep 1 (abv s) (up P.nd s { P.nd s with m := true, wh := t }) x
  refine ⟨?_, a.st, fun x => ?_, ?_⟩
  · show R.l = P.ks.map _
    rw [a.l]
    refine List.map_congr_left fun x _ => ?_
    rw [(hk x).1]
    by_cases e : x = s
    · subst e; rw [up_same]
    · rw [up_other _ _ e]
  · show rMt x (R.mt ++ [(t, s)]) = if (bumpU _ _ _ x).m = true then some (bumpU _ _ _ x).wh else none
    rw [rMt_add s t x hno, (hk x).2.1, (hk x).2.2]
    by_cases e : x = s
    · subst e; rw [up_same]; simp
    · rw [up_other _ _ e, if_neg e, a.mt x]
  · show ((R.mt ++ [(t, s)]).map _).Nodup
    rw [List.map_append, List.nodup_append]
    refine ⟨a.nd, by simp, fun y hy z hz e => ?_⟩
    obtain ⟨e1, he1, rfl⟩ := List.mem_map.1 hy
    have hz' : z = s := by simpa using hz
    exact rMt_none.1 hno e1 he1 (e.trans hz')
theorem Ag.unmount {P : Pl} {R : Rf} (a : Ag P R) {s : ByteArray} (h1 : isP s = true) (h2 : inS s P.ks = true) (h3 : (P.nd s).m = true) (h4 : ¬ 0 < (P.nd s).un) :
    Ag (unmountP P s).2 { R with mt := rCut s R.mt } := by
  unfold unmountP
  rw [h1, h2, h3]
  simp only [Bool.true_eq_false, if_false, if_true, if_neg h4]
  have hk := fun x => bumpU_keep (-1) (abv s) (up P.nd s { P.nd s with m := false, wh := noS }) x
  refine ⟨?_, a.st, fun x => ?_, ?_⟩
  · show R.l = P.ks.map _
    rw [a.l]
    refine List.map_congr_left fun x _ => ?_
    rw [(hk x).1]
    by_cases e : x = s
    · subst e; rw [up_same]
    · rw [up_other _ _ e]
  · show rMt x (rCut s R.mt) = if (bumpU _ _ _ x).m = true then some (bumpU _ _ _ x).wh else none
    rw [rCut_mt s x a.nd, (hk x).2.1, (hk x).2.2]
    by_cases e : x = s
    · subst e; rw [up_same]; simp
    · rw [up_other _ _ e, if_neg e, a.mt x]
  · exact ((rCut_sub s R.mt).map _).nodup a.nd
end Go.Proofs.YtnniahlacfflmaaDoor
