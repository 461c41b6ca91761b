/- Trees: plain. -/
import Derived.Test.YtnniahlacfflmaaDoorTP
import Derived.Sort.Walk0
namespace Go.Proofs.YtnniahlacfflmaaDoor
open Go.RowKit Go.Shelf Go.Sort
def inS (x : ByteArray) (l : List ByteArray) : Bool := l.any fun y => decide (y = x)
theorem inS_iff {x : ByteArray} {l : List ByteArray} : inS x l = true ↔ x ∈ l := by simp [inS]
theorem inS_no {x : ByteArray} {l : List ByteArray} : inS x l = false ↔ x ∉ l := by rw [← inS_iff, Bool.not_eq_true]
structure Nd where
  f : Bool
  ins : Int
  m : Bool
  wh : ByteArray
  un : Int
def ndZ : Nd := ⟨false, 0, false, noS, 0⟩
structure Pl where
  ks : List ByteArray
  nd : ByteArray → Nd
  st : ByteArray → Int
def up {α : Type} (f : ByteArray → α) (s : ByteArray) (v : α) (x : ByteArray) : α := if x = s then v else f x
theorem up_same {α : Type} (f : ByteArray → α) (s : ByteArray) (v : α) : up f s v s = v := if_pos rfl
theorem up_other {α : Type} (f : ByteArray → α) {s x : ByteArray} (v : α) (h : x ≠ s) : up f s v x = f x := if_neg h
def sLt (a b : ByteArray) : Bool := Op.bytesLess a.toList b.toList
theorem sLt_iff (a b : ByteArray) : sLt a b = true ↔ byt a < byt b := by
  unfold sLt byt
  rw [bytesLess_eq, decide_eq_true_eq, ByteArray.toList_eq, ByteArray.toList_eq]
theorem sLt_irr (a : ByteArray) : sLt a a = false := by
  cases h : sLt a a with
  | false => rfl
  | true => rw [sLt_iff] at h; exact absurd h (List.lt_irrefl _)
theorem sLt_trans {a b c : ByteArray} (h : sLt a b = true) (k : sLt b c = true) : sLt a c = true := by
  rw [sLt_iff] at *
  exact List.lt_trans h k
theorem sLt_tot {a b : ByteArray} (h : sLt a b = false) (hne : a ≠ b) : sLt b a = true := by
  unfold sLt at h ⊢
  rw [bytesLess_eq] at h ⊢
  simp only [decide_eq_false_iff_not, decide_eq_true_eq] at h ⊢
  have hne' : a.toList ≠ b.toList := fun e => hne (by rw [ByteArray.toList_eq, ByteArray.toList_eq] at e; exact ByteArray.ext (Array.toList_inj.1 e))
  rcases List.le_iff_lt_or_eq.1 (List.not_lt.1 h) with q | q
  · exact q
  · exact absurd q.symm hne'
def srt (l : List ByteArray) : Prop := l.Pairwise fun a b => sLt a b = true
theorem srt_nd {l : List ByteArray} (h : srt l) : l.Nodup := List.Pairwise.imp (fun {a b} (q : sLt a b = true) e => by rw [e, sLt_irr] at q; cases q) h
def insS (s : ByteArray) : List ByteArray → List ByteArray
  | [] => [s]
  | q :: r => if sLt s q then s :: q :: r else q :: insS s r
theorem insS_perm (s : ByteArray) : ∀ l, (insS s l).Perm (s :: l)
  | [] => List.Perm.refl _
  | q :: r => by
    unfold insS
    split
    · exact List.Perm.refl _
    · exact ((insS_perm s r).cons q).trans (List.Perm.swap s q r)
theorem mem_insS {s x : ByteArray} {l : List ByteArray} : x ∈ insS s l ↔ x = s ∨ x ∈ l := by rw [(insS_perm s l).mem_iff, List.mem_cons]
theorem srt_insS {s : ByteArray} : ∀ {l : List ByteArray}, srt l → s ∉ l → srt (insS s l)
  | [], _, _ => by simp [insS, srt]
  | q :: r, h, hs => by
    obtain ⟨h1, h2⟩ := List.pairwise_cons.1 h
    simp only [List.mem_cons, not_or] at hs
    unfold insS
    split
    · rename_i hq
      refine List.pairwise_cons.2 ⟨fun x hx => ?_, h⟩
      rcases List.mem_cons.1 hx with rfl | hx
      · exact hq
      · exact sLt_trans hq (h1 x hx)
    · rename_i hq
      refine List.pairwise_cons.2 ⟨fun x hx => ?_, srt_insS h2 hs.2⟩
      rcases mem_insS.1 hx with rfl | hx
      · exact sLt_tot (by simpa using hq) hs.1
      · exact h1 x hx
def remS (s : ByteArray) (l : List ByteArray) : List ByteArray := l.filter fun x => !decide (x = s)
theorem mem_remS {s x : ByteArray} {l : List ByteArray} : x ∈ remS s l ↔ x ∈ l ∧ x ≠ s := by simp [remS]
theorem remS_none {s : ByteArray} {l : List ByteArray} (h : s ∉ l) : remS s l = l := by
  unfold remS
  rw [List.filter_eq_self]
  intro x hx
  simp only [Bool.not_eq_true', decide_eq_false_iff_not]
  rintro rfl
  exact h hx
theorem remS_perm {s : ByteArray} : ∀ {l : List ByteArray}, l.Nodup → s ∈ l → l.Perm (s :: remS s l)
  | [], _, h => by simp at h
  | q :: r, hn, h => by
    obtain ⟨h1, h2⟩ := List.nodup_cons.1 hn
    by_cases e : q = s
    · subst e
      have : remS q (q :: r) = r := by
        unfold remS
        rw [List.filter_cons]
        simp only [decide_true, Bool.not_true, Bool.false_eq_true, if_false]
        exact remS_none h1
      rw [this]
    · have hr : s ∈ r := by
        rcases List.mem_cons.1 h with rfl | h
        · exact absurd rfl e
        · exact h
      have : remS s (q :: r) = q :: remS s r := by
        unfold remS
        rw [List.filter_cons]
        simp [e]
      rw [this]
      exact ((remS_perm h2 hr).cons q).trans (List.Perm.swap s q _)
theorem count_turn {s : ByteArray} {p q : ByteArray → Bool} : ∀ {l : List ByteArray}, l.Nodup → s ∈ l → p s = false → (∀ x ∈ l, x ≠ s → p x = q x) → l.countP q = l.countP p + (if q s then 1 else 0)
  | l, hn, hs, hp, hq => by
    have pm := remS_perm hn hs
    rw [pm.countP_eq, pm.countP_eq, List.countP_cons, List.countP_cons, hp]
    have : (remS s l).countP p = (remS s l).countP q := List.countP_congr (fun x hx => by rw [hq x (mem_remS.1 hx).1 (mem_remS.1 hx).2])
    rw [this]
    simp
theorem count_zero {p : ByteArray → Bool} {l : List ByteArray} : l.countP p = 0 ↔ ∀ x ∈ l, p x = false := by
  rw [List.countP_eq_zero]
  exact ⟨fun h x hx => by simpa using h x hx, fun h x hx => by simpa using h x hx⟩
def kid (x q : ByteArray) : Bool := decide (q ≠ rootS ∧ fo q = x)
def mbl (nd : ByteArray → Nd) (x q : ByteArray) : Bool := (nd q).m && inS x (abv q)
structure Wf (P : Pl) : Prop where
  root : rootS ∈ P.ks
  rf : (P.nd rootS).f = true
  srt : srt P.ks
  ok : ∀ x ∈ P.ks, isP x = true
  par : ∀ x ∈ P.ks, x ≠ rootS → fo x ∈ P.ks ∧ (P.nd (fo x)).f = true
  ins : ∀ x ∈ P.ks, (P.nd x).ins = (P.ks.countP (kid x) : Nat)
  un : ∀ x ∈ P.ks, (P.nd x).un = (P.ks.countP (mbl P.nd x) : Nat)
  z : ∀ x, x ∉ P.ks → P.nd x = ndZ
  wh : ∀ x, (P.nd x).m = false → (P.nd x).wh = noS
theorem Wf.aboveL {P : Pl} (h : Wf P) : ∀ l, hd l → mkS l ∈ P.ks → ∀ x ∈ abv (mkS l), x ∈ P.ks := by
  refine path_rec (fun _ x hx => ?_) (fun l hl hn ih hk x hx => ?_)
  · rw [show mkS [47] = rootS from rfl, abv_root] at hx
    cases hx
  · have hne : mkS l ≠ rootS := fun e => hn (by have := congrArg byt e; exact this)
    rw [abv_step (s := mkS l) hl hne] at hx
    have := (h.par _ hk hne).1
    rcases List.mem_cons.1 hx with rfl | hx
    · exact this
    · exact ih this x hx
theorem Wf.above {P : Pl} (h : Wf P) {s : ByteArray} (hs : s ∈ P.ks) : ∀ x ∈ abv s, x ∈ P.ks := h.aboveL (byt s) (isP_hd (h.ok s hs)) hs
/-- What has nothing right below it has nothing below it. -/
theorem Wf.empty {P : Pl} (h : Wf P) {x : ByteArray} (h0 : ∀ q ∈ P.ks, kid x q = false) : ∀ l, hd l → mkS l ∈ P.ks → x ∉ abv (mkS l) := by
  refine path_rec (fun _ hx => ?_) (fun l hl hn ih hk hx => ?_)
  · rw [show mkS [47] = rootS from rfl, abv_root] at hx
    cases hx
  · have hne : mkS l ≠ rootS := fun e => hn (by have := congrArg byt e; exact this)
    rw [abv_step (s := mkS l) hl hne] at hx
    rcases List.mem_cons.1 hx with rfl | hx
    · have := h0 _ hk
      simp [kid, hne] at this
    · exact ih (h.par _ hk hne).1 hx
theorem Wf.bare {P : Pl} (h : Wf P) {x : ByteArray} (h0 : ∀ q ∈ P.ks, kid x q = false) {q : ByteArray} (hq : q ∈ P.ks) : x ∉ abv q := h.empty h0 (byt q) (isP_hd (h.ok q hq)) hq
def bump (st : ByteArray → Int) (s : ByteArray) : ByteArray → Int := up st s (st s + 1)
def bumpN (nd : ByteArray → Nd) (s : ByteArray) (d : Int) : ByteArray → Nd := up nd s { nd s with ins := (nd s).ins + d }
def bumpU (d : Int) : List ByteArray → (ByteArray → Nd) → ByteArray → Nd
  | [], nd => nd
  | x :: r, nd => bumpU d r (up nd x { nd x with un := (nd x).un + d })
theorem bumpU_at (d : Int) : ∀ (l : List ByteArray) (nd : ByteArray → Nd), l.Nodup → ∀ x, bumpU d l nd x = if inS x l = true then { nd x with un := (nd x).un + d } else nd x
  | [], nd, _, x => by simp [bumpU, inS]
  | y :: r, nd, hn, x => by
    obtain ⟨h1, h2⟩ := List.nodup_cons.1 hn
    unfold bumpU
    rw [bumpU_at d r _ h2]
    by_cases e : x = y
    · subst e
      rw [if_neg (fun q => h1 (inS_iff.1 q)), if_pos (inS_iff.2 (by simp)), up_same]
    · rw [up_other _ _ e]
      have : (inS x (y :: r) = true) ↔ (inS x r = true) := by rw [inS_iff, inS_iff, List.mem_cons]; exact ⟨fun h => h.resolve_left e, .inr⟩
      by_cases hx : inS x r = true
      · rw [if_pos hx, if_pos (this.2 hx)]
      · rw [if_neg hx, if_neg (fun q => hx (this.1 q))]
def makeP (P : Pl) (s : ByteArray) (f : Bool) : Int × Pl :=
  if isP s = false then (111, P) else if inS s P.ks = true then (112, P) else if (P.nd (fo s)).f = false then (110, P) else
    (0, ⟨insS s P.ks, bumpN (up P.nd s ⟨f, 0, false, noS, 0⟩) (fo s) 1, bump (bump P.st s) (fo s)⟩)
def touchP (P : Pl) (s : ByteArray) : Int × Pl :=
  if isP s = false then (111, P) else if inS s P.ks = true then (0, { P with st := bump P.st s }) else (110, P)
def removeP (P : Pl) (s : ByteArray) : Int × Pl :=
  if isP s = false then (111, P) else if inS s P.ks = true then
    (if s = rootS ∨ (0 < (P.nd s).ins ∨ (P.nd s).m = true) then (112, P) else (0, ⟨remS s P.ks, bumpN (up P.nd s ndZ) (fo s) (-1), bump (bump P.st s) (fo s)⟩)) else (110, P)
def mountP (P : Pl) (t s : ByteArray) : Int × Pl :=
  if isP s = false then (111, P) else if inS s P.ks = true then
    (if (P.nd s).f = false then (110, P) else if (P.nd s).m = true then (112, P) else (0, { P with nd := bumpU 1 (abv s) (up P.nd s { P.nd s with m := true, wh := t }) })) else (110, P)
def unmountP (P : Pl) (s : ByteArray) : Int × Pl :=
  if isP s = false then (111, P) else if inS s P.ks = true then
    (if (P.nd s).m = false then (110, P) else if 0 < (P.nd s).un then (112, P) else (0, { P with nd := bumpU (-1) (abv s) (up P.nd s { P.nd s with m := false, wh := noS }) })) else (110, P)
theorem Wf.make {P : Pl} (h : Wf P) (s : ByteArray) (f : Bool) : Wf (makeP P s f).2 := by
  unfold makeP
  split
  · exact h
  split
  · exact h
  split
  · exact h
  rename_i hp hs hf
  have hs : s ∉ P.ks := fun q => hs (inS_iff.2 q)
  have hp : isP s = true := by simpa using hp
  have hf : (P.nd (fo s)).f = true := by simpa using hf
  have hfo : fo s ∈ P.ks := Classical.byContradiction fun q => by rw [h.z _ q] at hf; cases hf
  have hr : s ≠ rootS := fun e => hs (e ▸ h.root)
  have hne := fo_ne hp hr
  have hnd : ∀ x, bumpN (up P.nd s ⟨f, 0, false, noS, 0⟩) (fo s) 1 x = if x = s then ⟨f, 0, false, noS, 0⟩ else if x = fo s then { P.nd x with ins := (P.nd x).ins + 1 } else P.nd x := by
    intro x
    unfold bumpN
    by_cases e : x = fo s
    · subst e
      rw [up_same, up_other _ _ hne, if_neg hne, if_pos rfl]
    · rw [up_other _ _ e, if_neg e]
      rfl
  have hks : ∀ x, x ∈ insS s P.ks ↔ x = s ∨ x ∈ P.ks := fun x => mem_insS
  have pm := insS_perm s P.ks
  have hkid : ∀ q ∈ P.ks, kid s q = false := fun q hq => by
    simp only [kid, decide_eq_false_iff_not]
    rintro ⟨h1, h2⟩
    exact hs (h2 ▸ (h.par q hq h1).1)
  have hfl : ∀ x, x ≠ s → (bumpN (up P.nd s ⟨f, 0, false, noS, 0⟩) (fo s) 1 x).f = (P.nd x).f := fun x hx => by
    rw [hnd, if_neg hx]; split <;> rfl
  have hml : ∀ x, x ≠ s → (bumpN (up P.nd s ⟨f, 0, false, noS, 0⟩) (fo s) 1 x).m = (P.nd x).m := fun x hx => by
    rw [hnd, if_neg hx]; split <;> rfl
  refine ⟨(hks _).2 (.inr h.root), ?_, srt_insS h.srt hs, fun x hx => ?_, fun x hx hn => ?_, fun x hx => ?_, fun x hx => ?_, fun x hx => ?_, fun x hx => ?_⟩
  · show (bumpN _ _ _ _).f = true
    rw [hfl _ (Ne.symm hr)]; exact h.rf
  · rcases (hks x).1 hx with rfl | hx
    · exact hp
    · exact h.ok x hx
  · rcases (hks x).1 hx with rfl | hx
    · exact ⟨(hks _).2 (.inr hfo), (hfl _ hne).trans hf⟩
    · have := h.par x hx hn
      exact ⟨(hks _).2 (.inr this.1), (hfl _ (fun e => hs (e ▸ this.1))).trans this.2⟩
  · show (bumpN _ _ _ _).ins = ((insS s P.ks).countP (kid x) : Nat)
    rw [hnd, pm.countP_eq, List.countP_cons]
    rcases (hks x).1 hx with rfl | hx
    · rw [if_pos rfl, count_zero.2 hkid]
      simp [kid, hne]
    · have hxs : x ≠ s := fun e => hs (e ▸ hx)
      rw [if_neg hxs]
      have hi := h.ins x hx
      by_cases e : x = fo s
      · subst e
        rw [if_pos rfl]
        show (P.nd (fo s)).ins + 1 = _
        rw [hi]
        simp [kid, hr]
      · rw [if_neg e, hi]
        have : ¬ fo s = x := fun q => e q.symm
        simp [kid, this]
  · show (bumpN _ _ _ _).un = ((insS s P.ks).countP (mbl _ x) : Nat)
    rw [pm.countP_eq, List.countP_cons]
    have h1 : mbl (bumpN (up P.nd s ⟨f, 0, false, noS, 0⟩) (fo s) 1) x s = false := by unfold mbl; rw [hnd, if_pos rfl]; rfl
    have h2 : P.ks.countP (mbl (bumpN (up P.nd s ⟨f, 0, false, noS, 0⟩) (fo s) 1) x) = P.ks.countP (mbl P.nd x) := List.countP_congr (fun q hq => by
      unfold mbl
      rw [hml q (fun e => hs (e ▸ hq))])
    rw [h1, h2, hnd]
    rcases (hks x).1 hx with rfl | hx
    · rw [if_pos rfl]
      have : P.ks.countP (mbl P.nd x) = 0 := count_zero.2 (fun q hq => by
        have := h.bare hkid hq
        simp [mbl, inS_no.2 this])
      rw [this]; rfl
    · rw [if_neg (fun e : x = s => hs (e ▸ hx))]
      have := h.un x hx
      split
      · simpa using this
      · simpa using this
  · show bumpN _ _ _ _ = _
    have hx' : x ≠ s ∧ x ∉ P.ks := by
      have := mt (hks x).2 hx
      simpa [not_or] using this
    rw [hnd, if_neg hx'.1, if_neg (fun e : x = fo s => hx'.2 (by rw [e]; exact hfo)), h.z x hx'.2]
  · have hx : (bumpN (up P.nd s ⟨f, 0, false, noS, 0⟩) (fo s) 1 x).m = false := hx
    show (bumpN (up P.nd s ⟨f, 0, false, noS, 0⟩) (fo s) 1 x).wh = noS
    rw [hnd] at hx ⊢
    split
    · rfl
    · rename_i hxs
      rw [if_neg hxs] at hx
      split
      · rename_i e; rw [if_pos e] at hx; exact h.wh x hx
      · rename_i e; rw [if_neg e] at hx; exact h.wh x hx
theorem Wf.touch {P : Pl} (h : Wf P) (s : ByteArray) : Wf (touchP P s).2 := by
  unfold touchP
  split
  · exact h
  split
  · exact ⟨h.root, h.rf, h.srt, h.ok, h.par, h.ins, h.un, h.z, h.wh⟩
  · exact h
theorem Wf.remove {P : Pl} (h : Wf P) (s : ByteArray) : Wf (removeP P s).2 := by
  unfold removeP
  split
  · exact h
  split
  case isFalse => exact h
  split
  · exact h
  rename_i hp hs hc
  have hs := inS_iff.1 hs
  have hp : isP s = true := by simpa using hp
  simp only [not_or] at hc
  obtain ⟨hr, hi, hm⟩ := hc
  have hm : (P.nd s).m = false := by simpa using hm
  have hne := fo_ne hp hr
  obtain ⟨hfo, hff⟩ := h.par s hs hr
  have hkid : ∀ q ∈ P.ks, kid s q = false := count_zero.1 (by have := h.ins s hs; omega)
  have hnd : ∀ x, bumpN (up P.nd s ndZ) (fo s) (-1) x = if x = s then ndZ else if x = fo s then { P.nd x with ins := (P.nd x).ins + (-1) } else P.nd x := by
    intro x
    unfold bumpN
    by_cases e : x = fo s
    · subst e
      rw [up_same, up_other _ _ hne, if_neg hne, if_pos rfl]
    · rw [up_other _ _ e, if_neg e]
      rfl
  have hks : ∀ x, x ∈ remS s P.ks ↔ x ∈ P.ks ∧ x ≠ s := fun x => mem_remS
  have pm := remS_perm (srt_nd h.srt) hs
  have hfl : ∀ x, x ≠ s → (bumpN (up P.nd s ndZ) (fo s) (-1) x).f = (P.nd x).f := fun x hx => by
    rw [hnd, if_neg hx]; split <;> rfl
  have hml : ∀ x, x ≠ s → (bumpN (up P.nd s ndZ) (fo s) (-1) x).m = (P.nd x).m := fun x hx => by
    rw [hnd, if_neg hx]; split <;> rfl
  refine ⟨(hks _).2 ⟨h.root, Ne.symm hr⟩, ?_, List.Pairwise.filter _ h.srt, fun x hx => h.ok x ((hks x).1 hx).1, fun x hx hn => ?_, fun x hx => ?_, fun x hx => ?_, fun x hx => ?_, fun x hx => ?_⟩
  · show (bumpN _ _ _ _).f = true
    rw [hfl _ (Ne.symm hr)]; exact h.rf
  · obtain ⟨hx1, hx2⟩ := (hks x).1 hx
    have := h.par x hx1 hn
    have hxs : fo x ≠ s := fun e => by
      have := hkid x hx1
      simp [kid, hn, e] at this
    exact ⟨(hks _).2 ⟨this.1, hxs⟩, (hfl _ hxs).trans this.2⟩
  · obtain ⟨hx1, hx2⟩ := (hks x).1 hx
    show (bumpN _ _ _ _).ins = ((remS s P.ks).countP (kid x) : Nat)
    have hi := h.ins x hx1
    rw [pm.countP_eq, List.countP_cons] at hi
    rw [hnd, if_neg hx2]
    by_cases e : x = fo s
    · subst e
      rw [if_pos rfl]
      show (P.nd (fo s)).ins + -1 = _
      rw [hi]
      simp [kid, hr]
      omega
    · rw [if_neg e, hi]
      have : ¬ fo s = x := fun q => e q.symm
      simp [kid, this]
  · obtain ⟨hx1, hx2⟩ := (hks x).1 hx
    show (bumpN _ _ _ _).un = ((remS s P.ks).countP (mbl _ x) : Nat)
    have h2 : (remS s P.ks).countP (mbl (bumpN (up P.nd s ndZ) (fo s) (-1)) x) = (remS s P.ks).countP (mbl P.nd x) := List.countP_congr (fun q hq => by
      unfold mbl
      rw [hml q ((hks q).1 hq).2])
    have hu := h.un x hx1
    rw [pm.countP_eq, List.countP_cons, show mbl P.nd x s = false by unfold mbl; rw [hm]; rfl] at hu
    rw [h2, hnd, if_neg hx2]
    split
    · simpa using hu
    · simpa using hu
  · show bumpN _ _ _ _ = _
    rw [hnd]
    by_cases e : x = s
    · rw [if_pos e]
    · have hx' : x ∉ P.ks := fun q => hx ((hks x).2 ⟨q, e⟩)
      rw [if_neg e, if_neg (fun e : x = fo s => hx' (by rw [e]; exact hfo)), h.z x hx']
  · have hx : (bumpN (up P.nd s ndZ) (fo s) (-1) x).m = false := hx
    show (bumpN (up P.nd s ndZ) (fo s) (-1) x).wh = noS
    rw [hnd] at hx ⊢
    split
    · rfl
    · rename_i hxs
      rw [if_neg hxs] at hx
      split
      · rename_i e; rw [if_pos e] at hx; exact h.wh x hx
      · rename_i e; rw [if_neg e] at hx; exact h.wh x hx
/-- A mount turns. -/
theorem Wf.turn {P : Pl} (h : Wf P) {s : ByteArray} (hs : s ∈ P.ks) (b : Bool) (t : ByteArray) (hb : b = false → t = noS) (d : Int) (hd : ((P.nd s).m = false ∧ b = true ∧ d = 1) ∨ ((P.nd s).m = true ∧ b = false ∧ d = -1)) :
    Wf { P with nd := bumpU d (abv s) (up P.nd s { P.nd s with m := b, wh := t }) } := by
  have hp := h.ok s hs
  have hnd : ∀ x, bumpU d (abv s) (up P.nd s { P.nd s with m := b, wh := t }) x = if x = s then { P.nd s with m := b, wh := t } else if inS x (abv s) = true then { P.nd x with un := (P.nd x).un + d } else P.nd x := by
    intro x
    rw [bumpU_at _ _ _ (abv_nd (isP_hd hp))]
    by_cases e : x = s
    · subst e
      have : ¬ inS x (abv x) = true := fun q => by have := (abv_lt (isP_hd hp) (inS_iff.1 q)).1; omega
      rw [if_neg this, up_same, if_pos rfl]
    · rw [up_other _ _ e, if_neg e]
  generalize hN : bumpU d (abv s) (up P.nd s { P.nd s with m := b, wh := t }) = N at hnd
  have hfl : ∀ x, (N x).f = (P.nd x).f := fun x => by
    rw [hnd]
    split
    · rename_i e; rw [e]
    · split <;> rfl
  have hil : ∀ x, (N x).ins = (P.nd x).ins := fun x => by
    rw [hnd]
    split
    · rename_i e; rw [e]
    · split <;> rfl
  have hml : ∀ x, x ≠ s → (N x).m = (P.nd x).m := fun x hx => by
    rw [hnd, if_neg hx]; split <;> rfl
  have hms : (N s).m = b := by rw [hnd, if_pos rfl]
  refine ⟨h.root, (hfl _).trans h.rf, h.srt, h.ok, fun x hx hn => ⟨(h.par x hx hn).1, (hfl _).trans (h.par x hx hn).2⟩, fun x hx => (hil x).trans (h.ins x hx), fun x hx => ?_, fun x hx => ?_, fun x hx => ?_⟩
  · show (N x).un = (P.ks.countP (mbl N x) : Nat)
    have hu := h.un x hx
    have hun : (N x).un = (P.nd x).un + if inS x (abv s) = true then d else 0 := by
      rw [hnd]
      by_cases e : x = s
      · subst e
        have : ¬ inS x (abv x) = true := fun q => by have := (abv_lt (isP_hd hp) (inS_iff.1 q)).1; omega
        rw [if_pos rfl, if_neg this]; simp
      · rw [if_neg e]
        split <;> simp
    rcases hd with ⟨h1, rfl, rfl⟩ | ⟨h1, rfl, rfl⟩
    · have := count_turn (p := mbl P.nd x) (q := mbl N x) (srt_nd h.srt) hs (by unfold mbl; rw [h1]; rfl) (fun q _ hq => by unfold mbl; rw [hml q hq])
      rw [hun, hu, this]
      unfold mbl
      rw [hms]
      by_cases hx2 : inS x (abv s) = true <;> simp [hx2]
    · have := count_turn (p := mbl N x) (q := mbl P.nd x) (srt_nd h.srt) hs (by unfold mbl; rw [hms]; rfl) (fun q _ hq => by unfold mbl; rw [hml q hq])
      rw [hun, hu, this]
      unfold mbl
      rw [h1]
      by_cases hx2 : inS x (abv s) = true <;> simp [hx2]
      omega
  · show N x = _
    rw [hnd, if_neg (fun e : x = s => hx (by rw [e]; exact hs)), if_neg (fun q => hx (h.above hs x (inS_iff.1 q))), h.z x hx]
  · have hx : (N x).m = false := hx
    show (N x).wh = noS
    rw [hnd] at hx ⊢
    split
    · rename_i e
      rw [if_pos e] at hx
      exact hb hx
    · rename_i e
      rw [if_neg e] at hx
      split
      · rename_i e2; rw [if_pos e2] at hx; exact h.wh x hx
      · rename_i e2; rw [if_neg e2] at hx; exact h.wh x hx
theorem Wf.mount {P : Pl} (h : Wf P) (t s : ByteArray) : Wf (mountP P t s).2 := by
  unfold mountP
  split
  · exact h
  split
  case isFalse => exact h
  split
  · exact h
  split
  · exact h
  rename_i hp hs hf hm
  have hs := inS_iff.1 hs
  exact h.turn hs true t (fun e => by cases e) 1 (.inl ⟨by simpa using hm, rfl, rfl⟩)
theorem Wf.unmount {P : Pl} (h : Wf P) (s : ByteArray) : Wf (unmountP P s).2 := by
  unfold unmountP
  split
  · exact h
  split
  case isFalse => exact h
  split
  · exact h
  split
  · exact h
  rename_i hp hs hm hu
  have hs := inS_iff.1 hs
  exact h.turn hs false noS (fun _ => rfl) (-1) (.inr ⟨by simpa using hm, rfl, rfl⟩)
def pl0 : Pl := ⟨[rootS], up (fun _ => ndZ) rootS { ndZ with f := true }, fun _ => 0⟩
theorem wf0 : Wf pl0 := by
  have hk : ∀ x, x ∈ pl0.ks ↔ x = rootS := fun x => by simp [pl0]
  refine ⟨(hk _).2 rfl, rfl, by simp [pl0, srt], fun x hx => by rw [(hk x).1 hx]; decide, fun x hx hn => absurd ((hk x).1 hx) hn, fun x hx => ?_, fun x hx => ?_, fun x hx => ?_, fun x hx => ?_⟩
  · obtain rfl := (hk x).1 hx
    simp [pl0, kid, up, ndZ]
  · obtain rfl := (hk x).1 hx
    simp [pl0, mbl, up, ndZ]
  · exact up_other (fun _ => ndZ) _ (fun e => hx ((hk x).2 e))
  · by_cases e : x = rootS
    · subst e; rfl
    · show (up (fun _ => ndZ) rootS { ndZ with f := true } x).wh = noS
      rw [up_other _ _ e]; rfl
end Go.Proofs.YtnniahlacfflmaaDoor
