/- TreeHolds: plain. -/
import Derived.Test.YtcpabmceioijpaaDoorTL
namespace Go.Proofs.YtcpabmceioijpaaDoor
open Go.RowKit Go.Shelf
def nh : Nat → ByteArray
  | 0 => ⟨#[47, 97]⟩
  | 1 => ⟨#[47, 97, 47, 98]⟩
  | 2 => ⟨#[47, 97, 47, 98, 47, 99]⟩
  | 3 => ⟨#[47, 97, 47, 100]⟩
  | 4 => ⟨#[47, 101]⟩
  | _ => ⟨#[47, 101, 47, 102]⟩
def uh : Nat → Option Nat
  | 0 => none
  | 1 => some 0
  | 2 => some 1
  | 3 => some 0
  | 4 => none
  | _ => some 4
def uI (k : Nat) : Int := match uh k with | some j => (j : Int) | none => -1
def upT {α : Type} (f : Nat → α) (k : Nat) (b : α) (x : Nat) : α := if x = k then b else f x
theorem nh_size (k : Nat) : (nh k).size ≤ 10 := by
  match k with
  | 0 => decide
  | 1 => decide
  | 2 => decide
  | 3 => decide
  | 4 => decide
  | _ + 5 => exact (by decide : (⟨#[47, 101, 47, 102]⟩ : ByteArray).size ≤ 10)
theorem nh_isP : ∀ k : Fin 6, isP (nh k.val) = true := by decide +kernel
theorem nh_ne : ∀ k j : Fin 6, nh k.val = nh j.val → k = j := by decide +kernel
theorem nh_root : ∀ k : Fin 6, ¬ nh k.val = rootS := by decide +kernel
theorem nh_fo : ∀ k : Fin 6, fo (nh k.val) = match uh k.val with | some j => nh j | none => rootS := by decide +kernel
theorem uh_lt : ∀ k : Fin 6, ∀ j, uh k.val = some j → j < 6 := by
  intro k j h
  have : ∀ k : Fin 6, (match uh k.val with | some j => decide (j < 6) | none => true) = true := by decide +kernel
  have := this k
  rw [h] at this
  simpa using this
theorem uh_ne : ∀ k : Fin 6, ¬ uh k.val = some k.val := by decide +kernel
theorem nh_inj {k j : Nat} (hk : k < 6) (hj : j < 6) (h : nh k = nh j) : k = j := congrArg Fin.val (nh_ne ⟨k, hk⟩ ⟨j, hj⟩ h)
structure HI (th fd : Nat → Bool) (P : Pl) : Prop where
  wf : Wf P
  ks : ∀ x, x ∈ P.ks ↔ x = rootS ∨ ∃ k, k < 6 ∧ th k = true ∧ x = nh k
  f : ∀ k, k < 6 → th k = true → (P.nd (nh k)).f = fd k
  m : ∀ x, (P.nd x).m = false
theorem HI.inn {th fd : Nat → Bool} {P : Pl} (h : HI th fd P) {k : Nat} (hk : k < 6) : inS (nh k) P.ks = th k := by
  cases e : th k with
  | true => exact inS_iff.2 ((h.ks _).2 (.inr ⟨k, hk, e, rfl⟩))
  | false =>
    refine inS_no.2 (fun q => ?_)
    rcases (h.ks _).1 q with q | ⟨j, hj, ht, q⟩
    · exact nh_root ⟨k, hk⟩ q
    · rw [nh_inj hk hj q, ht] at e
      cases e
def upOk (th fd : Nat → Bool) (k : Nat) : Bool := match uh k with | some j => th j && fd j | none => true
def mkOk (th fd : Nat → Bool) (k : Nat) : Bool := !th k && upOk th fd k
theorem HI.fof {th fd : Nat → Bool} {P : Pl} (h : HI th fd P) {k : Nat} (hk : k < 6) : (P.nd (fo (nh k))).f = upOk th fd k := by
  rw [nh_fo ⟨k, hk⟩]
  unfold upOk
  cases e : uh k with
  | none => exact h.wf.rf
  | some j =>
    have hj := uh_lt ⟨k, hk⟩ j e
    cases et : th j with
    | true => exact (h.f j hj et).trans (by show _ = (th j && fd j); rw [et]; rfl)
    | false =>
      have hi := h.inn hj
      rw [et] at hi
      have : (P.nd (nh j)).f = false := by rw [h.wf.z _ (inS_no.1 hi)]; rfl
      show (P.nd (nh j)).f = (th j && fd j)
      rw [this, et]
      rfl
/-- Whose stamp turns. -/
def chg (k j : Nat) (both : Bool) : Bool := decide (j = k) || (both && decide (uI k = (j : Int)))
theorem bump2 (st : ByteArray → Int) {k j : Nat} (hk : k < 6) (hj : j < 6) : (bump (bump st (nh k)) (fo (nh k)) (nh j) = st (nh j)) ↔ chg k j true = false := by
  unfold bump chg uI
  rw [nh_fo ⟨k, hk⟩]
  have hkk := uh_ne ⟨k, hk⟩
  cases e : uh k with
  | none =>
    simp only [up_other _ _ (nh_root ⟨j, hj⟩)]
    by_cases ej : j = k
    · subst ej
      rw [up_same]
      simp
      omega
    · rw [up_other _ _ (fun q => ej (nh_inj hj hk q))]
      have : ¬ (-1 : Int) = (j : Int) := by omega
      simp [ej, this]
  | some i =>
    have hi := uh_lt ⟨k, hk⟩ i e
    have hik : i ≠ k := fun q => hkk (by rw [e, q])
    simp only
    by_cases ei : j = i
    · subst ei
      rw [up_same, up_other _ _ (fun q => hik (nh_inj hj hk q))]
      simp
      omega
    · rw [up_other _ _ (fun q => ei (nh_inj hj hi q))]
      by_cases ej : j = k
      · subst ej
        rw [up_same]
        simp
        omega
      · rw [up_other _ _ (fun q => ej (nh_inj hj hk q))]
        have : ¬ (i : Int) = (j : Int) := by omega
        simp [ej, this]
theorem bump1 (st : ByteArray → Int) {k j : Nat} (hk : k < 6) (hj : j < 6) : (bump st (nh k) (nh j) = st (nh j)) ↔ chg k j false = false := by
  unfold bump chg
  by_cases ej : j = k
  · subst ej
    rw [up_same]
    simp
    omega
  · rw [up_other _ _ (fun q => ej (nh_inj hj hk q))]
    simp [ej]
/-- What comes of a step. -/
structure HS (P P' : Pl) (k : Nat) (dn both : Bool) : Prop where
  s : ∀ j, j < 6 → (P'.st (nh j) = P.st (nh j) ↔ (dn && chg k j both) = false)
theorem HS.refl (P : Pl) (k : Nat) (both : Bool) : HS P P k false both := ⟨fun j _ => by simp⟩
theorem HI.make {th fd : Nat → Bool} {P : Pl} (h : HI th fd P) {k : Nat} (hk : k < 6) (f : Bool) (ho : mkOk th fd k = true) : (makeP P (nh k) f).1 = 0 ∧ HI (upT th k true) (upT fd k f) (makeP P (nh k) f).2 ∧ HS P (makeP P (nh k) f).2 k true true := by
  unfold mkOk at ho
  have h1 : th k = false := by simpa using (Bool.and_eq_true_iff.1 ho).1
  have h2 : upOk th fd k = true := (Bool.and_eq_true_iff.1 ho).2
  have hw := h.wf.make (nh k) f
  rw [makeP_ok _ _ _ (nh_isP ⟨k, hk⟩) (by rw [h.inn hk, h1]) (by rw [h.fof hk]; exact h2)] at hw ⊢
  refine ⟨rfl, ⟨hw, fun x => ?_, fun j hj hth => ?_, fun x => ?_⟩, ⟨fun j hj => ?_⟩⟩
  · rw [show (⟨insS (nh k) P.ks, bumpN (up P.nd (nh k) ⟨f, 0, false, noS, 0⟩) (fo (nh k)) 1, bump (bump P.st (nh k)) (fo (nh k))⟩ : Pl).ks = insS (nh k) P.ks from rfl, mem_insS, h.ks]
    constructor
    · rintro (rfl | rfl | ⟨j, hj, ht, rfl⟩)
      · exact .inr ⟨k, hk, by unfold upT; rw [if_pos rfl], rfl⟩
      · exact .inl rfl
      · exact .inr ⟨j, hj, by unfold upT; split; rfl; exact ht, rfl⟩
    · rintro (rfl | ⟨j, hj, ht, rfl⟩)
      · exact .inr (.inl rfl)
      · by_cases e : j = k
        · rw [e]; exact .inl rfl
        · unfold upT at ht
          rw [if_neg e] at ht
          exact .inr (.inr ⟨j, hj, ht, rfl⟩)
  · show (bumpN _ _ _ _).f = _
    unfold bumpN
    have e0 : ∀ x, (up (up P.nd (nh k) ⟨f, 0, false, noS, 0⟩) (fo (nh k)) { up P.nd (nh k) ⟨f, 0, false, noS, 0⟩ (fo (nh k)) with ins := (up P.nd (nh k) ⟨f, 0, false, noS, 0⟩ (fo (nh k))).ins + 1 } x).f = (up P.nd (nh k) ⟨f, 0, false, noS, 0⟩ x).f := fun x => by
      by_cases e : x = fo (nh k)
      · rw [e, up_same]
      · rw [up_other _ _ e]
    rw [e0]
    by_cases e : j = k
    · rw [e, up_same]; unfold upT; rw [if_pos rfl]
    · rw [up_other _ _ (fun q => e (nh_inj hj hk q))]
      unfold upT at hth ⊢
      rw [if_neg e] at hth ⊢
      exact h.f j hj hth
  · show (bumpN _ _ _ _).m = false
    unfold bumpN
    by_cases e : x = fo (nh k)
    · rw [e, up_same]
      show (up P.nd (nh k) ⟨f, 0, false, noS, 0⟩ (fo (nh k))).m = false
      unfold up
      split
      · rfl
      · exact h.m _
    · rw [up_other _ _ e]
      unfold up
      split
      · rfl
      · exact h.m _
  · show bump (bump P.st (nh k)) (fo (nh k)) (nh j) = P.st (nh j) ↔ _
    rw [Bool.true_and]
    exact bump2 P.st hk hj
theorem HI.make_no {th fd : Nat → Bool} {P : Pl} (h : HI th fd P) {k : Nat} (hk : k < 6) (f : Bool) (ho : mkOk th fd k = false) : ∃ e : Int, makeP P (nh k) f = (e, P) ∧ ¬ e = 0 := by
  unfold mkOk at ho
  cases h1 : th k with
  | true => exact ⟨112, makeP_there _ _ _ (nh_isP ⟨k, hk⟩) (by rw [h.inn hk, h1]), by omega⟩
  | false =>
    rw [h1] at ho
    exact ⟨110, makeP_no _ _ _ (nh_isP ⟨k, hk⟩) (by rw [h.inn hk, h1]) (by rw [h.fof hk]; simpa using ho), by omega⟩
/-- Nothing lies in it. -/
def bare (th : Nat → Bool) (k j : Nat) : Bool := !(th j && decide (uI j = (k : Int)))
def rmOk (th : Nat → Bool) (k : Nat) : Bool := th k && (bare th k 0 && (bare th k 1 && (bare th k 2 && (bare th k 3 && (bare th k 4 && bare th k 5)))))
theorem bare_all {th : Nat → Bool} {k : Nat} : (bare th k 0 && (bare th k 1 && (bare th k 2 && (bare th k 3 && (bare th k 4 && bare th k 5))))) = true ↔ ∀ j, j < 6 → bare th k j = true := by
  simp only [Bool.and_eq_true]
  constructor
  · rintro ⟨h0, h1, h2, h3, h4, h5⟩ j hj
    match j, hj with
    | 0, _ => exact h0
    | 1, _ => exact h1
    | 2, _ => exact h2
    | 3, _ => exact h3
    | 4, _ => exact h4
    | 5, _ => exact h5
  · exact fun h => ⟨h 0 (by omega), h 1 (by omega), h 2 (by omega), h 3 (by omega), h 4 (by omega), h 5 (by omega)⟩
def rmQ (th : Nat → Bool) (k : Nat) : Nat → Bool
  | 0 => th k
  | q + 1 => rmQ th k q && bare th k q
theorem rmQ_ok (th : Nat → Bool) (k : Nat) : rmQ th k 6 = rmOk th k := by
  simp only [rmQ, rmOk, Bool.and_assoc]
theorem HI.kids {th fd : Nat → Bool} {P : Pl} (h : HI th fd P) {k : Nat} (hk : k < 6) (ht : th k = true) : 0 < (P.nd (nh k)).ins ↔ rmOk th k = false := by
  rw [h.wf.ins _ ((h.ks _).2 (.inr ⟨k, hk, ht, rfl⟩))]
  have hb : rmOk th k = false ↔ ¬ ∀ j, j < 6 → bare th k j = true := by
    unfold rmOk
    rw [ht, Bool.true_and, ← bare_all, Bool.not_eq_true]
  rw [hb]
  have hpos : (0 : Int) < (P.ks.countP (kid (nh k)) : Nat) ↔ 0 < P.ks.countP (kid (nh k)) := by omega
  rw [hpos, List.countP_pos_iff]
  constructor
  · rintro ⟨q, hq, hkd⟩ hall
    simp only [kid, decide_eq_true_eq] at hkd
    rcases (h.ks q).1 hq with rfl | ⟨j, hj, htj, rfl⟩
    · exact hkd.1 rfl
    · have := hall j hj
      unfold bare at this
      rw [htj, Bool.true_and] at this
      have hfo := hkd.2
      rw [nh_fo ⟨j, hj⟩] at hfo
      unfold uI at this
      cases e : uh j with
      | none => simp only [e] at hfo; exact nh_root ⟨k, hk⟩ hfo.symm
      | some i =>
        simp only [e] at hfo this
        have := nh_inj (uh_lt ⟨j, hj⟩ i e) hk hfo
        subst this
        simp at *
  · intro hn
    obtain ⟨j, hj⟩ := Classical.not_forall.1 hn
    obtain ⟨hj6, hbr⟩ := Classical.not_imp.1 hj
    have hbr : bare th k j = false := by simpa using hbr
    unfold bare at hbr
    have h2 : th j = true ∧ uI j = (k : Int) := by simpa using hbr
    refine ⟨nh j, (h.ks _).2 (.inr ⟨j, hj6, h2.1, rfl⟩), ?_⟩
    simp only [kid, decide_eq_true_eq]
    refine ⟨nh_root ⟨j, hj6⟩, ?_⟩
    rw [nh_fo ⟨j, hj6⟩]
    have := h2.2
    unfold uI at this
    cases e : uh j with
    | none => simp only [e] at this; omega
    | some i =>
      simp only [e] at this ⊢
      rw [show i = k by omega]
theorem HI.fErr {th fd : Nat → Bool} {P : Pl} (h : HI th fd P) {k : Nat} (hk : k < 6) : fErr P (nh k) = if th k then 0 else 110 := by
  unfold Go.Proofs.YtcpabmceioijpaaDoor.fErr
  rw [nh_isP ⟨k, hk⟩, h.inn hk]
  cases th k <;> rfl
theorem HI.rem {th fd : Nat → Bool} {P : Pl} (h : HI th fd P) {k : Nat} (hk : k < 6) (ho : rmOk th k = true) : (removeP P (nh k)).1 = 0 ∧ HI (upT th k false) fd (removeP P (nh k)).2 ∧ HS P (removeP P (nh k)).2 k true true := by
  have ht : th k = true := by unfold rmOk at ho; exact (Bool.and_eq_true_iff.1 ho).1
  have hw := h.wf.remove (nh k)
  have hk0 : ¬ 0 < (P.nd (nh k)).ins := fun q => by rw [(h.kids hk ht).1 q] at ho; cases ho
  rw [removeP_at (by rw [h.fErr hk, ht]; rfl), if_neg (by rintro (q | q | q); exact nh_root ⟨k, hk⟩ q; exact hk0 q; rw [h.m] at q; cases q)] at hw ⊢
  refine ⟨rfl, ⟨hw, fun x => ?_, fun j hj hth => ?_, fun x => ?_⟩, ⟨fun j hj => ?_⟩⟩
  · rw [show (⟨remS (nh k) P.ks, bumpN (up P.nd (nh k) ndZ) (fo (nh k)) (-1), bump (bump P.st (nh k)) (fo (nh k))⟩ : Pl).ks = remS (nh k) P.ks from rfl, mem_remS, h.ks]
    constructor
    · rintro ⟨rfl | ⟨j, hj, ht, rfl⟩, hne⟩
      · exact .inl rfl
      · exact .inr ⟨j, hj, by unfold upT; rw [if_neg (fun e => hne (by rw [e]))]; exact ht, rfl⟩
    · rintro (rfl | ⟨j, hj, ht, rfl⟩)
      · exact ⟨.inl rfl, fun e => nh_root ⟨k, hk⟩ e.symm⟩
      · unfold upT at ht
        split at ht
        · cases ht
        · rename_i e
          exact ⟨.inr ⟨j, hj, ht, rfl⟩, fun q => e (nh_inj hj hk q)⟩
  · show (bumpN _ _ _ _).f = _
    unfold upT at hth
    split at hth
    · cases hth
    · rename_i e
      unfold bumpN
      have hne : nh j ≠ nh k := fun q => e (nh_inj hj hk q)
      by_cases e2 : nh j = fo (nh k)
      · rw [← e2, up_same]
        show (up P.nd (nh k) ndZ (nh j)).f = _
        rw [up_other _ _ hne]
        exact h.f j hj hth
      · rw [up_other _ _ e2, up_other _ _ hne]
        exact h.f j hj hth
  · show (bumpN _ _ _ _).m = false
    unfold bumpN
    by_cases e : x = fo (nh k)
    · rw [e, up_same]
      show (up P.nd (nh k) ndZ (fo (nh k))).m = false
      unfold up
      split
      · rfl
      · exact h.m _
    · rw [up_other _ _ e]
      unfold up
      split
      · rfl
      · exact h.m _
  · show bump (bump P.st (nh k)) (fo (nh k)) (nh j) = P.st (nh j) ↔ _
    rw [Bool.true_and]
    exact bump2 P.st hk hj
theorem HI.rem_no {th fd : Nat → Bool} {P : Pl} (h : HI th fd P) {k : Nat} (hk : k < 6) (ho : rmOk th k = false) : ∃ e : Int, removeP P (nh k) = (e, P) ∧ ¬ e = 0 := by
  cases ht : th k with
  | false => exact ⟨110, by rw [removeP_err (by rw [h.fErr hk, ht]; simp), h.fErr hk, ht]; rfl, by omega⟩
  | true => exact ⟨112, by rw [removeP_at (by rw [h.fErr hk, ht]; rfl), if_pos (.inr (.inl ((h.kids hk ht).2 ho)))], by omega⟩
theorem HI.touch {th fd : Nat → Bool} {P : Pl} (h : HI th fd P) {k : Nat} (hk : k < 6) (ht : th k = true) : touchP P (nh k) = (0, { P with st := bump P.st (nh k) }) ∧ HI th fd { P with st := bump P.st (nh k) } ∧ HS P { P with st := bump P.st (nh k) } k true false := by
  have hw := h.wf.touch (nh k)
  have e : touchP P (nh k) = (0, { P with st := bump P.st (nh k) }) := by
    unfold touchP
    rw [nh_isP ⟨k, hk⟩, h.inn hk, ht]
    rfl
  rw [e] at hw
  exact ⟨e, ⟨hw, h.ks, h.f, h.m⟩, ⟨fun j hj => by rw [Bool.true_and]; exact bump1 P.st hk hj⟩⟩
theorem HI.touch_no {th fd : Nat → Bool} {P : Pl} (h : HI th fd P) {k : Nat} (hk : k < 6) (ht : th k = false) : touchP P (nh k) = (110, P) := by
  unfold touchP
  rw [nh_isP ⟨k, hk⟩, h.inn hk, ht]
  rfl
theorem HI.zero : HI (fun _ => false) (fun _ => false) pl0 :=
  ⟨wf0, fun x => ⟨fun h => .inl (by simpa [pl0] using h), fun h => by rcases h with h | ⟨_, _, h, _⟩; (rw [h]; simp [pl0]); cases h⟩, fun _ _ h => (by cases h), fun x => by
    show (up (fun _ => ndZ) rootS { ndZ with f := true } x).m = false
    unfold up
    split <;> rfl⟩
end Go.Proofs.YtcpabmceioijpaaDoor
