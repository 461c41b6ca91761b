/- TreeMounts: plain. -/
import Derived.Test.YtcpabmceioijpaaDoorTL
namespace Go.Proofs.YtcpabmceioijpaaDoor
open Go.RowKit Go.Shelf
def nm : Nat → ByteArray
  | 0 => ⟨#[47, 97]⟩
  | 1 => ⟨#[47, 97, 47, 98]⟩
  | 2 => ⟨#[47, 97, 47, 98, 47, 99]⟩
  | 3 => ⟨#[47, 100]⟩
  | _ => ⟨#[47, 97, 98]⟩
def disk : ByteArray := ⟨#[100, 105, 115, 107]⟩
def K5 : List ByteArray := [rootS, nm 0, nm 1, nm 2, nm 4, nm 3]
def upB (f : Nat → Bool) (k : Nat) (b : Bool) (x : Nat) : Bool := if x = k then b else f x
def bel (k : Nat) (on : Nat → Bool) : Bool := if k = 0 then on 1 || on 2 else if k = 1 then on 2 else false
theorem nm_size (k : Nat) : (nm k).size ≤ 10 := by
  match k with
  | 0 => decide
  | 1 => decide
  | 2 => decide
  | 3 => decide
  | _ + 4 => exact (by decide : (⟨#[47, 97, 98]⟩ : ByteArray).size ≤ 10)
theorem nm_isP : ∀ k : Fin 5, isP (nm k.val) = true := by decide +kernel
theorem nm_in : ∀ k : Fin 5, inS (nm k.val) K5 = true := by decide +kernel
theorem nm_ne : ∀ k j : Fin 5, nm k.val = nm j.val → k = j := by decide +kernel
theorem nm_root : ∀ k : Fin 5, ¬ nm k.val = rootS := by decide +kernel
theorem nm_abv : ∀ k j : Fin 5, inS (nm k.val) (abv (nm j.val)) = (decide (k.val = 0) && (decide (j.val = 1) || decide (j.val = 2)) || decide (k.val = 1) && decide (j.val = 2)) := by decide +kernel
structure MI (on : Nat → Bool) (P : Pl) : Prop where
  ks : P.ks = K5
  wf : Wf P
  rm : (P.nd rootS).m = false
  f : ∀ k, k < 5 → (P.nd (nm k)).f = true
  m : ∀ k, k < 5 → (P.nd (nm k)).m = on k
  wh : ∀ k, k < 5 → (P.nd (nm k)).wh = if on k then disk else noS
theorem bumpU_k (d : Int) : ∀ (l : List ByteArray) (nd : ByteArray → Nd) (x : ByteArray), (bumpU d l nd x).f = (nd x).f ∧ (bumpU d l nd x).m = (nd x).m ∧ (bumpU d l nd x).wh = (nd x).wh
  | [], _, _ => ⟨rfl, rfl, rfl⟩
  | y :: r, nd, x => by
    have := bumpU_k d r (up nd y { nd y with un := (nd y).un + d }) x
    unfold bumpU
    rw [this.1, this.2.1, this.2.2]
    by_cases e : x = y
    · subst e; rw [up_same]; exact ⟨rfl, rfl, rfl⟩
    · rw [up_other _ _ e]; exact ⟨rfl, rfl, rfl⟩
theorem MI.err {on : Nat → Bool} {P : Pl} (h : MI on P) {k : Nat} (hk : k < 5) : fErr P (nm k) = 0 := by
  unfold fErr
  rw [nm_isP ⟨k, hk⟩, h.ks, nm_in ⟨k, hk⟩]
  rfl
theorem MI.un {on : Nat → Bool} {P : Pl} (h : MI on P) {k : Nat} (hk : k < 5) : 0 < (P.nd (nm k)).un ↔ bel k on = true := by
  have hu := h.wf.un (nm k) (by rw [h.ks]; exact inS_iff.1 (nm_in ⟨k, hk⟩))
  rw [hu, h.ks]
  have e : ∀ j (_ : j < 5), mbl P.nd (nm k) (nm j) = (on j && (decide (k = 0) && (decide (j = 1) || decide (j = 2)) || decide (k = 1) && decide (j = 2))) := fun j hj => by
    unfold mbl
    rw [h.m j hj, nm_abv ⟨k, hk⟩ ⟨j, hj⟩]
  have e0 : mbl P.nd (nm k) rootS = false := by unfold mbl; rw [h.rm]; rfl
  unfold K5
  simp only [List.countP_cons, List.countP_nil, e0, e 0 (by omega), e 1 (by omega), e 2 (by omega), e 3 (by omega), e 4 (by omega)]
  unfold bel
  match k, hk with
  | 0, _ => cases on 1 <;> cases on 2 <;> simp
  | 1, _ => cases on 2 <;> simp
  | 2, _ => simp
  | 3, _ => simp
  | 4, _ => simp
theorem MI.turn {on : Nat → Bool} {P : Pl} (h : MI on P) {k : Nat} (hk : k < 5) (b : Bool) (t : ByteArray) (d : Int) (ht : t = if b then disk else noS) (hw : Wf { P with nd := bumpU d (abv (nm k)) (up P.nd (nm k) { P.nd (nm k) with m := b, wh := t }) }) : MI (upB on k b) { P with nd := bumpU d (abv (nm k)) (up P.nd (nm k) { P.nd (nm k) with m := b, wh := t }) } := by
  have hne : ∀ j, j < 5 → j ≠ k → nm j ≠ nm k := fun j hj hjk e => hjk (by have := nm_ne ⟨j, hj⟩ ⟨k, hk⟩ e; exact congrArg Fin.val this)
  refine ⟨h.ks, hw, ?_, fun j hj => ?_, fun j hj => ?_, fun j hj => ?_⟩
  · show (bumpU _ _ _ _).m = false
    rw [(bumpU_k _ _ _ _).2.1, up_other _ _ (fun e => nm_root ⟨k, hk⟩ e.symm)]
    exact h.rm
  · show (bumpU _ _ _ _).f = true
    rw [(bumpU_k _ _ _ _).1]
    by_cases e : j = k
    · subst e; rw [up_same]; exact h.f j hj
    · rw [up_other _ _ (hne j hj e)]; exact h.f j hj
  · show (bumpU _ _ _ _).m = upB on k b j
    rw [(bumpU_k _ _ _ _).2.1]
    unfold upB
    by_cases e : j = k
    · subst e; rw [up_same, if_pos rfl]
    · rw [up_other _ _ (hne j hj e), if_neg e]; exact h.m j hj
  · show (bumpU _ _ _ _).wh = if upB on k b j then disk else noS
    rw [(bumpU_k _ _ _ _).2.2]
    unfold upB
    by_cases e : j = k
    · subst e; rw [up_same, if_pos rfl]; exact ht
    · rw [up_other _ _ (hne j hj e), if_neg e]; exact h.wh j hj
theorem MI.mount_no {on : Nat → Bool} {P : Pl} (h : MI on P) {k : Nat} (hk : k < 5) (ho : on k = true) : mountP P disk (nm k) = (112, P) := by
  rw [mountP_at (h.err hk), h.f k hk, h.m k hk, ho]; rfl
theorem MI.mount_ok {on : Nat → Bool} {P : Pl} (h : MI on P) {k : Nat} (hk : k < 5) (ho : on k = false) : (mountP P disk (nm k)).1 = 0 ∧ MI (upB on k true) (mountP P disk (nm k)).2 := by
  have hw := h.wf.mount disk (nm k)
  have e : mountP P disk (nm k) = (0, { P with nd := bumpU 1 (abv (nm k)) (up P.nd (nm k) { P.nd (nm k) with m := true, wh := disk }) }) := by
    rw [mountP_at (h.err hk), h.f k hk, h.m k hk, ho]; rfl
  rw [e] at hw ⊢
  exact ⟨rfl, h.turn hk true disk 1 rfl hw⟩
theorem MI.unmount_none {on : Nat → Bool} {P : Pl} (h : MI on P) {k : Nat} (hk : k < 5) (ho : on k = false) : unmountP P (nm k) = (110, P) := by
  rw [unmountP_at (h.err hk), h.m k hk, ho]; rfl
theorem MI.unmount_busy {on : Nat → Bool} {P : Pl} (h : MI on P) {k : Nat} (hk : k < 5) (ho : on k = true) (hb : bel k on = true) : unmountP P (nm k) = (112, P) := by
  rw [unmountP_at (h.err hk), h.m k hk, ho, if_neg (by simp), if_pos ((h.un hk).2 hb)]
theorem MI.unmount_ok {on : Nat → Bool} {P : Pl} (h : MI on P) {k : Nat} (hk : k < 5) (ho : on k = true) (hb : bel k on = false) : (unmountP P (nm k)).1 = 0 ∧ MI (upB on k false) (unmountP P (nm k)).2 := by
  have hw := h.wf.unmount (nm k)
  have e : unmountP P (nm k) = (0, { P with nd := bumpU (-1) (abv (nm k)) (up P.nd (nm k) { P.nd (nm k) with m := false, wh := noS }) }) := by
    rw [unmountP_at (h.err hk), h.m k hk, ho, if_neg (by simp), if_neg (fun q => by rw [(h.un hk).1 q] at hb; cases hb)]
  rw [e] at hw ⊢
  exact ⟨rfl, h.turn hk false noS (-1) rfl hw⟩
theorem MI.rem {on : Nat → Bool} {P : Pl} (h : MI on P) {k : Nat} (hk : k < 5) (ho : on k = true) : removeP P (nm k) = (112, P) := by
  rw [removeP_at (h.err hk), if_pos (.inr (.inr (by rw [h.m k hk]; exact ho)))]
def pm : Nat → Pl
  | 0 => pl0
  | j + 1 => (makeP (pm j) (nm j) true).2
theorem pm_ok : ∀ j : Fin 5, (makeP (pm j.val) (nm j.val) true).1 = 0 := by decide +kernel
theorem pm_wf : ∀ j, Wf (pm j)
  | 0 => wf0
  | j + 1 => (pm_wf j).make _ _
theorem pm_f : ∀ k : Fin 5, ((pm 5).nd (nm k.val)).f = true ∧ ((pm 5).nd (nm k.val)).m = false ∧ ((pm 5).nd (nm k.val)).wh = noS := by decide +kernel
theorem pm_ks : (pm 5).ks = K5 := by decide +kernel
theorem pm_rm : ((pm 5).nd rootS).m = false := by decide +kernel
theorem MI.zero : MI (fun _ => false) (pm 5) := ⟨pm_ks, pm_wf 5, pm_rm, fun k hk => (pm_f ⟨k, hk⟩).1, fun k hk => (pm_f ⟨k, hk⟩).2.1, fun k hk => (pm_f ⟨k, hk⟩).2.2⟩
end Go.Proofs.YtcpabmceioijpaaDoor
