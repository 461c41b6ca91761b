/- A day that never is. -/
import Derived.Test.YteaaknbininehabDoorQ2
namespace Go.Proofs.YteaaknbininehabDoor
open Go.RowKit
theorem inL_one (M n : Int) (h : Cal.inL [(false, M, M, 0)] n = true) : n = M := by
  simp [Cal.inL, Cal.inP] at h
  omega
theorem never_nx (c : Cal.C7) (M D : Int) (hm : c.month = [(false, M, M, 0)]) (hd : c.day = [(false, D, D, 0)]) (h : ∀ y, Civ.dim y M < D) (t : Int) : Cal.nx c t = none := by
  have h1 : ∀ n0 y, Cal.dsM c n0 y M = [] := fun n0 y => by
    apply List.eq_nil_iff_forall_not_mem.2
    intro x hx
    obtain ⟨⟨d, a, b, e, _⟩, _⟩ := Cal.mem_dsM.1 hx
    rw [hd] at e
    have := inL_one D d e
    have := h y
    omega
  have h2 : ∀ n0 m1 y, Cal.dsY c n0 m1 y = [] := fun n0 m1 y => by
    apply List.eq_nil_iff_forall_not_mem.2
    intro x hx
    unfold Cal.dsY at hx
    obtain ⟨m, hm1, hx⟩ := List.mem_flatMap.1 hx
    have e := (List.mem_filter.1 hm1).2
    rw [hm] at e
    have := inL_one M m e
    subst this
    rw [h1] at hx
    cases hx
  have h3 : ∀ y m d, Cal.ds c y m d = [] := fun y m d => by
    apply List.eq_nil_iff_forall_not_mem.2
    intro x hx
    unfold Cal.ds at hx
    obtain ⟨y', _, hx⟩ := List.mem_flatMap.1 hx
    rw [h2] at hx
    cases hx
  unfold Cal.nx Cal.ts Cal.tsF
  rw [h3]
  split <;> rfl
end Go.Proofs.YteaaknbininehabDoor
