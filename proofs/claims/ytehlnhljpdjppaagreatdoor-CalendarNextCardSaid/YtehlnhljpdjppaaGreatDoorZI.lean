import Derived.Test.YtehlnhljpdjppaaGreatDoorZG
import Derived.KernelRfl
import Derived.Test.YtehlnhljpdjppaaGreatDoorZC
import Derived.Test.YtehlnhljpdjppaaGreatDoorZH
/- The expressions that every law of this layer asks first. -/
namespace Go.Proofs.YtehlnhljpdjppaaGreatDoor
open Go.RowKit
def sA : ByteArray := ⟨#[42, 45, 48, 50, 45, 50, 57]⟩
def sB : ByteArray := ⟨#[42, 45, 49, 51, 45, 48, 49]⟩
def xA : Cal.C7 := ⟨[], [(true, 0, 0, 0)], [(false, 2, 2, 0)], [(false, 29, 29, 0)], [(false, 0, 0, 0)], [(false, 0, 0, 0)], [(false, 0, 0, 0)]⟩
def xB : Cal.C7 := ⟨[], [(true, 0, 0, 0)], [(false, 13, 13, 0)], [(false, 1, 1, 0)], [(false, 0, 0, 0)], [(false, 0, 0, 0)], [(false, 0, 0, 0)]⟩
theorem clk0 : pC ⟨#[48, 48, 58, 48, 48, 58, 48, 48]⟩ = some ([(false, 0, 0, 0)], [(false, 0, 0, 0)], [(false, 0, 0, 0)]) := by kernel_rfl
theorem fA (w : World) (hg : GlP w) : Calls Tryz.prog 29 #[.string (spell sA)] w (FldP w (some xA)) := by
  rw [show spell sA = sA by decide +kernel]
  exact fieldsD sA w hg (by decide) (by decide +kernel) (by decide +kernel) (by decide +kernel) _ _ _ _ _ _ (by kernel_rfl) clk0
theorem fB (w : World) (hg : GlP w) : Calls Tryz.prog 29 #[.string (spell sB)] w (FldP w (some xB)) := by
  rw [show spell sB = sB by decide +kernel]
  exact fieldsD sB w hg (by decide) (by decide +kernel) (by decide +kernel) (by decide +kernel) _ _ _ _ _ _ (by kernel_rfl) clk0
theorem isA : isB xA = true := by decide +kernel
theorem isBB : isB xB = false := by decide +kernel
theorem nxA : Cal.nx xA 1709164800 = some 1835395200 := by decide +kernel
theorem pA (w : World) (hg : GlP w) : Calls Tryz.prog 10 #[.string sA] w (ParP w xA) := parse_yes sA w hg xA isA fA
theorem pB (w : World) (hg : GlP w) : Calls Tryz.prog 10 #[.string sB] w fun e w' => e = .returned (.tuple #[aggC fun _ => (none, 0, 0), .int .i64 30]) ∧ Below w.heap.size w w' := parse_no sB w hg xB isBB fB
end Go.Proofs.YtehlnhljpdjppaaGreatDoor
/- What every law of this layer asks first. -/
namespace Go.Proofs.YtehlnhljpdjppaaGreatDoor
open Go.RowKit
theorem secA : Civ.sec 2024 2 29 0 0 0 = 1709164800 := by decide +kernel
theorem secB : Civ.sec 2028 2 29 0 0 0 = 1835395200 := by decide +kernel
theorem CalPin.below {E : Nat → Prop} {W V : World} {S : Nat → Sl} {c : Cal.C7} (h : CalPin E W S c) (hb : Below W.heap.size W V) : CalPin E V S c :=
  ⟨h.p0.below hb, h.p1.below hb, h.p2.below hb, h.p3.below hb, h.p4.below hb, h.p5.below hb, h.p6.below hb⟩
set_option maxRecDepth 100000 in
set_option maxHeartbeats 1000000 in
theorem known_of (w : World) (hg : GlP w) (hU : Hid (∀ y w, (y = 2024 ∨ y = 2028) → Calls Tryz.prog 11 #[momV y 2 29 0 0 0] w fun e w' => e = .returned (.tuple #[.int .i64 (Civ.sec y 2 29 0 0 0), .int .i64 0]) ∧ Below w.heap.size w w')) :
    Calls Tryz.prog 4 #[] w fun e w' => e = .returned (.bool true) ∧ Below w.heap.size w w' := by
  have hPa := pA w hg
  unfold sA at hPa
  go_enter Tryz.func4, Tryz.ntmps4
  go_wp2_with fail
  refine hPa.mono ?_
  rintro e w1 ⟨S, rfl, hb1, hp⟩
  have hg1 := hg.below hb1
  have hBb : Below w1.heap.size w1 (w1.alloc (.cells #[slv (S 0), slv (S 1), slv (S 2), slv (S 3), slv (S 4), slv (S 5), slv (S 6)] 24)) := (Below.refl _ _).alloc (Nat.le_refl _) _
  have hU1 := hU.out 2024 (w1.alloc (.cells #[slv (S 0), slv (S 1), slv (S 2), slv (S 3), slv (S 4), slv (S 5), slv (S 6)] 24)) (.inl rfl)
  rw [secA] at hU1
  clear hPa
  go_wp2_with fail
  refine hU1.mono ?_
  rintro e w2 ⟨rfl, hb2⟩
  have hU2 := hU.out 2028 w2 (.inr rfl)
  rw [secB] at hU2
  clear hU1
  go_wp2_with fail
  refine hU2.mono ?_
  rintro e w3 ⟨rfl, hb3⟩
  clear hU2
  have hbs := hb2.size
  have hb23 := hb2.trans (hb3.mono hb2.size)
  have f0 : w3.cell? ⟨w1.heap.size, 0, none⟩ = some (slv (S 0)) := (hb23.cell (p := ⟨w1.heap.size, 0, none⟩) (by simp)).trans (cell_at rfl rfl)
  have f1 : w3.cell? ⟨w1.heap.size, 1, none⟩ = some (slv (S 1)) := (hb23.cell (p := ⟨w1.heap.size, 1, none⟩) (by simp)).trans (cell_at rfl rfl)
  have f2 : w3.cell? ⟨w1.heap.size, 2, none⟩ = some (slv (S 2)) := (hb23.cell (p := ⟨w1.heap.size, 2, none⟩) (by simp)).trans (cell_at rfl rfl)
  have f3 : w3.cell? ⟨w1.heap.size, 3, none⟩ = some (slv (S 3)) := (hb23.cell (p := ⟨w1.heap.size, 3, none⟩) (by simp)).trans (cell_at rfl rfl)
  have f4 : w3.cell? ⟨w1.heap.size, 4, none⟩ = some (slv (S 4)) := (hb23.cell (p := ⟨w1.heap.size, 4, none⟩) (by simp)).trans (cell_at rfl rfl)
  have f5 : w3.cell? ⟨w1.heap.size, 5, none⟩ = some (slv (S 5)) := (hb23.cell (p := ⟨w1.heap.size, 5, none⟩) (by simp)).trans (cell_at rfl rfl)
  have f6 : w3.cell? ⟨w1.heap.size, 6, none⟩ = some (slv (S 6)) := (hb23.cell (p := ⟨w1.heap.size, 6, none⟩) (by simp)).trans (cell_at rfl rfl)
  have hb13 : Below w1.heap.size w1 w3 := hBb.trans (hb23.mono hBb.size)
  have hg3 := hg1.below hb13
  have hN := next_any S xA 1709164800 w3 (hp.below hb13) hg3.gl (by decide)
  rw [isA, nxA] at hN
  simp only [if_true, Option.getD_some, Option.isSome_some, Bool.and_self] at hN
  clear hb2 hb3 hb23 hp
  go_wp2_with fail
  refine hN.mono ?_
  rintro e w4 ⟨rfl, hb4⟩
  have hPb := pB w4 (hg3.below hb4)
  unfold sB at hPb
  clear hN
  go_wp2_with fail
  refine hPb.mono ?_
  rintro e w5 ⟨rfl, hb5⟩
  clear hPb
  have hb15 : Below w1.heap.size w1 w5 := hb13.trans ((hb4.trans (hb5.mono hb4.size)).mono hb13.size)
  have hbz := hb1.trans (hb15.mono hb1.size)
  clear hb4 hb5 hb13 hb15 f0 f1 f2 f3 f4 f5 f6
  go_wp2_with fail
  go_ret
  exact ⟨rfl, hbz.alloc hbz.size _⟩
end Go.Proofs.YtehlnhljpdjppaaGreatDoor
/- A day that never is. -/
namespace Go.Proofs.YtehlnhljpdjppaaGreatDoor
open Go.RowKit
theorem inL_one (M n : Int) (h : Cal.inL [(false, M, M, 0)] n = true) : n = M := by
  simp [Cal.inL, Cal.inP] at h
  omega
theorem never_nx (c : Cal.C7) (M D : Int) (hm : c.month = [(false, M, M, 0)]) (hd : c.day = [(false, D, D, 0)]) (h : ∀ y, Civ.dim y M < D) (t : Int) : Cal.nx c t = none := by
  have h1 : ∀ n0 y, Cal.dsM c n0 y M = [] := fun n0 y => by
    apply List.eq_nil_iff_forall_not_mem.2
    intro x hx
    obtain ⟨⟨d, a, b, e, _⟩, _⟩ := Cal.mem_dsM.1 hx
    rw [hd] at e
    have := inL_one D d e
    have := h y
    omega
  have h2 : ∀ n0 m1 y, Cal.dsY c n0 m1 y = [] := fun n0 m1 y => by
    apply List.eq_nil_iff_forall_not_mem.2
    intro x hx
    unfold Cal.dsY at hx
    obtain ⟨m, hm1, hx⟩ := List.mem_flatMap.1 hx
    have e := (List.mem_filter.1 hm1).2
    rw [hm] at e
    have := inL_one M m e
    subst this
    rw [h1] at hx
    cases hx
  have h3 : ∀ y m d, Cal.ds c y m d = [] := fun y m d => by
    apply List.eq_nil_iff_forall_not_mem.2
    intro x hx
    unfold Cal.ds at hx
    obtain ⟨y', _, hx⟩ := List.mem_flatMap.1 hx
    rw [h2] at hx
    cases hx
  unfold Cal.nx Cal.ts Cal.tsF
  rw [h3]
  split <;> rfl
end Go.Proofs.YtehlnhljpdjppaaGreatDoor
/- What known says. -/
namespace Go.Proofs.YtehlnhljpdjppaaGreatDoor
open Go.RowKit
theorem known_any (w : World) (hg : GlP w) : Calls Tryz.prog 4 #[] w fun e w' => e = .returned (.bool true) ∧ Below w.heap.size w w' :=
  known_of w hg (fun y w h => by
    rcases h with rfl | rfl
    · exact rUnix_yes 2024 2 29 0 0 0 w (by decide +kernel) (by decide +kernel)
    · exact rUnix_yes 2028 2 29 0 0 0 w (by decide +kernel) (by decide +kernel))
end Go.Proofs.YtehlnhljpdjppaaGreatDoor
