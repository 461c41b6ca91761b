/- The expressions that every law of this layer asks first. -/
import Derived.Test.YteaaknbininehabDoorP10
import Derived.KernelRfl
namespace Go.Proofs.YteaaknbininehabDoor
open Go.RowKit
def sA : ByteArray := ⟨#[42, 45, 48, 50, 45, 50, 57]⟩
def sB : ByteArray := ⟨#[42, 45, 49, 51, 45, 48, 49]⟩
def xA : Cal.C7 := ⟨[], [(true, 0, 0, 0)], [(false, 2, 2, 0)], [(false, 29, 29, 0)], [(false, 0, 0, 0)], [(false, 0, 0, 0)], [(false, 0, 0, 0)]⟩
def xB : Cal.C7 := ⟨[], [(true, 0, 0, 0)], [(false, 13, 13, 0)], [(false, 1, 1, 0)], [(false, 0, 0, 0)], [(false, 0, 0, 0)], [(false, 0, 0, 0)]⟩
theorem clk0 : pC ⟨#[48, 48, 58, 48, 48, 58, 48, 48]⟩ = some ([(false, 0, 0, 0)], [(false, 0, 0, 0)], [(false, 0, 0, 0)]) := by kernel_rfl
theorem fA (w : World) (hg : GlP w) : Calls Tryd.prog 12 #[.string (spell sA)] w (FldP w (some xA)) := by
  rw [show spell sA = sA by decide +kernel]
  exact fieldsD sA w hg (by decide) (by decide +kernel) (by decide +kernel) (by decide +kernel) _ _ _ _ _ _ (by kernel_rfl) clk0
theorem fB (w : World) (hg : GlP w) : Calls Tryd.prog 12 #[.string (spell sB)] w (FldP w (some xB)) := by
  rw [show spell sB = sB by decide +kernel]
  exact fieldsD sB w hg (by decide) (by decide +kernel) (by decide +kernel) (by decide +kernel) _ _ _ _ _ _ (by kernel_rfl) clk0
theorem isA : isB xA = true := by decide +kernel
theorem isBB : isB xB = false := by decide +kernel
theorem nxA : Cal.nx xA 1709164800 = some 1835395200 := by decide +kernel
theorem pA (w : World) (hg : GlP w) : Calls Tryd.prog 7 #[.string sA] w (ParP w xA) := parse_yes sA w hg xA isA fA
theorem pB (w : World) (hg : GlP w) : Calls Tryd.prog 7 #[.string sB] w fun e w' => e = .returned (.tuple #[aggC fun _ => (none, 0, 0), .int .i64 30]) ∧ Below w.heap.size w w' := parse_no sB w hg xB isBB fB
end Go.Proofs.YteaaknbininehabDoor
