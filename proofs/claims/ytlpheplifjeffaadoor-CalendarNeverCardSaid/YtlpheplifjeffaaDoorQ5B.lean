/- The law CalendarNever holds. -/
import Derived.Test.YtlpheplifjeffaaDoorQ4B
namespace Go.Proofs.YtlpheplifjeffaaDoor
open Go.RowKit
def s0 : ByteArray := ⟨#[42, 45, 48, 50, 45, 51, 49]⟩
theorem fN0 (w : World) (hg : GlP w) : Calls Tryd.prog 12 #[.string (spell s0)] w (FldP w (some (xN 2 31))) := by
  rw [show spell s0 = s0 by decide +kernel]
  exact fieldsD s0 w hg (by decide) (by decide +kernel) (by decide +kernel) (by decide +kernel) _ _ _ _ _ _ (by kernel_rfl) clk0
theorem pN0 (w : World) (hg : GlP w) : Calls Tryd.prog 7 #[.string (⟨#[42, 45]⟩ ++ ⟨#[48, 50]⟩ ++ ⟨#[45, 51, 49]⟩)] w (ParP w (xN 2 31)) := by
  rw [show ((⟨#[42, 45]⟩ ++ ⟨#[48, 50]⟩ ++ ⟨#[45, 51, 49]⟩ : ByteArray)) = s0 by decide +kernel]
  exact parse_yes s0 w hg _ (by decide +kernel) fN0
def s1 : ByteArray := ⟨#[42, 45, 48, 52, 45, 51, 49]⟩
theorem fN1 (w : World) (hg : GlP w) : Calls Tryd.prog 12 #[.string (spell s1)] w (FldP w (some (xN 4 31))) := by
  rw [show spell s1 = s1 by decide +kernel]
  exact fieldsD s1 w hg (by decide) (by decide +kernel) (by decide +kernel) (by decide +kernel) _ _ _ _ _ _ (by kernel_rfl) clk0
theorem pN1 (w : World) (hg : GlP w) : Calls Tryd.prog 7 #[.string (⟨#[42, 45]⟩ ++ ⟨#[48, 52]⟩ ++ ⟨#[45, 51, 49]⟩)] w (ParP w (xN 4 31)) := by
  rw [show ((⟨#[42, 45]⟩ ++ ⟨#[48, 52]⟩ ++ ⟨#[45, 51, 49]⟩ : ByteArray)) = s1 by decide +kernel]
  exact parse_yes s1 w hg _ (by decide +kernel) fN1
def s2 : ByteArray := ⟨#[42, 45, 48, 54, 45, 51, 49]⟩
theorem fN2 (w : World) (hg : GlP w) : Calls Tryd.prog 12 #[.string (spell s2)] w (FldP w (some (xN 6 31))) := by
  rw [show spell s2 = s2 by decide +kernel]
  exact fieldsD s2 w hg (by decide) (by decide +kernel) (by decide +kernel) (by decide +kernel) _ _ _ _ _ _ (by kernel_rfl) clk0
theorem pN2 (w : World) (hg : GlP w) : Calls Tryd.prog 7 #[.string (⟨#[42, 45]⟩ ++ ⟨#[48, 54]⟩ ++ ⟨#[45, 51, 49]⟩)] w (ParP w (xN 6 31)) := by
  rw [show ((⟨#[42, 45]⟩ ++ ⟨#[48, 54]⟩ ++ ⟨#[45, 51, 49]⟩ : ByteArray)) = s2 by decide +kernel]
  exact parse_yes s2 w hg _ (by decide +kernel) fN2
def s3 : ByteArray := ⟨#[42, 45, 48, 57, 45, 51, 49]⟩
theorem fN3 (w : World) (hg : GlP w) : Calls Tryd.prog 12 #[.string (spell s3)] w (FldP w (some (xN 9 31))) := by
  rw [show spell s3 = s3 by decide +kernel]
  exact fieldsD s3 w hg (by decide) (by decide +kernel) (by decide +kernel) (by decide +kernel) _ _ _ _ _ _ (by kernel_rfl) clk0
theorem pN3 (w : World) (hg : GlP w) : Calls Tryd.prog 7 #[.string (⟨#[42, 45]⟩ ++ ⟨#[48, 57]⟩ ++ ⟨#[45, 51, 49]⟩)] w (ParP w (xN 9 31)) := by
  rw [show ((⟨#[42, 45]⟩ ++ ⟨#[48, 57]⟩ ++ ⟨#[45, 51, 49]⟩ : ByteArray)) = s3 by decide +kernel]
  exact parse_yes s3 w hg _ (by decide +kernel) fN3
def s4 : ByteArray := ⟨#[42, 45, 49, 49, 45, 51, 49]⟩
theorem fN4 (w : World) (hg : GlP w) : Calls Tryd.prog 12 #[.string (spell s4)] w (FldP w (some (xN 11 31))) := by
  rw [show spell s4 = s4 by decide +kernel]
  exact fieldsD s4 w hg (by decide) (by decide +kernel) (by decide +kernel) (by decide +kernel) _ _ _ _ _ _ (by kernel_rfl) clk0
theorem pN4 (w : World) (hg : GlP w) : Calls Tryd.prog 7 #[.string (⟨#[42, 45]⟩ ++ ⟨#[49, 49]⟩ ++ ⟨#[45, 51, 49]⟩)] w (ParP w (xN 11 31)) := by
  rw [show ((⟨#[42, 45]⟩ ++ ⟨#[49, 49]⟩ ++ ⟨#[45, 51, 49]⟩ : ByteArray)) = s4 by decide +kernel]
  exact parse_yes s4 w hg _ (by decide +kernel) fN4
theorem never_walk (n0 n1 : Nat) (w : World) (hg : GlP w) (h0 : n0 < 256) (h1 : n1 < 256) :
    Calls Tryd.prog 5 #[.int .u8 n0, .int .u8 n1] w fun e w' => e = .returned (.bool true) ∧ Below w.heap.size w w' := by
  have h5 : n0 % 5 = 0 ∨ n0 % 5 = 1 ∨ n0 % 5 = 2 ∨ n0 % 5 = 3 ∨ n0 % 5 = 4 := by omega
  rcases h5 with hk | hk | hk | hk | hk
  · exact never_at n0 n1 0 ⟨#[48, 50]⟩ 2 w hg h0 h1 hk rfl (fun _ => rfl) pN0 (by decide +kernel) (never_nx _ 2 31 rfl rfl (fun y => by have := lp_le y; unfold Civ.dim; simp; omega))
  · exact never_at n0 n1 1 ⟨#[48, 52]⟩ 4 w hg h0 h1 hk rfl (fun _ => rfl) pN1 (by decide +kernel) (never_nx _ 4 31 rfl rfl (fun y => by unfold Civ.dim; simp))
  · exact never_at n0 n1 2 ⟨#[48, 54]⟩ 6 w hg h0 h1 hk rfl (fun _ => rfl) pN2 (by decide +kernel) (never_nx _ 6 31 rfl rfl (fun y => by unfold Civ.dim; simp))
  · exact never_at n0 n1 3 ⟨#[48, 57]⟩ 9 w hg h0 h1 hk rfl (fun _ => rfl) pN3 (by decide +kernel) (never_nx _ 9 31 rfl rfl (fun y => by unfold Civ.dim; simp))
  · exact never_at n0 n1 4 ⟨#[49, 49]⟩ 11 w hg h0 h1 hk rfl (fun _ => rfl) pN4 (by decide +kernel) (never_nx _ 11 31 rfl rfl (fun y => by unfold Civ.dim; simp))
end Go.Proofs.YtlpheplifjeffaaDoor
