/- The contract of the statements' known. -/
import Derived.Test.YtimmieelpaoncaaDoorB4
namespace Go.Proofs.YtimmieelpaoncaaDoor
open Go.RowKit Nam
theorem k_path : ofPath [47, 118, 97, 114, 47, 108, 111, 103] = some [118, 97, 114, 45, 108, 111, 103] := by decide +kernel
theorem k_cut : cutN [97, 64, 98, 46, 115, 101, 114, 118, 105, 99, 101] = some ([97], [98], true, 0) := by decide +kernel
theorem k_exp : expn [97, 64, 98, 46, 115, 101, 114, 118, 105, 99, 101] ([97], [98], true, 0) [37, 112, 32, 111, 102, 32, 37, 105] = some [97, 32, 111, 102, 32, 98] := by decide +kernel
theorem k_kind : kindN [120, 46, 116, 105, 109, 101, 114] = 3 := by decide +kernel
theorem k_is : cutN [46, 115, 101, 114, 118, 105, 99, 101] = none := by decide +kernel
set_option maxHeartbeats 2000000 in
theorem known_any (w : World) (hg : GlN w) :
    Calls Tryd.prog 9 #[] w fun e w' => e = .returned (.bool true) ∧ Below w.heap.size w w' := by
  have h1 : Hid (∀ w, GlN w → Calls Tryd.prog 26 #[.string ⟨#[47, 118, 97, 114, 47, 108, 111, 103]⟩] w fun e w' => e = .returned (.tuple #[.string ⟨#[118, 97, 114, 45, 108, 111, 103]⟩, .int .i64 0]) ∧ Below w.heap.size w w') := by
    intro w hg
    have := ofPath_any ⟨#[47, 118, 97, 114, 47, 108, 111, 103]⟩ w hg (by decide)
    rw [show (⟨#[47, 118, 97, 114, 47, 108, 111, 103]⟩ : ByteArray).data.toList = [47, 118, 97, 114, 47, 108, 111, 103] from rfl, k_path] at this
    exact this
  have h2 : Hid (∀ w, GlN w → Calls Tryd.prog 28 #[.string ⟨#[37, 112, 32, 111, 102, 32, 37, 105]⟩, .string ⟨#[97, 64, 98, 46, 115, 101, 114, 118, 105, 99, 101]⟩] w fun e w' => e = .returned (.tuple #[.string ⟨#[97, 32, 111, 102, 32, 98]⟩, .int .i64 0]) ∧ Below w.heap.size w w') := by
    intro w hg
    have := expand_any ⟨#[37, 112, 32, 111, 102, 32, 37, 105]⟩ ⟨#[97, 64, 98, 46, 115, 101, 114, 118, 105, 99, 101]⟩ w hg (by decide) (by decide)
    rw [show (⟨#[37, 112, 32, 111, 102, 32, 37, 105]⟩ : ByteArray).data.toList = [37, 112, 32, 111, 102, 32, 37, 105] from rfl, show (⟨#[97, 64, 98, 46, 115, 101, 114, 118, 105, 99, 101]⟩ : ByteArray).data.toList = [97, 64, 98, 46, 115, 101, 114, 118, 105, 99, 101] from rfl, expV, k_cut] at this
    dsimp only at this
    rw [k_exp] at this
    exact this
  have h3 : Hid (∀ w, GlN w → Calls Tryd.prog 14 #[.string ⟨#[120, 46, 116, 105, 109, 101, 114]⟩] w fun e w' => e = .returned (.int .i64 3) ∧ Below w.heap.size w w') := by
    intro w hg
    have := kind_any ⟨#[120, 46, 116, 105, 109, 101, 114]⟩ w hg (by decide)
    rw [show (⟨#[120, 46, 116, 105, 109, 101, 114]⟩ : ByteArray).data.toList = [120, 46, 116, 105, 109, 101, 114] from rfl, k_kind] at this
    exact this
  have h4 : Hid (∀ w, GlN w → Calls Tryd.prog 12 #[.string ⟨#[46, 115, 101, 114, 118, 105, 99, 101]⟩] w fun e w' => e = .returned (.bool false) ∧ Below w.heap.size w w') := by
    intro w hg
    have := is_any ⟨#[46, 115, 101, 114, 118, 105, 99, 101]⟩ w hg (by decide)
    rw [show (⟨#[46, 115, 101, 114, 118, 105, 99, 101]⟩ : ByteArray).data.toList = [46, 115, 101, 114, 118, 105, 99, 101] from rfl, k_is] at this
    exact this
  go_enter Tryd.func9, Tryd.ntmps9
  go_wp2_with fail
  refine (h1.out _ hg).mono ?_
  rintro e w1 ⟨rfl, hb1⟩
  go_wp2_with fail
  refine (h2.out _ (hg.below hb1)).mono ?_
  rintro e w2 ⟨rfl, hb2⟩
  have hb12 := hb1.trans (hb2.mono hb1.size)
  go_wp2_with fail
  refine (h3.out _ (hg.below hb12)).mono ?_
  rintro e w3 ⟨rfl, hb3⟩
  have hb13 := hb12.trans (hb3.mono hb12.size)
  go_wp2_with fail
  refine (h4.out _ (hg.below hb13)).mono ?_
  rintro e w4 ⟨rfl, hb4⟩
  go_wp2_with fail
  go_ret
  exact ⟨rfl, hb13.trans (hb4.mono hb13.size)⟩
end Go.Proofs.YtimmieelpaoncaaDoor
