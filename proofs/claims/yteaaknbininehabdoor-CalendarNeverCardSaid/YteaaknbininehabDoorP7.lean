/- The contract of package calendar's spellOut. -/
import Derived.Test.YteaaknbininehabDoorP5a
namespace Go.Proofs.YteaaknbininehabDoor
open Go.RowKit
def spell (s : ByteArray) : ByteArray :=
  if (s.toList == [109, 105, 110, 117, 116, 101, 108, 121]) = true then ⟨#[42, 45, 42, 45, 42, 32, 42, 58, 42, 58, 48, 48]⟩
  else if (s.toList == [104, 111, 117, 114, 108, 121]) = true then ⟨#[42, 45, 42, 45, 42, 32, 42, 58, 48, 48, 58, 48, 48]⟩
  else if (s.toList == [100, 97, 105, 108, 121]) = true then ⟨#[42, 45, 42, 45, 42, 32, 48, 48, 58, 48, 48, 58, 48, 48]⟩
  else if (s.toList == [119, 101, 101, 107, 108, 121]) = true then ⟨#[77, 111, 110, 32, 42, 45, 42, 45, 42, 32, 48, 48, 58, 48, 48, 58, 48, 48]⟩
  else if (s.toList == [109, 111, 110, 116, 104, 108, 121]) = true then ⟨#[42, 45, 42, 45, 48, 49, 32, 48, 48, 58, 48, 48, 58, 48, 48]⟩
  else if (s.toList == [121, 101, 97, 114, 108, 121]) = true then ⟨#[42, 45, 48, 49, 45, 48, 49, 32, 48, 48, 58, 48, 48, 58, 48, 48]⟩
  else s
theorem ret_str {a b : ByteArray} (h : a = b) : Ending.returned (.string a) = .returned (.string b) := by rw [h]
set_option maxHeartbeats 2000000 in
theorem spell_any (s : ByteArray) (w : World) :
    Calls Tryd.prog 13 #[.string s] w fun e w' => e = .returned (.string (spell s)) ∧ w' = w := by
  cases h1 : (s.toList == [109, 105, 110, 117, 116, 101, 108, 121])
  · cases h2 : (s.toList == [104, 111, 117, 114, 108, 121])
    · cases h3 : (s.toList == [100, 97, 105, 108, 121])
      · cases h4 : (s.toList == [119, 101, 101, 107, 108, 121])
        · cases h5 : (s.toList == [109, 111, 110, 116, 104, 108, 121])
          · cases h6 : (s.toList == [121, 101, 97, 114, 108, 121])
            all_goals
              go_enter Tryd.func13, Tryd.ntmps13
              go_wp2
              go_ret
              exact ⟨ret_str (by unfold spell; rw [h1, h2, h3, h4, h5, h6]; rfl), rfl⟩
          · go_enter Tryd.func13, Tryd.ntmps13
            go_wp2
            go_ret
            exact ⟨ret_str (by unfold spell; rw [h1, h2, h3, h4, h5]; rfl), rfl⟩
        · go_enter Tryd.func13, Tryd.ntmps13
          go_wp2
          go_ret
          exact ⟨ret_str (by unfold spell; rw [h1, h2, h3, h4]; rfl), rfl⟩
      · go_enter Tryd.func13, Tryd.ntmps13
        go_wp2
        go_ret
        exact ⟨ret_str (by unfold spell; rw [h1, h2, h3]; rfl), rfl⟩
    · go_enter Tryd.func13, Tryd.ntmps13
      go_wp2
      go_ret
      exact ⟨ret_str (by unfold spell; rw [h1, h2]; rfl), rfl⟩
  · go_enter Tryd.func13, Tryd.ntmps13
    go_wp2
    go_ret
    exact ⟨ret_str (by unfold spell; rw [h1]; rfl), rfl⟩
end Go.Proofs.YteaaknbininehabDoor
