/- The contract of package name's OfPath. -/
import Derived.Test.YtimmieelpaoncaaDoorB3
namespace Go.Proofs.YtimmieelpaoncaaDoor
open Go.RowKit Nam
theorem ofPath_no {s : L} (h0 : s ≠ [47]) (hp : Lib.hasPrefix s [47] = false) : ofPath s = none := by
  unfold ofPath
  rw [if_neg h0]
  cases s with
  | nil => rfl
  | cons c r =>
    have hc : c ≠ 47 := fun e => by subst e; simp [Lib.hasPrefix] at hp
    exact if_neg hc
theorem ofPath_yes {s : L} (h0 : s ≠ [47]) (hp : Lib.hasPrefix s [47] = true) : ofPath s = if okAll (pieces (Lib.trimSuffix (Lib.trimPrefix s [47]) [47])) then some (esc (Lib.trimSuffix (Lib.trimPrefix s [47]) [47])) else none := by
  unfold ofPath
  rw [if_neg h0]
  cases s with
  | nil => simp [Lib.hasPrefix] at hp
  | cons c r =>
    have hc : c = 47 := by simp [Lib.hasPrefix] at hp; exact hp.symm
    have ht : Lib.trimPrefix (c :: r) [47] = r := by unfold Lib.trimPrefix; rw [if_pos hp]; rfl
    rw [ht]
    exact if_pos hc
set_option maxHeartbeats 2000000 in
theorem ofPath_any (s : ByteArray) (w : World) (hg : GlN w) (hs : s.size ≤ 1000000) :
    Calls Tryd.prog 26 #[.string s] w fun e w' => e = .returned (strE (ofPath s.data.toList) 41) ∧ Below w.heap.size w w' := by
  cases h0 : (s.toList == [47])
  · have hne : s.data.toList ≠ [47] := by rw [Lib.toList_data] at h0; simpa using h0
    have hcp := fun w => Tryd.strings_CutPrefix s ⟨#[47]⟩ w
    rw [show (⟨#[47]⟩ : ByteArray).data.toList = [47] from rfl] at hcp
    cases hp : Lib.hasPrefix s.data.toList [47]
    · have hR : Hid (ofPath s.data.toList = none) := ofPath_no hne hp
      rw [hp] at hcp
      have hcp' : Hid (∀ w, Calls Tryd.prog 48 #[.string s, .string ⟨#[47]⟩] w fun e w' => e = .returned (.tuple #[.string ⟨(Lib.trimPrefix s.data.toList [47]).toArray⟩, .bool false]) ∧ w' = w) := hcp
      clear hcp
      go_enter Tryd.func26, Tryd.ntmps26
      go_wp2_with fail
      refine (hcp'.out _).mono ?_
      rintro e w1 ⟨rfl, rfl⟩
      go_wp2_with fail
      go_ret2
      exact ⟨by rw [hR.out]; rfl, Below.refl _ _⟩
    · have hR := ofPath_yes hne hp
      have hl1 := Lib.trimPrefix_le s.data.toList [47]
      have hl2 := Lib.trimSuffix_le (Lib.trimPrefix s.data.toList [47]) [47]
      obtain ⟨R, hRl, hRz, hRe⟩ := letters (Lib.trimPrefix s.data.toList [47])
      obtain ⟨Q, hQl, hQz, hQe⟩ := letters (Lib.trimSuffix (Lib.trimPrefix s.data.toList [47]) [47])
      obtain ⟨X, hXl, hXz, hXe⟩ := letters (esc Q.data.toList)
      have hRs : R.size ≤ 1000000 := by rw [hRz]; rw [size_list] at hl1; omega
      have hQs : Q.size ≤ 1000000 := by rw [hQz]; omega
      have hcp' : Hid (∀ w, Calls Tryd.prog 48 #[.string s, .string ⟨#[47]⟩] w fun e w' => e = .returned (.tuple #[.string R, .bool true]) ∧ w' = w) := by
        intro w
        have := hcp w
        rw [hp, hRe] at this
        exact this
      have hts : Hid (∀ w, Calls Tryd.prog 49 #[.string R, .string ⟨#[47]⟩] w fun e w' => e = .returned (.string Q) ∧ w' = w) := by
        intro w
        have := Tryd.strings_TrimSuffix R ⟨#[47]⟩ w (by omega)
        rw [hRl, show (⟨#[47]⟩ : ByteArray).data.toList = [47] from rfl, hQe] at this
        exact this
      have hes : Hid (∀ w, Calls Tryd.prog 20 #[.string Q] w fun e w' => e = .returned (.string X) ∧ Below w.heap.size w w') := by
        intro w
        have := escape_any Q w hQs
        rw [hXe] at this
        exact this
      have hpt := fun w hg => hasParts_any Q w hg (by omega)
      rw [← hQl] at hR
      cases hk : okAll (pieces Q.data.toList)
      · rw [hk] at hpt hR
        have hpt' : Hid (∀ w, GlN w → Calls Tryd.prog 50 #[.string Q] w fun e w' => e = .returned (.bool false) ∧ Below w.heap.size w w') := hpt
        have hR' : Hid (ofPath s.data.toList = none) := hR
        clear hpt hR hRl hRz hRe hQl hQz hQe hXl hXz hXe hcp hl1 hl2 hne
        go_enter Tryd.func26, Tryd.ntmps26
        go_wp2_with fail
        refine (hcp'.out _).mono ?_
        rintro e w1 ⟨rfl, rfl⟩
        go_wp2_with fail
        refine (hts.out _).mono ?_
        rintro e w1 ⟨rfl, rfl⟩
        go_wp2_with fail
        refine (hpt'.out _ hg).mono ?_
        rintro e w1 ⟨rfl, hb⟩
        go_wp2_with fail
        go_ret2
        exact ⟨by rw [hR'.out]; rfl, hb⟩
      · rw [hk] at hpt hR
        have hpt' : Hid (∀ w, GlN w → Calls Tryd.prog 50 #[.string Q] w fun e w' => e = .returned (.bool true) ∧ Below w.heap.size w w') := hpt
        have hR' : Hid (ofPath s.data.toList = some X.data.toList) := by show _ = _; rw [hR, hXl]; rfl
        clear hpt hR hRl hRz hRe hQl hQz hQe hXl hXz hXe hcp hl1 hl2 hne
        go_enter Tryd.func26, Tryd.ntmps26
        go_wp2_with fail
        refine (hcp'.out _).mono ?_
        rintro e w1 ⟨rfl, rfl⟩
        go_wp2_with fail
        refine (hts.out _).mono ?_
        rintro e w1 ⟨rfl, rfl⟩
        go_wp2_with fail
        refine (hpt'.out _ hg).mono ?_
        rintro e w1 ⟨rfl, hb⟩
        go_wp2_with fail
        refine (hes.out _).mono ?_
        rintro e w2 ⟨rfl, hb2⟩
        go_wp2_with fail
        go_ret2
        exact ⟨by rw [strE_of hR'.out]; rfl, hb.trans (hb2.mono hb.size)⟩
  · have hR : Hid (ofPath s.data.toList = some [45]) := by
      show _ = _
      rw [Lib.toList_data] at h0
      unfold ofPath
      rw [if_pos (by simpa using h0)]
    go_enter Tryd.func26, Tryd.ntmps26
    go_wp2_with fail
    go_ret2
    exact ⟨by rw [hR.out]; rfl, Below.refl _ _⟩
end Go.Proofs.YtimmieelpaoncaaDoor
