/- The walk of the law NameBack. -/
import Derived.Test.YtimmieelpaoncaaDoorK1
import Derived.Test.YtimmieelpaoncaaDoorNM3
namespace Go.Proofs.YtimmieelpaoncaaDoor
open Go.RowKit Nam
theorem esc_letter (a : ByteArray) (h : a.size ≤ 1000) : ∃ X : ByteArray, X.data.toList = esc a.data.toList ∧ X.size ≤ 4000 ∧ ∀ w, Calls Tryd.prog 20 #[.string a] w fun e w' => e = .returned (.string X) ∧ Below w.heap.size w w' := by
  obtain ⟨X, hX, hXz, hXe⟩ := letters (esc a.data.toList)
  refine ⟨X, hX, ?_, fun w => ?_⟩
  · have := esc_len a.data.toList
    rw [size_list] at this
    rw [hXz]; omega
  · have := escape_any a w (by omega)
    rw [hXe] at this
    exact this
set_option maxHeartbeats 4000000 in
theorem back_walk (a b : ByteArray) (w : World) (hg : GlN w) :
    Calls Tryd.prog 5 #[.string a, .string b] w fun e w' => e = .returned (.bool true) ∧ Below w.heap.size w w' := by
  have hkn := known_any w hg
  by_cases ha : 100 < a.size
  · go_enter Tryd.func5, Tryd.ntmps5
    go_wp2_with fail
    refine hkn.mono ?_
    rintro e w1 ⟨rfl, hb1⟩
    go_wp2_with fail
    go_ret
    exact ⟨rfl, hb1⟩
  by_cases hbz : 100 < b.size
  · have ha' : decide (100 < (a.size : Int)) = false := by simp; omega
    go_enter Tryd.func5, Tryd.ntmps5
    go_wp2_with fail
    refine hkn.mono ?_
    rintro e w1 ⟨rfl, hb1⟩
    go_wp2_with fail
    go_ret
    exact ⟨rfl, hb1⟩
  have ha' : decide (100 < (a.size : Int)) = false := by simp; omega
  have hbz' : decide (100 < (b.size : Int)) = false := by simp; omega
  obtain ⟨X, hXl, hXs, hXc⟩ := esc_letter a (by omega)
  obtain ⟨Y, hYl, hYs, hYc⟩ := esc_letter b (by omega)
  have hXc' : Hid (∀ w, Calls Tryd.prog 20 #[.string a] w fun e w' => e = .returned (.string X) ∧ Below w.heap.size w w') := hXc
  have hYc' : Hid (∀ w, Calls Tryd.prog 20 #[.string b] w fun e w' => e = .returned (.string Y) ∧ Below w.heap.size w w') := hYc
  have hun : Hid (∀ w, Calls Tryd.prog 24 #[.string X] w fun e w' => e = .returned (.tuple #[.string a, .int .i64 0]) ∧ Below w.heap.size w w') := by
    intro w
    have := unescape_any X w (by omega)
    rw [strE_of (T := a) (by rw [hXl, unesc_esc])] at this
    exact this
  have hxy : (X.toList == Y.toList) = (a.toList == b.toList) := by
    rw [Lib.toList_data, Lib.toList_data, Lib.toList_data, Lib.toList_data, hXl, hYl, Bool.eq_iff_iff]
    simp only [beq_iff_eq]
    exact ⟨fun h => esc_inj h, fun h => by rw [h]⟩
  have hop := fun w hg => ofPath_any a w hg (by omega)
  clear hXc hYc
  cases hp : ofPath a.data.toList with
  | none =>
    rw [hp] at hop
    have hop' : Hid (∀ w, GlN w → Calls Tryd.prog 26 #[.string a] w fun e w' => e = .returned (.tuple #[.string ⟨#[]⟩, .int .i64 41]) ∧ Below w.heap.size w w') := hop
    clear hop hXl hYl
    cases hab : (a.toList == b.toList)
    all_goals
      rw [hab] at hxy
      go_enter Tryd.func5, Tryd.ntmps5
      go_wp2_with fail
      refine hkn.mono ?_
      rintro e w1 ⟨rfl, hb1⟩
      go_wp2_with fail
      refine (hXc'.out _).mono ?_
      rintro e w2 ⟨rfl, hb2⟩
      have hb12 := hb1.trans (hb2.mono hb1.size)
      go_wp2_with fail
      refine (hYc'.out _).mono ?_
      rintro e w3 ⟨rfl, hb3⟩
      have hb13 := hb12.trans (hb3.mono hb12.size)
      go_wp2_with fail
      refine (hun.out _).mono ?_
      rintro e w4 ⟨rfl, hb4⟩
      have hb14 := hb13.trans (hb4.mono hb13.size)
      go_wp2_with fail
      refine (hop'.out _ (hg.below hb14)).mono ?_
      rintro e w5 ⟨rfl, hb5⟩
      have hb15 := hb14.trans (hb5.mono hb14.size)
      go_wp2_with fail
      go_ret
      exact ⟨rfl, hb15⟩
  | some p =>
    obtain ⟨P, rfl, hPz, hPe⟩ := letters p
    have hmt := mount_is hp
    rw [strE_of (T := P) hp] at hop
    have hop' : Hid (∀ w, GlN w → Calls Tryd.prog 26 #[.string a] w fun e w' => e = .returned (.tuple #[.string P, .int .i64 0]) ∧ Below w.heap.size w w') := hop
    rw [size_list] at hmt
    by_cases h50 : P.size ≤ 50
    · have h50' : decide (50 < (P.size : Int)) = false := by simp; omega
      have hI : Hid (∀ w, GlN w → Calls Tryd.prog 12 #[.string (P ++ ⟨#[46, 109, 111, 117, 110, 116]⟩)] w fun e w' => e = .returned (.bool true) ∧ Below w.heap.size w w') := by
        intro w hg
        have hsz : (P ++ (⟨#[46, 109, 111, 117, 110, 116]⟩ : ByteArray)).size ≤ 2000000 := by rw [app_list]; show (_ : List UInt8).length ≤ _; rw [List.length_append, size_list]; show _ + 6 ≤ _; omega
        have := is_any (P ++ ⟨#[46, 109, 111, 117, 110, 116]⟩) w hg hsz
        rw [show (P ++ (⟨#[46, 109, 111, 117, 110, 116]⟩ : ByteArray)).data.toList = P.data.toList ++ [46, 109, 111, 117, 110, 116] by rw [app_list]] at this
        rw [hmt h50] at this
        exact this
      clear hop hXl hYl hPz hPe hmt hp
      cases hab : (a.toList == b.toList)
      all_goals
        rw [hab] at hxy
        go_enter Tryd.func5, Tryd.ntmps5
        go_wp2_with fail
        refine hkn.mono ?_
        rintro e w1 ⟨rfl, hb1⟩
        go_wp2_with fail
        refine (hXc'.out _).mono ?_
        rintro e w2 ⟨rfl, hb2⟩
        have hb12 := hb1.trans (hb2.mono hb1.size)
        go_wp2_with fail
        refine (hYc'.out _).mono ?_
        rintro e w3 ⟨rfl, hb3⟩
        have hb13 := hb12.trans (hb3.mono hb12.size)
        go_wp2_with fail
        refine (hun.out _).mono ?_
        rintro e w4 ⟨rfl, hb4⟩
        have hb14 := hb13.trans (hb4.mono hb13.size)
        go_wp2_with fail
        refine (hop'.out _ (hg.below hb14)).mono ?_
        rintro e w5 ⟨rfl, hb5⟩
        have hb15 := hb14.trans (hb5.mono hb14.size)
        go_wp2_with fail
        refine (hI.out _ (hg.below hb15)).mono ?_
        rintro e w6 ⟨rfl, hb6⟩
        have hb16 := hb15.trans (hb6.mono hb15.size)
        go_wp2_with fail
        go_ret
        exact ⟨rfl, hb16⟩
    · clear hop hXl hYl hPz hPe hmt hp
      have h50' : (50 : Int) < (P.size : Int) := by omega
      cases hab : (a.toList == b.toList)
      all_goals
        rw [hab] at hxy
        go_enter Tryd.func5, Tryd.ntmps5
        go_wp2_with fail
        refine hkn.mono ?_
        rintro e w1 ⟨rfl, hb1⟩
        go_wp2_with fail
        refine (hXc'.out _).mono ?_
        rintro e w2 ⟨rfl, hb2⟩
        have hb12 := hb1.trans (hb2.mono hb1.size)
        go_wp2_with fail
        refine (hYc'.out _).mono ?_
        rintro e w3 ⟨rfl, hb3⟩
        have hb13 := hb12.trans (hb3.mono hb12.size)
        go_wp2_with fail
        refine (hun.out _).mono ?_
        rintro e w4 ⟨rfl, hb4⟩
        have hb14 := hb13.trans (hb4.mono hb13.size)
        go_wp2_with fail
        refine (hop'.out _ (hg.below hb14)).mono ?_
        rintro e w5 ⟨rfl, hb5⟩
        have hb15 := hb14.trans (hb5.mono hb14.size)
        go_wp2_with fail
        go_ret
        exact ⟨rfl, hb15⟩
end Go.Proofs.YtimmieelpaoncaaDoor
