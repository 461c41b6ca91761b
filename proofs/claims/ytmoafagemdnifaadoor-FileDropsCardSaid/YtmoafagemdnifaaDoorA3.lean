/- Contracts of package line's sectionName, parse, isLeftOut. -/
import Derived.Test.YtmoafagemdnifaaDoorU
namespace Go.Proofs.YtmoafagemdnifaaDoor
open Go.RowKit Lin
def snV (o : Option L) : Value := match o with
  | some t => .tuple #[.string ⟨t.toArray⟩, .bool true]
  | none => .tuple #[.string ⟨#[]⟩, .bool false]
theorem snV_of {o : Option L} {T : ByteArray} (h : o = some T.data.toList) : snV o = .tuple #[.string T, .bool true] := by
  rw [h]; show Value.tuple #[.string ⟨T.data.toList.toArray⟩, .bool true] = _; rw [Lib.mk_data]
set_option maxHeartbeats 2000000 in
theorem sectionName_any (s : ByteArray) (w : World) (hs : s.size ≤ 2000000) :
    Calls Tryd.prog 53 #[.string s] w fun e w' => e = .returned (snV (secN s.data.toList)) ∧ w' = w := by
  have hcp := fun w => Tryd.strings_CutPrefix s ⟨#[91]⟩ w
  rw [show (⟨#[91]⟩ : ByteArray).data.toList = [91] from rfl] at hcp
  have hl1 := Lib.trimPrefix_le s.data.toList [91]
  have hl2 := Lib.trimSuffix_le (Lib.trimPrefix s.data.toList [91]) [93]
  have hS : Hid (secN s.data.toList = if Lib.hasPrefix s.data.toList [91] && Lib.hasSuffix (Lib.trimPrefix s.data.toList [91]) [93] && made sc (Lib.trimSuffix (Lib.trimPrefix s.data.toList [91]) [93]) then some (Lib.trimSuffix (Lib.trimPrefix s.data.toList [91]) [93]) else none) := rfl
  obtain ⟨I, hIl, hIz, hIe⟩ := letters (Lib.trimPrefix s.data.toList [91])
  rw [hIe] at hcp
  have hcs := fun w h => Tryd.strings_CutSuffix I ⟨#[93]⟩ w h
  rw [hIl, show (⟨#[93]⟩ : ByteArray).data.toList = [93] from rfl] at hcs
  obtain ⟨N, hNl, hNz, hNe⟩ := letters (Lib.trimSuffix (Lib.trimPrefix s.data.toList [91]) [93])
  rw [hNe] at hcs
  rw [← hNl] at hS
  rw [size_list] at hl1
  have hIs : I.size ≤ 2000000 := by rw [hIz]; omega
  have hNs : N.size ≤ 2000000 := by rw [hNz]; omega
  have hcs1 := fun w => hcs w (by omega)
  clear hcs
  have hmd := fun w => madeS_any N w hNs
  clear hIl hIz hIe hNl hNz hNe hl1 hl2
  cases hp : Lib.hasPrefix s.data.toList [91]
  · rw [hp] at hcp hS
    have hcp' : Hid (∀ w, Calls Tryd.prog 72 #[.string s, .string ⟨#[91]⟩] w fun e w' => e = .returned (.tuple #[.string I, .bool false]) ∧ w' = w) := hcp
    have hcs' : Hid (∀ w, Calls Tryd.prog 49 #[.string I, .string ⟨#[93]⟩] w fun e w' => e = .returned (.tuple #[.string N, .bool (Lib.hasSuffix (Lib.trimPrefix s.data.toList [91]) [93])]) ∧ w' = w) := hcs1
    have hR : Hid (secN s.data.toList = none) := hS.out
    clear hcp hcs1 hmd hS
    go_enter Tryd.func53, Tryd.ntmps53
    go_wp2_with fail
    refine (hcp'.out _).mono ?_
    rintro e w1 ⟨rfl, rfl⟩
    go_wp2_with fail
    refine (hcs'.out _).mono ?_
    rintro e w1 ⟨rfl, rfl⟩
    go_wp2_with fail
    go_ret2
    exact ⟨by rw [hR.out]; rfl, rfl⟩
  · rw [hp] at hcp hS
    have hcp' : Hid (∀ w, Calls Tryd.prog 72 #[.string s, .string ⟨#[91]⟩] w fun e w' => e = .returned (.tuple #[.string I, .bool true]) ∧ w' = w) := hcp
    cases hq : Lib.hasSuffix (Lib.trimPrefix s.data.toList [91]) [93]
    · rw [hq] at hcs1 hS
      have hcs' : Hid (∀ w, Calls Tryd.prog 49 #[.string I, .string ⟨#[93]⟩] w fun e w' => e = .returned (.tuple #[.string N, .bool false]) ∧ w' = w) := hcs1
      have hR : Hid (secN s.data.toList = none) := hS.out
      clear hcp hcs1 hmd hS
      go_enter Tryd.func53, Tryd.ntmps53
      go_wp2_with fail
      refine (hcp'.out _).mono ?_
      rintro e w1 ⟨rfl, rfl⟩
      go_wp2_with fail
      refine (hcs'.out _).mono ?_
      rintro e w1 ⟨rfl, rfl⟩
      go_wp2_with fail
      go_ret2
      exact ⟨by rw [hR.out]; rfl, rfl⟩
    · rw [hq] at hcs1 hS
      have hcs' : Hid (∀ w, Calls Tryd.prog 49 #[.string I, .string ⟨#[93]⟩] w fun e w' => e = .returned (.tuple #[.string N, .bool true]) ∧ w' = w) := hcs1
      cases hm : made sc N.data.toList
      · rw [hm] at hmd hS
        have hmd' : Hid (∀ w, Calls Tryd.prog 56 #[.string N, .func (.func 73) #[] #[]] w fun e w' => e = .returned (.bool false) ∧ w' = w) := hmd
        have hR : Hid (secN s.data.toList = none) := hS.out
        clear hcp hcs1 hmd hS hm
        go_enter Tryd.func53, Tryd.ntmps53
        go_wp2_with fail
        refine (hcp'.out _).mono ?_
        rintro e w1 ⟨rfl, rfl⟩
        go_wp2_with fail
        refine (hcs'.out _).mono ?_
        rintro e w1 ⟨rfl, rfl⟩
        go_wp2_with (go_at_call 56; refine (hmd'.out _).mono ?_; rintro e w' ⟨rfl, rfl⟩)
        go_ret2
        exact ⟨by rw [hR.out]; rfl, rfl⟩
      · rw [hm] at hmd hS
        have hmd' : Hid (∀ w, Calls Tryd.prog 56 #[.string N, .func (.func 73) #[] #[]] w fun e w' => e = .returned (.bool true) ∧ w' = w) := hmd
        have hR : Hid (snV (secN s.data.toList) = .tuple #[.string N, .bool true]) := snV_of hS.out
        clear hcp hcs1 hmd hS hm
        go_enter Tryd.func53, Tryd.ntmps53
        go_wp2_with fail
        refine (hcp'.out _).mono ?_
        rintro e w1 ⟨rfl, rfl⟩
        go_wp2_with fail
        refine (hcs'.out _).mono ?_
        rintro e w1 ⟨rfl, rfl⟩
        go_wp2_with (go_at_call 56; refine (hmd'.out _).mono ?_; rintro e w' ⟨rfl, rfl⟩)
        go_ret2
        exact ⟨by rw [hR.out]; rfl, rfl⟩
set_option maxHeartbeats 2000000 in
theorem isLeftOut_any (s : ByteArray) (w : World) :
    Calls Tryd.prog 48 #[.string s] w fun e w' => e = .returned (.bool (lout s.data.toList)) ∧ Below w.heap.size w w' := by
  have ht := Tryd.trimLeft_any s w
  obtain ⟨T, hTl, hTz, hTe⟩ := letters (trimL s.data.toList)
  have hL : Hid (lout s.data.toList = match T.data.toList with | [] => true | c :: _ => c == 35 || c == 59) := by show _ = _; rw [hTl]; rfl
  have ht' : Hid (Calls Tryd.prog 58 #[.string s, .string ⟨#[32, 9]⟩] w fun e w' => e = .returned (.string T) ∧ Below w.heap.size w w') := by
    rw [← hTe]; exact ht
  clear ht hTl hTz hTe
  cases h0 : (T.toList == [])
  · have hz := size_pos h0
    obtain ⟨R, _, _, hl⟩ := uncons T hz
    obtain ⟨c, hc⟩ : ∃ c, T[0] = c := ⟨_, rfl⟩
    rw [hl, hc] at hL
    clear hl
    have hzI : (0 : Int) < (T.size : Int) := by omega
    have hL' : Hid (lout s.data.toList = (((c.toNat : Int) == 35) || ((c.toNat : Int) == 59))) := by
      show _ = _
      rw [hL.out, Bool.eq_iff_iff]
      simp only [Bool.or_eq_true, beq_iff_eq]
      constructor
      · rintro (h | h) <;> rw [h] <;> simp
      · rintro (h | h)
        · exact .inl (UInt8.toNat_inj.1 (by simp; omega))
        · exact .inr (UInt8.toNat_inj.1 (by simp; omega))
    cases h35 : ((c.toNat : Int) == 35)
    · go_enter Tryd.func48, Tryd.ntmps48
      go_wp2_with fail
      refine ht'.out.mono ?_
      rintro e w1 ⟨rfl, hb⟩
      go_wp2_with fail
      go_ret
      exact ⟨ret_bool (by rw [hL'.out, h35]; rfl), hb⟩
    · go_enter Tryd.func48, Tryd.ntmps48
      go_wp2_with fail
      refine ht'.out.mono ?_
      rintro e w1 ⟨rfl, hb⟩
      go_wp2_with fail
      go_ret
      exact ⟨ret_bool (by rw [hL'.out, h35]; rfl), hb⟩
  · have hR : Hid (lout s.data.toList = true) := by show _ = _; rw [hL.out, size_zero h0]
    go_enter Tryd.func48, Tryd.ntmps48
    go_wp2_with fail
    refine ht'.out.mono ?_
    rintro e w1 ⟨rfl, hb⟩
    go_wp2_with fail
    go_ret
    exact ⟨ret_bool (by rw [hR.out]), hb⟩
end Go.Proofs.YtmoafagemdnifaaDoor
