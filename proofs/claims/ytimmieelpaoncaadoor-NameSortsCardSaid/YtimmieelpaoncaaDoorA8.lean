/- Contracts of package name's specified, Expand. -/
import Derived.Test.YtimmieelpaoncaaDoorA7
import Derived.Deep.RegionHeld3
namespace Go.Proofs.YtimmieelpaoncaaDoor
open Go.RowKit Nam
def strB (o : Option L) : Value := match o with
  | some t => .tuple #[.string ⟨t.toArray⟩, .bool true]
  | none => .tuple #[.string ⟨#[]⟩, .bool false]
set_option maxHeartbeats 2000000 in
theorem specified_any (d : UInt8) (U A Z E : ByteArray) (m : Bool) (n : Int) (k : Nat) (w : World) (hZ : Z.size ≤ 1000000) :
    Calls Tryd.prog 52 #[.int .u8 d.toNat, .string U, .agg #[.string A, .string Z, .bool m, .string E, .int .i64 n]] w fun e w' => e = .returned (strB (spec d U.data.toList (A.data.toList, Z.data.toList, m, k))) ∧ Below w.heap.size w w' := by
  have hS : Hid (spec d U.data.toList (A.data.toList, Z.data.toList, m, k) = if d = 110 then some U.data.toList else if d = 112 then some A.data.toList else if d = 105 then some Z.data.toList else if d = 73 then unesc Z.data.toList else if d = 37 then some [37] else none) := rfl
  have hB := (Below.refl w.heap.size w).alloc (Nat.le_refl _) (.cells #[.string A, .string Z, .bool m, .string E, .int .i64 n] 46)
  have cv : ∀ x : UInt8, d ≠ x → ¬ (d.toNat : Int) = (x.toNat : Int) := fun x h e => h (UInt8.toNat_inj.1 (by omega))
  by_cases h1 : d = 110
  · have hR : Hid (strB (spec d U.data.toList (A.data.toList, Z.data.toList, m, k)) = .tuple #[.string U, .bool true]) := by show _ = _; rw [hS.out, if_pos h1]; show Value.tuple #[.string ⟨U.data.toList.toArray⟩, .bool true] = _; rw [Lib.mk_data]
    have h' : (d.toNat : Int) = 110 := by rw [h1]; rfl
    clear h1 cv
    go_enter Tryd.func52, Tryd.ntmps52
    go_wp2_with fail
    go_ret2
    exact ⟨by rw [hR.out]; rfl, hB⟩
  have n1 : ¬ (d.toNat : Int) = 110 := cv 110 h1
  by_cases h2 : d = 112
  · have hR : Hid (strB (spec d U.data.toList (A.data.toList, Z.data.toList, m, k)) = .tuple #[.string A, .bool true]) := by show _ = _; rw [hS.out, if_neg h1, if_pos h2]; show Value.tuple #[.string ⟨A.data.toList.toArray⟩, .bool true] = _; rw [Lib.mk_data]
    have h' : (d.toNat : Int) = 112 := by rw [h2]; rfl
    clear h1 h2 cv n1
    go_enter Tryd.func52, Tryd.ntmps52
    go_wp2_with fail
    go_ret2
    exact ⟨by rw [hR.out]; rfl, hB⟩
  have n2 : ¬ (d.toNat : Int) = 112 := cv 112 h2
  by_cases h3 : d = 105
  · have hR : Hid (strB (spec d U.data.toList (A.data.toList, Z.data.toList, m, k)) = .tuple #[.string Z, .bool true]) := by show _ = _; rw [hS.out, if_neg h1, if_neg h2, if_pos h3]; show Value.tuple #[.string ⟨Z.data.toList.toArray⟩, .bool true] = _; rw [Lib.mk_data]
    have h' : (d.toNat : Int) = 105 := by rw [h3]; rfl
    clear h1 h2 h3 cv n1 n2
    go_enter Tryd.func52, Tryd.ntmps52
    go_wp2_with fail
    go_ret2
    exact ⟨by rw [hR.out]; rfl, hB⟩
  have n3 : ¬ (d.toNat : Int) = 105 := cv 105 h3
  by_cases h4 : d = 73
  · have hR : Hid (spec d U.data.toList (A.data.toList, Z.data.toList, m, k) = unesc Z.data.toList) := by show _ = _; rw [hS.out, if_neg h1, if_neg h2, if_neg h3, if_pos h4]
    have h' : (d.toNat : Int) = 73 := by rw [h4]; rfl
    have hu := fun w => unescape_any Z w hZ
    clear h1 h2 h3 h4 cv n1 n2 n3
    cases hq : unesc Z.data.toList with
    | none =>
      rw [hq] at hu
      have hu' : Hid (∀ w, Calls Tryd.prog 24 #[.string Z] w fun e w' => e = .returned (.tuple #[.string ⟨#[]⟩, .int .i64 41]) ∧ Below w.heap.size w w') := hu
      clear hu
      go_enter Tryd.func52, Tryd.ntmps52
      go_wp2_with fail
      refine (hu'.out _).mono ?_
      rintro e w1 ⟨rfl, hb⟩
      go_wp2_with fail
      go_ret2
      exact ⟨by rw [hR.out, hq]; rfl, hB.trans (hb.mono (by simp))⟩
    | some t =>
      rw [hq] at hu
      obtain ⟨T, rfl, _, hTe⟩ := letters t
      have hu' : Hid (∀ w, Calls Tryd.prog 24 #[.string Z] w fun e w' => e = .returned (.tuple #[.string T, .int .i64 0]) ∧ Below w.heap.size w w') := by
        intro w
        have := hu w
        unfold strE at this
        simp only [hTe] at this
        exact this
      have hR2 : Hid (strB (spec d U.data.toList (A.data.toList, Z.data.toList, m, k)) = .tuple #[.string T, .bool true]) := by show _ = _; rw [hR.out, hq]; show Value.tuple #[.string ⟨T.data.toList.toArray⟩, .bool true] = _; rw [Lib.mk_data]
      clear hu hTe
      go_enter Tryd.func52, Tryd.ntmps52
      go_wp2_with fail
      refine (hu'.out _).mono ?_
      rintro e w1 ⟨rfl, hb⟩
      go_wp2_with fail
      go_ret2
      exact ⟨by rw [hR2.out]; rfl, hB.trans (hb.mono (by simp))⟩
  have n4 : ¬ (d.toNat : Int) = 73 := cv 73 h4
  by_cases h5 : d = 37
  · have hR : Hid (spec d U.data.toList (A.data.toList, Z.data.toList, m, k) = some [37]) := by show _ = _; rw [hS.out, if_neg h1, if_neg h2, if_neg h3, if_neg h4, if_pos h5]
    have h' : (d.toNat : Int) = 37 := by rw [h5]; rfl
    clear h1 h2 h3 h4 h5 cv n1 n2 n3 n4
    go_enter Tryd.func52, Tryd.ntmps52
    go_wp2_with fail
    go_ret2
    exact ⟨by rw [hR.out]; rfl, hB⟩
  · have hR : Hid (spec d U.data.toList (A.data.toList, Z.data.toList, m, k) = none) := by show _ = _; rw [hS.out, if_neg h1, if_neg h2, if_neg h3, if_neg h4, if_neg h5]
    have n5 : ¬ (d.toNat : Int) = 37 := cv 37 h5
    clear h1 h2 h3 h4 h5 cv
    go_enter Tryd.func52, Tryd.ntmps52
    go_wp2_with fail
    go_ret2
    exact ⟨by rw [hR.out]; rfl, hB⟩
end Go.Proofs.YtimmieelpaoncaaDoor
