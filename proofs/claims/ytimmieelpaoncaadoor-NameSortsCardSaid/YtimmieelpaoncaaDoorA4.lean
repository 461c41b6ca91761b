/- Contracts of package name's Is, Kind, Prefix, Instance, Template, With. -/
import Derived.Test.YtimmieelpaoncaaDoorA3
namespace Go.Proofs.YtimmieelpaoncaaDoor
open Go.RowKit Nam
theorem cutn_none (s : ByteArray) (w : World) (hg : GlN w) (hs : s.size ≤ 2000000) (h : cutN s.data.toList = none) :
    Calls Tryd.prog 35 #[.string s] w fun e w' => e = .returned (.tuple #[.agg #[.string ⟨#[]⟩, .string ⟨#[]⟩, .bool false, .string ⟨#[]⟩, .int .i64 0], .bool false]) ∧ Below w.heap.size w w' := by
  have := cutn_any s w hg hs
  rw [h] at this
  exact this
theorem cutn_some (s : ByteArray) (w : World) (hg : GlN w) (hs : s.size ≤ 2000000) (A Z E : ByteArray) (m : Bool) (k : Nat) (h : cutN s.data.toList = some (A.data.toList, Z.data.toList, m, k)) (hE : E = ⟨(endk k).toArray⟩) :
    Calls Tryd.prog 35 #[.string s] w fun e w' => e = .returned (.tuple #[.agg #[.string A, .string Z, .bool m, .string E, .int .i64 ((k : Int) + 1)], .bool true]) ∧ Below w.heap.size w w' := by
  have := cutn_any s w hg hs
  rw [h] at this
  subst hE
  refine this.mono ?_
  rintro e w' ⟨rfl, hb⟩
  refine ⟨?_, hb⟩
  show Ending.returned (.tuple #[prtV (A.data.toList, Z.data.toList, m, k), .bool true]) = _
  unfold prtV
  rw [Lib.mk_data, Lib.mk_data]
theorem letters (x : L) : ∃ A : ByteArray, A.data.toList = x ∧ A.size = x.length ∧ (⟨x.toArray⟩ : ByteArray) = A := ⟨⟨x.toArray⟩, rfl, rfl, rfl⟩
set_option maxHeartbeats 1000000 in
theorem is_any (s : ByteArray) (w : World) (hg : GlN w) (hs : s.size ≤ 2000000) :
    Calls Tryd.prog 12 #[.string s] w fun e w' => e = .returned (.bool (cutN s.data.toList).isSome) ∧ Below w.heap.size w w' := by
  cases h : cutN s.data.toList with
  | none =>
    have hc := cutn_none s w hg hs h
    go_enter Tryd.func12, Tryd.ntmps12
    go_wp2_with fail
    refine hc.mono ?_
    rintro e w1 ⟨rfl, hb⟩
    go_wp2_with fail
    go_ret
    exact ⟨rfl, hb.alloc hb.size _⟩
  | some p =>
    obtain ⟨x, y, m, k⟩ := p
    obtain ⟨A, rfl, _, _⟩ := letters x
    obtain ⟨Z, rfl, _, _⟩ := letters y
    obtain ⟨E, hE⟩ : ∃ E : ByteArray, E = ⟨(endk k).toArray⟩ := ⟨_, rfl⟩
    have hc := cutn_some s w hg hs A Z E m k h hE
    go_enter Tryd.func12, Tryd.ntmps12
    go_wp2_with fail
    refine hc.mono ?_
    rintro e w1 ⟨rfl, hb⟩
    go_wp2_with fail
    go_ret
    exact ⟨rfl, hb.alloc hb.size _⟩
set_option maxHeartbeats 1000000 in
theorem kind_any (s : ByteArray) (w : World) (hg : GlN w) (hs : s.size ≤ 2000000) :
    Calls Tryd.prog 14 #[.string s] w fun e w' => e = .returned (.int .i64 (kindN s.data.toList)) ∧ Below w.heap.size w w' := by
  cases h : cutN s.data.toList with
  | none =>
    have hK : Hid (kindN s.data.toList = 0) := by show _ = _; unfold kindN; rw [h]
    have hc := cutn_none s w hg hs h
    go_enter Tryd.func14, Tryd.ntmps14
    go_wp2_with fail
    refine hc.mono ?_
    rintro e w1 ⟨rfl, hb⟩
    go_wp2_with fail
    go_ret
    exact ⟨by rw [hK.out]; rfl, hb.alloc hb.size _⟩
  | some p =>
    obtain ⟨x, y, m, k⟩ := p
    obtain ⟨A, rfl, _, _⟩ := letters x
    obtain ⟨Z, rfl, _, _⟩ := letters y
    obtain ⟨E, hE⟩ : ∃ E : ByteArray, E = ⟨(endk k).toArray⟩ := ⟨_, rfl⟩
    have hK : Hid (kindN s.data.toList = k + 1) := by show _ = _; unfold kindN; rw [h]
    have hc := cutn_some s w hg hs A Z E m k h hE
    go_enter Tryd.func14, Tryd.ntmps14
    go_wp2_with fail
    refine hc.mono ?_
    rintro e w1 ⟨rfl, hb⟩
    go_wp2_with fail
    go_ret
    exact ⟨by rw [hK.out]; rfl, hb.alloc hb.size _⟩
set_option maxHeartbeats 1000000 in
theorem prefix_any (s : ByteArray) (w : World) (hg : GlN w) (hs : s.size ≤ 2000000) :
    Calls Tryd.prog 16 #[.string s] w fun e w' => e = .returned (.string ⟨(prefN s.data.toList).toArray⟩) ∧ Below w.heap.size w w' := by
  cases h : cutN s.data.toList with
  | none =>
    have hK : Hid (prefN s.data.toList = []) := by show _ = _; unfold prefN; rw [h]
    have hc := cutn_none s w hg hs h
    go_enter Tryd.func16, Tryd.ntmps16
    go_wp2_with fail
    refine hc.mono ?_
    rintro e w1 ⟨rfl, hb⟩
    go_wp2_with fail
    go_ret
    exact ⟨by rw [hK.out]; rfl, hb.alloc hb.size _⟩
  | some p =>
    obtain ⟨x, y, m, k⟩ := p
    obtain ⟨A, rfl, _, _⟩ := letters x
    obtain ⟨Z, rfl, _, _⟩ := letters y
    obtain ⟨E, hE⟩ : ∃ E : ByteArray, E = ⟨(endk k).toArray⟩ := ⟨_, rfl⟩
    have hK : Hid (prefN s.data.toList = A.data.toList) := by show _ = _; unfold prefN; rw [h]
    have hc := cutn_some s w hg hs A Z E m k h hE
    go_enter Tryd.func16, Tryd.ntmps16
    go_wp2_with fail
    refine hc.mono ?_
    rintro e w1 ⟨rfl, hb⟩
    go_wp2_with fail
    go_ret
    exact ⟨by rw [hK.out, Lib.mk_data]; rfl, hb.alloc hb.size _⟩
set_option maxHeartbeats 1000000 in
theorem instance_any (s : ByteArray) (w : World) (hg : GlN w) (hs : s.size ≤ 2000000) :
    Calls Tryd.prog 10 #[.string s] w fun e w' => e = .returned (.tuple #[.string ⟨(instN s.data.toList).toArray⟩, .bool (markN s.data.toList)]) ∧ Below w.heap.size w w' := by
  cases h : cutN s.data.toList with
  | none =>
    have hK : Hid (instN s.data.toList = []) := by show _ = _; unfold instN; rw [h]
    have hM : Hid (markN s.data.toList = false) := by show _ = _; unfold markN; rw [h]
    have hc := cutn_none s w hg hs h
    go_enter Tryd.func10, Tryd.ntmps10
    go_wp2_with fail
    refine hc.mono ?_
    rintro e w1 ⟨rfl, hb⟩
    go_wp2_with fail
    go_quiet (fail)
    go_wp2_with fail
    go_ret2
    exact ⟨by rw [hK.out, hM.out]; rfl, below_drewN (hb.alloc hb.size _) _⟩
  | some p =>
    obtain ⟨x, y, m, k⟩ := p
    obtain ⟨A, rfl, _, _⟩ := letters x
    obtain ⟨Z, rfl, _, _⟩ := letters y
    obtain ⟨E, hE⟩ : ∃ E : ByteArray, E = ⟨(endk k).toArray⟩ := ⟨_, rfl⟩
    have hK : Hid (instN s.data.toList = Z.data.toList) := by show _ = _; unfold instN; rw [h]
    have hM : Hid (markN s.data.toList = m) := by show _ = _; unfold markN; rw [h]
    have hc := cutn_some s w hg hs A Z E m k h hE
    go_enter Tryd.func10, Tryd.ntmps10
    go_wp2_with fail
    refine hc.mono ?_
    rintro e w1 ⟨rfl, hb⟩
    go_wp2_with fail
    go_quiet (fail)
    go_wp2_with fail
    go_ret2
    exact ⟨by rw [hK.out, hM.out, Lib.mk_data]; rfl, below_drewN (hb.alloc hb.size _) _⟩
theorem app_list (a b : ByteArray) : a ++ b = ⟨(a.data.toList ++ b.data.toList).toArray⟩ := by
  obtain ⟨⟨a⟩⟩ := a
  obtain ⟨⟨b⟩⟩ := b
  apply ByteArray.ext
  simp
set_option maxHeartbeats 1000000 in
theorem with_any (A Z E I : ByteArray) (m : Bool) (n : Int) (w : World) (hA : A.size ≤ 2000000) (hI : I.size ≤ 1000000) (hE : E.size ≤ 1000000) :
    Calls Tryd.prog 39 #[.agg #[.string A, .string Z, .bool m, .string E, .int .i64 n], .string I] w fun e w' => e = .returned (.string ⟨(A.data.toList ++ 64 :: (I.data.toList ++ E.data.toList)).toArray⟩) ∧ Below w.heap.size w w' := by
  have hR : Hid (A ++ ⟨#[64]⟩ ++ I ++ E = ⟨(A.data.toList ++ 64 :: (I.data.toList ++ E.data.toList)).toArray⟩) := by
    show _ = _
    rw [app_list, app_list, app_list]
    simp
  go_enter Tryd.func39, Tryd.ntmps39
  go_wp2_with fail
  go_ret
  exact ⟨by rw [← hR.out]; rfl, (Below.refl _ _).alloc (Nat.le_refl _) _⟩
end Go.Proofs.YtimmieelpaoncaaDoor
