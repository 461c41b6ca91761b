/- Small laws of texts, cells and blocks; contracts of package line's isLetterOrDigit, isOfSection, isMadeOf. -/
import Derived.Test.YtmoafagemdnifaaDoorZ0
import Derived.Test.YtmoafagemdnifaaDoorLN
import Derived.Test.YtmoafagemdnifaaDoorShelfT
import Derived.Test.YtmoafagemdnifaaDoorShelfW
import Derived.WalkKit
import Derived.WalkSpells
import Derived.BigQuiet
import Derived.Deep.QuietTactic
import Derived.KernelRfl
import Derived.OwnWalk
namespace Go.Proofs.YtmoafagemdnifaaDoor
open Go.RowKit Lin
theorem byteCells_snoc (l : L) (c : UInt8) : Lib.byteCells (l ++ [c]) = Lib.byteCells l ++ [Value.int .u8 c.toNat] := by simp [Lib.byteCells]
theorem fresh_builder (w : World) : Lib.IsBuilder 77 5 w.heap.size w.heap.size (Lib.byteCells []) (w.alloc (.cells #[.pointer none, .slice none 0 0] 77)) :=
  .inl ⟨Nat.le_refl _, _, heap_alloc_new w _, World.ownsRow_nil _ _ _ _, by simp [Value.ownBlock]⟩
theorem drewN_builder {T e : TypeId} {B b : Nat} {bs : List Value} {w : World} (h : Lib.IsBuilder T e B b bs w) (n : Nat) : Lib.IsBuilder T e B b bs (w.drewN n) := by
  rcases h with ⟨h1, v, h2, h3, h4⟩ | ⟨h1, v, h2, h3, h4⟩
  · exact .inl ⟨h1, v, h2, h3, h4⟩
  · exact .inr ⟨h1, v, h2, h3, h4⟩
theorem byte_back (c : UInt8) : (c.toNat : Int).toNat.toUInt8 = c := by simp
theorem indexByte_any (s : ByteArray) (c : UInt8) (w : World) :
    Calls Tryd.prog 92 #[.string s, .int .u8 c.toNat] w fun e w' => e = .returned (.int .i64 (Lib.indexByte s.data.toList c)) ∧ w' = w := by
  have := Tryd.strings_IndexByte s c.toNat w
  rwa [byte_back] at this
/-- A byte against a number. -/
theorem u8_ne {c : UInt8} (d : UInt8) (h : c ≠ d) : ¬ (c.toNat : Int) = (d.toNat : Int) := fun e => h (UInt8.toNat_inj.1 (by omega))
/-- A text that is its first byte and the rest. -/
theorem uncons (s : ByteArray) (h : 0 < s.size) : ∃ R : ByteArray, s.extract 1 s.size = R ∧ R.size + 1 = s.size ∧ s.data.toList = s[0] :: R.data.toList := by
  have hRl : (s.extract 1 s.size).data.toList = s.data.toList.drop 1 := by
    rw [Lib.extract_data, List.take_of_length_le (by rw [List.length_drop, size_list]; exact Nat.le_refl _)]
  refine ⟨_, rfl, ?_, ?_⟩
  · have := congrArg List.length hRl
    rw [size_list, List.length_drop, size_list] at this; omega
  · rw [hRl]
    have := List.drop_eq_getElem_cons (l := s.data.toList) (i := 0) (by rw [size_list]; omega)
    rw [List.drop_zero] at this
    exact this
theorem size_pos {s : ByteArray} (h : (s.toList == []) = false) : 0 < s.size := by
  rw [← size_list]
  refine List.length_pos_iff.2 fun e => ?_
  rw [Lib.toList_data, e] at h; cases h
theorem size_zero {s : ByteArray} (h : (s.toList == []) = true) : s.data.toList = [] := by rw [Lib.toList_data] at h; simpa using h
theorem app_list (P : ByteArray) (e : Array UInt8) : P ++ (⟨e⟩ : ByteArray) = ⟨(P.data.toList ++ e.toList).toArray⟩ := by
  rw [← Lib.mk_data (P ++ _)]
  simp
set_option maxHeartbeats 1000000 in
theorem lod_any (c : UInt8) (w : World) :
    Calls Tryd.prog 57 #[.int .u8 c.toNat] w fun e w' => e = .returned (.bool (al c)) ∧ w' = w := by
  have hc := c.toNat_lt
  have hA : Hid (al c = decide ((97 ≤ c.toNat ∧ c.toNat ≤ 122) ∨ (65 ≤ c.toNat ∧ c.toNat ≤ 90) ∨ (48 ≤ c.toNat ∧ c.toNat ≤ 57))) := rfl
  go_enter Tryd.func57, Tryd.ntmps57
  go_wp2
  all_goals
    go_ret
    refine ⟨ret_bool ?_, rfl⟩
    rw [hA.out]
    first | (simp; omega) | (rw [Bool.eq_iff_iff]; simp; omega) | (rw [Bool.eq_iff_iff]; simp at *; omega)
set_option maxHeartbeats 1000000 in
theorem ofs_any (c : UInt8) (w : World) :
    Calls Tryd.prog 73 #[.int .u8 c.toNat] w fun e w' => e = .returned (.bool (sc c)) ∧ w' = w := by
  have hc := c.toNat_lt
  have hA : Hid (sc c = decide (32 ≤ c.toNat ∧ c.toNat ≠ 91 ∧ c.toNat ≠ 93)) := rfl
  go_enter Tryd.func73, Tryd.ntmps73
  go_wp2
  all_goals
    go_ret
    refine ⟨ret_bool ?_, rfl⟩
    rw [hA.out]
    first | (simp; omega) | (rw [Bool.eq_iff_iff]; simp; omega) | (rw [Bool.eq_iff_iff]; simp at *; omega)
theorem made_no {p : UInt8 → Bool} {l : L} {c : UInt8} (h : c ∈ l) (hc : p c = false) : made p l = false := by
  unfold made
  have : l.all p = false := by
    rw [← Bool.not_eq_true, List.all_eq_true]
    intro h'
    rw [h' c h] at hc; cases hc
  rw [this]; rfl
theorem made_all {p : UInt8 → Bool} {l : L} (h : l.all p = true) : made p l = !(l == []) := by unfold made; rw [h]; rfl
set_option maxHeartbeats 2000000 in
theorem madeA_any (s : ByteArray) (w : World) (hs : s.size ≤ 2000000) :
    Calls Tryd.prog 56 #[.string s, .func (.func 57) #[] #[]] w fun e w' => e = .returned (.bool (made al s.data.toList)) ∧ w' = w := by
  go_enter Tryd.func56, Tryd.ntmps56
  go_wp2_with fail
  go_loop [8] (fun i => ∃ k : Nat, k ≤ s.size ∧ i = .int .i64 k ∧ Hid ((s.data.toList.take k).all al = true)) (fun i => s.size - (intOf i).toNat)
  case atStart => exact ⟨0, by omega, rfl, rfl⟩
  case round =>
    obtain ⟨k, hk, rfl, hno⟩ := hrel
    by_cases hlt : k < s.size
    · have htk : Hid (s.data.toList.take (k + 1) = s.data.toList.take k ++ [s[k]]) := by
        show _ = _
        rw [List.take_add_one, get_list s k hlt]; rfl
      have hmem : Hid (s[k] ∈ s.data.toList) := List.mem_of_getElem? (get_list s k hlt)
      obtain ⟨c, hc⟩ : ∃ c, s[k] = c := ⟨_, rfl⟩
      rw [hc] at htk hmem
      cases hsp : al c
      · have hF : Hid (made al s.data.toList = false) := made_no hmem.out hsp
        go_wp2_with (go_at_call 57; refine (lod_any c _).mono ?_; rintro e w' ⟨rfl, rfl⟩)
        go_ret
        exact ⟨ret_bool (by rw [hF.out]), rfl⟩
      · have hn : Hid ((s.data.toList.take (k + 1)).all al = true) := by
          show _ = _
          rw [htk.out, List.all_append, hno.out]; simp [hsp]
        go_wp2_with (go_at_call 57; refine (lod_any c _).mono ?_; rintro e w' ⟨rfl, rfl⟩)
        exact ⟨⟨k + 1, by omega, by go_num, hn⟩, by simp [intOf]; omega⟩
    · obtain rfl : k = s.size := by omega
      have hT : Hid (made al s.data.toList = !s.toList.isEmpty) := by
        show _ = _
        have := hno.out
        rw [List.take_of_length_le (by rw [size_list]; omega)] at this
        rw [made_all this, Lib.toList_data]; cases s.data.toList <;> rfl
      go_wp2_with fail
      go_ret
      exact ⟨ret_bool (by rw [hT.out]), rfl⟩
set_option maxHeartbeats 2000000 in
theorem madeS_any (s : ByteArray) (w : World) (hs : s.size ≤ 2000000) :
    Calls Tryd.prog 56 #[.string s, .func (.func 73) #[] #[]] w fun e w' => e = .returned (.bool (made sc s.data.toList)) ∧ w' = w := by
  go_enter Tryd.func56, Tryd.ntmps56
  go_wp2_with fail
  go_loop [8] (fun i => ∃ k : Nat, k ≤ s.size ∧ i = .int .i64 k ∧ Hid ((s.data.toList.take k).all sc = true)) (fun i => s.size - (intOf i).toNat)
  case atStart => exact ⟨0, by omega, rfl, rfl⟩
  case round =>
    obtain ⟨k, hk, rfl, hno⟩ := hrel
    by_cases hlt : k < s.size
    · have htk : Hid (s.data.toList.take (k + 1) = s.data.toList.take k ++ [s[k]]) := by
        show _ = _
        rw [List.take_add_one, get_list s k hlt]; rfl
      have hmem : Hid (s[k] ∈ s.data.toList) := List.mem_of_getElem? (get_list s k hlt)
      obtain ⟨c, hc⟩ : ∃ c, s[k] = c := ⟨_, rfl⟩
      rw [hc] at htk hmem
      cases hsp : sc c
      · have hF : Hid (made sc s.data.toList = false) := made_no hmem.out hsp
        go_wp2_with (go_at_call 73; refine (ofs_any c _).mono ?_; rintro e w' ⟨rfl, rfl⟩)
        go_ret
        exact ⟨ret_bool (by rw [hF.out]), rfl⟩
      · have hn : Hid ((s.data.toList.take (k + 1)).all sc = true) := by
          show _ = _
          rw [htk.out, List.all_append, hno.out]; simp [hsp]
        go_wp2_with (go_at_call 73; refine (ofs_any c _).mono ?_; rintro e w' ⟨rfl, rfl⟩)
        exact ⟨⟨k + 1, by omega, by go_num, hn⟩, by simp [intOf]; omega⟩
    · obtain rfl : k = s.size := by omega
      have hT : Hid (made sc s.data.toList = !s.toList.isEmpty) := by
        show _ = _
        have := hno.out
        rw [List.take_of_length_le (by rw [size_list]; omega)] at this
        rw [made_all this, Lib.toList_data]; cases s.data.toList <;> rfl
      go_wp2_with fail
      go_ret
      exact ⟨ret_bool (by rw [hT.out]), rfl⟩
end Go.Proofs.YtmoafagemdnifaaDoor
