/- Contracts of the reference's Is, Prefix, Instance, Ending, Template, With. -/
import Derived.Test.YtimmieelpaoncaaDoorR3
import Derived.Test.YtimmieelpaoncaaDoorA7
namespace Go.Proofs.YtimmieelpaoncaaDoor
open Go.RowKit Nam
theorem kind_pos (l : L) : decide (0 < kindN l) = (cutN l).isSome := by
  unfold kindN
  cases cutN l with
  | none => rfl
  | some p => simp
set_option maxHeartbeats 1000000 in
theorem ris_any (s : ByteArray) (w : World) (hs : s.size ≤ 1000000) :
    Calls Tryd.prog 13 #[.string s] w fun e w' => e = .returned (.bool (cutN s.data.toList).isSome) ∧ Below w.heap.size w w' := by
  have hk := rkind_any s w hs
  have hp : Hid (decide (0 < kindN s.data.toList) = (cutN s.data.toList).isSome) := kind_pos _
  obtain ⟨K, hK⟩ : ∃ K : Nat, kindN s.data.toList = K := ⟨_, rfl⟩
  rw [hK] at hk hp
  clear hK
  go_enter Tryd.func13, Tryd.ntmps13
  go_wp2_with fail
  refine hk.mono ?_
  rintro e w1 ⟨rfl, hb⟩
  go_wp2_with fail
  go_ret
  exact ⟨by rw [← hp.out]; rfl, hb⟩
/-- The stem of a name, and what it parts into. -/
theorem cutN_stem {l : L} {p : Prt} (h : cutN l = some p) : ∃ st, fnd l 0 ends = some (st, p.2.2.2) ∧ st.length ≤ 60 ∧ ((p = (st, [], false, p.2.2.2) ∧ Lib.index st [64] = -1) ∨ (∃ a b, st = a ++ 64 :: b ∧ p = (a, b, true, p.2.2.2) ∧ Lib.index st [64] = a.length)) := by
  have hl := cutN_len h
  unfold cutN at h
  split at h
  · cases h
  · rename_i hz
    cases hf : fnd l 0 ends with
    | none => rw [hf] at h; cases h
    | some q =>
      obtain ⟨st, k⟩ := q
      rw [hf] at h
      have hk := stm_k (k := k) (st := st) h
      obtain ⟨_, hst, _⟩ := fnd_lt hf
      refine ⟨st, by rw [hk], ?_, ?_⟩
      · simp only at hst; rw [hst, List.length_take]; omega
      · have h' : stm st k = some p := h
        unfold stm at h'
        split at h'
        · cases h'
        · rcases split_cases st 64 with hn | ⟨a, b, rfl, hn⟩
          · rw [cut_none hn] at h'
            cases h'
            exact .inl ⟨rfl, index_none' hn⟩
          · rw [cut_split hn] at h'
            cases h'
            exact .inr ⟨a, b, rfl, rfl, index_split hn⟩
theorem is_no (s : ByteArray) (w : World) (hs : s.size ≤ 1000000) (h : cutN s.data.toList = none) :
    Calls Tryd.prog 13 #[.string s] w fun e w' => e = .returned (.bool false) ∧ Below w.heap.size w w' := by
  have := ris_any s w hs
  rw [h] at this; exact this
theorem is_yes (s : ByteArray) (w : World) (hs : s.size ≤ 1000000) {p : Prt} (h : cutN s.data.toList = some p) :
    Calls Tryd.prog 13 #[.string s] w fun e w' => e = .returned (.bool true) ∧ Below w.heap.size w w' := by
  have := ris_any s w hs
  rw [h] at this; exact this
set_option maxHeartbeats 1000000 in
theorem rprefix_none (s : ByteArray) (w : World) (hs : s.size ≤ 1000000) (h : cutN s.data.toList = none) :
    Calls Tryd.prog 17 #[.string s] w fun e w' => e = .returned (.string ⟨#[]⟩) ∧ Below w.heap.size w w' := by
  have hi := is_no s w hs h
  go_enter Tryd.func17, Tryd.ntmps17
  go_wp2_with fail
  refine hi.mono ?_
  rintro e w1 ⟨rfl, hb⟩
  go_wp2_with fail
  go_ret
  exact ⟨rfl, hb⟩
set_option maxHeartbeats 1000000 in
theorem rprefix_some (s A Z : ByteArray) (m : Bool) (k : Nat) (w : World) (hs : s.size ≤ 1000000) (h : cutN s.data.toList = some (A.data.toList, Z.data.toList, m, k)) :
    Calls Tryd.prog 17 #[.string s] w fun e w' => e = .returned (.string A) ∧ Below w.heap.size w w' := by
  have hi := is_yes s w hs h
  obtain ⟨st, hf, hl, hc⟩ := cutN_stem h
  obtain ⟨S, rfl, hSz, _⟩ := letters st
  have hSs : S.size ≤ 60 := by rw [hSz]; exact hl
  have hp := fun w => parted_some s S k w hs hf
  have hat := fun w => at_any S w (by omega)
  clear hSz hl hf
  rcases hc with ⟨e, hix⟩ | ⟨a, b, hab, e, hix⟩
  · have hSA : S = A := by
      have := congrArg Prod.fst e
      simp only at this
      rw [← Lib.mk_data S, ← this, Lib.mk_data]
    rw [hix] at hat
    subst hSA
    clear hix e h
    go_enter Tryd.func17, Tryd.ntmps17
    go_wp2_with fail
    refine hi.mono ?_
    rintro e w1 ⟨rfl, hb⟩
    go_wp2_with fail
    refine (hp _).mono ?_
    rintro e w2 ⟨rfl, hb2⟩
    have hb12 := hb.trans (hb2.mono hb.size)
    go_wp2_with fail
    refine (hat _).mono ?_
    rintro e w3 ⟨rfl, rfl⟩
    go_wp2_with fail
    go_ret
    exact ⟨rfl, hb12⟩
  · have hAa : A.data.toList = a := congrArg Prod.fst e
    have hAz : A.size = a.length := by rw [← hAa, size_list]
    rw [hix, ← hAz] at hat
    have hxA : S.extract 0 A.size = A := by
      rw [Lib.extract_eq, hab, List.drop_zero, Nat.sub_zero, ← hAa, ← size_list, List.take_left, Lib.mk_data]
    have hAS : (A.size : Int) ≤ (S.size : Int) := by
      have := congrArg List.length hab
      rw [size_list, List.length_append] at this; omega
    clear hix e h hab hAa hAz
    go_enter Tryd.func17, Tryd.ntmps17
    go_wp2_with fail
    refine hi.mono ?_
    rintro e w1 ⟨rfl, hb⟩
    go_wp2_with fail
    refine (hp _).mono ?_
    rintro e w2 ⟨rfl, hb2⟩
    have hb12 := hb.trans (hb2.mono hb.size)
    go_wp2_with fail
    refine (hat _).mono ?_
    rintro e w3 ⟨rfl, rfl⟩
    go_wp2_with fail
    go_ret
    exact ⟨rfl, hb12⟩
set_option maxHeartbeats 1000000 in
theorem rinst_none (s : ByteArray) (w : World) (hs : s.size ≤ 1000000) (h : cutN s.data.toList = none) :
    Calls Tryd.prog 11 #[.string s] w fun e w' => e = .returned (.tuple #[.string ⟨#[]⟩, .bool false]) ∧ Below w.heap.size w w' := by
  have hi := is_no s w hs h
  go_enter Tryd.func11, Tryd.ntmps11
  go_wp2_with fail
  refine hi.mono ?_
  rintro e w1 ⟨rfl, hb⟩
  go_wp2_with fail
  go_ret2
  exact ⟨rfl, hb⟩
set_option maxHeartbeats 1000000 in
theorem rinst_some (s A Z : ByteArray) (m : Bool) (k : Nat) (w : World) (hs : s.size ≤ 1000000) (h : cutN s.data.toList = some (A.data.toList, Z.data.toList, m, k)) :
    Calls Tryd.prog 11 #[.string s] w fun e w' => e = .returned (.tuple #[.string Z, .bool m]) ∧ Below w.heap.size w w' := by
  have hi := is_yes s w hs h
  obtain ⟨st, hf, hl, hc⟩ := cutN_stem h
  obtain ⟨S, rfl, hSz, _⟩ := letters st
  have hSs : S.size ≤ 60 := by rw [hSz]; exact hl
  have hp := fun w => parted_some s S k w hs hf
  have hat := fun w => at_any S w (by omega)
  clear hSz hl hf
  rcases hc with ⟨e, hix⟩ | ⟨a, b, hab, e, hix⟩
  · have hZ : Z.data.toList = [] := congrArg (fun p : Prt => p.2.1) e
    have hm : m = false := congrArg (fun p : Prt => p.2.2.1) e
    have hZe : (⟨#[]⟩ : ByteArray) = Z := by rw [← Lib.mk_data Z, hZ]
    rw [hix] at hat
    subst hm
    subst hZe
    clear hix e h hZ
    go_enter Tryd.func11, Tryd.ntmps11
    go_wp2_with fail
    refine hi.mono ?_
    rintro e w1 ⟨rfl, hb⟩
    go_wp2_with fail
    refine (hp _).mono ?_
    rintro e w2 ⟨rfl, hb2⟩
    have hb12 := hb.trans (hb2.mono hb.size)
    go_wp2_with fail
    refine (hat _).mono ?_
    rintro e w3 ⟨rfl, rfl⟩
    go_wp2_with fail
    go_ret2
    exact ⟨rfl, hb12⟩
  · have hAa : A.data.toList = a := congrArg Prod.fst e
    have hZb : Z.data.toList = b := congrArg (fun p : Prt => p.2.1) e
    have hm : m = true := congrArg (fun p : Prt => p.2.2.1) e
    subst hm
    have hAz : A.size = a.length := by rw [← hAa, size_list]
    rw [hix, ← hAz] at hat
    have hSz : S.size = A.size + 1 + Z.size := by
      have := congrArg List.length hab
      rw [size_list, List.length_append, List.length_cons, ← hAa, ← hZb, size_list, size_list] at this; omega
    have hxZ : S.extract (A.size + 1) S.size = Z := by
      rw [Lib.extract_eq, hab, ← hAa, ← size_list A, List.drop_append, List.drop_of_length_le (by omega)]
      rw [show A.data.toList.length + 1 - A.data.toList.length = 1 by omega, List.nil_append, List.drop_succ_cons, List.drop_zero, List.take_of_length_le (by rw [size_list, ← size_list Z, hZb] at *; omega), ← hZb, Lib.mk_data]
    have hAS : (A.size : Int) + 1 ≤ (S.size : Int) := by omega
    clear hix e h hab hAa hAz hSz hZb
    go_enter Tryd.func11, Tryd.ntmps11
    go_wp2_with fail
    refine hi.mono ?_
    rintro e w1 ⟨rfl, hb⟩
    go_wp2_with fail
    refine (hp _).mono ?_
    rintro e w2 ⟨rfl, hb2⟩
    have hb12 := hb.trans (hb2.mono hb.size)
    go_wp2_with fail
    refine (hat _).mono ?_
    rintro e w3 ⟨rfl, rfl⟩
    go_wp2_with fail
    go_ret2
    exact ⟨rfl, hb12⟩
end Go.Proofs.YtimmieelpaoncaaDoor
