/- The contracts of package tree's isPart and folderOf. -/
import Derived.Test.YtnniahlacfflmaaDoorTS2
import Derived.Test.YtnniahlacfflmaaDoorPM
namespace Go.Proofs.YtnniahlacfflmaaDoor
open Go.RowKit Go.Shelf
attribute [local go_sem] Oper.semAt_some
theorem ib_neg {c : UInt8} : ∀ {l : L}, decide (Lib.indexByte l c < 0) = !l.contains c
  | [] => rfl
  | d :: r => by
    have ih := ib_neg (c := c) (l := r)
    have hge := Lib.indexByte_ge r c
    by_cases h : (d == c) = true
    · have : Lib.indexByte (d :: r) c = 0 := by simp only [Lib.indexByte, h, if_true]
      rw [this]
      have : (d :: r).contains c = true := by simp at h; simp [h]
      rw [this]; rfl
    · have h2 : (d :: r).contains c = r.contains c := by
        simp at h
        rw [List.contains_cons]
        simp [Ne.symm h]
      rw [h2, ← ih]
      have : (d == c) = false := by simpa using h
      simp only [Lib.indexByte, this, Bool.false_eq_true, if_false]
      rw [decide_eq_decide]
      split
      · rename_i hm
        have hm : Lib.indexByte r c = -1 := by simpa using hm
        rw [hm]
      · rename_i hm
        have hm : Lib.indexByte r c ≠ -1 := by simpa using hm
        omega
set_option maxHeartbeats 1000000 in
theorem isPart_any (s : ByteArray) (w : World) : Calls Tryd.prog 44 #[.string s] w fun e w' => e = .returned (.bool (okp s.data.toList)) ∧ w' = w := by
  have hi := Tryd.strings_IndexByte s 0 w
  rw [show (0 : Int).toNat.toUInt8 = 0 from rfl] at hi
  have hn : decide (Lib.indexByte s.data.toList 0 < 0) = !s.data.toList.contains 0 := ib_neg
  obtain ⟨k, hk⟩ : ∃ k, Lib.indexByte s.data.toList 0 = k := ⟨_, rfl⟩
  rw [hk] at hi hn
  have hkH := hidP hk
  clear hk
  have hz : s.data.toList.length = s.size := size_list s
  cases t0 : (s.toList == [])
  · cases t1 : (s.toList == [46])
    · cases t2 : (s.toList == [46, 46])
      · by_cases hl : s.size ≤ 40
        · have hlI : (s.size : Int) ≤ 40 := by omega
          have hok : Hid (okp s.data.toList = decide (k < 0)) := by
            show _ = _
            rw [okp, ← Lib.toList_data, t0, t1, t2, Lib.toList_data, hz, decide_eq_true hl, hn]; rfl
          clear hn hl hz
          go_enter Tryd.func44, Tryd.ntmps44
          go_wp2_with fail
          refine hi.mono ?_
          rintro e w2 ⟨rfl, rfl⟩
          go_wp2_with fail
          go_ret
          exact ⟨ret_bool hok.out.symm, rfl⟩
        · have hlI : ¬ (s.size : Int) ≤ 40 := by omega
          have hok : Hid (okp s.data.toList = false) := by
            show _ = _
            rw [okp, ← Lib.toList_data, t0, t1, t2, Lib.toList_data, hz, decide_eq_false hl]; rfl
          clear hn hl hz hi
          go_enter Tryd.func44, Tryd.ntmps44
          go_wp2_with fail
          go_ret
          exact ⟨ret_bool hok.out.symm, rfl⟩
      · have hok : Hid (okp s.data.toList = false) := by
          show _ = _
          rw [okp, ← Lib.toList_data, t2]; simp
        clear hn hz hi
        go_enter Tryd.func44, Tryd.ntmps44
        go_wp2_with fail
        go_ret
        exact ⟨ret_bool hok.out.symm, rfl⟩
    · have hok : Hid (okp s.data.toList = false) := by
        show _ = _
        rw [okp, ← Lib.toList_data, t1]; simp
      clear hn hz hi
      go_enter Tryd.func44, Tryd.ntmps44
      go_wp2_with fail
      go_ret
      exact ⟨ret_bool hok.out.symm, rfl⟩
  · have hok : Hid (okp s.data.toList = false) := by
      show _ = _
      rw [okp, ← Lib.toList_data, t0]; simp
    clear hn hz hi
    go_enter Tryd.func44, Tryd.ntmps44
    go_wp2_with fail
    go_ret
    exact ⟨ret_bool hok.out.symm, rfl⟩
theorem byteBang (s : ByteArray) (j : Nat) (hj : j < s.size) : ((s.data[j]!).toNat : Int) = 47 ↔ (byt s)[j]? = some 47 := by
  have : (byt s)[j]? = some s[j] := get_list s j hj
  rw [this, getElem!_pos s.data j (by simpa using hj)]
  constructor
  · intro h
    have h2 : (s.data[j]).toNat = 47 := by omega
    have : s.data[j] = (47 : UInt8) := UInt8.toNat_inj.1 (by rw [h2]; rfl)
    rw [← this]; rfl
  · intro h
    injection h with h
    have : s.data[j] = (47 : UInt8) := h
    rw [this]; rfl
/-- The last stroke, and what lies ahead of it. -/
theorem last_fo (s : ByteArray) (hs : 1 ≤ s.size) : ∃ k : Nat, max (Lib.lastIndexByte s 47) 1 = (k : Int) ∧ k ≤ s.size ∧ s.extract 0 k = fo s := by
  have hlen := byt_len s
  have hx : ∀ k, s.extract 0 k = mkS ((byt s).take k) := fun k => by
    rw [Lib.extract_eq, List.drop_zero, Nat.sub_zero]; rfl
  rcases Lib.lastIndexByte_spec s 47 with ⟨e, hn⟩ | ⟨i, hi, e, hc, hn⟩
  · refine ⟨1, by rw [e]; rfl, hs, ?_⟩
    rw [hx]
    have : lastCut (byt s) = none := lastCut_none.2 (fun x hx hx47 => by
      obtain ⟨j, hj, hxj⟩ := List.mem_iff_getElem.1 hx
      refine hn j (by rw [hlen] at hj; exact hj) ((byteBang s j (by rw [hlen] at hj; exact hj)).2 ?_)
      rw [List.getElem?_eq_getElem hj, hxj, hx47])
    unfold fo foL
    rw [this]
  · have h47 := (byteBang s i hi).1 hc
    have hsp : byt s = (byt s).take i ++ 47 :: (byt s).drop (i + 1) := by
      conv => lhs; rw [← List.take_append_drop i (byt s)]
      rw [List.drop_eq_getElem_cons (by rw [hlen]; exact hi)]
      have : (byt s)[i]'(by rw [hlen]; exact hi) = 47 := by
        rw [List.getElem?_eq_getElem (by rw [hlen]; exact hi)] at h47
        exact Option.some.inj h47
      rw [this]
    have hno : ∀ y ∈ (byt s).drop (i + 1), y ≠ 47 := fun y hy hy47 => by
      obtain ⟨j, hj, hyj⟩ := List.mem_iff_getElem.1 hy
      have hjl : i + 1 + j < s.size := by rw [List.length_drop, hlen] at hj; omega
      refine hn (i + 1 + j) (by omega) hjl ((byteBang s _ hjl).2 ?_)
      rw [List.getElem_drop] at hyj
      rw [List.getElem?_eq_getElem (by rw [hlen]; exact hjl), hyj, hy47]
    have hcut := lastCut_at ((byt s).take i) hno
    rw [← hsp] at hcut
    have hfo : fo s = mkS (if (byt s).take i = [] then [47] else (byt s).take i) := by unfold fo foL; rw [hcut]
    rcases Nat.eq_zero_or_pos i with h0 | h0
    · subst h0
      refine ⟨1, by rw [e]; rfl, hs, ?_⟩
      rw [hx, hfo, List.take_zero, if_pos rfl]
      congr 1
      rw [hsp]
      rfl
    · refine ⟨i, by rw [e]; omega, by omega, ?_⟩
      rw [hx, hfo, if_neg]
      intro h
      have := congrArg List.length h
      rw [List.length_take, hlen, List.length_nil] at this
      omega
set_option maxHeartbeats 1000000 in
theorem folderOf_any (s : ByteArray) (w : World) (h1 : 1 ≤ s.size) (hs : s.size ≤ 2000000) : Calls Tryd.prog 29 #[.string s] w fun e w' => e = .returned (.string (fo s)) ∧ w' = w := by
  have hi := Tryd.strings_LastIndexByte s 47 (by omega) w
  obtain ⟨k, hk, hkl, he⟩ := last_fo s h1
  obtain ⟨v, hv⟩ : ∃ v, Lib.lastIndexByte s 47 = v := ⟨_, rfl⟩
  rw [hv] at hi hk
  have hkI : (k : Int) ≤ (s.size : Int) := by omega
  have heH := hidP he
  have hif : (if v < 1 then 1 else v) = (k : Int) := by rw [← hk]; split <;> omega
  clear he hv hkl
  go_enter Tryd.func29, Tryd.ntmps29
  go_wp2_with fail
  refine hi.mono ?_
  rintro e w2 ⟨rfl, rfl⟩
  go_wp2_with fail
  go_ret
  exact ⟨ret_str heH.out, rfl⟩
end Go.Proofs.YtnniahlacfflmaaDoor
