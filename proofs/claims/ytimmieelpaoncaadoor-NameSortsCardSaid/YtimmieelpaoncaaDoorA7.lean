/- Contracts of package name's Unescape, Template, With. -/
import Derived.Test.YtimmieelpaoncaaDoorA6
namespace Go.Proofs.YtimmieelpaoncaaDoor
open Go.RowKit Nam
/-- A text, or the error of that number. -/
def strE (o : Option L) (n : Int) : Value := match o with
  | some t => .tuple #[.string ⟨t.toArray⟩, .int .i64 0]
  | none => .tuple #[.string ⟨#[]⟩, .int .i64 n]
theorem rdF_len : ∀ (n : Nat) (l t : L), rdF n l = some t → t.length ≤ l.length
  | n, [], t, h => by cases n <;> (cases h; simp)
  | 0, _ :: _, t, h => by cases h
  | n + 1, c :: r, t, h => by
    simp only [rdF] at h
    split at h
    · cases hp : nb r with
      | none => rw [hp] at h; cases h
      | some p =>
        rw [hp] at h
        have hl := nb_len hp
        simp only [Option.bind_some, Option.map_eq_some_iff] at h
        obtain ⟨u, hu, rfl⟩ := h
        have := rdF_len n p.2 u hu
        simp; omega
    · simp only [Option.map_eq_some_iff] at h
      obtain ⟨u, hu, rfl⟩ := h
      have := rdF_len n r u hu
      simp; omega
theorem rd_len {l t : L} (h : rd l = some t) : t.length ≤ l.length := rdF_len _ _ _ h
set_option maxHeartbeats 2000000 in
theorem unescape_any (s : ByteArray) (w : World) (hs : s.size ≤ 1000000) :
    Calls Tryd.prog 24 #[.string s] w fun e w' => e = .returned (strE (unesc s.data.toList) 41) ∧ Below w.heap.size w w' := by
  have hrd := read_any s w (by omega)
  cases hr : rd s.data.toList with
  | none =>
    have hU : Hid (unesc s.data.toList = none) := by show _ = _; unfold unesc; rw [hr]; rfl
    rw [hr] at hrd
    have hrd' : Hid (Calls Tryd.prog 46 #[.string s] w fun e w' => e = .returned (.tuple #[.string ⟨#[]⟩, .bool false]) ∧ Below w.heap.size w w') := hrd
    clear hrd hr
    go_enter Tryd.func24, Tryd.ntmps24
    go_wp2_with fail
    refine hrd'.out.mono ?_
    rintro e w1 ⟨rfl, hb⟩
    go_wp2_with fail
    go_ret2
    exact ⟨by rw [hU.out]; rfl, hb⟩
  | some t =>
    have hlen := rd_len hr
    obtain ⟨T, rfl, hTz, hTe⟩ := letters t
    obtain ⟨X, hX, hXz, hXe⟩ := letters (esc T.data.toList)
    have hU : Hid (unesc s.data.toList = if (X.toList == s.toList) = true then some T.data.toList else none) := by
      show _ = _
      unfold unesc
      rw [hr, Lib.toList_data, Lib.toList_data, hX]
      simp
    rw [hr] at hrd
    have hrd' : Hid (Calls Tryd.prog 46 #[.string s] w fun e w' => e = .returned (.tuple #[.string T, .bool true]) ∧ Below w.heap.size w w') := by
      unfold rdV at hrd
      simp only [hTe] at hrd
      exact hrd
    have hes : Hid (∀ w, Calls Tryd.prog 20 #[.string T] w fun e w' => e = .returned (.string X) ∧ Below w.heap.size w w') := by
      intro w
      have := escape_any T w (by rw [size_list, size_list] at hlen; omega)
      rw [hXe] at this
      exact this
    clear hrd hr hX hXz hXe hlen hTz
    cases hq : (X.toList == s.toList)
    · have hq' : (X.toList != s.toList) = true := by rw [bne, hq]; rfl
      have hU2 : Hid (unesc s.data.toList = none) := by show _ = _; rw [hU.out, hq]; rfl
      go_enter Tryd.func24, Tryd.ntmps24
      go_wp2_with fail
      refine hrd'.out.mono ?_
      rintro e w1 ⟨rfl, hb⟩
      go_wp2_with fail
      refine (hes.out _).mono ?_
      rintro e w2 ⟨rfl, hb2⟩
      go_wp2_with fail
      go_ret2
      exact ⟨by rw [hU2.out]; rfl, hb.trans (hb2.mono hb.size)⟩
    · have hq' : (X.toList != s.toList) = false := by rw [bne, hq]; rfl
      have hU2 : Hid (strE (unesc s.data.toList) 41 = .tuple #[.string T, .int .i64 0]) := by show _ = _; rw [hU.out, hq]; show Value.tuple #[.string ⟨T.data.toList.toArray⟩, .int .i64 0] = _; rw [hTe]
      go_enter Tryd.func24, Tryd.ntmps24
      go_wp2_with fail
      refine hrd'.out.mono ?_
      rintro e w1 ⟨rfl, hb⟩
      go_wp2_with fail
      refine (hes.out _).mono ?_
      rintro e w2 ⟨rfl, hb2⟩
      go_wp2_with fail
      go_ret2
      exact ⟨by rw [hU2.out]; rfl, hb.trans (hb2.mono hb.size)⟩
theorem stm_len {st : L} {k : Nat} {p : Prt} (h : stm st k = some p) : p.1.length ≤ st.length ∧ p.2.1.length ≤ st.length ∧ p.2.2.2 = k := by
  unfold stm at h
  split at h
  · cases h
  · cases h; exact ⟨(cut_le st [64]).1, (cut_le st [64]).2, rfl⟩
theorem cutN_len {s : L} {p : Prt} (h : cutN s = some p) : s.length ≤ 60 ∧ p.1.length ≤ 60 ∧ p.2.1.length ≤ 60 ∧ p.2.2.2 < 6 := by
  unfold cutN at h
  split at h
  · cases h
  · rename_i hz
    cases hf : fnd s 0 ends with
    | none => rw [hf] at h; cases h
    | some q =>
      rw [hf] at h
      obtain ⟨q6, hq, _⟩ := fnd_lt hf
      obtain ⟨h1, h2, h3⟩ := stm_len h
      have : q.1.length ≤ s.length := by rw [hq, List.length_take]; omega
      exact ⟨by omega, by omega, by omega, by omega⟩
theorem endk_len (k : Nat) : (endk k).length ≤ 8 := by
  unfold endk
  rw [List.getD_eq_getElem?_getD]
  cases h : ends[k]? with
  | none => simp
  | some e => exact (ends_len k e h).2
set_option maxHeartbeats 2000000 in
theorem template_any (s : ByteArray) (w : World) (hg : GlN w) (hs : s.size ≤ 1000000) :
    Calls Tryd.prog 18 #[.string s] w fun e w' => e = .returned (.string ⟨(tmplN s.data.toList).toArray⟩) ∧ Below w.heap.size w w' := by
  cases h : cutN s.data.toList with
  | none =>
    have hK : Hid (tmplN s.data.toList = []) := by show _ = _; unfold tmplN; rw [h]
    have hc := cutn_none s w hg (by omega) h
    go_enter Tryd.func18, Tryd.ntmps18
    go_wp2_with fail
    refine hc.mono ?_
    rintro e w1 ⟨rfl, hb⟩
    go_wp2_with fail
    go_ret
    exact ⟨by rw [hK.out]; rfl, hb.alloc hb.size _⟩
  | some p =>
    obtain ⟨_, l1, l2, _⟩ := cutN_len h
    obtain ⟨x, y, m, k⟩ := p
    obtain ⟨A, rfl, hAz, _⟩ := letters x
    obtain ⟨Z, rfl, _, _⟩ := letters y
    obtain ⟨E, hEl, hEz, hE⟩ := letters (endk k)
    have hA : A.size ≤ 1000000 := by rw [hAz]; exact Nat.le_trans l1 (by omega)
    have hEs : E.size ≤ 1000000 := by rw [hEz]; exact Nat.le_trans (endk_len k) (by omega)
    have hc := cutn_some s w hg (by omega) A Z E m k h hE.symm
    cases m
    · have hK : Hid (tmplN s.data.toList = []) := by show _ = _; unfold tmplN; rw [h]; rfl
      go_enter Tryd.func18, Tryd.ntmps18
      go_wp2_with fail
      refine hc.mono ?_
      rintro e w1 ⟨rfl, hb⟩
      go_wp2_with fail
      go_ret
      exact ⟨by rw [hK.out]; rfl, hb.alloc hb.size _⟩
    · obtain ⟨N, hNl, hNz, hN⟩ := letters (mk A.data.toList [] k)
      have hK : Hid (tmplN s.data.toList = N.data.toList) := by show _ = _; unfold tmplN; rw [h, hNl]; rfl
      have hW' : Hid (∀ w, Calls Tryd.prog 39 #[.agg #[.string A, .string Z, .bool true, .string E, .int .i64 ((k : Int) + 1)], .string ⟨#[]⟩] w fun e w' => e = .returned (.string N) ∧ Below w.heap.size w w') := by
        intro w
        have := with_any A Z E ⟨#[]⟩ true ((k : Int) + 1) w (by omega) (by show 0 ≤ _; omega) (by omega)
        rw [hEl] at this
        rw [← hN]
        exact this
      clear hNl hNz hN
      go_enter Tryd.func18, Tryd.ntmps18
      go_wp2_with fail
      refine hc.mono ?_
      rintro e w1 ⟨rfl, hb⟩
      go_wp2_with fail
      refine (hW'.out _).mono ?_
      rintro e w2 ⟨rfl, hb2⟩
      go_wp2_with fail
      go_ret
      exact ⟨by rw [hK.out, Lib.mk_data]; rfl, (hb.alloc hb.size _).trans (hb2.mono (by have := hb.size; simp; omega))⟩
set_option maxHeartbeats 2000000 in
theorem withF_any (s i : ByteArray) (w : World) (hg : GlN w) (hs : s.size ≤ 1000000) (hi : i.size ≤ 1000000) :
    Calls Tryd.prog 22 #[.string s, .string i] w fun e w' => e = .returned (strE (withN s.data.toList i.data.toList) 40) ∧ Below w.heap.size w w' := by
  cases h : cutN s.data.toList with
  | none =>
    have hK : Hid (withN s.data.toList i.data.toList = none) := by show _ = _; unfold withN; rw [h]
    have hc := cutn_none s w hg (by omega) h
    go_enter Tryd.func22, Tryd.ntmps22
    go_wp2_with fail
    refine hc.mono ?_
    rintro e w1 ⟨rfl, hb⟩
    go_wp2_with fail
    go_ret2
    exact ⟨by rw [hK.out]; rfl, hb.alloc hb.size _⟩
  | some p =>
    obtain ⟨_, l1, l2, _⟩ := cutN_len h
    obtain ⟨x, y, m, k⟩ := p
    obtain ⟨A, rfl, hAz, _⟩ := letters x
    obtain ⟨Z, rfl, _, _⟩ := letters y
    obtain ⟨E, hEl, hEz, hE⟩ := letters (endk k)
    have hA : A.size ≤ 1000 := by rw [hAz]; exact Nat.le_trans l1 (by omega)
    have hEs : E.size ≤ 1000 := by rw [hEz]; exact Nat.le_trans (endk_len k) (by omega)
    have hc := cutn_some s w hg (by omega) A Z E m k h hE.symm
    have hKm : Hid (withN s.data.toList i.data.toList = if m = true ∧ Z.data.toList = [] ∧ (cutN (mk A.data.toList i.data.toList k)).isSome then some (mk A.data.toList i.data.toList k) else none) := by show _ = _; unfold withN; rw [h]
    cases m
    · have hK : Hid (withN s.data.toList i.data.toList = none) := by show _ = _; rw [hKm.out]; simp
      go_enter Tryd.func22, Tryd.ntmps22
      go_wp2_with fail
      refine hc.mono ?_
      rintro e w1 ⟨rfl, hb⟩
      go_wp2_with fail
      go_ret2
      exact ⟨by rw [hK.out]; rfl, hb.alloc hb.size _⟩
    · cases hz : (Z.toList == [])
      · have hz' : (Z.toList != []) = true := by rw [bne, hz]; rfl
        have hK : Hid (withN s.data.toList i.data.toList = none) := by
          show _ = _
          rw [Lib.toList_data] at hz
          rw [hKm.out, if_neg (by rintro ⟨_, h2, _⟩; rw [h2] at hz; cases hz)]
        go_enter Tryd.func22, Tryd.ntmps22
        go_wp2_with fail
        refine hc.mono ?_
        rintro e w1 ⟨rfl, hb⟩
        go_wp2_with fail
        go_ret2
        exact ⟨by rw [hK.out]; rfl, hb.alloc hb.size _⟩
      · have hz' : (Z.toList != []) = false := by rw [bne, hz]; rfl
        have hZl : Z.data.toList = [] := by rw [Lib.toList_data] at hz; simpa using hz
        obtain ⟨N, hNl, hNz, hN⟩ := letters (mk A.data.toList i.data.toList k)
        have hNs : N.size ≤ 2000000 := by rw [hNz, mk]; simp; rw [← hEz]; omega
        have hW' : Hid (∀ w, Calls Tryd.prog 39 #[.agg #[.string A, .string Z, .bool true, .string E, .int .i64 ((k : Int) + 1)], .string i] w fun e w' => e = .returned (.string N) ∧ Below w.heap.size w w') := by
          intro w
          have := with_any A Z E i true ((k : Int) + 1) w (by omega) hi (by omega)
          rw [hEl] at this
          rw [← hN]
          exact this
        have hI := fun w hg => is_any N w hg hNs
        rw [hNl] at hI
        have hKm2 : Hid (withN s.data.toList i.data.toList = if (cutN (mk A.data.toList i.data.toList k)).isSome then some (mk A.data.toList i.data.toList k) else none) := by
          show _ = _
          rw [hKm.out, hZl]; simp
        cases hq : (cutN (mk A.data.toList i.data.toList k)).isSome
        · rw [hq] at hI
          have hI' : Hid (∀ w, GlN w → Calls Tryd.prog 12 #[.string N] w fun e w' => e = .returned (.bool false) ∧ Below w.heap.size w w') := hI
          have hK : Hid (withN s.data.toList i.data.toList = none) := by show _ = _; rw [hKm2.out, hq]; rfl
          clear hI hZl hNl hNz hN
          go_enter Tryd.func22, Tryd.ntmps22
          go_wp2_with fail
          refine hc.mono ?_
          rintro e w1 ⟨rfl, hb⟩
          have hbA := hb.alloc hb.size (.cells #[.string A, .string Z, .bool true, .string E, .int .i64 ((k : Int) + 1)] 46)
          go_wp2_with fail
          refine (hW'.out _).mono ?_
          rintro e w2 ⟨rfl, hb2⟩
          have hb3 := hbA.trans (hb2.mono hbA.size)
          go_wp2_with fail
          refine (hI'.out _ (hg.below hb3)).mono ?_
          rintro e w4 ⟨rfl, hb4⟩
          go_wp2_with fail
          go_ret2
          exact ⟨by rw [hK.out]; rfl, hb3.trans (hb4.mono hb3.size)⟩
        · rw [hq] at hI
          have hI' : Hid (∀ w, GlN w → Calls Tryd.prog 12 #[.string N] w fun e w' => e = .returned (.bool true) ∧ Below w.heap.size w w') := hI
          have hK : Hid (strE (withN s.data.toList i.data.toList) 40 = .tuple #[.string N, .int .i64 0]) := by show _ = _; rw [hKm2.out, hq, ← hN]; rfl
          clear hI hZl hNl hNz hN
          go_enter Tryd.func22, Tryd.ntmps22
          go_wp2_with fail
          refine hc.mono ?_
          rintro e w1 ⟨rfl, hb⟩
          have hbA := hb.alloc hb.size (.cells #[.string A, .string Z, .bool true, .string E, .int .i64 ((k : Int) + 1)] 46)
          go_wp2_with fail
          refine (hW'.out _).mono ?_
          rintro e w2 ⟨rfl, hb2⟩
          have hb3 := hbA.trans (hb2.mono hbA.size)
          go_wp2_with fail
          refine (hI'.out _ (hg.below hb3)).mono ?_
          rintro e w4 ⟨rfl, hb4⟩
          go_wp2_with fail
          go_ret2
          exact ⟨by rw [hK.out]; rfl, hb3.trans (hb4.mono hb3.size)⟩
end Go.Proofs.YtimmieelpaoncaaDoor
