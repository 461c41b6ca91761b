/- Contracts of the reference's Ending, Template, With. -/
import Derived.Test.YtimmieelpaoncaaDoorR4
namespace Go.Proofs.YtimmieelpaoncaaDoor
open Go.RowKit Nam
theorem rkind_none (s : ByteArray) (w : World) (hs : s.size ≤ 1000000) (h : cutN s.data.toList = none) :
    Calls Tryd.prog 15 #[.string s] w fun e w' => e = .returned (.int .i64 0) ∧ Below w.heap.size w w' := by
  have := rkind_any s w hs
  rw [show kindN s.data.toList = 0 by unfold kindN; rw [h]] at this
  exact this
theorem rkind_some (s : ByteArray) (w : World) (hs : s.size ≤ 1000000) {p : Prt} (h : cutN s.data.toList = some p) :
    Calls Tryd.prog 15 #[.string s] w fun e w' => e = .returned (.int .i64 ((p.2.2.2 : Int) + 1)) ∧ Below w.heap.size w w' := by
  have := rkind_any s w hs
  rw [show kindN s.data.toList = p.2.2.2 + 1 by unfold kindN; rw [h]] at this
  exact this
set_option maxHeartbeats 1000000 in
theorem rending_some (s A Z E : ByteArray) (m : Bool) (k : Nat) (w : World) (hs : s.size ≤ 1000000) (h : cutN s.data.toList = some (A.data.toList, Z.data.toList, m, k)) (hE : E = ⟨(endk k).toArray⟩) :
    Calls Tryd.prog 40 #[.string s] w fun e w' => e = .returned (.string E) ∧ Below w.heap.size w w' := by
  have hk := fun w => rkind_some s w hs h
  obtain ⟨_, _, _, k6⟩ := cutN_len h
  simp only at hk k6
  have hI : (k : Int) < 6 := by omega
  have he : ends[k]? = some (endk k) := by
    obtain ⟨e, he⟩ : ∃ e, ends[k]? = some e := ⟨_, List.getElem?_eq_getElem (by simpa [ends] using k6)⟩
    rw [he, endk_of he]
  have hk0 : ((k : Int) + 1 == 0) = false := by simp; omega
  have hk1 : (k : Int) + 1 - 1 = (k : Int) := by omega
  clear h
  go_enter Tryd.func40, Tryd.ntmps40
  go_wp2_with fail
  refine (endings_any w).mono ?_
  rintro e w1 ⟨he1, hb1⟩
  unfold endV at he1
  subst he1
  have hz1 := hb1.size
  go_wp2_with fail
  have hEI := EndsIn.fresh w1 41
  have hbA := hb1.alloc hz1 (.cells endV 41)
  refine (hk _).mono ?_
  rintro e w2 ⟨rfl, hb2⟩
  have hb12 := hbA.trans (hb2.mono hbA.size)
  have c0 := (hb2.cell (p := ⟨w1.heap.size, k, none⟩) (by simp)).trans (hEI k _ he)
  rw [← hE] at c0
  go_wp2_with fail
  go_ret
  exact ⟨by rw [hE]; rfl, hb12⟩
set_option maxHeartbeats 2000000 in
theorem rtemplate_any (s : ByteArray) (w : World) (hs : s.size ≤ 1000000) :
    Calls Tryd.prog 19 #[.string s] w fun e w' => e = .returned (.string ⟨(tmplN s.data.toList).toArray⟩) ∧ Below w.heap.size w w' := by
  cases h : cutN s.data.toList with
  | none =>
    have hK : Hid (tmplN s.data.toList = []) := by show _ = _; unfold tmplN; rw [h]
    have hi := rinst_none s w hs h
    go_enter Tryd.func19, Tryd.ntmps19
    go_wp2_with fail
    refine hi.mono ?_
    rintro e w1 ⟨rfl, hb⟩
    go_wp2_with fail
    go_ret
    exact ⟨by rw [hK.out]; rfl, hb⟩
  | some p =>
    obtain ⟨_, l1, l2, _⟩ := cutN_len h
    obtain ⟨x, y, m, k⟩ := p
    obtain ⟨A, rfl, hAz, _⟩ := letters x
    obtain ⟨Z, rfl, _, _⟩ := letters y
    obtain ⟨E, hEl, hEz, hE⟩ := letters (endk k)
    have hA : A.size ≤ 1000 := by rw [hAz]; exact Nat.le_trans l1 (by omega)
    have hEs : E.size ≤ 1000 := by rw [hEz]; exact Nat.le_trans (endk_len k) (by omega)
    have hi := rinst_some s A Z m k w hs h
    have hp : Hid (∀ w, Calls Tryd.prog 17 #[.string s] w fun e w' => e = .returned (.string A) ∧ Below w.heap.size w w') := fun w => rprefix_some s A Z m k w hs h
    have hn : Hid (∀ w, Calls Tryd.prog 40 #[.string s] w fun e w' => e = .returned (.string E) ∧ Below w.heap.size w w') := fun w => rending_some s A Z E m k w hs h hE.symm
    cases m
    · have hK : Hid (tmplN s.data.toList = []) := by show _ = _; unfold tmplN; rw [h]; rfl
      go_enter Tryd.func19, Tryd.ntmps19
      go_wp2_with fail
      refine hi.mono ?_
      rintro e w1 ⟨rfl, hb⟩
      go_wp2_with fail
      go_ret
      exact ⟨by rw [hK.out]; rfl, hb⟩
    · have hK : Hid ((⟨(tmplN s.data.toList).toArray⟩ : ByteArray) = A ++ ⟨#[64]⟩ ++ E) := by
        show _ = _
        unfold tmplN; rw [h, app_list, app_list, hEl]
        simp [mk]
      clear hAz hEl hEz hE h
      go_enter Tryd.func19, Tryd.ntmps19
      go_wp2_with fail
      refine hi.mono ?_
      rintro e w1 ⟨rfl, hb⟩
      go_wp2_with fail
      refine (hp.out _).mono ?_
      rintro e w2 ⟨rfl, hb2⟩
      have hb12 := hb.trans (hb2.mono hb.size)
      go_wp2_with fail
      refine (hn.out _).mono ?_
      rintro e w3 ⟨rfl, hb3⟩
      have hb13 := hb12.trans (hb3.mono hb12.size)
      go_wp2_with fail
      go_ret
      exact ⟨by rw [hK.out]; rfl, hb13⟩
set_option maxHeartbeats 2000000 in
theorem rwith_any (s i : ByteArray) (w : World) (hs : s.size ≤ 1000000) (hi : i.size ≤ 900000) :
    Calls Tryd.prog 23 #[.string s, .string i] w fun e w' => e = .returned (strE (withN s.data.toList i.data.toList) 40) ∧ Below w.heap.size w w' := by
  cases h : cutN s.data.toList with
  | none =>
    have hK : Hid (withN s.data.toList i.data.toList = none) := by show _ = _; unfold withN; rw [h]
    have hin := rinst_none s w hs h
    go_enter Tryd.func23, Tryd.ntmps23
    go_wp2_with fail
    refine hin.mono ?_
    rintro e w1 ⟨rfl, hb⟩
    go_wp2_with fail
    go_ret2
    exact ⟨by rw [hK.out]; rfl, hb⟩
  | some p =>
    obtain ⟨_, l1, l2, _⟩ := cutN_len h
    obtain ⟨x, y, m, k⟩ := p
    obtain ⟨A, rfl, hAz, _⟩ := letters x
    obtain ⟨Z, rfl, _, _⟩ := letters y
    obtain ⟨E, hEl, hEz, hE⟩ := letters (endk k)
    have hA : A.size ≤ 1000 := by rw [hAz]; exact Nat.le_trans l1 (by omega)
    have hEs : E.size ≤ 1000 := by rw [hEz]; exact Nat.le_trans (endk_len k) (by omega)
    have hin := rinst_some s A Z m k w hs h
    have hp : Hid (∀ w, Calls Tryd.prog 17 #[.string s] w fun e w' => e = .returned (.string A) ∧ Below w.heap.size w w') := fun w => rprefix_some s A Z m k w hs h
    have hn : Hid (∀ w, Calls Tryd.prog 40 #[.string s] w fun e w' => e = .returned (.string E) ∧ Below w.heap.size w w') := fun w => rending_some s A Z E m k w hs h hE.symm
    have hKm : Hid (withN s.data.toList i.data.toList = if m = true ∧ Z.data.toList = [] ∧ (cutN (mk A.data.toList i.data.toList k)).isSome then some (mk A.data.toList i.data.toList k) else none) := by show _ = _; unfold withN; rw [h]
    cases m
    · have hK : Hid (withN s.data.toList i.data.toList = none) := by show _ = _; rw [hKm.out]; simp
      go_enter Tryd.func23, Tryd.ntmps23
      go_wp2_with fail
      refine hin.mono ?_
      rintro e w1 ⟨rfl, hb⟩
      go_wp2_with fail
      go_ret2
      exact ⟨by rw [hK.out]; rfl, hb⟩
    · cases hz : (Z.toList == [])
      · have hz' : (Z.toList != []) = true := by rw [bne, hz]; rfl
        have hK : Hid (withN s.data.toList i.data.toList = none) := by
          show _ = _
          rw [Lib.toList_data] at hz
          rw [hKm.out, if_neg (by rintro ⟨_, h2, _⟩; rw [h2] at hz; cases hz)]
        go_enter Tryd.func23, Tryd.ntmps23
        go_wp2_with fail
        refine hin.mono ?_
        rintro e w1 ⟨rfl, hb⟩
        go_wp2_with fail
        go_ret2
        exact ⟨by rw [hK.out]; rfl, hb⟩
      · have hz' : (Z.toList != []) = false := by rw [bne, hz]; rfl
        have hZl : Z.data.toList = [] := by rw [Lib.toList_data] at hz; simpa using hz
        obtain ⟨N, hNl, hNz, hN⟩ := letters (mk A.data.toList i.data.toList k)
        have hNe : A ++ ⟨#[64]⟩ ++ i ++ E = N := by
          rw [← hN, app_list, app_list, app_list, hEl]
          simp [mk]
        have hNs : N.size ≤ 1000000 := by
          rw [hNz, mk, List.length_append, List.length_cons, List.length_append, size_list, size_list, ← hEz]; omega
        have hI := fun w => ris_any N w hNs
        rw [hNl] at hI
        have hKm2 : Hid (withN s.data.toList i.data.toList = if (cutN (mk A.data.toList i.data.toList k)).isSome then some (mk A.data.toList i.data.toList k) else none) := by
          show _ = _
          rw [hKm.out, hZl]; simp
        cases hq : (cutN (mk A.data.toList i.data.toList k)).isSome
        · rw [hq] at hI
          have hI' : Hid (∀ w, Calls Tryd.prog 13 #[.string N] w fun e w' => e = .returned (.bool false) ∧ Below w.heap.size w w') := hI
          have hK : Hid (withN s.data.toList i.data.toList = none) := by show _ = _; rw [hKm2.out, hq]; rfl
          clear hI hZl hNl hNz hN hAz hEl hEz hE h
          go_enter Tryd.func23, Tryd.ntmps23
          go_wp2_with fail
          refine hin.mono ?_
          rintro e w1 ⟨rfl, hb⟩
          go_wp2_with fail
          refine (hp.out _).mono ?_
          rintro e w2 ⟨rfl, hb2⟩
          have hb12 := hb.trans (hb2.mono hb.size)
          go_wp2_with fail
          refine (hn.out _).mono ?_
          rintro e w3 ⟨rfl, hb3⟩
          have hb13 := hb12.trans (hb3.mono hb12.size)
          go_wp2_with fail
          refine (hI'.out _).mono ?_
          rintro e w4 ⟨rfl, hb4⟩
          have hb14 := hb13.trans (hb4.mono hb13.size)
          go_wp2_with fail
          go_ret2
          exact ⟨by rw [hK.out]; rfl, hb14⟩
        · rw [hq] at hI
          have hI' : Hid (∀ w, Calls Tryd.prog 13 #[.string N] w fun e w' => e = .returned (.bool true) ∧ Below w.heap.size w w') := hI
          have hK : Hid (strE (withN s.data.toList i.data.toList) 40 = .tuple #[.string N, .int .i64 0]) := by show _ = _; rw [hKm2.out, hq, ← hN]; rfl
          clear hI hZl hNl hNz hN hAz hEl hEz hE h
          go_enter Tryd.func23, Tryd.ntmps23
          go_wp2_with fail
          refine hin.mono ?_
          rintro e w1 ⟨rfl, hb⟩
          go_wp2_with fail
          refine (hp.out _).mono ?_
          rintro e w2 ⟨rfl, hb2⟩
          have hb12 := hb.trans (hb2.mono hb.size)
          go_wp2_with fail
          refine (hn.out _).mono ?_
          rintro e w3 ⟨rfl, hb3⟩
          have hb13 := hb12.trans (hb3.mono hb12.size)
          go_wp2_with fail
          refine (hI'.out _).mono ?_
          rintro e w4 ⟨rfl, hb4⟩
          have hb14 := hb13.trans (hb4.mono hb13.size)
          go_wp2_with fail
          go_ret2
          exact ⟨by rw [hK.out]; rfl, hb14⟩
end Go.Proofs.YtimmieelpaoncaaDoor
