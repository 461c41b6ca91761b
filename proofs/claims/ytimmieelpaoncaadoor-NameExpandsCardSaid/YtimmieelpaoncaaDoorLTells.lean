/- The walks of the laws NameExpands and NameTells. -/
import Derived.Test.YtimmieelpaoncaaDoorK1
import Derived.Test.YtimmieelpaoncaaDoorR9
namespace Go.Proofs.YtimmieelpaoncaaDoor
open Go.RowKit Nam
theorem strE_form (o : Option L) (n : Int) (h0 : 0 ≤ n) (h1 : n ≤ 100) : ∃ (A : ByteArray) (c : Int), strE o n = .tuple #[.string A, .int .i64 c] ∧ 0 ≤ c ∧ c ≤ 100 := by
  cases o with
  | none => exact ⟨⟨#[]⟩, n, rfl, h0, h1⟩
  | some t => exact ⟨⟨t.toArray⟩, 0, rfl, by omega, by omega⟩
theorem expV_form (s u : L) : ∃ (A : ByteArray) (c : Int), expV s u = .tuple #[.string A, .int .i64 c] ∧ 0 ≤ c ∧ c ≤ 100 := by
  unfold expV
  split
  · exact strE_form none 40 (by omega) (by omega)
  · exact strE_form _ 42 (by omega) (by omega)
set_option maxHeartbeats 4000000 in
theorem expands_walk (s u : ByteArray) (w : World) (hg : GlN w) :
    Calls Tryd.prog 4 #[.string s, .string u] w fun e w' => e = .returned (.bool true) ∧ Below w.heap.size w w' := by
  have hkn := known_any w hg
  by_cases ha : 400 < s.size
  · have ha' : (400 : Int) < (s.size : Int) := by omega
    go_enter Tryd.func4, Tryd.ntmps4
    go_wp2_with fail
    refine hkn.mono ?_
    rintro e w1 ⟨rfl, hb1⟩
    go_wp2_with fail
    go_ret
    exact ⟨rfl, hb1⟩
  have ha' : decide ((400 : Int) < (s.size : Int)) = false := by simp; omega
  by_cases hb : 100 < u.size
  · have hb' : (100 : Int) < (u.size : Int) := by omega
    go_enter Tryd.func4, Tryd.ntmps4
    go_wp2_with fail
    refine hkn.mono ?_
    rintro e w1 ⟨rfl, hb1⟩
    go_wp2_with fail
    go_ret
    exact ⟨rfl, hb1⟩
  have hb' : decide ((100 : Int) < (u.size : Int)) = false := by simp; omega
  obtain ⟨A, c, hA, c0, c1⟩ := expV_form s.data.toList u.data.toList
  have d1 : Hid (∀ w, GlN w → Calls Tryd.prog 28 #[.string s, .string u] w fun e w' => e = .returned (.tuple #[.string A, .int .i64 c]) ∧ Below w.heap.size w w') := fun w hg => by
    have := expand_any s u w hg (by omega) (by omega)
    rw [hA] at this
    exact this
  have d2 : Hid (∀ w, Calls Tryd.prog 29 #[.string s, .string u] w fun e w' => e = .returned (.tuple #[.string A, .int .i64 c]) ∧ Below w.heap.size w w') := fun w => by
    have := rexpand_any s u w (by omega) (by omega)
    rw [hA] at this
    exact this
  clear hA
  go_enter Tryd.func4, Tryd.ntmps4
  go_wp2_with fail
  refine hkn.mono ?_
  rintro e w1 ⟨rfl, hb1⟩
  go_wp2_with fail
  refine (d1.out _ (hg.below hb1)).mono ?_
  rintro e w2 ⟨rfl, hb2⟩
  have hb12 := hb1.trans (hb2.mono hb1.size)
  go_wp2_with fail
  refine (d2.out _).mono ?_
  rintro e w3 ⟨rfl, hb3⟩
  have hb13 := hb12.trans (hb3.mono hb12.size)
  go_wp2_with fail
  go_ret
  exact ⟨rfl, hb13⟩
theorem rinst_any (s : ByteArray) (w : World) (hs : s.size ≤ 1000000) :
    Calls Tryd.prog 11 #[.string s] w fun e w' => e = .returned (.tuple #[.string ⟨(instN s.data.toList).toArray⟩, .bool (markN s.data.toList)]) ∧ Below w.heap.size w w' := by
  cases h : cutN s.data.toList with
  | none =>
    have := rinst_none s w hs h
    rw [show instN s.data.toList = [] by unfold instN; rw [h], show markN s.data.toList = false by unfold markN; rw [h]]
    exact this
  | some p =>
    obtain ⟨x, y, m, k⟩ := p
    obtain ⟨A, rfl, _, _⟩ := letters x
    obtain ⟨Z, rfl, _, _⟩ := letters y
    have := rinst_some s A Z m k w hs h
    rw [show instN s.data.toList = Z.data.toList by unfold instN; rw [h], show markN s.data.toList = m by unfold markN; rw [h], Lib.mk_data]
    exact this
theorem rprefix_any (s : ByteArray) (w : World) (hs : s.size ≤ 1000000) :
    Calls Tryd.prog 17 #[.string s] w fun e w' => e = .returned (.string ⟨(prefN s.data.toList).toArray⟩) ∧ Below w.heap.size w w' := by
  cases h : cutN s.data.toList with
  | none =>
    have := rprefix_none s w hs h
    rw [show prefN s.data.toList = [] by unfold prefN; rw [h]]
    exact this
  | some p =>
    obtain ⟨x, y, m, k⟩ := p
    obtain ⟨A, rfl, _, _⟩ := letters x
    obtain ⟨Z, rfl, _, _⟩ := letters y
    have := rprefix_some s A Z m k w hs h
    rw [show prefN s.data.toList = A.data.toList by unfold prefN; rw [h], Lib.mk_data]
    exact this
set_option maxHeartbeats 8000000 in
theorem tells_walk (s i : ByteArray) (w : World) (hg : GlN w) :
    Calls Tryd.prog 3 #[.string s, .string i] w fun e w' => e = .returned (.bool true) ∧ Below w.heap.size w w' := by
  have hkn := known_any w hg
  by_cases ha : 300 < s.size
  · have ha' : (300 : Int) < (s.size : Int) := by omega
    go_enter Tryd.func3, Tryd.ntmps3
    go_wp2_with fail
    refine hkn.mono ?_
    rintro e w1 ⟨rfl, hb1⟩
    go_wp2_with fail
    go_ret
    exact ⟨rfl, hb1⟩
  have ha' : decide ((300 : Int) < (s.size : Int)) = false := by simp; omega
  by_cases hb : 300 < i.size
  · have hb' : (300 : Int) < (i.size : Int) := by omega
    go_enter Tryd.func3, Tryd.ntmps3
    go_wp2_with fail
    refine hkn.mono ?_
    rintro e w1 ⟨rfl, hb1⟩
    go_wp2_with fail
    go_ret
    exact ⟨rfl, hb1⟩
  have hb' : decide ((300 : Int) < (i.size : Int)) = false := by simp; omega
  obtain ⟨I, hI⟩ : ∃ I : ByteArray, (⟨(instN s.data.toList).toArray⟩ : ByteArray) = I := ⟨_, rfl⟩
  obtain ⟨M, hM⟩ : ∃ M, markN s.data.toList = M := ⟨_, rfl⟩
  obtain ⟨B, hB⟩ : ∃ B, (cutN s.data.toList).isSome = B := ⟨_, rfl⟩
  obtain ⟨K, hK⟩ : ∃ K, kindN s.data.toList = K := ⟨_, rfl⟩
  obtain ⟨P, hP⟩ : ∃ P : ByteArray, (⟨(prefN s.data.toList).toArray⟩ : ByteArray) = P := ⟨_, rfl⟩
  obtain ⟨T, hT⟩ : ∃ T : ByteArray, (⟨(tmplN s.data.toList).toArray⟩ : ByteArray) = T := ⟨_, rfl⟩
  obtain ⟨X, hX⟩ : ∃ X : ByteArray, (⟨(esc s.data.toList).toArray⟩ : ByteArray) = X := ⟨_, rfl⟩
  obtain ⟨W1, c1, hW1, c10, c11⟩ := strE_form (withN s.data.toList i.data.toList) 40 (by omega) (by omega)
  obtain ⟨W2, c2, hW2, c20, c21⟩ := strE_form (unesc s.data.toList) 41 (by omega) (by omega)
  obtain ⟨W3, c3, hW3, c30, c31⟩ := strE_form (ofPath s.data.toList) 41 (by omega) (by omega)
  have a0 : Hid (∀ w, GlN w → Calls Tryd.prog 10 #[.string s] w fun e w' => e = .returned (.tuple #[.string I, .bool M]) ∧ Below w.heap.size w w') := fun w hg => by
    have := instance_any s w hg (by omega)
    rw [hI, hM] at this
    exact this
  have b0 : Hid (∀ w, Calls Tryd.prog 11 #[.string s] w fun e w' => e = .returned (.tuple #[.string I, .bool M]) ∧ Below w.heap.size w w') := fun w => by
    have := rinst_any s w (by omega)
    rw [hI, hM] at this
    exact this
  have a1 : Hid (∀ w, GlN w → Calls Tryd.prog 12 #[.string s] w fun e w' => e = .returned (.bool B) ∧ Below w.heap.size w w') := fun w hg => by
    have := is_any s w hg (by omega)
    rw [hB] at this
    exact this
  have b1 : Hid (∀ w, Calls Tryd.prog 13 #[.string s] w fun e w' => e = .returned (.bool B) ∧ Below w.heap.size w w') := fun w => by
    have := ris_any s w (by omega)
    rw [hB] at this
    exact this
  have a2 : Hid (∀ w, GlN w → Calls Tryd.prog 14 #[.string s] w fun e w' => e = .returned (.int .i64 (K : Int)) ∧ Below w.heap.size w w') := fun w hg => by
    have := kind_any s w hg (by omega)
    rw [hK] at this
    exact this
  have b2 : Hid (∀ w, Calls Tryd.prog 15 #[.string s] w fun e w' => e = .returned (.int .i64 (K : Int)) ∧ Below w.heap.size w w') := fun w => by
    have := rkind_any s w (by omega)
    rw [hK] at this
    exact this
  have a3 : Hid (∀ w, GlN w → Calls Tryd.prog 16 #[.string s] w fun e w' => e = .returned (.string P) ∧ Below w.heap.size w w') := fun w hg => by
    have := prefix_any s w hg (by omega)
    rw [hP] at this
    exact this
  have b3 : Hid (∀ w, Calls Tryd.prog 17 #[.string s] w fun e w' => e = .returned (.string P) ∧ Below w.heap.size w w') := fun w => by
    have := rprefix_any s w (by omega)
    rw [hP] at this
    exact this
  have a4 : Hid (∀ w, GlN w → Calls Tryd.prog 18 #[.string s] w fun e w' => e = .returned (.string T) ∧ Below w.heap.size w w') := fun w hg => by
    have := template_any s w hg (by omega)
    rw [hT] at this
    exact this
  have b4 : Hid (∀ w, Calls Tryd.prog 19 #[.string s] w fun e w' => e = .returned (.string T) ∧ Below w.heap.size w w') := fun w => by
    have := rtemplate_any s w (by omega)
    rw [hT] at this
    exact this
  have a5 : Hid (∀ w, Calls Tryd.prog 20 #[.string s] w fun e w' => e = .returned (.string X) ∧ Below w.heap.size w w') := fun w => by
    have := escape_any s w (by omega)
    rw [hX] at this
    exact this
  have b5 : Hid (∀ w, Calls Tryd.prog 21 #[.string s] w fun e w' => e = .returned (.string X) ∧ Below w.heap.size w w') := fun w => by
    have := rescape_any s w (by omega)
    rw [hX] at this
    exact this
  have a6 : Hid (∀ w, GlN w → Calls Tryd.prog 22 #[.string s, .string i] w fun e w' => e = .returned (.tuple #[.string W1, .int .i64 c1]) ∧ Below w.heap.size w w') := fun w hg => by
    have := withF_any s i w hg (by omega) (by omega)
    rw [hW1] at this
    exact this
  have b6 : Hid (∀ w, Calls Tryd.prog 23 #[.string s, .string i] w fun e w' => e = .returned (.tuple #[.string W1, .int .i64 c1]) ∧ Below w.heap.size w w') := fun w => by
    have := rwith_any s i w (by omega) (by omega)
    rw [hW1] at this
    exact this
  have a7 : Hid (∀ w, Calls Tryd.prog 24 #[.string s] w fun e w' => e = .returned (.tuple #[.string W2, .int .i64 c2]) ∧ Below w.heap.size w w') := fun w => by
    have := unescape_any s w (by omega)
    rw [hW2] at this
    exact this
  have b7 : Hid (∀ w, Calls Tryd.prog 25 #[.string s] w fun e w' => e = .returned (.tuple #[.string W2, .int .i64 c2]) ∧ Below w.heap.size w w') := fun w => by
    have := runescape_any s w (by omega)
    rw [hW2] at this
    exact this
  have a8 : Hid (∀ w, GlN w → Calls Tryd.prog 26 #[.string s] w fun e w' => e = .returned (.tuple #[.string W3, .int .i64 c3]) ∧ Below w.heap.size w w') := fun w hg => by
    have := ofPath_any s w hg (by omega)
    rw [hW3] at this
    exact this
  have b8 : Hid (∀ w, Calls Tryd.prog 27 #[.string s] w fun e w' => e = .returned (.tuple #[.string W3, .int .i64 c3]) ∧ Below w.heap.size w w') := fun w => by
    have := rofPath_any s w (by omega)
    rw [hW3] at this
    exact this
  clear hI hM hB hK hP hT hX hW1 hW2 hW3
  go_enter Tryd.func3, Tryd.ntmps3
  go_wp2_with fail
  refine hkn.mono ?_
  rintro e w0 ⟨rfl, h0⟩
  go_wp2_with fail
  refine (a0.out _ (hg.below h0)).mono ?_
  rintro e w1 ⟨rfl, g1⟩
  have h1 := h0.trans (g1.mono h0.size)
  clear g1
  go_wp2_with fail
  refine (b0.out _).mono ?_
  rintro e w2 ⟨rfl, g2⟩
  have h2 := h1.trans (g2.mono h1.size)
  clear g2
  go_wp2_with fail
  refine (a1.out _ (hg.below h2)).mono ?_
  rintro e w3 ⟨rfl, g3⟩
  have h3 := h2.trans (g3.mono h2.size)
  clear g3
  go_wp2_with fail
  refine (b1.out _).mono ?_
  rintro e w4 ⟨rfl, g4⟩
  have h4 := h3.trans (g4.mono h3.size)
  clear g4
  go_wp2_with fail
  refine (a2.out _ (hg.below h4)).mono ?_
  rintro e w5 ⟨rfl, g5⟩
  have h5 := h4.trans (g5.mono h4.size)
  clear g5
  go_wp2_with fail
  refine (b2.out _).mono ?_
  rintro e w6 ⟨rfl, g6⟩
  have h6 := h5.trans (g6.mono h5.size)
  clear g6
  go_wp2_with fail
  refine (a3.out _ (hg.below h6)).mono ?_
  rintro e w7 ⟨rfl, g7⟩
  have h7 := h6.trans (g7.mono h6.size)
  clear g7
  go_wp2_with fail
  refine (b3.out _).mono ?_
  rintro e w8 ⟨rfl, g8⟩
  have h8 := h7.trans (g8.mono h7.size)
  clear g8
  go_wp2_with fail
  refine (a4.out _ (hg.below h8)).mono ?_
  rintro e w9 ⟨rfl, g9⟩
  have h9 := h8.trans (g9.mono h8.size)
  clear g9
  go_wp2_with fail
  refine (b4.out _).mono ?_
  rintro e w10 ⟨rfl, g10⟩
  have h10 := h9.trans (g10.mono h9.size)
  clear g10
  go_wp2_with fail
  refine (a5.out _).mono ?_
  rintro e w11 ⟨rfl, g11⟩
  have h11 := h10.trans (g11.mono h10.size)
  clear g11
  go_wp2_with fail
  refine (b5.out _).mono ?_
  rintro e w12 ⟨rfl, g12⟩
  have h12 := h11.trans (g12.mono h11.size)
  clear g12
  go_wp2_with fail
  refine (a6.out _ (hg.below h12)).mono ?_
  rintro e w13 ⟨rfl, g13⟩
  have h13 := h12.trans (g13.mono h12.size)
  clear g13
  go_wp2_with fail
  refine (b6.out _).mono ?_
  rintro e w14 ⟨rfl, g14⟩
  have h14 := h13.trans (g14.mono h13.size)
  clear g14
  go_wp2_with fail
  refine (a7.out _).mono ?_
  rintro e w15 ⟨rfl, g15⟩
  have h15 := h14.trans (g15.mono h14.size)
  clear g15
  go_wp2_with fail
  refine (b7.out _).mono ?_
  rintro e w16 ⟨rfl, g16⟩
  have h16 := h15.trans (g16.mono h15.size)
  clear g16
  go_wp2_with fail
  refine (a8.out _ (hg.below h16)).mono ?_
  rintro e w17 ⟨rfl, g17⟩
  have h17 := h16.trans (g17.mono h16.size)
  clear g17
  go_wp2_with fail
  refine (b8.out _).mono ?_
  rintro e w18 ⟨rfl, g18⟩
  have h18 := h17.trans (g18.mono h17.size)
  clear g18
  go_wp2_with fail
  go_ret
  exact ⟨rfl, h18⟩
end Go.Proofs.YtimmieelpaoncaaDoor
