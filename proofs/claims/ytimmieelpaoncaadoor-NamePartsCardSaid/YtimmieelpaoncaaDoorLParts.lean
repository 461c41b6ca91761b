/- The walk of the law NameParts. -/
import Derived.Test.YtimmieelpaoncaaDoorLPa
namespace Go.Proofs.YtimmieelpaoncaaDoor
open Go.RowKit Nam
theorem cut_many (p : L) (h : 60 < p.length) : cutN p = none := by unfold cutN; rw [if_pos h]
theorem prefix_no (s : ByteArray) (w : World) (hg : GlN w) (hs : s.size ≤ 1000000) (h : cutN s.data.toList = none) :
    Calls Tryd.prog 16 #[.string s] w fun e w' => e = .returned (.string ⟨#[]⟩) ∧ Below w.heap.size w w' := by
  have := prefix_any s w hg (by omega)
  rw [show prefN s.data.toList = [] by unfold prefN; rw [h]] at this
  exact this
theorem prefix_of (s A Z : ByteArray) (m : Bool) (k : Nat) (w : World) (hg : GlN w) (hs : s.size ≤ 1000000) (h : cutN s.data.toList = some (A.data.toList, Z.data.toList, m, k)) :
    Calls Tryd.prog 16 #[.string s] w fun e w' => e = .returned (.string A) ∧ Below w.heap.size w w' := by
  have := prefix_any s w hg (by omega)
  rw [show prefN s.data.toList = A.data.toList by unfold prefN; rw [h], Lib.mk_data] at this
  exact this
theorem kind_of (s A Z : ByteArray) (m : Bool) (k : Nat) (w : World) (hg : GlN w) (hs : s.size ≤ 1000000) (h : cutN s.data.toList = some (A.data.toList, Z.data.toList, m, k)) :
    Calls Tryd.prog 14 #[.string s] w fun e w' => e = .returned (.int .i64 (1 + (k : Int))) ∧ Below w.heap.size w w' := by
  have := kind_any s w hg (by omega)
  rw [show kindN s.data.toList = k + 1 by unfold kindN; rw [h], show ((k + 1 : Nat) : Int) = 1 + (k : Int) by omega] at this
  exact this
theorem inst_of (s A Z : ByteArray) (m : Bool) (k : Nat) (w : World) (hg : GlN w) (hs : s.size ≤ 1000000) (h : cutN s.data.toList = some (A.data.toList, Z.data.toList, m, k)) :
    Calls Tryd.prog 10 #[.string s] w fun e w' => e = .returned (.tuple #[.string Z, .bool m]) ∧ Below w.heap.size w w' := by
  have := instance_any s w hg (by omega)
  rw [show instN s.data.toList = Z.data.toList by unfold instN; rw [h], show markN s.data.toList = m by unfold markN; rw [h], Lib.mk_data] at this
  exact this
theorem tmpl_of (s T : ByteArray) (w : World) (hg : GlN w) (hs : s.size ≤ 1000000) (h : tmplN s.data.toList = T.data.toList) :
    Calls Tryd.prog 18 #[.string s] w fun e w' => e = .returned (.string T) ∧ Below w.heap.size w w' := by
  have := template_any s w hg (by omega)
  rw [h, Lib.mk_data] at this
  exact this
theorem list_app (a b : ByteArray) : (a ++ b).data.toList = a.data.toList ++ b.data.toList := by rw [app_list]
theorem size_app (a b : ByteArray) : (a ++ b).size = a.size + b.size := by rw [← size_list, list_app, List.length_append, size_list, size_list]
set_option maxHeartbeats 4000000 in
theorem parts_walk (p i : ByteArray) (a : Nat) (at_ : Bool) (w : World) (hg : GlN w) (ha : a < 256) :
    Calls Tryd.prog 7 #[.string p, .string i, .int .u8 (a : Int), .bool at_] w fun e w' => e = .returned (.bool true) ∧ Below w.heap.size w w' := by
  have hkn := known_any w hg
  obtain ⟨k, hk⟩ : ∃ k, a % 6 = k := ⟨_, rfl⟩
  have k6 : k < 6 := by omega
  have kI : (k : Int) < 6 := by omega
  have hkI : (a : Int) % 6 = (k : Int) := by omega
  clear hk
  obtain ⟨E, hEl, hEz, hE⟩ := letters (endk k)
  have hEs : E.size ≤ 8 := by rw [hEz]; exact endk_len k
  have he : ends[k]? = some (endk k) := by
    obtain ⟨e, he⟩ : ∃ e, ends[k]? = some e := ⟨_, List.getElem?_eq_getElem (by simpa [ends] using k6)⟩
    rw [he, endk_of he]
  by_cases hp : 40 < p.size
  · have hp' : (40 : Int) < (p.size : Int) := by omega
    clear hEl hEz hE
    go_enter Tryd.func7, Tryd.ntmps7
    go_wp2_with fail
    refine hkn.mono ?_
    rintro e w1 ⟨rfl, hb1⟩
    go_wp2_with fail
    go_ret
    exact ⟨rfl, hb1.alloc hb1.size _⟩
  have hp' : decide ((40 : Int) < (p.size : Int)) = false := by simp; omega
  by_cases hi : 40 < i.size
  · have hi' : (40 : Int) < (i.size : Int) := by omega
    clear hEl hEz hE
    go_enter Tryd.func7, Tryd.ntmps7
    go_wp2_with fail
    refine hkn.mono ?_
    rintro e w1 ⟨rfl, hb1⟩
    go_wp2_with fail
    go_ret
    exact ⟨rfl, hb1.alloc hb1.size _⟩
  have hi' : decide ((40 : Int) < (i.size : Int)) = false := by simp; omega
  have c1 := fun w => plain_any p w (by omega)
  have c2 := fun w => plain_any i w (by omega)
  cases hpp : plL p.data.toList
  · rw [hpp] at c1
    have c1' : Hid (∀ w, Calls Tryd.prog 34 #[.string p] w fun e w' => e = .returned (.bool false) ∧ w' = w) := c1
    clear hEl hEz hE c1 c2
    go_enter Tryd.func7, Tryd.ntmps7
    go_wp2_with fail
    refine hkn.mono ?_
    rintro e w1 ⟨rfl, hb1⟩
    go_wp2_with fail
    refine (c1'.out _).mono ?_
    rintro e w2 ⟨rfl, rfl⟩
    go_wp2_with fail
    go_ret
    exact ⟨rfl, hb1.alloc hb1.size _⟩
  rw [hpp] at c1
  have c1' : Hid (∀ w, Calls Tryd.prog 34 #[.string p] w fun e w' => e = .returned (.bool true) ∧ w' = w) := c1
  clear c1
  cases hpi : plL i.data.toList
  · rw [hpi] at c2
    have c2' : Hid (∀ w, Calls Tryd.prog 34 #[.string i] w fun e w' => e = .returned (.bool false) ∧ w' = w) := c2
    clear hEl hEz hE c2
    go_enter Tryd.func7, Tryd.ntmps7
    go_wp2_with fail
    refine hkn.mono ?_
    rintro e w1 ⟨rfl, hb1⟩
    go_wp2_with fail
    refine (c1'.out _).mono ?_
    rintro e w2 ⟨rfl, rfl⟩
    go_wp2_with fail
    refine (c2'.out _).mono ?_
    rintro e w2 ⟨rfl, rfl⟩
    go_wp2_with fail
    go_ret
    exact ⟨rfl, hb1.alloc hb1.size _⟩
  rw [hpi] at c2
  have c2' : Hid (∀ w, Calls Tryd.prog 34 #[.string i] w fun e w' => e = .returned (.bool true) ∧ w' = w) := c2
  clear c2
  cases hp0 : (p.toList == [])
  · have hne : p.data.toList ≠ [] := fun e => by rw [Lib.toList_data, e] at hp0; cases hp0
    cases at_
    · obtain ⟨N, hN⟩ : ∃ N, p ++ E = N := ⟨_, rfl⟩
      have hNl : N.data.toList = p.data.toList ++ endk k := by rw [← hN, list_app, hEl]
      have hNs : N.size ≤ 48 := by rw [← hN, size_app]; omega
      have hcN : cutN N.data.toList = some (p.data.toList, (⟨#[]⟩ : ByteArray).data.toList, false, k) := by
        rw [hNl]
        exact cutN_plain k k6 hne hpp (by rw [← hNl, size_list]; omega)
      have hN60 : ¬ (60 : Int) < (N.size : Int) := by omega
      have d1 : Hid (∀ w, GlN w → Calls Tryd.prog 10 #[.string N] w fun e w' => e = .returned (.tuple #[.string ⟨#[]⟩, .bool false]) ∧ Below w.heap.size w w') := fun w hg => inst_of N p ⟨#[]⟩ false k w hg (by omega) hcN
      have d2 : Hid (∀ w, GlN w → Calls Tryd.prog 14 #[.string N] w fun e w' => e = .returned (.int .i64 (1 + (k : Int))) ∧ Below w.heap.size w w') := fun w hg => kind_of N p ⟨#[]⟩ false k w hg (by omega) hcN
      have d3 : Hid (∀ w, GlN w → Calls Tryd.prog 16 #[.string N] w fun e w' => e = .returned (.string p) ∧ Below w.heap.size w w') := fun w hg => prefix_of N p ⟨#[]⟩ false k w hg (by omega) hcN
      have d4 : Hid (∀ w, GlN w → Calls Tryd.prog 18 #[.string N] w fun e w' => e = .returned (.string ⟨#[]⟩) ∧ Below w.heap.size w w') := fun w hg => tmpl_of N ⟨#[]⟩ w hg (by omega) (by unfold tmplN; rw [hcN]; rfl)
      clear hEl hEz hpp hpi hne hNl hcN
      go_enter Tryd.func7, Tryd.ntmps7
      go_wp2_with fail
      refine hkn.mono ?_
      rintro e w1 ⟨rfl, hb1⟩
      have hEI := EndsIn.fresh w1 41 k _ he
      rw [hE] at hEI
      have hbA := hb1.alloc hb1.size (.cells endV 41)
      unfold endV at hEI hbA
      clear hE
      go_wp2_with fail
      refine (c1'.out _).mono ?_
      rintro e w2 ⟨rfl, rfl⟩
      go_wp2_with fail
      refine (c2'.out _).mono ?_
      rintro e w2 ⟨rfl, rfl⟩
      go_wp2_with fail
      refine (d1.out _ (hg.below hbA)).mono ?_
      rintro e w2 ⟨rfl, hb2⟩
      have hb12 := hbA.trans (hb2.mono hbA.size)
      go_wp2_with fail
      refine (d2.out _ (hg.below hb12)).mono ?_
      rintro e w3 ⟨rfl, hb3⟩
      have hb13 := hb12.trans (hb3.mono hb12.size)
      go_wp2_with fail
      refine (d3.out _ (hg.below hb13)).mono ?_
      rintro e w4 ⟨rfl, hb4⟩
      have hb14 := hb13.trans (hb4.mono hb13.size)
      go_wp2_with fail
      refine (d4.out _ (hg.below hb14)).mono ?_
      rintro e w5 ⟨rfl, hb5⟩
      have hb15 := hb14.trans (hb5.mono hb14.size)
      go_wp2_with fail
      go_ret
      exact ⟨rfl, hb15⟩
    · obtain ⟨N, hN⟩ : ∃ N, p ++ ⟨#[64]⟩ ++ i ++ E = N := ⟨_, rfl⟩
      have hNl : N.data.toList = mk p.data.toList i.data.toList k := by rw [← hN, list_app, list_app, list_app, hEl]; simp [mk]
      have hNs : N.size ≤ 100 := by rw [← hN, size_app, size_app, size_app]; show _ + 1 + _ + _ ≤ _; omega
      by_cases h60 : 60 < N.size
      · have h60' : (60 : Int) < (N.size : Int) := by omega
        have hcN : cutN N.data.toList = none := cut_many _ (by rw [size_list]; exact h60)
        have d1 : Hid (∀ w, GlN w → Calls Tryd.prog 12 #[.string N] w fun e w' => e = .returned (.bool false) ∧ Below w.heap.size w w') := fun w hg => by
          have := is_any N w hg (by omega)
          rw [hcN] at this
          exact this
        have d2 : Hid (∀ w, GlN w → Calls Tryd.prog 16 #[.string N] w fun e w' => e = .returned (.string ⟨#[]⟩) ∧ Below w.heap.size w w') := fun w hg => prefix_no N w hg (by omega) hcN
        clear hEl hEz hpp hpi hne hNl hcN
        go_enter Tryd.func7, Tryd.ntmps7
        go_wp2_with fail
        refine hkn.mono ?_
        rintro e w1 ⟨rfl, hb1⟩
        have hEI := EndsIn.fresh w1 41 k _ he
        rw [hE] at hEI
        have hbA := hb1.alloc hb1.size (.cells endV 41)
        unfold endV at hEI hbA
        clear hE
        go_wp2_with fail
        refine (c1'.out _).mono ?_
        rintro e w2 ⟨rfl, rfl⟩
        go_wp2_with fail
        refine (c2'.out _).mono ?_
        rintro e w2 ⟨rfl, rfl⟩
        go_wp2_with fail
        refine (d1.out _ (hg.below hbA)).mono ?_
        rintro e w2 ⟨rfl, hb2⟩
        have hb12 := hbA.trans (hb2.mono hbA.size)
        go_wp2_with fail
        refine (d2.out _ (hg.below hb12)).mono ?_
        rintro e w3 ⟨rfl, hb3⟩
        have hb13 := hb12.trans (hb3.mono hb12.size)
        go_wp2_with fail
        go_ret
        exact ⟨rfl, hb13⟩
      · have hN60 : ¬ (60 : Int) < (N.size : Int) := by omega
        have hlm : (mk p.data.toList i.data.toList k).length ≤ 60 := by rw [← hNl, size_list]; omega
        have hcM := cutN_mk k k6 hne hpp hpi hlm
        have hcN : cutN N.data.toList = some (p.data.toList, i.data.toList, true, k) := by rw [hNl]; exact hcM
        obtain ⟨T, hT⟩ : ∃ T, p ++ ⟨#[64]⟩ ++ E = T := ⟨_, rfl⟩
        have hTl : T.data.toList = mk p.data.toList [] k := by rw [← hT, list_app, list_app, hEl]; simp [mk]
        have hTs : T.size ≤ 60 := by rw [← hT, size_app, size_app]; show _ + 1 + _ ≤ _; omega
        have hcT : cutN T.data.toList = some (p.data.toList, [], true, k) := by
          rw [hTl]
          exact cutN_mk k k6 hne hpp rfl (by rw [← hTl, size_list]; exact hTs)
        have d1 : Hid (∀ w, GlN w → Calls Tryd.prog 10 #[.string N] w fun e w' => e = .returned (.tuple #[.string i, .bool true]) ∧ Below w.heap.size w w') := fun w hg => inst_of N p i true k w hg (by omega) hcN
        have d2 : Hid (∀ w, GlN w → Calls Tryd.prog 14 #[.string N] w fun e w' => e = .returned (.int .i64 (1 + (k : Int))) ∧ Below w.heap.size w w') := fun w hg => kind_of N p i true k w hg (by omega) hcN
        have d3 : Hid (∀ w, GlN w → Calls Tryd.prog 16 #[.string N] w fun e w' => e = .returned (.string p) ∧ Below w.heap.size w w') := fun w hg => prefix_of N p i true k w hg (by omega) hcN
        have d4 : Hid (∀ w, GlN w → Calls Tryd.prog 18 #[.string N] w fun e w' => e = .returned (.string T) ∧ Below w.heap.size w w') := fun w hg => tmpl_of N T w hg (by omega) (by unfold tmplN; rw [hcN, hTl]; rfl)
        have d5 : Hid (∀ w, GlN w → Calls Tryd.prog 22 #[.string T, .string i] w fun e w' => e = .returned (.tuple #[.string N, .int .i64 0]) ∧ Below w.heap.size w w') := fun w hg => by
          have := withF_any T i w hg (by omega) (by omega)
          rw [strE_of (T := N) (by unfold withN; rw [hcT]; simp only; rw [hcM, hNl]; simp)] at this
          exact this
        clear hEl hEz hpp hpi hne hNl hcN hcM hcT hTl hlm
        go_enter Tryd.func7, Tryd.ntmps7
        go_wp2_with fail
        refine hkn.mono ?_
        rintro e w1 ⟨rfl, hb1⟩
        have hEI := EndsIn.fresh w1 41 k _ he
        rw [hE] at hEI
        have hbA := hb1.alloc hb1.size (.cells endV 41)
        unfold endV at hEI hbA
        clear hE
        go_wp2_with fail
        refine (c1'.out _).mono ?_
        rintro e w2 ⟨rfl, rfl⟩
        go_wp2_with fail
        refine (c2'.out _).mono ?_
        rintro e w2 ⟨rfl, rfl⟩
        go_wp2_with fail
        refine (d1.out _ (hg.below hbA)).mono ?_
        rintro e w2 ⟨rfl, hb2⟩
        have hb12 := hbA.trans (hb2.mono hbA.size)
        go_wp2_with fail
        refine (d2.out _ (hg.below hb12)).mono ?_
        rintro e w3 ⟨rfl, hb3⟩
        have hb13 := hb12.trans (hb3.mono hb12.size)
        go_wp2_with fail
        refine (d3.out _ (hg.below hb13)).mono ?_
        rintro e w4 ⟨rfl, hb4⟩
        have hb14 := hb13.trans (hb4.mono hb13.size)
        go_wp2_with fail
        refine (d4.out _ (hg.below hb14)).mono ?_
        rintro e w5 ⟨rfl, hb5⟩
        have hb15 := hb14.trans (hb5.mono hb14.size)
        go_wp2_with fail
        refine (d5.out _ (hg.below hb15)).mono ?_
        rintro e w6 ⟨rfl, hb6⟩
        have hb16 := hb15.trans (hb6.mono hb15.size)
        have cE : w6.cell? ⟨w1.heap.size, k, none⟩ = some (.string E) := by
          have hlt : w1.heap.size < (w1.alloc (.cells endV 41)).heap.size := by simp
          have g2 := hb2.size
          have g3 := hb3.size
          have g4 := hb4.size
          have g5 := hb5.size
          simp only [World.size_alloc] at g2
          rw [hb6.cell (p := ⟨w1.heap.size, k, none⟩) (by show w1.heap.size < _; omega), hb5.cell (p := ⟨w1.heap.size, k, none⟩) (by show w1.heap.size < _; omega), hb4.cell (p := ⟨w1.heap.size, k, none⟩) (by show w1.heap.size < _; omega), hb3.cell (p := ⟨w1.heap.size, k, none⟩) (by show w1.heap.size < _; omega), hb2.cell (p := ⟨w1.heap.size, k, none⟩) (by simp)]
          exact hEI
        go_wp2_with fail
        go_ret
        exact ⟨rfl, hb16⟩
  · clear hEl hEz hE
    go_enter Tryd.func7, Tryd.ntmps7
    go_wp2_with fail
    refine hkn.mono ?_
    rintro e w1 ⟨rfl, hb1⟩
    go_wp2_with fail
    refine (c1'.out _).mono ?_
    rintro e w2 ⟨rfl, rfl⟩
    go_wp2_with fail
    refine (c2'.out _).mono ?_
    rintro e w2 ⟨rfl, rfl⟩
    go_wp2_with fail
    go_ret
    exact ⟨rfl, hb1.alloc hb1.size _⟩
end Go.Proofs.YtimmieelpaoncaaDoor
