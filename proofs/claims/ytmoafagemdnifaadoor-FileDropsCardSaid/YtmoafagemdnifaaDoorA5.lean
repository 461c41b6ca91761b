/- The contract of package line's parse. -/
import Derived.Test.YtmoafagemdnifaaDoorA3
namespace Go.Proofs.YtmoafagemdnifaaDoor
open Go.RowKit Lin
/-- What package bytealg keeps: any value. -/
def Mx (w : World) : Prop := ∃ m, w.cell? ⟨0, 0, none⟩ = some (.int .i64 m)
theorem Mx.below {w w' : World} (h : Mx w) (hb : Below w.heap.size w w') : Mx w' := by
  obtain ⟨m, hm⟩ := h
  exact ⟨m, (hb.cell (p := ⟨_, 0, none⟩) (cell_lt hm)).trans hm⟩
theorem cut_le (l : L) (c : L) : (Lib.cut l c).1.length ≤ l.length ∧ (Lib.cut l c).2.1.length ≤ l.length := by
  unfold Lib.cut
  split
  · simp; omega
  · simp
def zeroL : Value := .agg #[.int .i64 0, .string ⟨#[]⟩, .string ⟨#[]⟩, .int .i64 0]
def lnV (p : Kv) (n : Int) : Value := .agg #[.int .i64 p.1, .string ⟨p.2.1.toArray⟩, .string ⟨p.2.2.toArray⟩, .int .i64 n]
def prsV (o : Option Kv) : Value := match o with
  | some p => .tuple #[lnV p 0, .bool true]
  | none => .tuple #[zeroL, .bool false]
theorem prs_sec {s : L} {n : L} (h : secN (trim s) = some n) : prs s = some (1, n, []) := by unfold prs; rw [h]
theorem prs_set {s : L} (h : secN (trim s) = none) : prs s = if (Lib.cut (trim s) [61]).2.2 && made al (trimR (Lib.cut (trim s) [61]).1) then some (2, trimR (Lib.cut (trim s) [61]).1, trimL (Lib.cut (trim s) [61]).2.1) else none := by unfold prs; rw [h]
theorem below_set4 {w W : World} {n b : Nat} (h : Below n w W) (hb : n ≤ b) (v0 v1 v2 v3 : Value) : Below n w ((((W.setCell ⟨b, 0, none⟩ v0).setCell ⟨b, 1, none⟩ v1).setCell ⟨b, 2, none⟩ v2).setCell ⟨b, 3, none⟩ v3) :=
  (((h.setCell (p := ⟨b, 0, none⟩) hb _).setCell (p := ⟨b, 1, none⟩) hb _).setCell (p := ⟨b, 2, none⟩) hb _).setCell (p := ⟨b, 3, none⟩) hb _
/-- The result's four cells. -/
structure Res4 (b : Nat) (W : World) : Prop where
  c0 : W.cell? ⟨b, 0, none⟩ = some (.int .i64 0)
  c1 : W.cell? ⟨b, 1, none⟩ = some (.string ⟨#[]⟩)
  c2 : W.cell? ⟨b, 2, none⟩ = some (.string ⟨#[]⟩)
  c3 : W.cell? ⟨b, 3, none⟩ = some (.int .i64 0)
  f0 : W.frozen? ⟨b, 0, none⟩ = false
  f1 : W.frozen? ⟨b, 1, none⟩ = false
  f2 : W.frozen? ⟨b, 2, none⟩ = false
  f3 : W.frozen? ⟨b, 3, none⟩ = false
theorem Res4.new (w : World) (t : TypeId) : Res4 w.heap.size (w.alloc (.cells #[.int .i64 0, .string ⟨#[]⟩, .string ⟨#[]⟩, .int .i64 0] t)) :=
  ⟨cell_at rfl rfl, cell_at rfl rfl, cell_at rfl rfl, cell_at rfl rfl, World.frozen?_alloc_new w _ _ _, World.frozen?_alloc_new w _ _ _, World.frozen?_alloc_new w _ _ _, World.frozen?_alloc_new w _ _ _⟩
theorem Res4.below {b : Nat} {w w' : World} (h : Res4 b w) (hb : Below w.heap.size w w') : Res4 b w' := by
  have hl : b < w.heap.size := cell_lt h.c0
  exact ⟨(hb.cell (p := ⟨b, 0, none⟩) hl).trans h.c0, (hb.cell (p := ⟨b, 1, none⟩) hl).trans h.c1, (hb.cell (p := ⟨b, 2, none⟩) hl).trans h.c2, (hb.cell (p := ⟨b, 3, none⟩) hl).trans h.c3, (hb.frozen (p := ⟨b, 0, none⟩) hl).trans h.f0, (hb.frozen (p := ⟨b, 1, none⟩) hl).trans h.f1, (hb.frozen (p := ⟨b, 2, none⟩) hl).trans h.f2, (hb.frozen (p := ⟨b, 3, none⟩) hl).trans h.f3⟩
set_option maxHeartbeats 4000000 in
theorem parse_any (s : ByteArray) (w : World) (hg : Mx w) (hs : s.size ≤ 2000000) :
    Calls Tryd.prog 36 #[.string s] w fun e w' => e = .returned (prsV (prs s.data.toList)) ∧ Below w.heap.size w w' := by
  have htr := fun w => Tryd.trim_any s w (by omega)
  have hl := trim_len s.data.toList
  rw [size_list] at hl
  have hp1 := fun n => prs_sec (s := s.data.toList) (n := n)
  have hp2 := prs_set (s := s.data.toList)
  rw [show Lib.trimS s.data.toList [32, 9] = trim s.data.toList from rfl] at htr
  revert htr hl hp1 hp2
  generalize trim s.data.toList = t
  intro htr hl hp1 hp2
  obtain ⟨T, rfl, hTz, hTe⟩ := letters t
  rw [hTe] at htr
  rw [size_list] at hl
  have htr' : Hid (∀ w, Calls Tryd.prog 52 #[.string s, .string ⟨#[32, 9]⟩] w fun e w' => e = .returned (.string T) ∧ Below w.heap.size w w') := htr
  have hsn := fun w => sectionName_any T w (by omega)
  clear htr hTe hTz
  have hr4 := Res4.new w 60
  have hb0 : Below w.heap.size w (w.alloc (.cells #[.int .i64 0, .string ⟨#[]⟩, .string ⟨#[]⟩, .int .i64 0] 60)) := (Below.refl _ _).alloc (Nat.le_refl _) _
  cases hn : secN T.data.toList with
  | some n =>
    have hP : prs s.data.toList = some (1, n, []) := hp1 n hn
    obtain ⟨N, rfl, hNz, hNe⟩ := letters n
    have hV : Hid (prsV (prs s.data.toList) = .tuple #[.agg #[.int .i64 1, .string N, .string ⟨#[]⟩, .int .i64 0], .bool true]) := by
      show _ = _
      rw [hP]
      show Value.tuple #[.agg #[.int .i64 1, .string ⟨N.data.toList.toArray⟩, .string ⟨#[]⟩, .int .i64 0], .bool true] = _
      rw [Lib.mk_data]
    have hsn' : Hid (∀ w, Calls Tryd.prog 53 #[.string T] w fun e w' => e = .returned (.tuple #[.string N, .bool true]) ∧ w' = w) := by
      intro w
      have := hsn w
      rw [snV_of hn] at this
      exact this
    clear hsn hp1 hp2 hP hNz hNe hn
    go_enter Tryd.func36, Tryd.ntmps36
    go_wp2_with fail
    refine (htr'.out _).mono ?_
    rintro e w1 ⟨rfl, hb1⟩
    obtain ⟨q0, q1, q2, q3, f0, f1, f2, f3⟩ := hr4.below hb1
    have hb2 := hb0.trans (hb1.mono hb0.size)
    have hwz := hb2.size
    have hwl := cell_lt q0
    clear hr4 hb0
    go_wp2_with fail
    refine (hsn'.out _).mono ?_
    rintro e w2 ⟨rfl, rfl⟩
    go_wp2_with fail
    refine bodyPost_ret (v := .tuple #[.agg #[.int .i64 1, .string N, .string ⟨#[]⟩, .int .i64 0], .bool true]) (by simp [results, Tryd.results36, go_sem, q0, q1, q2, q3]) rfl ⟨by rw [hV.out], ?_⟩
    exact below_set4 hb2 (Nat.le_refl _) _ _ _ _
  | none =>
    have hP := hp2 hn
    have hsn' : Hid (∀ w, Calls Tryd.prog 53 #[.string T] w fun e w' => e = .returned (.tuple #[.string ⟨#[]⟩, .bool false]) ∧ w' = w) := by
      intro w
      have := hsn w
      rw [hn] at this
      exact this
    have hle := cut_le T.data.toList [61]
    rw [size_list] at hle
    have hCut := fun m w h => Tryd.strings_Cut T ⟨#[61]⟩ m w (by omega) h
    rw [show (⟨#[61]⟩ : ByteArray).data.toList = [61] from rfl] at hCut
    revert hP hle hCut
    generalize Lib.cut T.data.toList [61] = q
    obtain ⟨a, b, f⟩ := q
    intro hP hle hCut
    obtain ⟨A, rfl, hAz, hAe⟩ := letters a
    obtain ⟨B, rfl, hBz, hBe⟩ := letters b
    simp only [hAe, hBe] at hCut
    have hkl := trimR_len A.data.toList
    have htR := fun w => Tryd.trimRight_any A w (by have := hle.1; rw [size_list] at this; omega)
    rw [show Lib.trimRightS A.data.toList [32, 9] = trimR A.data.toList from rfl] at htR
    have htL := fun w => Tryd.trimLeft_any B w
    rw [show Lib.trimLeftS B.data.toList [32, 9] = trimL B.data.toList from rfl] at htL
    simp only [size_list] at hle hkl
    simp only at hP
    revert hkl htR htL hP
    generalize trimR A.data.toList = k
    generalize trimL B.data.toList = v
    intro htR htL hkl hP
    obtain ⟨K, rfl, hKz, hKe⟩ := letters k
    obtain ⟨V, rfl, hVz, hVe⟩ := letters v
    rw [hKe] at htR
    rw [hVe] at htL
    rw [size_list] at hkl
    have hmd := fun w => madeA_any K w (by omega)
    have hCut' : Hid (∀ m w, w.cell? ⟨0, 0, none⟩ = some (.int .i64 m) → Calls Tryd.prog 54 #[.string T, .string ⟨#[61]⟩] w fun e w' => e = .returned (.tuple #[.string A, .string B, .bool f]) ∧ ∃ n, w' = w.drewN n) := hCut
    have htR' : Hid (∀ w, Calls Tryd.prog 55 #[.string A, .string ⟨#[32, 9]⟩] w fun e w' => e = .returned (.string K) ∧ Below w.heap.size w w') := htR
    have htL' : Hid (∀ w, Calls Tryd.prog 58 #[.string B, .string ⟨#[32, 9]⟩] w fun e w' => e = .returned (.string V) ∧ Below w.heap.size w w') := htL
    have hPH : Hid (prs s.data.toList = if f && made al K.data.toList then some (2, K.data.toList, V.data.toList) else none) := hP
    clear hsn hp1 hp2 hP hn hAz hAe hBz hBe hKz hKe hVz hVe hCut htR htL hle
    cases f
    · have hN : Hid (prsV (prs s.data.toList) = .tuple #[zeroL, .bool false]) := by show _ = _; rw [hPH.out]; rfl
      clear hmd
      go_enter Tryd.func36, Tryd.ntmps36
      go_wp2_with fail
      refine (htr'.out _).mono ?_
      rintro e w1 ⟨rfl, hb1⟩
      have hr5 := hr4.below hb1
      have hb2 := hb0.trans (hb1.mono hb0.size)
      obtain ⟨m, hm⟩ := (hg.below hb2 : Mx w1)
      go_wp2_with fail
      refine (hsn'.out _).mono ?_
      rintro e w2 ⟨rfl, rfl⟩
      go_wp2_with fail
      refine (hCut'.out m _ hm).mono ?_
      rintro e w3 ⟨rfl, n, rfl⟩
      go_wp2_with fail
      refine (htR'.out _).mono ?_
      rintro e w4 ⟨rfl, hb4⟩
      obtain ⟨q0, q1, q2, q3, f0, f1, f2, f3⟩ := (hr5.below (below_drewN (Below.refl _ _) n)).below hb4
      have hb5 := (below_drewN hb2 n).trans (hb4.mono (by have := hb2.size; simpa using this))
      have hwz := hb5.size
      have hwl := cell_lt q0
      clear hr4 hr5 hb0 hm
      go_wp2_with fail
      refine bodyPost_ret (v := .tuple #[.agg #[.int .i64 0, .string ⟨#[]⟩, .string ⟨#[]⟩, .int .i64 0], .bool false]) (by simp [results, Tryd.results36, go_sem, q0, q1, q2, q3]) rfl ⟨by rw [hN.out]; rfl, ?_⟩
      exact below_set4 hb5 (Nat.le_refl _) _ _ _ _
    · cases hm : made al K.data.toList
      · rw [hm] at hmd
        have hmd' : Hid (∀ w, Calls Tryd.prog 56 #[.string K, .func (.func 57) #[] #[]] w fun e w' => e = .returned (.bool false) ∧ w' = w) := hmd
        have hN : Hid (prsV (prs s.data.toList) = .tuple #[zeroL, .bool false]) := by show _ = _; rw [hPH.out, hm]; rfl
        clear hmd hm
        go_enter Tryd.func36, Tryd.ntmps36
        go_wp2_with fail
        refine (htr'.out _).mono ?_
        rintro e w1 ⟨rfl, hb1⟩
        have hr5 := hr4.below hb1
        have hb2 := hb0.trans (hb1.mono hb0.size)
        obtain ⟨m, hm⟩ := (hg.below hb2 : Mx w1)
        go_wp2_with fail
        refine (hsn'.out _).mono ?_
        rintro e w2 ⟨rfl, rfl⟩
        go_wp2_with fail
        refine (hCut'.out m _ hm).mono ?_
        rintro e w3 ⟨rfl, n, rfl⟩
        go_wp2_with fail
        refine (htR'.out _).mono ?_
        rintro e w4 ⟨rfl, hb4⟩
        obtain ⟨q0, q1, q2, q3, f0, f1, f2, f3⟩ := (hr5.below (below_drewN (Below.refl _ _) n)).below hb4
        have hb5 := (below_drewN hb2 n).trans (hb4.mono (by have := hb2.size; simpa using this))
        have hwz := hb5.size
        have hwl := cell_lt q0
        clear hr4 hr5 hb0 hm
        go_wp2_with (go_at_call 56; refine (hmd'.out _).mono ?_; rintro e w' ⟨rfl, rfl⟩)
        refine bodyPost_ret (v := .tuple #[.agg #[.int .i64 0, .string ⟨#[]⟩, .string ⟨#[]⟩, .int .i64 0], .bool false]) (by simp [results, Tryd.results36, go_sem, q0, q1, q2, q3]) rfl ⟨by rw [hN.out]; rfl, ?_⟩
        exact below_set4 hb5 (Nat.le_refl _) _ _ _ _
      · rw [hm] at hmd
        have hmd' : Hid (∀ w, Calls Tryd.prog 56 #[.string K, .func (.func 57) #[] #[]] w fun e w' => e = .returned (.bool true) ∧ w' = w) := hmd
        have hN : Hid (prsV (prs s.data.toList) = .tuple #[.agg #[.int .i64 2, .string K, .string V, .int .i64 0], .bool true]) := by
          show _ = _
          rw [hPH.out, hm]
          show Value.tuple #[.agg #[.int .i64 2, .string ⟨K.data.toList.toArray⟩, .string ⟨V.data.toList.toArray⟩, .int .i64 0], .bool true] = _
          rw [Lib.mk_data, Lib.mk_data]
        clear hmd hm
        go_enter Tryd.func36, Tryd.ntmps36
        go_wp2_with fail
        refine (htr'.out _).mono ?_
        rintro e w1 ⟨rfl, hb1⟩
        have hr5 := hr4.below hb1
        have hb2 := hb0.trans (hb1.mono hb0.size)
        obtain ⟨m, hm⟩ := (hg.below hb2 : Mx w1)
        go_wp2_with fail
        refine (hsn'.out _).mono ?_
        rintro e w2 ⟨rfl, rfl⟩
        go_wp2_with fail
        refine (hCut'.out m _ hm).mono ?_
        rintro e w3 ⟨rfl, n, rfl⟩
        go_wp2_with fail
        refine (htR'.out _).mono ?_
        rintro e w4 ⟨rfl, hb4⟩
        have hr6 := (hr5.below (below_drewN (Below.refl _ _) n)).below hb4
        have hb5 := (below_drewN hb2 n).trans (hb4.mono (by have := hb2.size; simpa using this))
        clear hr4 hr5 hb0 hm
        go_wp2_with (go_at_call 56; refine (hmd'.out _).mono ?_; rintro e w' ⟨rfl, rfl⟩)
        refine (htL'.out _).mono ?_
        rintro e w5 ⟨rfl, hb6⟩
        obtain ⟨q0, q1, q2, q3, f0, f1, f2, f3⟩ := hr6.below hb6
        have hb7 := hb5.trans (hb6.mono hb5.size)
        have hwz := hb7.size
        have hwl := cell_lt q0
        clear hr6
        go_wp2_with fail
        refine bodyPost_ret (v := .tuple #[.agg #[.int .i64 2, .string K, .string V, .int .i64 0], .bool true]) (by simp [results, Tryd.results36, go_sem, q0, q1, q2, q3]) rfl ⟨by rw [hN.out], ?_⟩
        exact below_set4 hb7 (Nat.le_refl _) _ _ _ _
end Go.Proofs.YtmoafagemdnifaaDoor
