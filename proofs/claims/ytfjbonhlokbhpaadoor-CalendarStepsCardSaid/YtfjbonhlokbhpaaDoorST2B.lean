/- The law CalendarSteps holds. -/
import Derived.Test.YtfjbonhlokbhpaaDoorST1B
namespace Go.Proofs.YtfjbonhlokbhpaaDoor
open Go.RowKit
set_option maxRecDepth 100000 in
set_option maxHeartbeats 2000000 in
theorem steps_at (n0 n1 n2 a k m : Nat) (w : World) (hg : GlP w) (h0 : n0 ≤ 255) (h1 : n1 ≤ 255) (h2 : n2 ≤ 255) (hka : n0 % 60 = a) (hkk : n1 % 59 + 1 = k) (hkm : n2 % 60 = m) :
    Calls Tryd.prog 7 #[.int .u8 n0, .int .u8 n1, .int .u8 n2] w fun e w' => e = .returned (.bool true) ∧ Below w.heap.size w w' := by
  have hkn := known_any w hg
  have ha60 : a < 60 := by omega
  have hk1 : 1 ≤ k := by omega
  have hk60 : k < 60 := by omega
  have hm60 : m < 60 := by omega
  have hia : (n0 : Int) % 60 = (a : Int) := by omega
  have hik : (n1 : Int) % 59 + 1 = (k : Int) := by omega
  have him : (n2 : Int) % 60 = (m : Int) := by omega
  have hPa : ∀ w, Calls Tryd.prog 16 #[.int .i64 a, .int .i64 2] w fun e w' => e = .returned (.string ⟨(Civ.d2 a).toArray⟩) ∧ Below w.heap.size w w' := fun w => pad2_any a w (by omega)
  have hPk : ∀ w, Calls Tryd.prog 16 #[.int .i64 k, .int .i64 1] w fun e w' => e = .returned (.string ⟨(dk k).toArray⟩) ∧ Below w.heap.size w w' := fun w => by
    have hd := dec_dk k (by omega)
    have := pad_long k 1 w (by omega) (by rw [hd]; have := dk_len k; omega)
    rw [hd] at this
    exact this
  have hP : Hid (∀ w, GlP w → Calls Tryd.prog 15 #[.string (⟨#[42, 58]⟩ ++ ⟨(Civ.d2 a).toArray⟩ ++ ⟨#[47]⟩ ++ ⟨(dk k).toArray⟩)] w (ParP w (xS a k))) := fun w hg => by
    have e : (⟨#[42, 58]⟩ ++ ⟨(Civ.d2 a).toArray⟩ ++ ⟨#[47]⟩ ++ ⟨(dk k).toArray⟩ : ByteArray) = ⟨(sS a k).toArray⟩ := by
      rw [← Lib.mk_data (_ ++ _ ++ _ ++ _)]
      simp [sS, tSt]
    rw [e]
    exact parse_sS a k ha60 hk1 hk60 w hg
  have hA : (⟨(Civ.d2 a).toArray⟩ : ByteArray).size = 2 := rfl
  have hK : (⟨(dk k).toArray⟩ : ByteArray).size ≤ 2 := by
    show (dk k).toArray.size ≤ 2
    have := dk_len k
    simp; omega
  generalize (⟨(Civ.d2 a).toArray⟩ : ByteArray) = A at *
  generalize (⟨(dk k).toArray⟩ : ByteArray) = K at *
  have hPaH := hidI2 hPa
  have hPkH := hidI2 hPk
  have hsum : IntKind.i64.wrap ((n1 : Int) % 59 + 1) = (k : Int) := by rw [hik, IntKind.wrap_i64]; omega
  have hM := hidI2 (mtM_xS a k m hk1 hm60)
  have hI := hidI2 (isB_xS a k ha60 hk1 hk60)
  clear hPa hPk
  go_enter Tryd.func7, Tryd.ntmps7
  go_wp2_with fail
  refine hkn.mono ?_
  rintro e w1 ⟨rfl, hb1⟩
  clear hkn
  have hg1 := hg.below hb1
  go_wp2_with fail
  refine (hPaH.out _).mono ?_
  rintro e w2 ⟨rfl, hb2⟩
  go_wp2_with fail
  refine (hPkH.out _).mono ?_
  rintro e w4 ⟨rfl, hb4⟩
  have hb14 : Below w1.heap.size w1 w4 := hb2.trans (hb4.mono hb2.size)
  have hPp := hP.out w4 (hg1.below hb14)
  clear hb2 hb4 hP hPaH hPkH
  go_wp2_with fail
  refine hPp.mono ?_
  rintro e w5 ⟨S, rfl, hb5, hp⟩
  clear hPp
  have hb15 : Below w1.heap.size w1 w5 := hb14.trans (hb5.mono hb14.size)
  obtain ⟨U, hU⟩ : ∃ U, (w5.alloc (.cells #[slv (S 0), slv (S 1), slv (S 2), slv (S 3), slv (S 4), slv (S 5), slv (S 6)] 24)).alloc (.cells #[.int .i64 2024, .int .i64 5, .int .i64 17, .int .i64 7, .int .i64 m, .int .i64 0] 37) = U := ⟨_, rfl⟩
  have hBb : Below w5.heap.size w5 U := by rw [← hU]; exact ((Below.refl _ _).alloc (Nat.le_refl _) _).alloc (by simp) _
  have hg2 := (hg1.below hb15).below hBb
  have hbB : Below w.heap.size w U := (hb1.trans (hb15.mono hb1.size)).trans (hBb.mono (Nat.le_trans hb1.size hb15.size))
  have hMt := matches_on S (xS a k) 2024 5 17 7 m 0 U (hp.below hBb) hg2 (by decide +kernel) (Civ.timB_iff.2 ⟨by omega, by omega, by omega, by omega, by omega, by omega⟩)
  rw [hI.out, hM.out, Bool.true_and] at hMt
  have hMtH := hidI2 hMt
  have hbBH := hidI2 hbB
  subst hU
  clear hMt hbB hp hb5 hb14 hb15 hg2 hBb hA hK hsum hia hik him
  by_cases hle : a ≤ m
  · have hleI : (a : Int) ≤ (m : Int) := by omega
    have hsub : IntKind.i64.wrap ((m : Int) - a) = ((m - a : Nat) : Int) := by rw [IntKind.wrap_i64]; omega
    have hne : ¬ (k : Int) = 0 := by omega
    have hmod : (((m - a : Nat) : Int)).tmod (k : Int) = (((m - a) % k : Nat) : Int) := by rw [Int.tmod_eq_emod_of_nonneg (by omega)]; simp
    have hbd := Nat.mod_lt (m - a) (show 0 < k by omega)
    rw [decide_eq_true hle, Bool.true_and] at hMtH
    generalize m - a = D at *
    generalize D % k = R at *
    by_cases hR : R = 0
    · subst hR
      have hq : decide ((0 : Nat) = 0) = true := rfl
      rw [hq] at hMtH
      go_wp2_with fail
      refine hMtH.out.mono ?_
      rintro e w6 ⟨rfl, hb6⟩
      have hz := hbBH.out.trans (hb6.mono hbBH.out.size)
      clear hMtH hb6 hbBH
      go_wp2_with fail
      go_ret
      exact ⟨rfl, hz⟩
    · have hq : decide (R = 0) = false := decide_eq_false hR
      rw [hq] at hMtH
      have hRb : ((R : Int) == 0) = false := by simp; omega
      go_wp2_with fail
      refine hMtH.out.mono ?_
      rintro e w6 ⟨rfl, hb6⟩
      have hz := hbBH.out.trans (hb6.mono hbBH.out.size)
      clear hMtH hb6 hbBH
      go_wp2_with fail
      go_ret
      exact ⟨rfl, hz⟩
  · have hleI : decide ((a : Int) ≤ (m : Int)) = false := by simp; omega
    rw [decide_eq_false hle, Bool.false_and] at hMtH
    go_wp2_with fail
    refine hMtH.out.mono ?_
    rintro e w6 ⟨rfl, hb6⟩
    have hz := hbBH.out.trans (hb6.mono hbBH.out.size)
    clear hMtH hb6 hbBH
    go_wp2_with fail
    go_ret
    exact ⟨rfl, hz⟩
theorem steps_walk (n0 n1 n2 : Nat) (w : World) (hg : GlP w) (h0 : n0 ≤ 255) (h1 : n1 ≤ 255) (h2 : n2 ≤ 255) :
    Calls Tryd.prog 7 #[.int .u8 n0, .int .u8 n1, .int .u8 n2] w fun e w' => e = .returned (.bool true) ∧ Below w.heap.size w w' :=
  steps_at n0 n1 n2 _ _ _ w hg h0 h1 h2 rfl rfl rfl
end Go.Proofs.YtfjbonhlokbhpaaDoor
