import Derived.Test.YtehlnhljpdjppaaGreatDoorProg
import Derived.WalkKit
import Derived.WalkSpells
import Derived.BigQuiet
import Derived.Deep.QuietTactic
import Derived.KernelRfl
/- The plain mathematics of dates: leap years, lengths of months, days ahead of a year, of a month; days and dates to and fro; days of the week. -/
namespace Go.Proofs.YtehlnhljpdjppaaGreatDoor.Civ
def lpB (y : Int) : Bool := decide (y % 4 = 0 ∧ (y % 100 ≠ 0 ∨ y % 400 = 0))
def lp (y : Int) : Int := if lpB y = true then 1 else 0
def dim (y m : Int) : Int := if m = 2 then 28 + lp y else if m = 4 ∨ m = 6 ∨ m = 9 ∨ m = 11 then 30 else 31
def lps (y : Int) : Int := (y - 1) / 4 - (y - 1) / 100 + (y - 1) / 400
def dby (y : Int) : Int := (y - 1970) * 365 + lps y - 477
def cum (y : Int) : Nat → Int
  | 0 => 0
  | k + 1 => cum y k + dim y (k + 1)
def num (y m d : Int) : Int := dby y + cum y (m - 1).toNat + d - 1
def monB (y m : Int) : Bool := decide (1970 ≤ y ∧ y ≤ 2200 ∧ 1 ≤ m ∧ m ≤ 12)
def vldB (y m d : Int) : Bool := decide (1970 ≤ y ∧ y ≤ 2200 ∧ 1 ≤ m ∧ m ≤ 12 ∧ 1 ≤ d ∧ d ≤ dim y m)
def timB (h mi s : Int) : Bool := decide (0 ≤ h ∧ h < 24 ∧ 0 ≤ mi ∧ mi < 60 ∧ 0 ≤ s ∧ s < 60)
def wd (n : Int) : Int := (n + 3) % 7
def sec (y m d h mi s : Int) : Int := num y m d * 86400 + (h * 3600 + mi * 60 + s)

theorem monB_iff {y m : Int} : monB y m = true ↔ 1970 ≤ y ∧ y ≤ 2200 ∧ 1 ≤ m ∧ m ≤ 12 := by simp [monB]
theorem vldB_iff {y m d : Int} : vldB y m d = true ↔ 1970 ≤ y ∧ y ≤ 2200 ∧ 1 ≤ m ∧ m ≤ 12 ∧ 1 ≤ d ∧ d ≤ dim y m := by simp [vldB]
theorem timB_iff {h mi s : Int} : timB h mi s = true ↔ 0 ≤ h ∧ h < 24 ∧ 0 ≤ mi ∧ mi < 60 ∧ 0 ≤ s ∧ s < 60 := by simp [timB]
theorem lp_01 (y : Int) : 0 ≤ lp y ∧ lp y ≤ 1 := by unfold lp; split <;> omega
theorem dim_bd (y m : Int) : 28 ≤ dim y m ∧ dim y m ≤ 31 := by
  have := lp_01 y
  unfold dim; split
  · omega
  · split <;> omega
theorem dby_succ (y : Int) : dby (y + 1) = dby y + 365 + lp y := by
  unfold dby lps lp lpB
  by_cases h : y % 4 = 0 ∧ (y % 100 ≠ 0 ∨ y % 400 = 0)
  · rw [if_pos (by simpa using h)]; omega
  · rw [if_neg (by simpa using h)]; omega
theorem dby_1970 : dby 1970 = 0 := by decide
theorem dby_2201 : dby 2201 = 84371 := by decide
theorem dby_mono {a b : Int} (h : a ≤ b) : dby a ≤ dby b := by unfold dby lps; omega
theorem dby_strict {a b : Int} (h : a < b) : dby a + 365 ≤ dby b := by
  have h1 := dby_succ a
  have h2 := lp_01 a
  have h3 := dby_mono (a := a + 1) (b := b) (by omega)
  omega
theorem dby_bd {y : Int} (h1 : 1970 ≤ y) (h2 : y ≤ 2201) : 0 ≤ dby y ∧ dby y ≤ 84371 := by
  have := dby_mono h1; have := dby_mono h2; rw [dby_1970] at *; rw [dby_2201] at *; omega
theorem guess (n : Int) (h0 : 0 ≤ n) : dby (1970 + n / 366) ≤ n := by unfold dby lps; omega
theorem cum_12 (y : Int) : cum y 12 = 365 + lp y := by
  simp [cum, dim]; omega
theorem cum_succ (y : Int) (k : Nat) : cum y (k + 1) = cum y k + dim y (k + 1) := rfl
theorem cum_mono (y : Int) {a b : Nat} (h : a ≤ b) : cum y a ≤ cum y b := by
  induction b with
  | zero => simp at h; subst h; exact Int.le_refl _
  | succ b ih =>
    by_cases e : a = b + 1
    · subst e; exact Int.le_refl _
    · have := ih (by omega); have := (dim_bd y (b + 1)).1; rw [cum_succ]; omega
theorem cum_bd (y : Int) {k : Nat} (h : k ≤ 12) : 0 ≤ cum y k ∧ cum y k ≤ 366 := by
  have h1 := cum_mono y (Nat.zero_le k)
  have h2 := cum_mono y h
  have h3 := lp_01 y
  rw [cum_12] at h2
  have h4 : cum y 0 = 0 := rfl
  omega
theorem cum_strict (y : Int) {a b : Nat} (h : a < b) : cum y a + dim y (a + 1) ≤ cum y b := by
  have := cum_mono y (a := a + 1) (b := b) h; rw [cum_succ] at this; exact this
theorem num_bd {y m d : Int} (h : vldB y m d = true) : 0 ≤ num y m d ∧ num y m d < 84371 ∧ dby y ≤ num y m d ∧ num y m d < dby (y + 1) := by
  obtain ⟨a, b, c, e, f, g⟩ := vldB_iff.1 h
  have h1 := cum_bd y (k := (m - 1).toNat) (by omega)
  have h2 := cum_strict y (a := (m - 1).toNat) (b := 12) (by omega)
  have e1 : (((m - 1).toNat : Int) + 1) = m := by omega
  rw [e1, cum_12] at h2
  have h3 := dby_succ y
  have h4 := dby_bd a (by omega)
  have h5 := dby_bd (y := y + 1) (by omega) (by omega)
  unfold num; omega
theorem sec_bd {y m d h mi s : Int} (hv : vldB y m d = true) (ht : timB h mi s = true) : 0 ≤ sec y m d h mi s ∧ sec y m d h mi s < 7289654400 ∧ sec y m d h mi s / 86400 = num y m d ∧ sec y m d h mi s % 86400 = h * 3600 + mi * 60 + s := by
  have h1 := num_bd hv
  obtain ⟨a, b, c, e, f, g⟩ := timB_iff.1 ht
  unfold sec; omega
/-- The date of a day: its year, its month, its day, reckoned by the loops' own ways. -/
def yearF : Nat → Int → Int → Int
  | 0, y, _ => y
  | f + 1, y, n => if dby (y + 1) ≤ n then yearF f (y + 1) n else y
def yr (n : Int) : Int := yearF 300 1970 n
theorem yearF_spec (n : Int) : ∀ (f : Nat) (y : Int), 1970 ≤ y → dby y ≤ n → n < dby (y + f + 1) → 1970 ≤ yearF f y n ∧ dby (yearF f y n) ≤ n ∧ n < dby (yearF f y n + 1)
  | 0, y, h0, h1, h2 => by simp [yearF] at *; exact ⟨h0, h1, h2⟩
  | f + 1, y, h0, h1, h2 => by
    unfold yearF
    split
    · rename_i hc
      exact yearF_spec n f (y + 1) (by omega) hc (by rw [show y + 1 + (f : Int) + 1 = y + ((f + 1 : Nat) : Int) + 1 by omega]; exact h2)
    · exact ⟨h0, h1, by omega⟩
theorem yr_spec {n : Int} (h0 : 0 ≤ n) (h1 : n < 84371) : 1970 ≤ yr n ∧ yr n ≤ 2200 ∧ dby (yr n) ≤ n ∧ n < dby (yr n + 1) := by
  have hb : n < dby (1970 + (300 : Nat) + 1) := by
    have : dby (1970 + (300 : Nat) + 1) = 109938 := by decide
    omega
  obtain ⟨a, b, c⟩ := yearF_spec n 300 1970 (by omega) (by rw [dby_1970]; exact h0) hb
  refine ⟨a, ?_, b, c⟩
  by_cases hc : yr n ≤ 2200
  · exact hc
  · have := dby_mono (a := 2201) (b := yr n) (by omega)
    rw [dby_2201] at this
    unfold yr at this; omega
theorem yr_uniq {n y : Int} (h0 : 0 ≤ n) (h1 : n < 84371) (h2 : dby y ≤ n) (h3 : n < dby (y + 1)) : yr n = y := by
  obtain ⟨a, b, c, d⟩ := yr_spec h0 h1
  by_cases h : yr n < y
  · have := dby_mono (a := yr n + 1) (b := y) (by omega); omega
  · by_cases h' : y < yr n
    · have := dby_mono (a := y + 1) (b := yr n) (by omega); omega
    · omega
def mthF : Nat → Int → Nat → Int → Nat
  | 0, _, k, _ => k
  | f + 1, y, k, r => if cum y (k + 1) ≤ r then mthF f y (k + 1) r else k
/-- The month of the day r (from 0 on) of a year, from 0 on. -/
def mth (y r : Int) : Nat := mthF 12 y 0 r
theorem mthF_spec (y r : Int) : ∀ (f k : Nat), cum y k ≤ r → r < cum y (k + f + 1) → cum y (mthF f y k r) ≤ r ∧ r < cum y (mthF f y k r + 1)
  | 0, k, h1, h2 => by simp [mthF] at *; exact ⟨h1, h2⟩
  | f + 1, k, h1, h2 => by
    unfold mthF
    split
    · rename_i hc
      exact mthF_spec y r f (k + 1) hc (by rw [show k + 1 + f + 1 = k + (f + 1) + 1 by omega]; exact h2)
    · exact ⟨h1, by omega⟩
theorem mth_spec {y r : Int} (h0 : 0 ≤ r) (h1 : r < 365 + lp y) : mth y r < 12 ∧ cum y (mth y r) ≤ r ∧ r < cum y (mth y r + 1) := by
  have h2 : r < cum y (0 + 12 + 1) := by
    have := cum_strict y (a := 12) (b := 0 + 12 + 1) (by omega)
    have := (dim_bd y ((12 : Nat) + 1)).1
    rw [cum_12] at *; omega
  obtain ⟨a, b⟩ := mthF_spec y r 12 0 h0 h2
  refine ⟨?_, a, b⟩
  by_cases hc : mth y r < 12
  · exact hc
  · have := cum_mono y (a := 12) (b := mth y r) (by omega)
    rw [cum_12] at this
    unfold mth at this; omega
theorem mth_uniq {y r : Int} {k : Nat} (h0 : 0 ≤ r) (h1 : r < 365 + lp y) (h2 : cum y k ≤ r) (h3 : r < cum y (k + 1)) : mth y r = k := by
  obtain ⟨a, b, c⟩ := mth_spec h0 h1
  by_cases h : mth y r < k
  · have := cum_mono y (a := mth y r + 1) (b := k) (by omega); omega
  · by_cases h' : k < mth y r
    · have := cum_mono y (a := k + 1) (b := mth y r) (by omega); omega
    · omega
def dY (n : Int) : Int := yr n
def dM (n : Int) : Int := (mth (yr n) (n - dby (yr n)) : Int) + 1
def dD (n : Int) : Int := n - dby (yr n) - cum (yr n) (mth (yr n) (n - dby (yr n))) + 1
theorem date_vld {n : Int} (h0 : 0 ≤ n) (h1 : n < 84371) : vldB (dY n) (dM n) (dD n) = true := by
  obtain ⟨a, b, c, d⟩ := yr_spec h0 h1
  have hs := dby_succ (yr n)
  obtain ⟨e, f, g⟩ := mth_spec (y := yr n) (r := n - dby (yr n)) (by omega) (by omega)
  rw [cum_succ] at g
  refine vldB_iff.2 ⟨a, b, ?_, ?_, ?_, ?_⟩ <;> simp only [dM, dD, dY] <;> omega
theorem date_num {n : Int} : num (dY n) (dM n) (dD n) = n := by
  unfold num dM dD dY
  rw [show ((mth (yr n) (n - dby (yr n)) : Int) + 1 - 1).toNat = mth (yr n) (n - dby (yr n)) by omega]
  omega
theorem num_date {y m d : Int} (h : vldB y m d = true) : dY (num y m d) = y ∧ dM (num y m d) = m ∧ dD (num y m d) = d := by
  obtain ⟨n0, n1, n2, n3⟩ := num_bd h
  obtain ⟨a, b, c, e, f, g⟩ := vldB_iff.1 h
  have hy := yr_uniq n0 n1 n2 n3
  have hs := dby_succ y
  have e1 : (((m - 1).toNat : Int) + 1) = m := by omega
  have hm : mth y (num y m d - dby y) = (m - 1).toNat := by
    refine mth_uniq (by omega) (by omega) (by unfold num; omega) ?_
    rw [cum_succ, e1]; unfold num; omega
  unfold dY dM dD
  rw [hy, hm]
  refine ⟨rfl, by omega, ?_⟩
  unfold num; omega
/-- Two dates of one day are one. -/
theorem num_inj {y m d y' m' d' : Int} (h : vldB y m d = true) (h' : vldB y' m' d' = true) (e : num y m d = num y' m' d') : y = y' ∧ m = m' ∧ d = d' := by
  obtain ⟨a, b, c⟩ := num_date h
  obtain ⟨a', b', c'⟩ := num_date h'
  rw [e] at a b c
  exact ⟨a.symm.trans a', b.symm.trans b', c.symm.trans c'⟩
theorem wd_succ (n : Int) : wd (n + 1) = (wd n + 1) % 7 := by unfold wd; omega
theorem wd_bd (n : Int) : 0 ≤ wd n ∧ wd n ≤ 6 := by unfold wd; omega
/-- The next day's date. -/
theorem num_next {y m d : Int} (h : vldB y m d = true) : ∀ y' m' d' : Int, vldB y' m' d' = true → num y' m' d' = num y m d + 1 → (d' = d + 1 ∧ m' = m ∧ y' = y) ∨ (d' = 1 ∧ ((m' = m + 1 ∧ y' = y) ∨ (m' = 1 ∧ m = 12 ∧ y' = y + 1))) := by
  intro y' m' d' h' e
  obtain ⟨a, b, c, f, g, i⟩ := vldB_iff.1 h
  by_cases h1 : d + 1 ≤ dim y m
  · have hv : vldB y m (d + 1) = true := vldB_iff.2 ⟨a, b, c, f, by omega, h1⟩
    have := num_inj h' hv (by rw [e]; unfold num; omega)
    exact .inl ⟨this.2.2, this.2.1, this.1⟩
  · have hd : d = dim y m := by omega
    by_cases h2 : m < 12
    · have hv : vldB y (m + 1) 1 = true := vldB_iff.2 ⟨a, b, by omega, by omega, by omega, by have := (dim_bd y (m + 1)).1; omega⟩
      have hc : cum y (m + 1 - 1).toNat = cum y (m - 1).toNat + dim y m := by
        rw [show (m + 1 - 1).toNat = (m - 1).toNat + 1 by omega, cum_succ, show (((m - 1).toNat : Int) + 1) = m by omega]
      have := num_inj h' hv (by rw [e]; unfold num; omega)
      exact .inr ⟨this.2.2, .inl ⟨this.2.1, this.1⟩⟩
    · have hm : m = 12 := by omega
      subst hm
      have hn : num y 12 d + 1 = dby (y + 1) := by
        have h3 := cum_12 y
        have h4 := cum_succ y 11
        have h5 := dby_succ y
        have h6 : ((12 : Int) - 1).toNat = 11 := rfl
        unfold num; rw [h6]
        have h7 : dim y ((11 : Nat) + 1) = dim y 12 := rfl
        have h8 : cum y (11 + 1) = cum y 12 := rfl
        omega
      have hy : y + 1 ≤ 2200 := by
        have hb := num_bd h'
        by_cases hc : y + 1 ≤ 2200
        · exact hc
        · have : y = 2200 := by omega
          subst this
          have := dby_2201
          rw [e, hn] at hb
          have h9 : dby (2200 + 1) = dby 2201 := rfl
          omega
      have hv : vldB (y + 1) 1 1 = true := vldB_iff.2 ⟨by omega, hy, by omega, by omega, by omega, by have := (dim_bd (y + 1) 1).1; omega⟩
      have := num_inj h' hv (by rw [e, hn]; unfold num; simp [cum])
      exact .inr ⟨this.2.2, .inr ⟨this.2.1, rfl, this.1⟩⟩
/-- Later dates have more days. -/
theorem num_lt {y m d y' m' d' : Int} (h : vldB y m d = true) (h' : vldB y' m' d' = true) : num y m d < num y' m' d' ↔ (y < y' ∨ y = y' ∧ (m < m' ∨ m = m' ∧ d < d')) := by
  obtain ⟨n0, n1, n2, n3⟩ := num_bd h
  obtain ⟨k0, k1, k2, k3⟩ := num_bd h'
  obtain ⟨a, b, c, f, g, i⟩ := vldB_iff.1 h
  obtain ⟨a', b', c', f', g', i'⟩ := vldB_iff.1 h'
  by_cases hy : y < y'
  · have := dby_mono (a := y + 1) (b := y') (by omega)
    omega
  · by_cases hy' : y' < y
    · have := dby_mono (a := y' + 1) (b := y) (by omega)
      omega
    · have : y = y' := by omega
      subst this
      by_cases hm : m < m'
      · have := cum_strict y (a := (m - 1).toNat) (b := (m' - 1).toNat) (by omega)
        rw [show (((m - 1).toNat : Int) + 1) = m by omega] at this
        unfold num; omega
      · by_cases hm' : m' < m
        · have := cum_strict y (a := (m' - 1).toNat) (b := (m - 1).toNat) (by omega)
          rw [show (((m' - 1).toNat : Int) + 1) = m' by omega] at this
          unfold num; omega
        · have : m = m' := by omega
          subst this
          unfold num; omega
end Go.Proofs.YtehlnhljpdjppaaGreatDoor.Civ
/- Contracts of package civil's small functions: leap years, lengths of months, days ahead of a year, days of the week. -/
namespace Go.Proofs.YtehlnhljpdjppaaGreatDoor
open Go.RowKit
theorem ret_int {k : IntKind} {a b : Int} (h : a = b) : Ending.returned (.int k a) = .returned (.int k b) := by rw [h]
theorem ret_bool {a b : Bool} (h : a = b) : Ending.returned (.bool a) = .returned (.bool b) := by rw [h]
def lenCells : List Int := [31, 28, 31, 30, 31, 30, 31, 31, 30, 31, 30, 31]
/-- The lengths of the months lie in the variable 'lengths'. -/
def LenIn (w : World) : Prop := ∀ (j : Nat) (v : Int), lenCells[j]? = some v → w.cell? ⟨1, j, none⟩ = some (.int .i64 v)
theorem lp_yes {y : Int} (h : Civ.lpB y = true) : Civ.lp y = 1 := by unfold Civ.lp; rw [if_pos h]
theorem lp_no {y : Int} (h : Civ.lpB y = false) : Civ.lp y = 0 := by unfold Civ.lp; rw [if_neg (by simp [h])]
set_option maxHeartbeats 400000 in
theorem isLeap_any (y : Int) (w : World) (h0 : 0 ≤ y) (h1 : y ≤ 100000) :
    Calls Tryz.prog 83 #[.int .i64 y] w fun e w' => e = .returned (.bool (Civ.lpB y)) ∧ w' = w := by
  go_enter Tryz.func83, Tryz.ntmps83
  go_wp2
  all_goals go_ret
  all_goals refine ⟨ret_bool ?_, rfl⟩
  all_goals unfold Civ.lpB
  all_goals (rw [Bool.eq_iff_iff]; simp at *; omega)
set_option maxHeartbeats 400000 in
theorem isMonth_any (y m : Int) (w : World) :
    Calls Tryz.prog 68 #[.int .i64 y, .int .i64 m] w fun e w' => e = .returned (.bool (Civ.monB y m)) ∧ w' = w := by
  go_enter Tryz.func68, Tryz.ntmps68
  go_wp2
  all_goals go_ret
  all_goals refine ⟨ret_bool ?_, rfl⟩
  all_goals unfold Civ.monB
  all_goals (rw [Bool.eq_iff_iff]; simp at *; omega)
set_option maxHeartbeats 400000 in
theorem leaps_any (y : Int) (w : World) (h0 : 1 ≤ y) (h1 : y ≤ 100000) :
    Calls Tryz.prog 70 #[.int .i64 y] w fun e w' => e = .returned (.int .i64 (Civ.lps y)) ∧ w' = w := by
  go_enter Tryz.func70, Tryz.ntmps70
  go_wp2
  go_ret
  exact ⟨ret_int rfl, rfl⟩
theorem lps_bd {y : Int} (h0 : 1 ≤ y) (h1 : y ≤ 100000) : 0 ≤ Civ.lps y ∧ Civ.lps y ≤ 30000 := by unfold Civ.lps; omega
theorem lps_70 : Civ.lps 1970 = 477 := by decide
set_option maxHeartbeats 400000 in
theorem ahead_any (y : Int) (w : World) (h0 : 1970 ≤ y) (h1 : y ≤ 100000) :
    Calls Tryz.prog 47 #[.int .i64 y] w fun e w' => e = .returned (.int .i64 (Civ.dby y)) ∧ w' = w := by
  obtain ⟨l0, l1⟩ := lps_bd (y := y) (by omega) h1
  obtain ⟨k0, k1⟩ := lps_bd (y := 1970) (by omega) (by omega)
  go_enter Tryz.func47, Tryz.ntmps47
  go_wp2_with (go_at_call 70; refine (leaps_any _ _ (by omega) (by omega)).mono ?_; rintro e w' ⟨rfl, rfl⟩)
  go_ret
  exact ⟨ret_int (by unfold Civ.dby; rw [lps_70]), rfl⟩
set_option maxHeartbeats 400000 in
theorem week_any (n : Int) (w : World) :
    Calls Tryz.prog 49 #[.int .i64 n] w fun e w' => e = .returned (.int .i64 (Civ.wd n)) ∧ w' = w := by
  have hb : -7 < n.tmod 7 ∧ n.tmod 7 < 7 := ⟨by have := Int.lt_tmod_of_pos n (b := 7) (by omega); omega, Int.tmod_lt_of_pos _ (by omega)⟩
  obtain ⟨b0, b1⟩ := hb
  have he : Hid (n.tmod 7 = n - 7 * n.tdiv 7) := by show _ = _; have := Int.mul_tdiv_add_tmod n 7; omega
  go_enter Tryz.func49, Tryz.ntmps49
  go_wp2
  go_ret
  refine ⟨ret_int ?_, rfl⟩
  unfold Civ.wd
  have := he.out
  omega
set_option maxHeartbeats 400000 in
theorem yearOf_any (n : Int) (w : World) (h0 : 0 ≤ n) (h1 : n < 84371) :
    Calls Tryz.prog 77 #[.int .i64 n] w fun e w' => e = .returned (.int .i64 (Civ.yr n)) ∧ w' = w := by
  have g0 := Civ.guess n h0
  go_enter Tryz.func77, Tryz.ntmps77
  go_wp2
  go_loop [3] (fun t => ∃ y : Int, 1970 ≤ y ∧ y ≤ 2200 ∧ Civ.dby y ≤ n ∧ t = .int .i64 y) (fun t => (2201 - intOf t).toNat)
  case atStart => exact ⟨_, by omega, by omega, g0, rfl⟩
  case round =>
    obtain ⟨y, hy1, hy2, hy3, rfl⟩ := hrel
    by_cases hd : Civ.dby (y + 1) ≤ n
    · have hy : y + 1 ≤ 2200 := by
        by_cases e : y + 1 ≤ 2200
        · exact e
        · have : y = 2200 := by omega
          subst this
          have := Civ.dby_2201
          have h9 : Civ.dby (2200 + 1) = Civ.dby 2201 := rfl
          omega
      go_wp2_with (go_at_call 47; refine (ahead_any _ _ (by omega) (by omega)).mono ?_; rintro e w' ⟨rfl, rfl⟩)
      exact ⟨⟨y + 1, by omega, by omega, hd, rfl⟩, by simp [intOf]; omega⟩
    · have he : Hid (Civ.yr n = y) := by show _ = _; exact Civ.yr_uniq h0 h1 hy3 (by omega)
      go_wp2_with (go_at_call 47; refine (ahead_any _ _ (by omega) (by omega)).mono ?_; rintro e w' ⟨rfl, rfl⟩)
      go_ret
      exact ⟨ret_int he.out.symm, rfl⟩
end Go.Proofs.YtehlnhljpdjppaaGreatDoor
/- Contracts of package civil's monthLength, isTime, Is. -/
namespace Go.Proofs.YtehlnhljpdjppaaGreatDoor
open Go.RowKit
def lenOf (m : Int) : Int := if m = 2 then 28 else if m = 4 ∨ m = 6 ∨ m = 9 ∨ m = 11 then 30 else 31
theorem dim_2 {y : Int} (h : Civ.lpB y = true) : Civ.dim y 2 = 29 := by unfold Civ.dim; rw [if_pos rfl, lp_yes h]; rfl
theorem dim_2n {y : Int} (h : Civ.lpB y = false) : Civ.dim y 2 = 28 := by unfold Civ.dim; rw [if_pos rfl, lp_no h]; rfl
theorem len_at {w : World} (hT : LenIn w) {m : Int} (h0 : 1 ≤ m) (h1 : m ≤ 12) : w.cell? ⟨1, (m - 1).toNat, none⟩ = some (.int .i64 (lenOf m)) := by
  have hm : m = 1 ∨ m = 2 ∨ m = 3 ∨ m = 4 ∨ m = 5 ∨ m = 6 ∨ m = 7 ∨ m = 8 ∨ m = 9 ∨ m = 10 ∨ m = 11 ∨ m = 12 := by omega
  rcases hm with rfl | rfl | rfl | rfl | rfl | rfl | rfl | rfl | rfl | rfl | rfl | rfl
  all_goals exact hT _ _ rfl
theorem dim_len {y m : Int} (h : ¬ (m = 2 ∧ Civ.lpB y = true)) : Civ.dim y m = lenOf m := by
  unfold Civ.dim lenOf
  by_cases hm : m = 2
  · rw [if_pos hm, if_pos hm]
    have : Civ.lpB y = false := by
      cases hb : Civ.lpB y
      · rfl
      · exact absurd ⟨hm, hb⟩ h
    rw [lp_no this]; rfl
  · rw [if_neg hm, if_neg hm]
set_option maxHeartbeats 400000 in
theorem length_any (y m : Int) (w : World) (hT : LenIn w) (h0 : 0 ≤ y) (h1 : y ≤ 100000) (m0 : 1 ≤ m) (m1 : m ≤ 12) :
    Calls Tryz.prog 69 #[.int .i64 y, .int .i64 m] w fun e w' => e = .returned (.int .i64 (Civ.dim y m)) ∧ w' = w := by
  have hc := len_at hT m0 m1
  by_cases hm : m = 2
  · subst hm
    have hc' : w.cell? ⟨1, 1, none⟩ = some (.int .i64 28) := hc
    clear hc
    cases hb : Civ.lpB y
    · have he : Hid (Civ.dim y 2 = 28) := dim_2n hb
      go_enter Tryz.func69, Tryz.ntmps69
      go_wp2_with (go_at_call 83; refine (isLeap_any _ _ (by omega) (by omega)).mono ?_; rintro e w' ⟨rfl, rfl⟩)
      go_ret
      exact ⟨ret_int he.out.symm, rfl⟩
    · have he : Hid (Civ.dim y 2 = 29) := dim_2 hb
      go_enter Tryz.func69, Tryz.ntmps69
      go_wp2_with (go_at_call 83; refine (isLeap_any _ _ (by omega) (by omega)).mono ?_; rintro e w' ⟨rfl, rfl⟩)
      go_ret
      exact ⟨ret_int he.out.symm, rfl⟩
  · have he : Hid (Civ.dim y m = lenOf m) := dim_len (by rintro ⟨h, _⟩; exact hm h)
    have hm' : m = 1 ∨ m = 3 ∨ m = 4 ∨ m = 5 ∨ m = 6 ∨ m = 7 ∨ m = 8 ∨ m = 9 ∨ m = 10 ∨ m = 11 ∨ m = 12 := by omega
    clear hm
    rcases hm' with rfl | rfl | rfl | rfl | rfl | rfl | rfl | rfl | rfl | rfl | rfl
    all_goals
      simp [lenOf] at hc
      go_enter Tryz.func69, Tryz.ntmps69
      go_wp2
      go_ret
      exact ⟨ret_int he.out.symm, rfl⟩
set_option maxHeartbeats 1000000 in
theorem isTime_any (y m d h mi s : Int) (w : World) :
    Calls Tryz.prog 43 #[.agg #[.int .i64 y, .int .i64 m, .int .i64 d, .int .i64 h, .int .i64 mi, .int .i64 s]] w fun e w' => e = .returned (.bool (Civ.timB h mi s)) ∧ Below w.heap.size w w' := by
  go_enter Tryz.func43, Tryz.ntmps43
  go_wp2
  all_goals go_ret
  all_goals refine ⟨ret_bool ?_, (Below.refl _ _).alloc (Nat.le_refl _) _⟩
  all_goals unfold Civ.timB
  all_goals (rw [Bool.eq_iff_iff]; simp at *; omega)
theorem vld_mon {y m d : Int} (h : Civ.monB y m = false) : Civ.vldB y m d = false := by
  cases hv : Civ.vldB y m d
  · rfl
  · obtain ⟨a, b, c, e, _⟩ := Civ.vldB_iff.1 hv
    rw [Civ.monB_iff.2 ⟨a, b, c, e⟩] at h; cases h
theorem LenIn.below {n : Nat} {w w' : World} (h : LenIn w) (hn : 1 < n) (hb : Below n w w') : LenIn w' := fun j v hv => (hb.cell (p := ⟨1, j, none⟩) hn).trans (h j v hv)
theorem LenIn.pos {w : World} (h : LenIn w) : 1 < w.heap.size := by
  rcases Nat.lt_or_ge 1 w.heap.size with hl | hl
  · exact hl
  · have h0 := h 0 31 rfl
    have : w.cell? ⟨1, 0, none⟩ = none := by
      unfold World.cell?
      rw [Array.getElem?_eq_none hl]
    rw [this] at h0; cases h0
theorem LenIn.alloc {w : World} (h : LenIn w) (o : Obj) : LenIn (w.alloc o) := h.below h.pos ((Below.refl _ _).alloc (Nat.le_refl _) o)
end Go.Proofs.YtehlnhljpdjppaaGreatDoor
/- The contract of package civil's Is. -/
namespace Go.Proofs.YtehlnhljpdjppaaGreatDoor
open Go.RowKit
theorem below_drewN (w : World) (n : Nat) : Below w.heap.size w (w.drewN n) := by
  induction n with
  | zero => exact Below.refl _ _
  | succ n ih => exact ih.drew
theorem below_drew {w w' : World} (h : Below w.heap.size w w') (k : Nat) : Below w.heap.size w (w'.drewN k) := h.trans ((below_drewN w' k).mono h.size)
set_option maxHeartbeats 4000000 in
theorem is_any (y m d : Int) (w : World) (hT : LenIn w) :
    Calls Tryz.prog 46 #[.agg #[.int .i64 y, .int .i64 m, .int .i64 d]] w fun e w' => e = .returned (.bool (Civ.vldB y m d)) ∧ Below w.heap.size w w' := by
  have hT1 := hT.alloc (.cells #[.int .i64 y, .int .i64 m, .int .i64 d] 26)
  have hfin : ∀ nq, Below w.heap.size w ((w.alloc (.cells #[.int .i64 y, .int .i64 m, .int .i64 d] 26)).drewN nq) := fun nq => below_drew ((Below.refl _ _).alloc (Nat.le_refl _) _) nq
  have hT2 : ∀ nq, LenIn ((w.alloc (.cells #[.int .i64 y, .int .i64 m, .int .i64 d] 26)).drewN nq) := fun nq => hT.below hT.pos (hfin nq)
  cases hm : Civ.monB y m
  · have he : Hid (Civ.vldB y m d = false) := vld_mon hm
    go_enter Tryz.func46, Tryz.ntmps46
    go_wp2
    go_quiet ((go_at_call 68; exact Calls.quiet_of_same (isMonth_any _ _ _)))
    go_wp2
    go_ret
    exact ⟨ret_bool he.out.symm, hfin _⟩
  · obtain ⟨y0, y1, m0, m1⟩ := Civ.monB_iff.1 hm
    by_cases h3 : 1 ≤ d
    · have he : Hid (Civ.vldB y m d = decide (d ≤ Civ.dim y m)) := by
        show _ = _
        unfold Civ.vldB; rw [Bool.eq_iff_iff]; simp; omega
      go_enter Tryz.func46, Tryz.ntmps46
      go_wp2
      go_quiet ((first | (go_at_call 68; exact Calls.quiet_of_same (isMonth_any _ _ _)) | (go_at_call 69; exact Calls.quiet_of_same (length_any _ _ _ (by assumption) (by omega) (by omega) (by omega) (by omega)))))
      go_wp2
      go_ret
      exact ⟨ret_bool he.out.symm, hfin _⟩
    · have hd : decide (1 ≤ d) = false := by simpa using h3
      have he : Hid (Civ.vldB y m d = false) := by
        show _ = _
        unfold Civ.vldB; rw [Bool.eq_false_iff]; simp; omega
      go_enter Tryz.func46, Tryz.ntmps46
      go_wp2
      go_quiet ((go_at_call 68; exact Calls.quiet_of_same (isMonth_any _ _ _)))
      go_wp2
      go_ret
      exact ⟨ret_bool he.out.symm, hfin _⟩
end Go.Proofs.YtehlnhljpdjppaaGreatDoor
