/- The text of a moment: two digits a number, four a year; how texts of moments compare. -/
import Derived.Lib.ItoaNum

namespace Go.Proofs.YtgogbbhbkckfgaaDoor.Civ
def d2 (n : Nat) : List UInt8 := [UInt8.ofNat (48 + n / 10), UInt8.ofNat (48 + n % 10)]
def d4 (n : Nat) : List UInt8 := d2 (n / 100) ++ d2 (n % 100)
def txt (y m d h mi s : Nat) : List UInt8 := d4 y ++ ([45] ++ (d2 m ++ ([45] ++ (d2 d ++ ([32] ++ (d2 h ++ ([58] ++ (d2 mi ++ ([58] ++ d2 s)))))))))
theorem dec_step {u : Nat} (h : ¬ u < 10) : Lib.decDigits u = Lib.decDigits (u / 10) ++ [UInt8.ofNat (48 + u % 10)] := by rw [Lib.decDigits, dif_neg h]
theorem dec_d2 {n : Nat} (h0 : 10 ≤ n) (h1 : n < 100) : Lib.decDigits n = d2 n := by
  rw [dec_step (by omega), Lib.decDigits_one (by omega)]; rfl
theorem dec_d1 {n : Nat} (h1 : n < 10) : [48] ++ Lib.decDigits n = d2 n := by
  rw [Lib.decDigits_one h1]
  unfold d2
  rw [show n / 10 = 0 by omega, show n % 10 = n by omega]; rfl
theorem dec_d4 {n : Nat} (h0 : 1000 ≤ n) (h1 : n < 10000) : Lib.decDigits n = d4 n := by
  rw [dec_step (by omega), dec_step (by omega), dec_d2 (by omega) (by omega)]
  unfold d4 d2
  rw [show n / 10 / 10 = n / 100 by omega, show n / 10 % 10 = n % 100 / 10 by omega, show n % 10 = n % 100 % 10 by omega]
  rfl
theorem itoa_d4 {n : Nat} (h0 : 1000 ≤ n) (h1 : n < 10000) : Lib.itoa (n : Int) = d4 n := by
  unfold Lib.itoa; rw [if_neg (by omega)]; exact dec_d4 h0 h1
theorem ofNat_lt {a b : Nat} (ha : a < 256) (hb : b < 256) : UInt8.ofNat a < UInt8.ofNat b ↔ a < b := by
  rw [UInt8.lt_iff_toNat_lt]; simp [Nat.mod_eq_of_lt ha, Nat.mod_eq_of_lt hb]
theorem ofNat_eq {a b : Nat} (ha : a < 256) (hb : b < 256) : UInt8.ofNat a = UInt8.ofNat b ↔ a = b := by
  rw [← UInt8.toNat_inj]; simp [Nat.mod_eq_of_lt ha, Nat.mod_eq_of_lt hb]
theorem d2_lt {a b : Nat} (ha : a < 100) (hb : b < 100) (l m : List UInt8) : d2 a ++ l < d2 b ++ m ↔ a < b ∨ a = b ∧ l < m := by
  unfold d2
  simp only [List.cons_append, List.nil_append, List.cons_lt_cons_iff]
  rw [ofNat_lt (by omega) (by omega), ofNat_lt (by omega) (by omega), ofNat_eq (by omega) (by omega), ofNat_eq (by omega) (by omega)]
  by_cases hl : l < m
  · simp only [hl, and_true]; omega
  · simp only [hl, and_false, or_false]; omega
theorem d2_lt0 {a b : Nat} (ha : a < 100) (hb : b < 100) : d2 a < d2 b ↔ a < b := by
  have := d2_lt ha hb [] []
  simpa using this
theorem d4_lt {a b : Nat} (ha : a < 10000) (hb : b < 10000) (l m : List UInt8) : d4 a ++ l < d4 b ++ m ↔ a < b ∨ a = b ∧ l < m := by
  unfold d4
  rw [List.append_assoc, List.append_assoc, d2_lt (by omega) (by omega), d2_lt (by omega) (by omega)]
  by_cases hl : l < m
  · simp only [hl, and_true]; omega
  · simp only [hl, and_false, or_false]; omega
theorem one_lt (c : UInt8) (l m : List UInt8) : [c] ++ l < [c] ++ m ↔ l < m := by
  simp only [List.cons_append, List.nil_append, List.cons_lt_cons_iff]
  simp
theorem txt_lt {y m d h mi s y' m' d' h' mi' s' : Nat} (a1 : y < 10000) (a2 : m < 100) (a3 : d < 100) (a4 : h < 100) (a5 : mi < 100) (a6 : s < 100) (b1 : y' < 10000) (b2 : m' < 100) (b3 : d' < 100) (b4 : h' < 100) (b5 : mi' < 100) (b6 : s' < 100) :
    txt y m d h mi s < txt y' m' d' h' mi' s' ↔ y < y' ∨ y = y' ∧ (m < m' ∨ m = m' ∧ (d < d' ∨ d = d' ∧ (h < h' ∨ h = h' ∧ (mi < mi' ∨ mi = mi' ∧ s < s')))) := by
  unfold txt
  rw [d4_lt a1 b1, one_lt, d2_lt a2 b2, one_lt, d2_lt a3 b3, one_lt, d2_lt a4 b4, one_lt, d2_lt a5 b5, one_lt, d2_lt0 a6 b6]
theorem d2_len (n : Nat) : (d2 n).length = 2 := rfl
theorem d4_len (n : Nat) : (d4 n).length = 4 := rfl
end Go.Proofs.YtgogbbhbkckfgaaDoor.Civ
