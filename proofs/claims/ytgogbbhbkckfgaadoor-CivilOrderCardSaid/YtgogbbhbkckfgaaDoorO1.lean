/- How two moments compare: their times, their texts, the first number that is unlike. -/
import Derived.Test.YtgogbbhbkckfgaaDoorMath
import Derived.Test.YtgogbbhbkckfgaaDoorMathT
import GoSem.Op.String
namespace Go.Proofs.YtgogbbhbkckfgaaDoor
theorem less_dec : ∀ (x y : List UInt8), Op.bytesLess x y = decide (x < y) := by
  intro x
  induction x with
  | nil => intro y; cases y <;> simp [Op.bytesLess]
  | cons a x ih =>
    intro y
    cases y with
    | nil => simp [Op.bytesLess]
    | cons b y =>
      rw [Op.bytesLess, ih y]
      simp only [List.cons_lt_cons_iff]
      by_cases h1 : a < b <;> by_cases h2 : a = b <;> by_cases h3 : x < y <;> simp [h1, h2, h3]
/-- The first difference that is not 0 of six numbers. -/
def dif (l m : Nat → Int) : Nat → Int
  | 0 => 0
  | k + 1 => if dif l m k = 0 then l k - m k else dif l m k
namespace Civ
theorem sec_lt {y m d h mi s y' m' d' h' mi' s' : Int} (v : vldB y m d = true) (t : timB h mi s = true) (v' : vldB y' m' d' = true) (t' : timB h' mi' s' = true) :
    sec y m d h mi s < sec y' m' d' h' mi' s' ↔ y < y' ∨ y = y' ∧ (m < m' ∨ m = m' ∧ (d < d' ∨ d = d' ∧ (h < h' ∨ h = h' ∧ (mi < mi' ∨ mi = mi' ∧ s < s')))) := by
  obtain ⟨a0, a1, a2, a3, a4, a5⟩ := timB_iff.1 t
  obtain ⟨b0, b1, b2, b3, b4, b5⟩ := timB_iff.1 t'
  have h1 := num_lt v v'
  have h2 := num_lt v' v
  have h3 : num y m d = num y' m' d' ↔ y = y' ∧ m = m' ∧ d = d' := ⟨num_inj v v', fun ⟨e1, e2, e3⟩ => by rw [e1, e2, e3]⟩
  unfold sec
  generalize num y m d = n at *
  generalize num y' m' d' = n' at *
  rcases Int.lt_trichotomy n n' with hn | hn | hn
  · have := h1.1 hn; constructor <;> intro <;> omega
  · have := h3.1 hn; constructor <;> intro <;> omega
  · have := h2.1 hn; constructor <;> intro <;> omega
end Civ
end Go.Proofs.YtgogbbhbkckfgaaDoor
