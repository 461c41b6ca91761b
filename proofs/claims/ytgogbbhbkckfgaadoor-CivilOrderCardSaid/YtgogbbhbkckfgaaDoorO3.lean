/- The law CivilOrder, where both are moments: what its loop reckons, what lies in memory. -/
import Derived.Test.YtgogbbhbkckfgaaDoorT2
namespace Go.Proofs.YtgogbbhbkckfgaaDoor
open Go.RowKit
def vec (a b c d e f : Int) : Nat → Int
  | 0 => a
  | 1 => b
  | 2 => c
  | 3 => d
  | 4 => e
  | _ => f
theorem dif_step (l m : Nat → Int) (k : Nat) (h : dif l m k = 0) : dif l m (k + 1) = l k - m k := by
  show (if dif l m k = 0 then _ else _) = _
  rw [if_pos h]
theorem dif_way (l m : Nat → Int) (k : Nat) : (dif l m k = 0 ∧ dif l m (k + 1) = l k - m k) ∨ (dif l m k ≠ 0 ∧ dif l m (k + 1) = dif l m k) := by
  by_cases h : dif l m k = 0
  · exact .inl ⟨h, dif_step l m k h⟩
  · refine .inr ⟨h, ?_⟩
    show (if dif l m k = 0 then _ else _) = _
    rw [if_neg h]
theorem dif_stay (l m : Nat → Int) (k : Nat) (h : dif l m k ≠ 0) : ∀ j, dif l m (k + j) = dif l m k
  | 0 => rfl
  | j + 1 => by
    have ih := dif_stay l m k h j
    rcases dif_way l m (k + j) with ⟨e, _⟩ | ⟨_, e⟩
    · rw [ih] at e; exact absurd e h
    · rw [ih] at e; exact e
theorem dif_bd (l m : Nat → Int) (B : Int) (hB : 0 ≤ B) (hl : ∀ k, 0 ≤ l k ∧ l k ≤ B) (hm : ∀ k, 0 ≤ m k ∧ m k ≤ B) : ∀ k, -B ≤ dif l m k ∧ dif l m k ≤ B
  | 0 => by show -B ≤ 0 ∧ 0 ≤ B; omega
  | k + 1 => by
    have ih := dif_bd l m B hB hl hm k
    have := hl k
    have := hm k
    unfold dif
    split <;> omega
theorem dif_6 (a b c d e f a' b' c' d' e' f' : Int) : (dif (vec a b c d e f) (vec a' b' c' d' e' f') 6 < 0 ↔ (a < a' ∨ a = a' ∧ (b < b' ∨ b = b' ∧ (c < c' ∨ c = c' ∧ (d < d' ∨ d = d' ∧ (e < e' ∨ e = e' ∧ f < f')))))) ∧ (dif (vec a b c d e f) (vec a' b' c' d' e' f') 6 = 0 ↔ (a = a' ∧ b = b' ∧ c = c' ∧ d = d' ∧ e = e' ∧ f = f')) := by
  have q := fun k => dif_way (vec a b c d e f) (vec a' b' c' d' e' f') k
  have q0 := q 0
  have q1 := q 1
  have q2 := q 2
  have q3 := q 3
  have q4 := q 4
  have q5 := q 5
  have z : dif (vec a b c d e f) (vec a' b' c' d' e' f') 0 = 0 := rfl
  simp only [vec, z, Nat.reduceAdd] at q0 q1 q2 q3 q4 q5
  generalize dif (vec a b c d e f) (vec a' b' c' d' e' f') 1 = D1 at *
  generalize dif (vec a b c d e f) (vec a' b' c' d' e' f') 2 = D2 at *
  generalize dif (vec a b c d e f) (vec a' b' c' d' e' f') 3 = D3 at *
  generalize dif (vec a b c d e f) (vec a' b' c' d' e' f') 4 = D4 at *
  generalize dif (vec a b c d e f) (vec a' b' c' d' e' f') 5 = D5 at *
  generalize dif (vec a b c d e f) (vec a' b' c' d' e' f') 6 = D6 at *
  clear q z
  omega
/-- The three ways that two moments can stand. -/
def OWay (X Z C : Int) (L : Bool) : Prop := (X < Z ∧ C < 0 ∧ L = true) ∨ (X = Z ∧ C = 0 ∧ L = false) ∨ (Z < X ∧ 0 < C ∧ L = false)
theorem oway {y m d h mi s y' m' d' h' mi' s' : Int} (v : Civ.vldB y m d = true) (t : Civ.timB h mi s = true) (v' : Civ.vldB y' m' d' = true) (t' : Civ.timB h' mi' s' = true) :
    OWay (Civ.sec y m d h mi s) (Civ.sec y' m' d' h' mi' s') (dif (vec y m d h mi s) (vec y' m' d' h' mi' s') 6) (Op.bytesLess (prT y m d h mi s) (prT y' m' d' h' mi' s')) := by
  have h1 := Civ.sec_lt v t v' t'
  have h2 := Civ.sec_lt v' t' v t
  obtain ⟨h3, h4⟩ := dif_6 y m d h mi s y' m' d' h' mi' s'
  rw [less_dec]
  unfold prT
  rw [if_pos (by simp [mOk, v, t]), if_pos (by simp [mOk, v', t'])]
  obtain ⟨v0, v1, v2, v3, v4, v5⟩ := Civ.vldB_iff.1 v
  have v6 := (Civ.dim_bd y m).2
  obtain ⟨a0, a1, a2, a3, a4, a5⟩ := Civ.timB_iff.1 t
  obtain ⟨u0, u1, u2, u3, u4, u5⟩ := Civ.vldB_iff.1 v'
  have u6 := (Civ.dim_bd y' m').2
  obtain ⟨b0, b1, b2, b3, b4, b5⟩ := Civ.timB_iff.1 t'
  have h5 := Civ.txt_lt (y := y.toNat) (m := m.toNat) (d := d.toNat) (h := h.toNat) (mi := mi.toNat) (s := s.toNat) (y' := y'.toNat) (m' := m'.toNat) (d' := d'.toNat) (h' := h'.toNat) (mi' := mi'.toNat) (s' := s'.toNat) (by omega) (by omega) (by omega) (by omega) (by omega) (by omega) (by omega) (by omega) (by omega) (by omega) (by omega) (by omega)
  have h6 : (y.toNat < y'.toNat ∨ y.toNat = y'.toNat ∧ (m.toNat < m'.toNat ∨ m.toNat = m'.toNat ∧ (d.toNat < d'.toNat ∨ d.toNat = d'.toNat ∧ (h.toNat < h'.toNat ∨ h.toNat = h'.toNat ∧ (mi.toNat < mi'.toNat ∨ mi.toNat = mi'.toNat ∧ s.toNat < s'.toNat))))) ↔ (y < y' ∨ y = y' ∧ (m < m' ∨ m = m' ∧ (d < d' ∨ d = d' ∧ (h < h' ∨ h = h' ∧ (mi < mi' ∨ mi = mi' ∧ s < s'))))) := by omega
  rw [h6] at h5
  generalize Civ.sec y m d h mi s = X at *
  generalize Civ.sec y' m' d' h' mi' s' = Z at *
  generalize dif (vec y m d h mi s) (vec y' m' d' h' mi' s') 6 = C at *
  rcases Int.lt_trichotomy X Z with hx | hx | hx
  · have hl := h1.1 hx
    exact .inl ⟨hx, h3.2 hl, decide_eq_true (h5.2 hl)⟩
  · have hl : ¬ (y < y' ∨ y = y' ∧ (m < m' ∨ m = m' ∧ (d < d' ∨ d = d' ∧ (h < h' ∨ h = h' ∧ (mi < mi' ∨ mi = mi' ∧ s < s'))))) := fun e => by have := h1.2 e; omega
    have hg : ¬ (y' < y ∨ y' = y ∧ (m' < m ∨ m' = m ∧ (d' < d ∨ d' = d ∧ (h' < h ∨ h' = h ∧ (mi' < mi ∨ mi' = mi ∧ s' < s))))) := fun e => by have := h2.2 e; omega
    exact .inr (.inl ⟨hx, h4.2 (by omega), decide_eq_false fun e => hl (h5.1 e)⟩)
  · have hg := h2.1 hx
    have hl : ¬ (y < y' ∨ y = y' ∧ (m < m' ∨ m = m' ∧ (d < d' ∨ d = d' ∧ (h < h' ∨ h = h' ∧ (mi < mi' ∨ mi = mi' ∧ s < s'))))) := fun e => by have := h1.2 e; omega
    refine .inr (.inr ⟨hx, ?_, decide_eq_false fun e => hl (h5.1 e)⟩)
    have e1 : ¬ C < 0 := fun e => hl (h3.1 e)
    have e2 : ¬ C = 0 := fun e => by have := h4.1 e; omega
    omega
end Go.Proofs.YtgogbbhbkckfgaaDoor
