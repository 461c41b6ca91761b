/- Reading what is printed: the digits of a number are read as the number; a part is read as its number times its unit; Parse of Print is the number. -/
import Derived.Test.YtlnfapkpehhafaaDoorMath
namespace Go.Proofs.YtlnfapkpehhafaaDoor.Sp
theorem dgt (d : Nat) (h : d < 10) : (UInt8.ofNat (48 + d)).toNat = 48 + d := by
  rw [UInt8.toNat_ofNat']; omega
theorem dec_step {u : Nat} (h : ¬ u < 10) : Lib.decDigits u = Lib.decDigits (u / 10) ++ [UInt8.ofNat (48 + u % 10)] := by rw [Lib.decDigits, dif_neg h]
theorem dec_all (u : Nat) : ∀ c ∈ Lib.decDigits u, isDg c = true := by
  induction u using Nat.strongRecOn with
  | _ u ih =>
    by_cases h : u < 10
    · rw [Lib.decDigits_one h]
      intro c hc
      rw [List.mem_singleton] at hc
      subst hc
      have := dgt u h
      simp only [isDg, this, Bool.and_eq_true, decide_eq_true_eq]
      omega
    · rw [dec_step h]
      intro c hc
      rw [List.mem_append, List.mem_singleton] at hc
      rcases hc with hc | rfl
      · exact ih (u / 10) (by omega) c hc
      · have := dgt (u % 10) (by omega)
        simp only [isDg, this, Bool.and_eq_true, decide_eq_true_eq]
        omega
theorem dec_val (u : Nat) : valS (Lib.decDigits u) = u := by
  induction u using Nat.strongRecOn with
  | _ u ih =>
    by_cases h : u < 10
    · rw [Lib.decDigits_one h]
      have := dgt u h
      simp only [valS, List.foldl_cons, List.foldl_nil, this]
      omega
    · rw [dec_step h, valS_snoc, ih (u / 10) (by omega), dgt (u % 10) (by omega)]
      omega
theorem dec_len (k : Nat) : ∀ u : Nat, u < 10 ^ (k + 1) → (Lib.decDigits u).length ≤ k + 1 := by
  induction k with
  | zero => intro u h; rw [Lib.decDigits_one (by simpa using h)]; simp
  | succ k ih =>
    intro u h
    by_cases h10 : u < 10
    · rw [Lib.decDigits_one h10]; simp
    · rw [dec_step h10, List.length_append, List.length_singleton]
      have := ih (u / 10) (by rw [Nat.pow_succ] at h; omega)
      omega
theorem dec_ne (u : Nat) : Lib.decDigits u ≠ [] := by
  intro h
  have h1 := Lib.decDigits_length u
  have h2 := Lib.nDigits_pos u
  rw [h] at h1
  simp at h1
  omega
/-- The digits at the head: D, where what stands behind them is no digit. -/
def NoDg (r : List UInt8) : Prop := r = [] ∨ ∃ c t, r = c :: t ∧ isDg c = false
theorem dg_append (D r : List UInt8) (hD : ∀ c ∈ D, isDg c = true) (hr : NoDg r) : dg (D ++ r) = D := by
  induction D with
  | nil =>
    rcases hr with rfl | ⟨c, t, rfl, hc⟩
    · rfl
    · simp [dg, hc]
  | cons c t ih =>
    have h1 := ih (fun x hx => hD x (by simp [hx]))
    unfold dg at h1 ⊢
    simp [hD c (by simp), h1]
theorem num_of (D r : List UInt8) (hD : ∀ c ∈ D, isDg c = true) (hr : NoDg r) (hne : D ≠ []) (h18 : D.length ≤ 18) : numV (D ++ r) = valS D ∧ numR (D ++ r) = r ∧ numB (D ++ r) = true := by
  have h := dg_append D r hD hr
  have hp : 0 < D.length := List.length_pos_iff.2 hne
  unfold numV numR numB
  rw [h]
  refine ⟨by rw [if_neg (by omega)], by rw [if_neg (by omega), List.drop_left], by simp; omega⟩
theorem blk_id (r : List UInt8) (h : r = [] ∨ ∃ c t, r = c :: t ∧ c ≠ 32) : blk r = r := by
  rcases h with rfl | ⟨c, t, rfl, hc⟩
  · rfl
  · simp [blk, Lib.trimLeftB, hc]
theorem blk_blanks (n : Nat) (r : List UInt8) (h : r = [] ∨ ∃ c t, r = c :: t ∧ c ≠ 32) : blk (List.replicate n 32 ++ r) = r := by
  induction n with
  | zero => simpa using blk_id r h
  | succ n ih =>
    rw [List.replicate_succ, List.cons_append]
    unfold blk Lib.trimLeftB at ih ⊢
    simpa using ih
/-- What may stand behind a unit: nothing, a blank, a digit. -/
def Brk (r : List UInt8) : Prop := r = [] ∨ ∃ c t, r = c :: t ∧ (c = 32 ∨ isDg c = true)
def unitsT : List (List UInt8 × Int) := [([115], 1), ([115, 101, 99], 1), ([109], 60), ([109, 105, 110], 60), ([104], 3600), ([104, 114], 3600), ([100], 86400), ([119], 604800)]
theorem brk_no {c : UInt8} (h : c = 32 ∨ isDg c = true) (x : UInt8) (hx : 58 ≤ x.toNat) : (x == c) = false := by
  rcases h with rfl | h
  · rw [beq_eq_false_iff_ne]; intro h; rw [h] at hx; simp at hx
  · simp only [isDg, Bool.and_eq_true, decide_eq_true_eq] at h
    rw [beq_eq_false_iff_ne]; intro e; rw [e] at hx; omega
theorem unit_of (u : List UInt8) (k : Int) (hu : (u, k) ∈ unitsT) (r : List UInt8) (hr : Brk r) : unitV readT (u ++ r) = k ∧ unitR readT (u ++ r) = r ∧ unitB readT (u ++ r) = true := by
  have h1 : ∀ c t, r = c :: t → (101 == c) = false ∧ (105 == c) = false ∧ (114 == c) = false := by
    intro c t e
    rcases hr with rfl | ⟨c', t', rfl, hc⟩
    · cases e
    · cases e
      exact ⟨brk_no hc 101 (by decide), brk_no hc 105 (by decide), brk_no hc 114 (by decide)⟩
  simp only [unitsT, List.mem_cons, List.mem_nil_iff, or_false, Prod.mk.injEq] at hu
  cases r with
  | nil => rcases hu with ⟨rfl, rfl⟩ | ⟨rfl, rfl⟩ | ⟨rfl, rfl⟩ | ⟨rfl, rfl⟩ | ⟨rfl, rfl⟩ | ⟨rfl, rfl⟩ | ⟨rfl, rfl⟩ | ⟨rfl, rfl⟩ <;> (refine ⟨?_, ?_, ?_⟩ <;> decide)
  | cons c t =>
    obtain ⟨e1, e2, e3⟩ := h1 c t rfl
    rcases hu with ⟨rfl, rfl⟩ | ⟨rfl, rfl⟩ | ⟨rfl, rfl⟩ | ⟨rfl, rfl⟩ | ⟨rfl, rfl⟩ | ⟨rfl, rfl⟩ | ⟨rfl, rfl⟩ | ⟨rfl, rfl⟩ <;> (refine ⟨?_, ?_, ?_⟩ <;> simp [unitV, unitR, unitB, readT, Lib.hasPrefix, Lib.trimPrefix, List.isPrefixOf, e1, e2, e3])
theorem brk_blanks (n : Nat) (r : List UInt8) (hr : r = [] ∨ ∃ c t, r = c :: t ∧ isDg c = true) : Brk (List.replicate n 32 ++ r) := by
  cases n with
  | zero =>
    rcases hr with rfl | ⟨c, t, rfl, hc⟩
    · exact .inl rfl
    · exact .inr ⟨c, t, rfl, .inr hc⟩
  | succ n => exact .inr ⟨32, _, by rw [List.replicate_succ, List.cons_append], .inl rfl⟩
theorem dg_ne_blank {c : UInt8} (h : isDg c = true) : c ≠ 32 := by rintro rfl; simp [isDg] at h
theorem unit_head (u : List UInt8) (k : Int) (hu : (u, k) ∈ unitsT) : ∃ c t, u = c :: t ∧ c ≠ 32 ∧ isDg c = false := by
  simp only [unitsT, List.mem_cons, List.mem_nil_iff, or_false, Prod.mk.injEq] at hu
  rcases hu with ⟨rfl, rfl⟩ | ⟨rfl, rfl⟩ | ⟨rfl, rfl⟩ | ⟨rfl, rfl⟩ | ⟨rfl, rfl⟩ | ⟨rfl, rfl⟩ | ⟨rfl, rfl⟩ | ⟨rfl, rfl⟩ <;> exact ⟨_, _, rfl, by decide, by decide⟩
/-- ONE PART: digits, blanks, a unit, blanks, and what stands behind, which is nothing or begins with a digit. -/
theorem part_of (D : List UInt8) (m n : Nat) (u : List UInt8) (k : Int) (r : List UInt8) (hD : ∀ c ∈ D, isDg c = true) (hne : D ≠ []) (h18 : D.length ≤ 18) (hu : (u, k) ∈ unitsT) (hr : r = [] ∨ ∃ c t, r = c :: t ∧ isDg c = true) :
    partB (D ++ (List.replicate m 32 ++ (u ++ (List.replicate n 32 ++ r)))) = true ∧ partV (D ++ (List.replicate m 32 ++ (u ++ (List.replicate n 32 ++ r)))) = timesS (valS D) k ∧ partR (D ++ (List.replicate m 32 ++ (u ++ (List.replicate n 32 ++ r)))) = r := by
  obtain ⟨c, t, hut, hc1, hc2⟩ := unit_head u k hu
  have hno : NoDg (List.replicate m 32 ++ (u ++ (List.replicate n 32 ++ r))) := by
    cases m with
    | zero => exact .inr ⟨c, t ++ (List.replicate n 32 ++ r), by rw [hut]; rfl, hc2⟩
    | succ m => exact .inr ⟨32, _, by rw [List.replicate_succ, List.cons_append], by decide⟩
  obtain ⟨hv, hR, hB⟩ := num_of D _ hD hno hne h18
  have hb1 : blk (List.replicate m 32 ++ (u ++ (List.replicate n 32 ++ r))) = u ++ (List.replicate n 32 ++ r) :=
    blk_blanks m _ (.inr ⟨c, t ++ (List.replicate n 32 ++ r), by rw [hut]; rfl, hc1⟩)
  obtain ⟨uv, uR, uB⟩ := unit_of u k hu (List.replicate n 32 ++ r) (brk_blanks n r hr)
  have hb2 : blk (List.replicate n 32 ++ r) = r := blk_blanks n r (by
    rcases hr with rfl | ⟨c, t, rfl, hc⟩
    · exact .inl rfl
    · exact .inr ⟨c, t, rfl, dg_ne_blank hc⟩)
  have ha : aftR (D ++ (List.replicate m 32 ++ (u ++ (List.replicate n 32 ++ r)))) = u ++ (List.replicate n 32 ++ r) := by unfold aftR; rw [hR, hb1]
  refine ⟨?_, ?_, ?_⟩
  · unfold partB; rw [hB, ha, uB]; rfl
  · unfold partV; rw [hv, ha, uv]
  · unfold partR; rw [ha, uR, hb2]
end Go.Proofs.YtlnfapkpehhafaaDoor.Sp
