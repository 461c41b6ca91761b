/- What blanks at the end count for in Parse: nothing; the reference's order of units finds the same unit. -/
import Derived.Test.YtlnfapkpehhafaaDoorMath3
namespace Go.Proofs.YtlnfapkpehhafaaDoor.Sp
def E (n : Nat) (x : List UInt8) : List UInt8 := if x = [] then [] else x ++ List.replicate n 32
theorem E_nil (n : Nat) : E n [] = [] := rfl
theorem E_ne (n : Nat) {x : List UInt8} (h : x ≠ []) : E n x = x ++ List.replicate n 32 := by unfold E; rw [if_neg h]
theorem E_empty (n : Nat) (x : List UInt8) : (E n x).isEmpty = x.isEmpty := by
  cases x with
  | nil => rfl
  | cons c t => rfl
theorem blk_rep (n : Nat) : blk (List.replicate n 32) = [] := by
  have := blk_blanks n [] (.inl rfl)
  simpa using this
theorem blk_append (n : Nat) (x : List UInt8) : blk (x ++ List.replicate n 32) = E n (blk x) := by
  induction x with
  | nil => rw [List.nil_append, blk_rep]; rfl
  | cons c t ih =>
    by_cases hc : c = 32
    · subst hc
      unfold blk Lib.trimLeftB at ih ⊢
      simpa using ih
    · rw [blk_id (c :: t) (.inr ⟨c, t, rfl, hc⟩), List.cons_append, blk_id _ (.inr ⟨c, _, rfl, hc⟩)]
      rfl
theorem blk_E (n : Nat) (x : List UInt8) : blk (E n x) = E n (blk x) := by
  by_cases h : x = []
  · subst h; rfl
  · rw [E_ne n h, blk_append]
theorem blk_blk (x : List UInt8) : blk (blk x) = blk x := by
  induction x with
  | nil => rfl
  | cons c t ih =>
    by_cases hc : c = 32
    · subst hc
      unfold blk Lib.trimLeftB at ih ⊢
      simpa using ih
    · rw [blk_id (c :: t) (.inr ⟨c, t, rfl, hc⟩), blk_id (c :: t) (.inr ⟨c, t, rfl, hc⟩)]
theorem dg_rep (n : Nat) : dg (List.replicate n 32) = [] := by
  cases n with
  | zero => rfl
  | succ n => simp [dg, List.replicate_succ, isDg]
theorem dg_blanks (n : Nat) (q : List UInt8) : dg (q ++ List.replicate n 32) = dg q := by
  induction q with
  | nil => rw [List.nil_append, dg_rep]; rfl
  | cons c t ih =>
    unfold dg at ih ⊢
    by_cases h : isDg c = true
    · simp [h, ih]
    · simp [h]
theorem pre_blanks (n : Nat) (x p : List UInt8) (hp : ∀ c ∈ p, c ≠ 32) : Lib.hasPrefix (x ++ List.replicate n 32) p = Lib.hasPrefix x p := by
  unfold Lib.hasPrefix
  induction p generalizing x with
  | nil => simp
  | cons a p ih =>
    have ha := hp a (by simp)
    cases x with
    | nil =>
      cases n with
      | zero => rfl
      | succ n =>
        rw [List.nil_append, List.replicate_succ]
        simp only [List.isPrefixOf]
        have : (a == 32) = false := by rw [beq_eq_false_iff_ne]; exact ha
        rw [this]; rfl
    | cons c t =>
      rw [List.cons_append]
      simp only [List.isPrefixOf]
      rw [ih t (fun c hc => hp c (by simp [hc]))]
theorem hasPrefix_len {x p : List UInt8} (h : Lib.hasPrefix x p = true) : p.length ≤ x.length := by
  unfold Lib.hasPrefix at h
  exact (List.isPrefixOf_iff_prefix.1 h).length_le
theorem trim_blanks (n : Nat) (x p : List UInt8) (h : Lib.hasPrefix x p = true) : Lib.trimPrefix (x ++ List.replicate n 32) p = Lib.trimPrefix x p ++ List.replicate n 32 ∨ ∃ c ∈ p, c = 32 := by
  by_cases hp : ∀ c ∈ p, c ≠ 32
  · left
    unfold Lib.trimPrefix
    rw [pre_blanks n x p hp, h, if_pos rfl, if_pos rfl, List.drop_append_of_le_length (hasPrefix_len h)]
  · right
    have : ∃ c, c ∈ p ∧ c = 32 := by
      refine Classical.byContradiction fun hn => hp fun c hc e => hn ⟨c, hc, e⟩
    obtain ⟨c, hc, e⟩ := this
    exact ⟨c, hc, e⟩
theorem unit_blanks (T : List (List UInt8 × Int)) (hT : ∀ y ∈ T, ∀ c ∈ y.1, c ≠ 32) (n : Nat) (x : List UInt8) :
    unitV T (x ++ List.replicate n 32) = unitV T x ∧ unitR T (x ++ List.replicate n 32) = unitR T x ++ List.replicate n 32 ∧ unitB T (x ++ List.replicate n 32) = unitB T x := by
  induction T with
  | nil => exact ⟨rfl, rfl, rfl⟩
  | cons y r ih =>
    obtain ⟨p, k⟩ := y
    have hp : ∀ c ∈ p, c ≠ 32 := hT (p, k) (by simp)
    obtain ⟨a, b, c⟩ := ih (fun z hz => hT z (by simp [hz]))
    unfold unitV unitR unitB
    rw [pre_blanks n x p hp]
    cases h : Lib.hasPrefix x p with
    | true =>
      rcases trim_blanks n x p h with h2 | ⟨c, hc, e⟩
      · exact ⟨rfl, by simpa using h2, rfl⟩
      · exact absurd e (hp c hc)
    | false => exact ⟨by simpa using a, by simpa using b, by simpa using c⟩
theorem part_blanks (n : Nat) (q : List UInt8) : partB (q ++ List.replicate n 32) = partB q ∧ (numB q = true → partV (q ++ List.replicate n 32) = partV q ∧ partR (q ++ List.replicate n 32) = E n (partR q)) := by
  have hd := dg_blanks n q
  have hB : numB (q ++ List.replicate n 32) = numB q := by unfold numB; rw [hd]
  have hV : numV (q ++ List.replicate n 32) = numV q := by unfold numV; rw [hd]
  by_cases hb : numB q = true
  · have h18 : (dg q).length ≤ 18 := by unfold numB at hb; simp only [Bool.and_eq_true, decide_eq_true_eq] at hb; exact hb.2
    have hR : numR (q ++ List.replicate n 32) = numR q ++ List.replicate n 32 := by
      unfold numR
      rw [hd, if_neg (by omega), if_neg (by omega), List.drop_append_of_le_length (dg_le q)]
    have ha : aftR (q ++ List.replicate n 32) = E n (aftR q) := by unfold aftR; rw [hR, blk_append]
    have hu : unitV readT (E n (aftR q)) = unitV readT (aftR q) ∧ blk (unitR readT (E n (aftR q))) = E n (blk (unitR readT (aftR q))) ∧ unitB readT (E n (aftR q)) = unitB readT (aftR q) := by
      by_cases h : aftR q = []
      · rw [h, E_nil]; exact ⟨rfl, rfl, rfl⟩
      · rw [E_ne n h]
        obtain ⟨a, b, c⟩ := unit_blanks readT (by decide) n (aftR q)
        rw [a, b, c]
        exact ⟨rfl, blk_append n _, rfl⟩
    have hpR : partR (q ++ List.replicate n 32) = E n (partR q) := by unfold partR; rw [ha, hu.2.1]
    refine ⟨?_, fun _ => ⟨?_, hpR⟩⟩
    · unfold partB; rw [hB, ha, hu.2.2, hpR, E_empty]
    · unfold partV; rw [hV, ha, hu.1]
  · refine ⟨?_, fun h => absurd h hb⟩
    unfold partB
    rw [hB]
    have : numB q = false := by simpa using hb
    rw [this]; rfl
theorem parseGo_E (n : Nat) : ∀ (f : Nat) (t : Int) (q : List UInt8), parseGo f t (E n q) = parseGo f t q := by
  intro f
  induction f with
  | zero => intro t q; unfold parseGo; rw [E_empty]
  | succ f ih =>
    intro t q
    unfold parseGo
    rw [E_empty]
    by_cases hq : q = []
    · subst hq; rfl
    · have hne : q.isEmpty = false := by cases q <;> simp_all
      rw [E_ne n hq, hne]
      obtain ⟨hB, h2⟩ := part_blanks n q
      rw [hB]
      cases hb : partB q with
      | false => rfl
      | true =>
        have hn : numB q = true := by unfold partB at hb; simp only [Bool.and_eq_true] at hb; exact hb.1
        obtain ⟨hV, hR⟩ := h2 hn
        rw [hV, hR]
        simp only [Bool.false_eq_true, if_false, if_true]
        exact ih _ _
/-- What the reference goes through: the text without blanks around it. -/
theorem parse_trim (l R : List UInt8) (n : Nat) (hl : l ≠ infL) (h : blk l = R ++ List.replicate n 32) : parse l = if R.isEmpty then none else parseGo l.length 0 R := by
  have hinf : (l == infL) = false := by rw [beq_eq_false_iff_ne]; exact hl
  unfold parse
  rw [hinf]
  by_cases hR : R = []
  · subst hR
    have h2 := blk_blk l
    rw [h, List.nil_append, blk_rep] at h2
    rw [h, List.nil_append, ← h2]
    rfl
  · have he : R.isEmpty = false := by cases R <;> simp_all
    rw [h, ← E_ne n hR, E_empty, he, parseGo_E]
    simp
/-! The reference's own order of units. -/
def refT : List (List UInt8 × Int) := [([115, 101, 99], 1), ([109, 105, 110], 60), ([104, 114], 3600), ([115], 1), ([109], 60), ([104], 3600), ([100], 86400), ([119], 604800)]
theorem ref_unit (l : List UInt8) : unitV refT l = unitV readT l ∧ unitR refT l = unitR readT l ∧ unitB refT l = unitB readT l := by
  cases l with
  | nil => exact ⟨rfl, rfl, rfl⟩
  | cons c t =>
    by_cases h1 : c = 115
    · subst h1
      simp [unitV, unitR, unitB, refT, readT, Lib.hasPrefix, Lib.trimPrefix, List.isPrefixOf]
    · by_cases h2 : c = 109
      · subst h2
        simp [unitV, unitR, unitB, refT, readT, Lib.hasPrefix, Lib.trimPrefix, List.isPrefixOf]
      · by_cases h3 : c = 104
        · subst h3
          simp [unitV, unitR, unitB, refT, readT, Lib.hasPrefix, Lib.trimPrefix, List.isPrefixOf]
        · have e1 : (115 == c) = false := by rw [beq_eq_false_iff_ne]; exact fun e => h1 e.symm
          have e2 : (109 == c) = false := by rw [beq_eq_false_iff_ne]; exact fun e => h2 e.symm
          have e3 : (104 == c) = false := by rw [beq_eq_false_iff_ne]; exact fun e => h3 e.symm
          simp [unitV, unitR, unitB, refT, readT, Lib.hasPrefix, Lib.trimPrefix, List.isPrefixOf, e1, e2, e3]
/-- How many bytes the unit at the head takes. -/
def unitN : List (List UInt8 × Int) → List UInt8 → Nat
  | [], _ => 0
  | (p, _) :: r, l => if Lib.hasPrefix l p then p.length else unitN r l
theorem unitN_drop (T : List (List UInt8 × Int)) (l : List UInt8) : unitR T l = l.drop (unitN T l) := by
  induction T with
  | nil => rfl
  | cons y r ih =>
    obtain ⟨p, k⟩ := y
    unfold unitR unitN
    cases h : Lib.hasPrefix l p with
    | true => simp [Lib.trimPrefix, h]
    | false => simpa using ih
theorem unitN_zero (T : List (List UInt8 × Int)) (hT : ∀ y ∈ T, y.1 ≠ []) (l : List UInt8) : (unitN T l = 0 ↔ unitB T l = false) ∧ unitN T l ≤ l.length := by
  induction T with
  | nil => exact ⟨⟨fun _ => rfl, fun _ => rfl⟩, Nat.zero_le _⟩
  | cons y r ih =>
    obtain ⟨p, k⟩ := y
    have hp : p ≠ [] := hT (p, k) (by simp)
    have hr := ih (fun z hz => hT z (by simp [hz]))
    unfold unitN unitB
    cases h : Lib.hasPrefix l p with
    | true =>
      have := hasPrefix_len h
      have hl : 0 < p.length := List.length_pos_iff.2 hp
      simp only [if_true]
      exact ⟨⟨fun e => by omega, fun e => by cases e⟩, this⟩
    | false => simpa using hr
/-- How many blanks stand at the head. -/
def bl (l : List UInt8) : Nat := (l.takeWhile (· == 32)).length
theorem blk_drop (l : List UInt8) : blk l = l.drop (bl l) := by
  unfold blk bl Lib.trimLeftB
  have h := List.takeWhile_append_dropWhile (p := (· == (32 : UInt8))) (l := l)
  have h2 := congrArg (List.drop (l.takeWhile (· == 32)).length) h
  rw [List.drop_left] at h2
  exact h2
theorem bl_le (l : List UInt8) : bl l ≤ l.length := (List.takeWhile_prefix _).length_le
theorem bl_cons_yes (t : List UInt8) : bl (32 :: t) = bl t + 1 := by simp [bl]
theorem bl_cons_no (c : UInt8) (t : List UInt8) (h : c ≠ 32) : bl (c :: t) = 0 := by simp [bl, h]
theorem times_ref (n k : Int) (hk : 1 ≤ k) : (if n * k < top then n * k else top) = timesS n k := by
  unfold timesS
  by_cases h : top / k < n
  · rw [if_pos h]
    have h2 : ¬ n * k < top := by
      intro hlt
      have := Int.le_ediv_of_mul_le (show 0 < k by omega) (show n * k ≤ top by omega)
      omega
    rw [if_neg h2]
  · rw [if_neg h]
    have h2 : n * k ≤ top := Int.mul_le_of_le_ediv (by omega) (by omega)
    split <;> omega
end Go.Proofs.YtlnfapkpehhafaaDoor.Sp
