/- Two ways to a rising list without doubles: one by one, or sorted and then the doubles struck. -/
import Derived.Test.YtimmieelpaoncaaDoorNM
import Derived.Lib.SlicesCompact
namespace Go.Proofs.YtimmieelpaoncaaDoor.Nam
def ins (x : L) : List L → List L
  | [] => [x]
  | y :: ys => if y < x then y :: ins x ys else if y = x then y :: ys else x :: y :: ys
def rs (l : List L) : List L := l.foldl (fun acc x => ins x acc) []
theorem rs_snoc (l : List L) (x : L) : rs (l ++ [x]) = ins x (rs l) := by simp [rs]
theorem ins_at (x : L) : ∀ (xs : List L) (k : Nat), k ≤ xs.length → (∀ j y, j < k → xs[j]? = some y → y < x) → (∀ y, xs[k]? = some y → ¬ y < x) →
    ins x xs = if xs[k]? = some x then xs else xs.take k ++ x :: xs.drop k
  | [], k, hk, _, _ => by
    have : k = 0 := by simpa using hk
    subst this; simp [ins]
  | y :: ys, 0, _, _, hs => by
    have h1 := hs y rfl
    unfold ins
    rw [if_neg h1]
    by_cases e : y = x <;> simp [e]
  | y :: ys, k + 1, hk, hb, hs => by
    have h1 := hb 0 y (by omega) rfl
    unfold ins
    rw [if_pos h1, ins_at x ys k (by simpa using hk) (fun j z hj hz => hb (j + 1) z (by omega) (by simpa using hz)) (fun z hz => hs z (by simpa using hz))]
    by_cases e : ys[k]? = some x <;> simp [e]
theorem mem_ins (x a : L) : ∀ xs : List L, a ∈ ins x xs ↔ a = x ∨ a ∈ xs
  | [] => by simp [ins]
  | y :: ys => by
    have ih := mem_ins x a ys
    unfold ins
    by_cases h : y < x
    · simp only [if_pos h, List.mem_cons, ih]; constructor
      · rintro (h | h | h) <;> simp [h]
      · rintro (h | h | h) <;> simp [h]
    · rw [if_neg h]
      by_cases e : y = x
      · rw [if_pos e]; subst e; simp
      · rw [if_neg e]; simp
theorem lt_of_not (x y : L) (h : ¬ y < x) (e : y ≠ x) : x < y := by
  have h1 : x ≤ y := h
  rcases Std.le_iff_lt_or_eq.1 h1 with h2 | h2
  · exact h2
  · exact absurd h2.symm e
theorem pair_ins (x : L) : ∀ xs : List L, xs.Pairwise (· < ·) → (ins x xs).Pairwise (· < ·)
  | [], _ => by simp [ins]
  | y :: ys, h => by
    obtain ⟨h1, h2⟩ := List.pairwise_cons.1 h
    unfold ins
    by_cases hl : y < x
    · rw [if_pos hl]
      refine List.pairwise_cons.2 ⟨fun a ha => ?_, pair_ins x ys h2⟩
      rcases (mem_ins x a ys).1 ha with rfl | ha
      · exact hl
      · exact h1 a ha
    · rw [if_neg hl]
      by_cases e : y = x
      · rw [if_pos e]; exact h
      · rw [if_neg e]
        have hxy := lt_of_not x y hl e
        refine List.pairwise_cons.2 ⟨fun a ha => ?_, h⟩
        rcases List.mem_cons.1 ha with rfl | ha
        · exact hxy
        · exact List.lt_trans hxy (h1 a ha)
theorem len_ins (x : L) : ∀ xs : List L, (ins x xs).length ≤ xs.length + 1
  | [] => by simp [ins]
  | y :: ys => by
    have := len_ins x ys
    unfold ins
    split
    · simp; omega
    · split <;> simp
theorem rs_has (l : List L) : (rs l).Pairwise (· < ·) ∧ ∀ a, a ∈ rs l ↔ a ∈ l := by
  have : ∀ (l acc : List L), acc.Pairwise (· < ·) → (l.foldl (fun acc x => ins x acc) acc).Pairwise (· < ·) ∧ ∀ a, a ∈ l.foldl (fun acc x => ins x acc) acc ↔ a ∈ acc ∨ a ∈ l := by
    intro l
    induction l with
    | nil => intro acc h; exact ⟨h, fun a => by simp⟩
    | cons x xs ih =>
      intro acc h
      obtain ⟨h1, h2⟩ := ih (ins x acc) (pair_ins x acc h)
      refine ⟨h1, fun a => ?_⟩
      rw [List.foldl_cons, h2, mem_ins, List.mem_cons]
      constructor
      · rintro ((h | h) | h) <;> simp [h]
      · rintro (h | h | h) <;> simp [h]
  obtain ⟨h1, h2⟩ := this l [] List.Pairwise.nil
  exact ⟨h1, fun a => by rw [rs, h2]; simp⟩
theorem uniq : ∀ xs ys : List L, xs.Pairwise (· < ·) → ys.Pairwise (· < ·) → (∀ a, a ∈ xs ↔ a ∈ ys) → xs = ys
  | [], [], _, _, _ => rfl
  | [], y :: ys, _, _, h => absurd ((h y).2 (by simp)) (by simp)
  | x :: xs, [], _, _, h => absurd ((h x).1 (by simp)) (by simp)
  | x :: xs, y :: ys, hx, hy, h => by
    obtain ⟨x1, x2⟩ := List.pairwise_cons.1 hx
    obtain ⟨y1, y2⟩ := List.pairwise_cons.1 hy
    have e : x = y := by
      rcases List.mem_cons.1 ((h x).1 (by simp)) with h1 | h1
      · exact h1
      · rcases List.mem_cons.1 ((h y).2 (by simp)) with h2 | h2
        · exact h2.symm
        · exact absurd (x1 y h2) (List.lt_asymm (y1 x h1))
    subst e
    rw [uniq xs ys x2 y2 fun a => ?_]
    constructor
    · intro ha
      rcases List.mem_cons.1 ((h a).1 (by simp [ha])) with h1 | h1
      · subst h1; exact absurd (x1 a ha) (List.lt_irrefl a)
      · exact h1
    · intro ha
      rcases List.mem_cons.1 ((h a).2 (by simp [ha])) with h1 | h1
      · subst h1; exact absurd (y1 a ha) (List.lt_irrefl a)
      · exact h1
open Go.Lib in
theorem cu (d : Array L) (hs : ∀ i j : Nat, i < j → j < d.size → d[i]! ≤ d[j]!) : ∀ m, m ≤ d.size → (compactUpTo d m).Pairwise (· < ·) ∧ ∀ a, a ∈ compactUpTo d m ↔ ∃ j, j < m ∧ d[j]! = a
  | 0, _ => ⟨by simp [compactUpTo], fun a => by simp [compactUpTo]⟩
  | m + 1, hm => by
    obtain ⟨h1, h2⟩ := cu d hs m (by omega)
    rw [compactUpTo_succ]
    by_cases hk : keeps d m = true
    · rw [if_pos hk]
      constructor
      · refine List.pairwise_append.2 ⟨h1, by simp, fun a ha b hb => ?_⟩
        obtain ⟨j, hj, rfl⟩ := (h2 a).1 ha
        rw [List.mem_singleton] at hb
        subst hb
        have hne : d[m]! ≠ d[m - 1]! := by
          simp only [keeps, decide_eq_true_eq] at hk
          rcases hk with h | h
          · omega
          · exact h
        have hl := hs (m - 1) m (by omega) (by omega)
        have hlt : d[m - 1]! < d[m]! := by
          rcases Std.le_iff_lt_or_eq.1 hl with h | h
          · exact h
          · exact absurd h.symm hne
        by_cases hjm : j = m - 1
        · rw [hjm]; exact hlt
        · have := hs j (m - 1) (by omega) (by omega)
          exact Std.lt_of_le_of_lt this hlt
      · intro a
        rw [List.mem_append, h2, List.mem_singleton]
        constructor
        · rintro (⟨j, hj, e⟩ | e)
          · exact ⟨j, by omega, e⟩
          · exact ⟨m, by omega, e.symm⟩
        · rintro ⟨j, hj, e⟩
          by_cases hjm : j = m
          · subst hjm; exact .inr e.symm
          · exact .inl ⟨j, by omega, e⟩
    · rw [if_neg hk, List.append_nil]
      refine ⟨h1, fun a => ?_⟩
      have hh : m ≠ 0 ∧ d[m]! = d[m - 1]! := by
        simp only [keeps, decide_eq_true_eq, not_or, Decidable.not_not] at hk
        exact hk
      rw [h2]
      constructor
      · rintro ⟨j, hj, e⟩; exact ⟨j, by omega, e⟩
      · rintro ⟨j, hj, e⟩
        by_cases hjm : j = m
        · subst hjm; exact ⟨j - 1, by omega, hh.2 ▸ e⟩
        · exact ⟨j, by omega, e⟩
theorem rise_eq (l : List L) : Lib.compact (l.mergeSort fun x y => decide (x ≤ y)) = rs l := by
  obtain ⟨r1, r2⟩ := rs_has l
  have hp := List.pairwise_mergeSort (le := fun x y : L => decide (x ≤ y)) (fun a b c h1 h2 => by simp only [decide_eq_true_eq] at *; exact List.le_trans h1 h2) (fun a b => by simp only [Bool.or_eq_true, decide_eq_true_eq]; exact List.le_total a b) l
  obtain ⟨c1, c2⟩ := cu (l.mergeSort fun x y => decide (x ≤ y)).toArray (fun i j hij hj => by
    have hj' : j < (l.mergeSort fun x y => decide (x ≤ y)).length := by simpa using hj
    have := List.pairwise_iff_getElem.1 hp i j (by omega) hj' hij
    simp only [decide_eq_true_eq] at this
    rw [getElem!_pos _ i (by simp at hj' ⊢; omega), getElem!_pos _ j hj]
    exact this) _ (Nat.le_refl _)
  refine uniq _ _ (by simpa [Lib.compact] using c1) r1 fun a => ?_
  rw [r2]
  have := c2 a
  simp only [List.size_toArray] at this
  unfold Lib.compact
  rw [this]
  constructor
  · rintro ⟨j, hj, e⟩
    rw [getElem!_pos _ j (by simpa using hj)] at e
    have h := List.getElem_mem (l := l.mergeSort fun x y => decide (x ≤ y)) hj
    rw [← e]
    exact List.mem_mergeSort.1 h
  · intro ha
    obtain ⟨j, hj, e⟩ := List.getElem_of_mem (List.mem_mergeSort (le := fun x y : L => decide (x ≤ y)).2 ha)
    exact ⟨j, hj, by rw [getElem!_pos _ j (by simpa using hj)]; exact e⟩
end Go.Proofs.YtimmieelpaoncaaDoor.Nam
