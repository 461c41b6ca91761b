/- A row of parts is read as the sum of each part's number times its unit; Parse of Print is the number. -/
import Derived.Test.YtlnfapkpehhafaaDoorMath2
namespace Go.Proofs.YtlnfapkpehhafaaDoor.Sp
structure Part where
  D : List UInt8
  m : Nat
  u : List UInt8
  k : Int
  n : Nat
def Part.ok (p : Part) : Prop := (∀ c ∈ p.D, isDg c = true) ∧ p.D ≠ [] ∧ p.D.length ≤ 18 ∧ (p.u, p.k) ∈ unitsT
def txt : List Part → List UInt8
  | [] => []
  | p :: r => p.D ++ (List.replicate p.m 32 ++ (p.u ++ (List.replicate p.n 32 ++ txt r)))
def sumP : List Part → Int
  | [] => 0
  | p :: r => valS p.D * p.k + sumP r
theorem units_pos (u : List UInt8) (k : Int) (hu : (u, k) ∈ unitsT) : 1 ≤ k := by
  simp only [unitsT, List.mem_cons, List.mem_nil_iff, or_false, Prod.mk.injEq] at hu
  rcases hu with ⟨rfl, rfl⟩ | ⟨rfl, rfl⟩ | ⟨rfl, rfl⟩ | ⟨rfl, rfl⟩ | ⟨rfl, rfl⟩ | ⟨rfl, rfl⟩ | ⟨rfl, rfl⟩ | ⟨rfl, rfl⟩ <;> decide
theorem txt_head (P : List Part) (h : ∀ p ∈ P, p.ok) : txt P = [] ∨ ∃ c t, txt P = c :: t ∧ isDg c = true := by
  cases P with
  | nil => exact .inl rfl
  | cons p r =>
    right
    obtain ⟨h1, h2, _, _⟩ := h p (by simp)
    obtain ⟨D, m, u, k, n⟩ := p
    simp only at h1 h2
    cases D with
    | nil => exact absurd rfl h2
    | cons c t => exact ⟨c, _, rfl, h1 c (by simp)⟩
theorem txt_ne (p : Part) (r : List Part) (h : p.ok) : txt (p :: r) ≠ [] := by
  intro e
  unfold txt at e
  exact h.2.1 (List.append_eq_nil_iff.1 e).1
theorem sumP_nonneg (P : List Part) (h : ∀ p ∈ P, p.ok) : 0 ≤ sumP P := by
  induction P with
  | nil => simp [sumP]
  | cons p r ih =>
    have hp := h p (by simp)
    have h1 := (valS_bd p.D hp.1).1
    have h2 := units_pos p.u p.k hp.2.2.2
    have h3 := ih (fun q hq => h q (by simp [hq]))
    have h4 : 0 ≤ valS p.D * p.k := Int.mul_nonneg h1 (by omega)
    unfold sumP
    omega
theorem times_in (n k : Int) (hk : 1 ≤ k) (h : n * k ≤ top) : timesS n k = n * k := by
  unfold timesS
  rw [if_neg]
  have : n ≤ top / k := Int.le_ediv_of_mul_le (by omega) h
  omega
theorem parse_txt (P : List Part) (h : ∀ p ∈ P, p.ok) : ∀ (f : Nat) (t : Int), (txt P).length ≤ f → 0 ≤ t → t + sumP P < top → parseGo f t (txt P) = some (t + sumP P) := by
  induction P with
  | nil => intro f t _ _ _; rw [show txt [] = [] from rfl, parseGo_nil]; simp [sumP]
  | cons p r ih =>
    intro f t hf ht hs
    have hp := h p (by simp)
    have hr : ∀ q ∈ r, q.ok := fun q hq => h q (by simp [hq])
    obtain ⟨hB, hV, hR⟩ := part_of p.D p.m p.n p.u p.k (txt r) hp.1 hp.2.1 hp.2.2.1 hp.2.2.2 (txt_head r hr)
    obtain ⟨g, hg, he⟩ := parseGo_yes f t (txt (p :: r)) (txt_ne p r hp) hf hB
    have h1 := (valS_bd p.D hp.1).1
    have h2 := units_pos p.u p.k hp.2.2.2
    have h3 := sumP_nonneg r hr
    have h4 : 0 ≤ valS p.D * p.k := Int.mul_nonneg h1 (by omega)
    have hs' : t + (valS p.D * p.k + sumP r) < top := hs
    have hV' : partV (txt (p :: r)) = valS p.D * p.k := by
      show partV (p.D ++ (List.replicate p.m 32 ++ (p.u ++ (List.replicate p.n 32 ++ txt r)))) = _
      rw [hV, times_in _ _ h2 (by omega)]
    have hR' : partR (txt (p :: r)) = txt r := hR
    have ha : addS t (valS p.D * p.k) = t + valS p.D * p.k := by
      unfold addS low
      unfold top at hs' ⊢
      rw [if_neg (by omega), if_neg (by omega), if_neg (by omega)]
    rw [he, hV', hR', ha, ih hr g _ (by rw [← hR']; exact hg) (by omega) (by omega)]
    simp only [sumP]
    rw [Int.add_assoc]
/-- A text of parts, at least one, with blanks ahead or none: read whole. -/
theorem parse_parts (a : Nat) (p : Part) (r : List Part) (h : ∀ q ∈ p :: r, q.ok) (hs : sumP (p :: r) < top) : parse (List.replicate a 32 ++ txt (p :: r)) = some (sumP (p :: r)) := by
  have hh : txt (p :: r) = [] ∨ ∃ c t, txt (p :: r) = c :: t ∧ isDg c = true := txt_head _ h
  obtain ⟨c, t, hc, hd⟩ : ∃ c t, txt (p :: r) = c :: t ∧ isDg c = true := by
    rcases hh with h0 | h0
    · exact absurd h0 (txt_ne p r (h p (by simp)))
    · exact h0
  have hb : blk (List.replicate a 32 ++ txt (p :: r)) = txt (p :: r) := blk_blanks a _ (.inr ⟨c, t, hc, dg_ne_blank hd⟩)
  have hinf : (List.replicate a 32 ++ txt (p :: r) == infL) = false := by
    rw [beq_eq_false_iff_ne]
    intro e
    cases a with
    | zero =>
      rw [hc] at e
      have e1 : c = 105 := by
        have := congrArg List.head? e
        simpa [infL] using this
      rw [e1] at hd
      simp [isDg] at hd
    | succ a =>
      rw [List.replicate_succ, List.cons_append] at e
      have := congrArg List.head? e
      simp [infL] at this
  unfold parse
  rw [hinf, hb]
  have hne : (txt (p :: r)).isEmpty = false := by rw [hc]; rfl
  rw [hne]
  have := parse_txt (p :: r) h (List.replicate a 32 ++ txt (p :: r)).length 0 (by rw [List.length_append]; omega) (by omega) (by omega)
  rw [Int.zero_add] at this
  simpa using this
/-! Print -/
structure Item where
  c : Int
  u : List UInt8
  k : Int
def items : List (List UInt8 × Int) → Int → List Item
  | [], _ => []
  | (u, k) :: r, n => (if 0 < n / k then [⟨n / k, u, k⟩] else []) ++ items r (n % k)
def toP : List Item → List Part
  | [] => []
  | [x] => [⟨Lib.itoa x.c, 0, x.u, x.k, 0⟩]
  | x :: y :: r => ⟨Lib.itoa x.c, 0, x.u, x.k, 1⟩ :: toP (y :: r)
theorem partsOf_items (T : List (List UInt8 × Int)) : ∀ n, partsOf T n = (items T n).map fun x => Lib.itoa x.c ++ x.u := by
  induction T with
  | nil => intro n; rfl
  | cons x r ih =>
    intro n
    obtain ⟨u, k⟩ := x
    unfold partsOf items
    rw [ih, List.map_append]
    split <;> rfl
theorem join_toP (L : List Item) : Lib.join (L.map fun x => Lib.itoa x.c ++ x.u) [32] = txt (toP L) := by
  induction L with
  | nil => rfl
  | cons x t ih =>
    cases t with
    | nil => simp [Lib.join, List.intercalate, toP, txt]
    | cons y r =>
      have e : Lib.join ((x :: y :: r).map fun x => Lib.itoa x.c ++ x.u) [32] = (Lib.itoa x.c ++ x.u) ++ [32] ++ Lib.join ((y :: r).map fun x => Lib.itoa x.c ++ x.u) [32] := by
        simp [Lib.join, List.intercalate]
      rw [e, ih]
      simp [toP, txt]
def sumI : List Item → Int
  | [] => 0
  | x :: r => x.c * x.k + sumI r
def remT : List (List UInt8 × Int) → Int → Int
  | [], n => n
  | (_, k) :: r, n => remT r (n % k)
theorem sum_items (T : List (List UInt8 × Int)) (hT : ∀ x ∈ T, 1 ≤ x.2) : ∀ n, 0 ≤ n → sumI (items T n) + remT T n = n := by
  induction T with
  | nil => intro n _; simp [items, sumI, remT]
  | cons x r ih =>
    intro n hn
    obtain ⟨u, k⟩ := x
    have hk : 1 ≤ k := hT (u, k) (by simp)
    have hm : 0 ≤ n % k := Int.emod_nonneg _ (by omega)
    have hr := ih (fun y hy => hT y (by simp [hy])) (n % k) hm
    have hd : 0 ≤ n / k := Int.ediv_nonneg hn (by omega)
    have hq := Int.mul_ediv_add_emod n k
    unfold items remT
    split
    · simp only [List.cons_append, List.nil_append, sumI]
      rw [Int.mul_comm (n / k) k]
      omega
    · have hz : n / k = 0 := by omega
      rw [hz, Int.mul_zero] at hq
      simp only [List.nil_append]
      omega
theorem rem_writ (n : Int) : remT writT n = 0 := by
  simp only [writT, remT]
  exact Int.emod_one _
theorem sumP_toP (L : List Item) (h : ∀ x ∈ L, 0 ≤ x.c) : sumP (toP L) = sumI L := by
  have hv : ∀ x ∈ L, valS (Lib.itoa x.c) = x.c := fun x hx => by
    have := h x hx
    unfold Lib.itoa
    rw [if_neg (by omega), dec_val]
    omega
  induction L with
  | nil => rfl
  | cons x t ih =>
    have ih2 := ih (fun y hy => h y (by simp [hy])) (fun y hy => hv y (by simp [hy]))
    cases t with
    | nil => simp [toP, sumP, sumI, hv x (by simp)]
    | cons y r =>
      unfold toP sumP sumI
      rw [ih2]
      simp only
      rw [hv x (by simp)]
theorem item_ok (x : Item) (h0 : 0 ≤ x.c) (h1 : x.c < 1000000000000000000) (hu : (x.u, x.k) ∈ unitsT) (n : Nat) : Part.ok ⟨Lib.itoa x.c, 0, x.u, x.k, n⟩ := by
  have e : Lib.itoa x.c = Lib.decDigits x.c.toNat := by unfold Lib.itoa; rw [if_neg (by omega)]
  unfold Part.ok
  simp only
  rw [e]
  refine ⟨dec_all _, dec_ne _, dec_len 17 _ ?_, hu⟩
  have : (10 : Nat) ^ (17 + 1) = 1000000000000000000 := by decide
  omega
theorem toP_ok (L : List Item) (h : ∀ x ∈ L, 0 ≤ x.c ∧ x.c < 1000000000000000000 ∧ (x.u, x.k) ∈ unitsT) : ∀ p ∈ toP L, p.ok := by
  induction L with
  | nil => intro p hp; simp [toP] at hp
  | cons x t ih =>
    have hx := h x (by simp)
    have ih2 := ih (fun y hy => h y (by simp [hy]))
    cases t with
    | nil =>
      intro p hp
      simp only [toP, List.mem_singleton] at hp
      subst hp
      exact item_ok x hx.1 hx.2.1 hx.2.2 0
    | cons y r =>
      intro p hp
      simp only [toP, List.mem_cons] at hp
      rcases hp with rfl | hp
      · exact item_ok x hx.1 hx.2.1 hx.2.2 1
      · exact ih2 p hp
theorem items_ok (T : List (List UInt8 × Int)) (hT : ∀ x ∈ T, x ∈ unitsT) : ∀ n, 0 ≤ n → n < 1000000000000000000 → ∀ x ∈ items T n, 0 ≤ x.c ∧ x.c < 1000000000000000000 ∧ (x.u, x.k) ∈ unitsT := by
  induction T with
  | nil => intro n _ _ x hx; simp [items] at hx
  | cons y r ih =>
    intro n h0 h1 x hx
    obtain ⟨u, k⟩ := y
    have hu := hT (u, k) (by simp)
    have hk := units_pos u k hu
    have hm : 0 ≤ n % k := Int.emod_nonneg _ (by omega)
    have hm2 : n % k ≤ n := by
      have := Int.mul_ediv_add_emod n k
      have h3 : 0 ≤ k * (n / k) := Int.mul_nonneg (by omega) (Int.ediv_nonneg h0 (by omega))
      omega
    have hd := Int.ediv_le_self k h0
    unfold items at hx
    rw [List.mem_append] at hx
    rcases hx with hx | hx
    · split at hx
      · rw [List.mem_singleton] at hx
        subst hx
        exact ⟨by simp only; omega, by simp only; omega, hu⟩
      · simp at hx
    · exact ih (fun z hz => hT z (by simp [hz])) (n % k) hm (by omega) x hx
theorem items_writ_ok (n : Int) (h0 : 0 ≤ n) (h1 : n < top) : ∀ x ∈ items writT n, 0 ≤ x.c ∧ x.c < 1000000000000000000 ∧ (x.u, x.k) ∈ unitsT := by
  unfold top at h1
  have hr := items_ok writT.tail (by decide) (n % 604800) (by omega) (by omega)
  intro x hx
  have e : items writT n = (if 0 < n / 604800 then [⟨n / 604800, [119], 604800⟩] else []) ++ items writT.tail (n % 604800) := rfl
  rw [e, List.mem_append] at hx
  rcases hx with hx | hx
  · split at hx
    · rw [List.mem_singleton] at hx
      subst hx
      refine ⟨by simp only; omega, by simp only; omega, ?_⟩
      simp [unitsT]
    · simp at hx
  · exact hr x hx
theorem parse_print (n : Int) (h0 : 0 ≤ n) (h1 : n ≤ top) : parse (print n) = some n := by
  have hp : print n = printP n := by unfold print low; unfold top at h1; rw [if_neg (by omega), if_neg (by omega)]
  rw [hp]
  unfold printP
  by_cases ht : n = top
  · rw [if_pos ht, ht]; decide +kernel
  · rw [if_neg ht]
    by_cases hz : n = 0
    · rw [if_pos hz, hz]; decide +kernel
    · rw [if_neg hz, partsOf_items, join_toP]
      have hlt : n < top := by omega
      have hi := items_writ_ok n h0 hlt
      have hok := toP_ok _ hi
      have hs : sumP (toP (items writT n)) = n := by
        rw [sumP_toP _ (fun x hx => (hi x hx).1)]
        have := sum_items writT (by decide) n h0
        rw [rem_writ] at this
        omega
      cases hP : toP (items writT n) with
      | nil => rw [hP] at hs; simp [sumP] at hs; omega
      | cons p r =>
        rw [hP] at hs hok
        have := parse_parts 0 p r hok (by rw [hs]; exact hlt)
        simpa [hs] using this
theorem addS_comm (a b : Int) : addS a b = addS b a := by
  unfold addS
  rw [Int.add_comm b a]
  by_cases h : a = top ∨ b = top
  · rw [if_pos h, if_pos (Or.comm.1 h)]
  · rw [if_neg h, if_neg (fun h2 => h (Or.comm.1 h2))]
theorem addS_mono (a b c : Int) (ha : low ≤ a) (ha' : a ≤ top) (hc' : c ≤ top) (h : b ≤ c) : addS a b ≤ addS a c := by
  unfold addS top low at *
  (repeat' split) <;> omega
end Go.Proofs.YtlnfapkpehhafaaDoor.Sp
