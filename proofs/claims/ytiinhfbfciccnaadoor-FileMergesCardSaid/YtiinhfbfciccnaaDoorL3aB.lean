/- FileMerges: what it reckons, plain. -/
import Derived.Test.YtiinhfbfciccnaaDoorM10B
import Derived.Test.YtiinhfbfciccnaaDoorP6qB
import Derived.Test.YtiinhfbfciccnaaDoorOpFB
import Derived.Test.YtiinhfbfciccnaaDoorFD2B
namespace Go.Proofs.YtiinhfbfciccnaaDoor
open Go.RowKit Go.Shelf
theorem flatR_bk (fs : List (Value × List St)) : flatR (bk fs fs.length) = (flatF fs).reverse := by
  have h1 : flatR (bk fs fs.length) = ((bk fs fs.length).map Prod.snd).flatMap (fun q => q.2.reverse) := by unfold flatR; rw [List.flatMap_map]
  rw [h1, bk_all]
  unfold flatF
  have : ∀ l : List (Value × List St), l.reverse.flatMap (fun q => q.2.reverse) = (l.flatMap Prod.snd).reverse := by
    intro l
    induction l with
    | nil => rfl
    | cons x r ih => simp [ih]
  exact this fs
theorem prt_len2 : ∀ (gs : Gs) (m : Nat), (∀ p ∈ gs, p.1.size ≤ 500 ∧ p.2 ≠ [] ∧ ∀ x ∈ p.2, x.v.size + x.k.size ≤ 500) → (flatG gs).length ≤ m → (prt gs).length ≤ 1010 * m
  | [], m, _, _ => by simp [prt]
  | p :: r, m, h, hm => by
    obtain ⟨h1, h2, h3⟩ := h p (by simp)
    have hl : flatG (p :: r) = p.2 ++ flatG r := rfl
    rw [hl, List.length_append] at hm
    have ih := prt_len2 r (m - p.2.length) (fun q hq => h q (by simp [hq])) (by omega)
    have hp : ∀ ls : List St, (∀ x ∈ ls, x.v.size + x.k.size ≤ 500) → (ls.flatMap oneL).length ≤ 502 * ls.length := by
      intro ls
      induction ls with
      | nil => intro _; simp
      | cons x t ih =>
        intro hx
        have h4 := ih (fun y hy => hx y (by simp [hy]))
        have h5 := hx x (by simp)
        simp only [List.flatMap_cons, List.length_append, List.length_cons, oneL, List.length_nil, size_list]
        omega
    have h6 := hp p.2 h3
    have h7 : 0 < p.2.length := List.length_pos_iff.2 h2
    have e : prt (p :: r) = secL p ++ prt r := rfl
    rw [e, List.length_append]
    simp only [secL, List.length_append, List.length_cons, List.length_nil, size_list]
    omega
theorem groups_bound2 {f : List St} (hs : ∀ x ∈ f, sm x) : (prt (groups f)).length ≤ 1010 * f.length := by
  have hf := groups_fine f
  have hmem : ∀ p ∈ groups f, ∀ x ∈ p.2, x ∈ f := fun p hp x hx => (groups_perm f).mem_iff.1 (by unfold flatG; exact List.mem_flatMap.2 ⟨p, hp, hx⟩)
  refine prt_len2 _ _ (fun p hp => ⟨?_, (hf.own p hp).1, fun x hx => by have := hs x (hmem p hp x hx); unfold sm at this; omega⟩) (by rw [(groups_perm f).length_eq]; exact Nat.le_refl _)
  obtain ⟨x, t, ht⟩ := List.exists_cons_of_ne_nil (hf.own p hp).1
  have hx : x ∈ p.2 := by rw [ht]; simp
  have h1 := hs x (hmem p hp x hx)
  have h2 := (hf.own p hp).2 x hx
  unfold sm at h1
  rw [h2] at h1
  omega
theorem hits_app (sec key : ByteArray) : ∀ (l r : List St) (i : Nat), hits sec key i (l ++ r) = hits sec key i l ++ hits sec key (i + l.length) r
  | [], r, i => by simp [hits]
  | x :: l, r, i => by
    have ih := hits_app sec key l r (i + 1)
    simp only [List.cons_append, hits, List.length_cons]
    rw [ih, show i + 1 + l.length = i + (l.length + 1) by omega]
    split <;> rfl
theorem hits_take (sec key : ByteArray) (M : List St) (i : Nat) (hi : i ≤ M.length) : hits sec key 0 M = hits sec key 0 (M.take i) ++ hits sec key i (M.drop i) := by
  have := hits_app sec key (M.take i) (M.drop i) 0
  rw [List.take_append_drop, List.length_take, Nat.min_eq_left hi, Nat.zero_add] at this
  exact this
theorem hits_snoc (sec key : ByteArray) (M : List St) (i : Nat) (x : St) (h : M[i]? = some x) : hits sec key 0 (M.take (i + 1)) = hits sec key 0 (M.take i) ++ (if x.s = sec ∧ x.k = key then [(i, x.v)] else []) := by
  have hi : i < M.length := (List.getElem?_eq_some_iff.1 h).1
  rw [take_snocS h, hits_app, List.length_take, Nat.min_eq_left (by omega), Nat.zero_add]
  congr 1
theorem lastV_snoc (p : Nat × ByteArray) : ∀ (l : List (Nat × ByteArray)) (s : ByteArray × Bool), lastV (l ++ [p]) s = (p.2, true)
  | [], _ => rfl
  | q :: l, _ => lastV_snoc p l (q.2, true)
/-- How many are looked at among the first. -/
def atN (st : Int) (h : List (Nat × ByteArray)) : Nat := if 1 ≤ st then min h.length st.toNat else h.length
theorem atN_len (st : Int) (h : List (Nat × ByteArray)) : (tk st h).length = atN st h := by
  unfold tk atN
  split
  · rw [List.length_take, Nat.min_comm]
  · rfl
theorem tk_at (st : Int) (h r : List (Nat × ByteArray)) (p : Nat × ByteArray) (hs : ¬ (1 ≤ st ∧ st ≤ (atN st h : Int))) : (tk st (h ++ p :: r))[atN st h]? = some p := by
  unfold atN at hs ⊢
  by_cases h1 : 1 ≤ st
  · rw [if_pos h1] at hs ⊢
    have hlt : h.length < st.toNat := by omega
    rw [Nat.min_eq_left (by omega)]
    unfold tk
    rw [if_pos h1, List.getElem?_take_of_lt hlt]
    simp
  · rw [if_neg h1]
    unfold tk
    rw [if_neg h1]
    simp
theorem atN_more (st : Int) (h : List (Nat × ByteArray)) (p : Nat × ByteArray) (hs : ¬ (1 ≤ st ∧ st ≤ (atN st h : Int))) : atN st (h ++ [p]) = atN st h + 1 := by
  unfold atN at hs ⊢
  by_cases h1 : 1 ≤ st
  · rw [if_pos h1] at hs ⊢
    rw [if_pos h1, List.length_append]
    simp only [List.length_cons, List.length_nil]
    omega
  · rw [if_neg h1, if_neg h1]; simp
theorem atN_full (st : Int) (h : List (Nat × ByteArray)) (p : Nat × ByteArray) (hs : 1 ≤ st ∧ st ≤ (atN st h : Int)) : atN st (h ++ [p]) = atN st h := by
  unfold atN at hs ⊢
  rw [if_pos hs.1] at hs
  rw [if_pos hs.1, if_pos hs.1, List.length_append]
  simp only [List.length_cons, List.length_nil]
  omega
theorem atN_le (st : Int) (h : List (Nat × ByteArray)) : atN st h ≤ h.length := by unfold atN; split <;> omega
theorem hits_len (sec key : ByteArray) : ∀ (l : List St) (i : Nat), (hits sec key i l).length ≤ l.length
  | [], _ => by simp [hits]
  | x :: r, i => by
    have := hits_len sec key r (i + 1)
    simp only [hits, List.length_cons]
    split
    · simp only [List.length_cons]; omega
    · omega
end Go.Proofs.YtiinhfbfciccnaaDoor
