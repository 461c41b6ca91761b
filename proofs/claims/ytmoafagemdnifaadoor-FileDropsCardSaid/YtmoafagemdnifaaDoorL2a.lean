/- Plain bounds for FileBack. -/
import Derived.Test.YtmoafagemdnifaaDoorFP3
import Derived.Test.YtmoafagemdnifaaDoorF8
namespace Go.Proofs.YtmoafagemdnifaaDoor
open Go.RowKit Go.Shelf Lin
theorem lns_len2 (s : L) (l : List Ln) (h : lns s = .ok l) : l.length ≤ s.length + 2 := by
  unfold lns at h
  split at h
  · cases h
  · have h1 := lnsW_len _ _ h
    have h2 := whl_len (pieces s) 0 0 []
    have h3 := tot_len (pieces s)
    rw [tot_pieces] at h3
    omega
theorem pf_len : ∀ (l : List Ln) (s : ByteArray) (acc a : List St), pf s acc l = .ok a → a.length ≤ acc.length + l.length
  | [], s, acc, a, h => by simp [pf] at h; subst h; simp
  | x :: r, s, acc, a, h => by
    unfold pf at h
    split at h
    · have := pf_len r _ _ _ h; simp only [List.length_cons]; omega
    · split at h
      · cases h
      · have := pf_len r _ _ _ h; simp only [List.length_append, List.length_cons, List.length_nil] at this ⊢; omega
theorem fil_len2 {s : L} {f : List St} (h : fil s = .ok f) : f.length ≤ s.length + 2 := by
  unfold fil at h
  cases hl : lns s with
  | error e => rw [hl] at h; cases h
  | ok l =>
    rw [hl] at h
    unfold filL at h
    simp only at h
    cases hp : pf ⟨#[]⟩ [] l with
    | error n => rw [hp] at h; cases h
    | ok a =>
      rw [hp] at h
      cases h
      have := pf_len _ _ _ _ hp
      have := lns_len2 s l hl
      simp only [List.length_nil] at *; omega
/-- How long a print can be. -/
theorem prt_len : ∀ (gs : Gs) (m : Nat), (∀ p ∈ gs, p.1.size ≤ 398 ∧ p.2 ≠ [] ∧ ∀ x ∈ p.2, x.v.size + x.k.size < 400) → (flatG gs).length ≤ m → (prt gs).length ≤ 802 * m
  | [], m, _, _ => by simp [prt]
  | p :: r, m, h, hm => by
    obtain ⟨h1, h2, h3⟩ := h p (by simp)
    have hl : flatG (p :: r) = p.2 ++ flatG r := rfl
    rw [hl, List.length_append] at hm
    have ih := prt_len r (m - p.2.length) (fun q hq => h q (by simp [hq])) (by omega)
    have hp : ∀ ls : List St, (∀ x ∈ ls, x.v.size + x.k.size < 400) → (ls.flatMap oneL).length ≤ 401 * ls.length := by
      intro ls
      induction ls with
      | nil => intro _; simp
      | cons x t ih =>
        intro hx
        have h4 := ih (fun y hy => hx y (by simp [hy]))
        have h5 := hx x (by simp)
        simp only [List.flatMap_cons, List.length_append, List.length_cons, oneL, List.length_nil, size_list]
        omega
    have h6 := hp p.2 h3
    have h7 : 0 < p.2.length := List.length_pos_iff.2 h2
    have e : prt (p :: r) = secL p ++ prt r := rfl
    rw [e, List.length_append]
    simp only [secL, List.length_append, List.length_cons, List.length_nil, size_list]
    omega
theorem trip_size {s : L} {f : List St} (h : fil s = .ok f) : ∀ x ∈ f, x.s.size ≤ 398 := fun x hx => by
  have := (fil_good h x hx).1.2
  rw [size_list] at this; omega
theorem groups_bound {f : List St} (hs : ∀ x ∈ f, x.s.size ≤ 398) (hv : ∀ x ∈ f, x.v.size + x.k.size < 400) : (prt (groups f)).length ≤ 802 * f.length := by
  have hf := groups_fine f
  have hmem : ∀ p ∈ groups f, ∀ x ∈ p.2, x ∈ f := fun p hp x hx => (groups_perm f).mem_iff.1 (by unfold flatG; exact List.mem_flatMap.2 ⟨p, hp, hx⟩)
  refine prt_len _ _ (fun p hp => ⟨?_, (hf.own p hp).1, fun x hx => hv x (hmem p hp x hx)⟩) (by rw [(groups_perm f).length_eq]; exact Nat.le_refl _)
  obtain ⟨x, t, ht⟩ := List.exists_cons_of_ne_nil (hf.own p hp).1
  have hx : x ∈ p.2 := by rw [ht]; simp
  have := hs x (hmem p hp x hx)
  rwa [(hf.own p hp).2 x hx] at this
def OkV (x : St) : Prop := x.v.size + x.k.size < 400 ∧ ∀ a c, x.v.data.toList = a ++ [c] → c ≠ 92
end Go.Proofs.YtmoafagemdnifaaDoor
