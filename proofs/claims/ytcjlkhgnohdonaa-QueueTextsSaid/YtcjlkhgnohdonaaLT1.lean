/- QueueTexts: the plain part; rows of texts; one queue of texts. -/
import Derived.Test.YtcjlkhgnohdonaaQK
import Derived.Test.YtcjlkhgnohdonaaRW
namespace Go.Proofs.Ytcjlkhgnohdonaa
open Go.RowKit Go.Shelf Go.Lib
attribute [local go_sem] Oper.semAt_some
def foldA {α : Type} (key : α → Int) (L l : List α) : List α := l.foldl (fun L v => insA key v L) L
theorem foldA_app {α : Type} (key : α → Int) (L a b : List α) : foldA key L (a ++ b) = foldA key (foldA key L a) b := by simp [foldA]
theorem foldA_snoc {α : Type} (key : α → Int) (L a : List α) (x : α) : foldA key L (a ++ [x]) = insA key x (foldA key L a) := by simp [foldA]
theorem insA_memG {α : Type} (key : α → Int) (v : α) : ∀ (L : List α) (z : α), z ∈ insA key v L ↔ (z = v ∨ z ∈ L)
  | [], z => by simp [insA]
  | y :: L, z => by
    unfold insA
    split
    · simp
    · rw [List.mem_cons, insA_memG key v L z, List.mem_cons]
      constructor
      · rintro (h | h | h)
        · exact .inr (.inl h)
        · exact .inl h
        · exact .inr (.inr h)
      · rintro (h | h | h)
        · exact .inr (.inl h)
        · exact .inl h
        · exact .inr (.inr h)
theorem foldA_mem {α : Type} (key : α → Int) : ∀ (l L : List α) (z : α), z ∈ foldA key L l ↔ (z ∈ L ∨ z ∈ l)
  | [], L, z => by simp [foldA]
  | y :: l, L, z => by
    show z ∈ foldA key (insA key y L) l ↔ _
    rw [foldA_mem key l, insA_memG, List.mem_cons]
    constructor
    · rintro ((h | h) | h)
      · exact .inr (.inl h)
      · exact .inl h
      · exact .inr (.inr h)
    · rintro (h | h | h)
      · exact .inl (.inr h)
      · exact .inl (.inl h)
      · exact .inr h
theorem foldA_len {α : Type} (key : α → Int) : ∀ (l L : List α), (foldA key L l).length = L.length + l.length
  | [], L => by simp [foldA]
  | y :: l, L => by
    show (foldA key (insA key y L) l).length = _
    rw [foldA_len key l, insA_len, List.length_cons]; omega
/-- The least, first one of a row comes first. -/
theorem foldA_first {α : Type} (key : α → Int) (x : α) (a b : List α) (ha : ∀ z ∈ a, key x < key z) (hb : ∀ z ∈ b, key x ≤ key z) : foldA key [] (a ++ x :: b) = x :: foldA key [] (a ++ b) := by
  have h1 : insA key x (foldA key [] a) = x :: foldA key [] a := by
    cases e : foldA key [] a with
    | nil => rfl
    | cons y A =>
      have hy : y ∈ a := by
        have := (foldA_mem key a [] y).1 (by rw [e]; exact List.mem_cons_self ..)
        rcases this with h | h
        · cases h
        · exact h
      simp only [insA]
      rw [if_pos (ha y hy)]
  have h2 : ∀ (b A : List α), (∀ z ∈ b, key x ≤ key z) → foldA key (x :: A) b = x :: foldA key A b := by
    intro b
    induction b with
    | nil => intro A _; rfl
    | cons v b ih =>
      intro A hb
      show foldA key (insA key v (x :: A)) b = x :: foldA key (insA key v A) b
      have : insA key v (x :: A) = x :: insA key v A := by
        simp only [insA]
        rw [if_neg (by have := hb v (List.mem_cons_self ..); omega)]
      rw [this]
      exact ih _ (fun z hz => hb z (List.mem_cons_of_mem _ hz))
  rw [show a ++ x :: b = a ++ [x] ++ b by simp, foldA_app, foldA_snoc, h1, h2 b _ hb, foldA_app]
def kz (s : ByteArray) : Int := s.size
theorem Qs.sorted {nb : Nat} {key : ByteArray → Int} {w : World} {q : Nat} {E B : Nat → Prop} {L : List ByteArray} {n : Nat} (h : Qs.Qu nb key w q E B L n) : L.Pairwise fun a b => key a ≤ key b := by
  obtain ⟨v, xs, F, L', a1, a2, rfl, _⟩ := h
  rw [List.pairwise_map]
  refine a2.so.imp fun {a b} h => ?_
  rcases h with h | h
  · omega
  · have := h.1; omega
/-- What is popped is the first of its length in the row. -/
theorem first_of {x : ByteArray} {L2 left : List ByteArray} (hL : x :: L2 = foldA kz [] left) (so : (x :: L2).Pairwise fun a b => kz a ≤ kz b) {t : Nat} {y : ByteArray} (ht : left[t]? = some y) (hy : y.size = x.size) (hno : ∀ j z, j < t → left[j]? = some z → z.size ≠ x.size) : y = x ∧ L2 = foldA kz [] (left.take t ++ left.drop (t + 1)) := by
  have hge : ∀ z ∈ left, kz x ≤ kz z := fun z hz => by
    have : z ∈ x :: L2 := by rw [hL]; exact (foldA_mem kz left [] z).2 (.inr hz)
    rcases List.mem_cons.1 this with rfl | h
    · exact Int.le_refl _
    · exact (List.pairwise_cons.1 so).1 z h
  obtain ⟨hlt, hge2⟩ := List.getElem?_eq_some_iff.1 ht
  have hsp : left = left.take t ++ y :: left.drop (t + 1) := by
    rw [← hge2, List.getElem_cons_drop, List.take_append_drop]
  have hf := foldA_first kz y (left.take t) (left.drop (t + 1)) (fun z hz => by
    obtain ⟨j, hj⟩ := List.getElem?_of_mem hz
    rw [List.getElem?_take] at hj
    split at hj
    · next h =>
      have h1 := hno j z h hj
      have h2 := hge z (List.mem_of_getElem? hj)
      unfold kz at h2 ⊢
      omega
    · cases hj) (fun z hz => by
    have := hge z (List.mem_of_mem_drop hz)
    unfold kz at this ⊢
    omega)
  rw [← hsp, ← hL] at hf
  injection hf with h1 h2
  exact ⟨h1.symm, h2⟩
theorem infoS : ∃ i, Try.prog.info? 9 = some i ∧ i.zero = some (.string ⟨#[]⟩) ∧ i.size = 1 ∧ i.bytes = 16 := by
  have h : (Try.prog.info? 9).map (fun i => (i.zero, i.size, i.bytes)) = some (some (.string ⟨#[]⟩), 1, 16) := by kernel_rfl
  cases e : Try.prog.info? 9 with
  | none => rw [e] at h; cases h
  | some i => rw [e] at h; simp at h; exact ⟨i, rfl, h⟩
set_option maxRecDepth 100000 in
/-- append of texts to a row that is owned. -/
theorem app_strs {W : World} {v : Value} {n m c : Nat} {p : Option Addr} {xs ys : List ByteArray} (h : W.ownsRow 0 9 1 v n (xs.map .string)) (hy : ys.length = m) (hs : m = 0 ∨ ∃ b o, p = some ⟨b, o, none⟩ ∧ ∀ j u, ys[j]? = some u → W.cell? ⟨b, o + j, none⟩ = some (.string u)) (hn : n ≤ 100000) (hm : m ≤ 100000) :
    ∃ v' W', (Builtin.append_ #[22, 22] 22 #[v, .slice p m c]).run Try.prog W = .ok v' W' ∧ W'.ownsRow 0 9 1 v' (n + m) ((xs ++ ys).map .string) ∧ W.grownBy W' v.ownBlock ∧ (v'.ownBlock = v.ownBlock ∨ v'.ownBlock = some W.heap.size) ∧ ∃ p' c', v' = .slice p' (n + m) c' := by
  obtain ⟨i0, hi, hz0, hz1, hz2⟩ := infoS
  have shp : ∀ {V : World} {u : Value} {k : Nat} {zs : List Value}, V.ownsRow 0 9 1 u k zs → ∃ p' c', u = .slice p' k c' := fun {V u k zs} o => by
    rcases o.2 with ⟨e, e2⟩ | ⟨g, cp, cur, e, _⟩
    · exact ⟨none, 0, by rw [e2]; exact e⟩
    · exact ⟨_, _, e⟩
  by_cases hm0 : m = 0
  · subst hm0
    obtain rfl : ys = [] := List.eq_nil_of_length_eq_zero hy
    have h' : W.ownsRow 0 9 1 v (n + 0) ((xs ++ []).map .string) := by simpa using h
    refine ⟨v, W, ?_, h', ⟨rfl, rfl, rfl, Nat.le_refl _, fun _ _ _ => rfl⟩, .inl rfl, shp h'⟩
    rcases h.2 with ⟨rfl, e0⟩ | ⟨g, cap, cur, rfl, _, _, hle, _⟩
    · cases p <;> simp [Builtin.append_, run_underlying Try.underlying22, sizeOf, typeInfo, hi, Builtin.lenOf, Builtin.firstCells, loadCells, loadCellsFrom]
    · cases p <;> simp [Builtin.append_, run_underlying Try.underlying22, sizeOf, typeInfo, hi, Builtin.lenOf, Builtin.firstCells, loadCells, loadCellsFrom, storeCells, hle]
  · rcases hs with hs | ⟨b, o, rfl, hc⟩
    · exact absurd hs hm0
    · obtain ⟨v', W', hrun, hown, hgr, _, hat⟩ := run_append_own_at (P := Try.prog) W 0 22 22 9 i0 (.string ⟨#[]⟩) 1 16 Try.underlying22 hi hz0 hz1 hz2 rfl (by decide) v _ _ h ⟨b, o, none⟩ m c (ys.map .string) (by simp [hy]) (fun j u hj => by
        rw [List.getElem?_map] at hj
        cases e : ys[j]? with
        | none => rw [e] at hj; cases hj
        | some y =>
          rw [e] at hj
          injection hj with hj
          subst hj
          rw [Addr.add_lit]
          exact hc j y e) (fun u hu => by
        obtain ⟨y, _, rfl⟩ := List.mem_map.1 hu
        rfl) (by unfold maxLen; omega) (by omega) (Nat.zero_le _)
      rw [← List.map_append] at hown
      exact ⟨v', W', hrun, hown, hgr, hat, shp hown⟩
end Go.Proofs.Ytcjlkhgnohdonaa
