/- Plain mathematics: words that are quoted, plain words, with blanks between. -/
import Derived.Test.YtmoafagemdnifaaDoorLN3
namespace Go.Proofs.YtmoafagemdnifaaDoor.Lin
theorem cutQ_q1 (c : UInt8) (r : L) : cutQ 34 (q1 c ++ r) = (cutQ 34 r).map fun p => (c :: p.1, p.2) := by
  unfold q1
  split
  · rename_i h
    rw [List.cons_append, List.cons_append, List.nil_append, cutQ_bs _ _ _ (by decide)]
    have : es1 c = some c := by
      unfold es1
      rw [if_pos]
      rcases h with h | h
      · exact .inl h
      · exact .inr (.inr h)
    rw [this]; rfl
  · split
    · rename_i h
      subst h
      rw [List.cons_append, List.cons_append, List.nil_append, cutQ_bs _ _ _ (by decide)]
      rfl
    · rename_i h1 h2
      rw [List.cons_append, List.nil_append, cutQ_plain _ _ _ (fun e => h1 (.inl e)) (fun e => h1 (.inr e))]
theorem cutQ_quo : ∀ (x r : L), cutQ 34 (x.flatMap q1 ++ 34 :: r) = some (x, r)
  | [], r => by rw [List.flatMap_nil, List.nil_append, cutQ_end]
  | c :: x, r => by
    rw [List.flatMap_cons, List.append_assoc, cutQ_q1, cutQ_quo x r]; rfl
theorem trimL_blank (c : UInt8) (r : L) (h : bl c = true) : trimL (c :: r) = trimL r := by
  unfold trimL Lib.trimLeftS
  rw [List.dropWhile_cons, if_pos (show [32, 9].contains c = true from h)]
theorem trimL_word (c : UInt8) (r : L) (h : bl c = false) : trimL (c :: r) = c :: r := by
  unfold trimL Lib.trimLeftS
  rw [List.dropWhile_cons, if_neg (by rw [show [32, 9].contains c = bl c from rfl, h]; simp)]
theorem bat_blank (c : UInt8) (r : L) (h : bl c = true) : bat (c :: r) = 0 := (bat_zero _).2 (.inr ⟨c, r, rfl, h⟩)
theorem cutW_quo (x r : L) (h : bat r = 0) : cutW (quo x ++ r) = some (x, r) := by
  unfold quo
  rw [List.cons_append, List.append_assoc]
  simp only [cutW]
  rw [if_pos (.inl trivial)]
  show (cutQ 34 (x.flatMap q1 ++ (34 :: r))).bind _ = _
  rw [cutQ_quo, Option.bind_some, if_pos h]
def qs (l : List L) : L := l.flatMap fun x => 32 :: quo x
theorem qs_snoc (l : List L) (x : L) : qs (l ++ [x]) = qs l ++ 32 :: quo x := by simp [qs]
theorem spl_qs : ∀ l : List L, spl (qs l ++ [32]) = some l
  | [] => rfl
  | x :: t => by
    have ih := spl_qs t
    rw [spl_eq] at ih ⊢
    have e1 : qs (x :: t) ++ [32] = 32 :: (quo x ++ (qs t ++ [32])) := by simp [qs]
    obtain ⟨c, r, hr, hc⟩ : ∃ c r, qs t ++ [32] = c :: r ∧ bl c = true := by
      cases t with
      | nil => exact ⟨32, [], rfl, by decide⟩
      | cons y u => exact ⟨32, quo y ++ (qs u ++ [32]), by simp [qs], by decide⟩
    have hb : bat (qs t ++ [32]) = 0 := by rw [hr]; exact bat_blank c r hc
    have e2 : trimL (quo x ++ (qs t ++ [32])) = quo x ++ (qs t ++ [32]) := by
      unfold quo
      rw [List.cons_append]
      exact trimL_word _ _ (by decide)
    rw [e1, trimL_blank _ _ (by decide), e2]
    have e3 : quo x ++ (qs t ++ [32]) = 34 :: ((x.flatMap q1 ++ [34]) ++ (qs t ++ [32])) := rfl
    have e4 := cutW_quo x (qs t ++ [32]) hb
    rw [e3] at e4 ⊢
    rw [spl0_cons (by decide), e4, Option.bind_some, ih]
    rfl
/-- Plain words. -/
theorem bat_word : ∀ (x r : L), (∀ c ∈ x, bl c = false) → bat r = 0 → bat (x ++ r) = x.length
  | [], r, _, h => h
  | c :: x, r, h, hr => by
    have := bat_word x r (fun d hd => h d (by simp [hd])) hr
    unfold bat at this ⊢
    rw [List.cons_append, List.takeWhile_cons, h c (by simp)]
    simp only [Bool.not_false, if_true, List.length_cons, this]
def plain (x : L) : Bool := match x with
  | [] => false
  | c :: _ => !(c == 34) && !(c == 39) && x.all fun d => !bl d
theorem cutW_plain (x r : L) (h : plain x = true) (hr : bat r = 0) : cutW (x ++ r) = some (x, r) := by
  cases x with
  | nil => cases h
  | cons c t =>
    simp [plain] at h
    have hall : ∀ d ∈ c :: t, bl d = false := by
      intro d hd
      rcases List.mem_cons.1 hd with rfl | hd
      · exact h.2.1
      · exact h.2.2 d hd
    have hb := bat_word (c :: t) r hall hr
    rw [List.cons_append] at hb ⊢
    simp only [cutW]
    rw [if_neg (by rintro (e | e); exact h.1.1 e; exact h.1.2 e), hb]
    show some ((c :: (t ++ r)).take (t.length + 1), (c :: (t ++ r)).drop (t.length + 1)) = _
    simp
theorem trimL_blanks : ∀ (g r : L), (∀ c ∈ g, bl c = true) → trimL (g ++ r) = trimL r
  | [], _, _ => rfl
  | c :: g, r, h => by rw [List.cons_append, trimL_blank _ _ (h c (by simp)), trimL_blanks g r (fun d hd => h d (by simp [hd]))]
/-- Words, with blanks behind each. -/
def ws : List (L × L) → L
  | [] => []
  | p :: r => p.1 ++ (p.2 ++ ws r)
theorem ws_snoc : ∀ (l : List (L × L)) (p : L × L), ws (l ++ [p]) = ws l ++ (p.1 ++ p.2)
  | [], p => by simp [ws]
  | q :: l, p => by simp [ws, ws_snoc l p]
theorem spl_ws : ∀ (l : List (L × L)) (g : L), (∀ c ∈ g, bl c = true) → (∀ p ∈ l, plain p.1 = true ∧ p.2 ≠ [] ∧ ∀ c ∈ p.2, bl c = true) → spl (g ++ ws l) = some (l.map (·.1))
  | [], g, hg, _ => by
    rw [spl_eq, trimL_blanks g _ hg]; rfl
  | p :: l, g, hg, hl => by
    obtain ⟨h1, h2, h3⟩ := hl p (by simp)
    have ih := spl_ws l p.2 h3 (fun q hq => hl q (by simp [hq]))
    rw [spl_eq] at ih ⊢
    rw [trimL_blanks g _ hg]
    show spl0 (trimL (p.1 ++ (p.2 ++ ws l))) = _
    obtain ⟨x, b⟩ := p
    simp only at h1 h2 h3 ih ⊢
    cases x with
    | nil => cases h1
    | cons c t =>
      have hc : bl c = false := by simp [plain] at h1; exact h1.2.1
      have hb0 : bat (b ++ ws l) = 0 := by
        cases b with
        | nil => exact absurd rfl h2
        | cons d u => exact bat_blank d _ (h3 d (by simp))
      rw [List.cons_append, trimL_word _ _ hc, spl0_cons hc]
      have := cutW_plain (c :: t) (b ++ ws l) h1 hb0
      rw [List.cons_append] at this
      rw [this, Option.bind_some]
      simp only
      rw [ih]
      rfl
end Go.Proofs.YtmoafagemdnifaaDoor.Lin
