/- Paths: plain. -/
import Derived.Test.YtnniahlacfflmaaDoorZ0
namespace Go.Proofs.YtnniahlacfflmaaDoor
open Go.RowKit Go.Shelf
abbrev L := List UInt8
def byt (s : ByteArray) : L := s.data.toList
def mkS (l : L) : ByteArray := ⟨l.toArray⟩
theorem byt_mk (l : L) : byt (mkS l) = l := rfl
theorem mk_byt (s : ByteArray) : mkS (byt s) = s := rfl
theorem byt_inj {a b : ByteArray} (h : byt a = byt b) : a = b := ByteArray.ext (Array.toList_inj.1 h)
theorem byt_len (s : ByteArray) : (byt s).length = s.size := size_list s
theorem mk_size (l : L) : (mkS l).size = l.length := rfl
def pieces : L → List L
  | [] => [[]]
  | c :: r => if c = 47 then [] :: pieces r else (match pieces r with | p :: q => (c :: p) :: q | [] => [[c]])
def okp (p : L) : Bool := !(p == [] || p == [46] || p == [46, 46]) && (decide (p.length ≤ 40) && !p.contains 0)
/-- The parts, behind n of them. -/
def okAll : Nat → List L → Bool
  | _, [] => true
  | n, x :: r => decide (n < 8) && (okp x && okAll (n + 1) r)
def isPL : L → Bool
  | [] => false
  | c :: r => (c == 47) && (r == [] || okAll 0 (pieces r))
/-- At its last stroke. -/
def lastCut : L → Option (L × L)
  | [] => none
  | c :: r => match lastCut r with | some (a, x) => some (c :: a, x) | none => if c = 47 then some ([], r) else none
theorem lastCut_none : ∀ {l : L}, lastCut l = none ↔ ∀ x ∈ l, x ≠ 47
  | [] => by simp [lastCut]
  | c :: r => by
    unfold lastCut
    cases h : lastCut r with
    | none =>
      have := lastCut_none.1 h
      by_cases hc : c = 47
      · simp [hc]
      · simp only [hc, if_false, List.mem_cons, forall_eq_or_imp, ne_eq, not_false_eq_true, true_and, true_iff]
        exact this
    | some p =>
      simp only [reduceCtorEq, List.mem_cons, forall_eq_or_imp, ne_eq, false_iff, not_and]
      intro _ hx
      have := (lastCut_none (l := r)).2 hx
      rw [h] at this
      cases this
theorem lastCut_some : ∀ {l a x : L}, lastCut l = some (a, x) → l = a ++ 47 :: x ∧ ∀ y ∈ x, y ≠ 47
  | [], a, x, h => by cases h
  | c :: r, a, x, h => by
    unfold lastCut at h
    cases h2 : lastCut r with
    | none =>
      rw [h2] at h
      by_cases hc : c = 47
      · simp only [hc, if_true, Option.some.injEq, Prod.mk.injEq] at h
        obtain ⟨rfl, rfl⟩ := h
        exact ⟨by rw [hc]; rfl, lastCut_none.1 h2⟩
      · simp [hc] at h
    | some p =>
      rw [h2] at h
      simp only [Option.some.injEq, Prod.mk.injEq] at h
      obtain ⟨rfl, rfl⟩ := h
      obtain ⟨e, hx⟩ := lastCut_some h2
      exact ⟨by rw [e]; rfl, hx⟩
theorem lastCut_at : ∀ (a : L) {x : L}, (∀ y ∈ x, y ≠ 47) → lastCut (a ++ 47 :: x) = some (a, x)
  | [], x, h => by
    show lastCut (47 :: x) = _
    unfold lastCut
    rw [lastCut_none.2 h]
    simp
  | c :: a, x, h => by
    show lastCut (c :: (a ++ 47 :: x)) = _
    unfold lastCut
    rw [lastCut_at a h]
def foL (l : L) : L := match lastCut l with | some (a, _) => if a = [] then [47] else a | none => l.take 1
def hd (l : L) : Prop := l.head? = some 47
theorem hd_cons {l : L} (h : hd l) : ∃ r, l = 47 :: r := by
  cases l with
  | nil => cases h
  | cons c r => simp [hd] at h; exact ⟨r, by rw [h]⟩
theorem hd_cut {l : L} (h : hd l) : ∃ a x, l = a ++ 47 :: x ∧ (∀ y ∈ x, y ≠ 47) ∧ lastCut l = some (a, x) := by
  obtain ⟨r, rfl⟩ := hd_cons h
  cases e : lastCut (47 :: r) with
  | none => exact absurd rfl (lastCut_none.1 e 47 (by simp))
  | some p => exact ⟨p.1, p.2, (lastCut_some e).1, (lastCut_some e).2, rfl⟩
theorem foL_hd {l : L} (h : hd l) : hd (foL l) := by
  obtain ⟨a, x, e, _, hc⟩ := hd_cut h
  unfold foL
  rw [hc]
  dsimp only
  split
  · rfl
  · rename_i ha
    cases a with
    | nil => exact absurd rfl ha
    | cons c a => rw [e] at h; simpa [hd] using h
theorem foL_lt {l : L} (h : hd l) (hn : l ≠ [47]) : (foL l).length < l.length := by
  obtain ⟨a, x, e, _, hc⟩ := hd_cut h
  unfold foL
  rw [hc]
  dsimp only
  split
  · rename_i ha
    subst ha
    rw [e] at hn ⊢
    cases x with
    | nil => exact absurd rfl hn
    | cons => simp
  · rw [e]; simp
theorem foL_le (l : L) : (foL l).length ≤ l.length := by
  cases hc : lastCut l with
  | none => unfold foL; rw [hc]; simp; omega
  | some p =>
    obtain ⟨e, _⟩ := lastCut_some hc
    unfold foL
    rw [hc]
    dsimp only
    split
    · rw [e]; simp; omega
    · rw [e]; simp
def abvN : Nat → L → List L
  | 0, _ => []
  | n + 1, l => if l = [47] then [] else foL l :: abvN n (foL l)
def abvL (l : L) : List L := abvN l.length l
theorem abvN_eq : ∀ (n m : Nat) (l : L), hd l → l.length ≤ n → l.length ≤ m → abvN n l = abvN m l
  | 0, m, l, h, hn, hm => by obtain ⟨r, rfl⟩ := hd_cons h; simp at hn
  | n + 1, 0, l, h, hn, hm => by obtain ⟨r, rfl⟩ := hd_cons h; simp at hm
  | n + 1, m + 1, l, h, hn, hm => by
    unfold abvN
    by_cases e : l = [47]
    · rw [if_pos e, if_pos e]
    · rw [if_neg e, if_neg e]
      have := foL_lt h e
      rw [abvN_eq n m (foL l) (foL_hd h) (by omega) (by omega)]
theorem abvL_root : abvL [47] = [] := rfl
theorem abvL_step {l : L} (h : hd l) (hn : l ≠ [47]) : abvL l = foL l :: abvL (foL l) := by
  have hlt := foL_lt h hn
  obtain ⟨n, hn2⟩ : ∃ n, l.length = n + 1 := ⟨l.length - 1, by omega⟩
  unfold abvL
  rw [hn2]
  show (if l = [47] then [] else foL l :: abvN n (foL l)) = _
  rw [if_neg hn, abvN_eq n (foL l).length (foL l) (foL_hd h) (by omega) (Nat.le_refl _)]
/-- By the length. -/
theorem path_rec {p : L → Prop} (h0 : p [47]) (hs : ∀ l, hd l → l ≠ [47] → p (foL l) → p l) : ∀ l, hd l → p l := by
  have : ∀ n, ∀ l, l.length ≤ n → hd l → p l := by
    intro n
    induction n with
    | zero => intro l hl h; obtain ⟨r, rfl⟩ := hd_cons h; simp at hl
    | succ n ih =>
      intro l hl h
      by_cases e : l = [47]
      · rw [e]; exact h0
      · exact hs l h e (ih _ (by have := foL_lt h e; omega) (foL_hd h))
  exact fun l h => this l.length l (Nat.le_refl _) h
theorem abvL_lt : ∀ l, hd l → ∀ x ∈ abvL l, x.length < l.length ∧ hd x := by
  refine path_rec (by simp [abvL_root]) (fun l h hn ih x hx => ?_)
  rw [abvL_step h hn] at hx
  have := foL_lt h hn
  rcases List.mem_cons.1 hx with rfl | hx
  · exact ⟨this, foL_hd h⟩
  · exact ⟨by have := (ih x hx).1; omega, (ih x hx).2⟩
theorem abvL_nd : ∀ l, hd l → (abvL l).Nodup := by
  refine path_rec (by simp [abvL_root]) (fun l h hn ih => ?_)
  rw [abvL_step h hn]
  refine List.nodup_cons.2 ⟨fun hx => ?_, ih⟩
  have := (abvL_lt _ (foL_hd h) _ hx).1
  omega
theorem abvL_len : ∀ l, hd l → (abvL l).length ≤ l.length := by
  refine path_rec (by simp [abvL_root]) (fun l h hn ih => ?_)
  rw [abvL_step h hn]
  have := foL_lt h hn
  simp
  omega
/-- Which are above. -/
theorem mem_abvL : ∀ l, hd l → ∀ x, x ∈ abvL l ↔ (x = [47] ∧ l ≠ [47]) ∨ (x ≠ [] ∧ ∃ r, l = x ++ 47 :: r) := by
  refine path_rec (fun x => ?_) (fun l h hn ih x => ?_)
  · constructor
    · simp [abvL_root]
    · rintro (⟨_, h⟩ | ⟨h, r, e⟩)
      · exact absurd rfl h
      · cases x with
        | nil => exact absurd rfl h
        | cons c x => have := congrArg List.length e; simp at this
  · rw [abvL_step h hn, List.mem_cons, ih]
    obtain ⟨a, y, e, hy, hc⟩ := hd_cut h
    have hfo : foL l = if a = [] then [47] else a := by unfold foL; rw [hc]
    constructor
    · rintro (rfl | ⟨rfl, _⟩ | ⟨h1, r, e2⟩)
      · by_cases ha : a = []
        · rw [hfo, if_pos ha]; exact .inl ⟨rfl, hn⟩
        · rw [hfo, if_neg ha]; exact .inr ⟨ha, y, e⟩
      · exact .inl ⟨rfl, hn⟩
      · by_cases ha : a = []
        · rw [hfo, if_pos ha] at e2
          cases x with
          | nil => exact absurd rfl h1
          | cons c x => have := congrArg List.length e2; simp at this
        · rw [hfo, if_neg ha] at e2
          exact .inr ⟨h1, r ++ 47 :: y, by rw [e, e2]; simp⟩
    · rintro (⟨rfl, _⟩ | ⟨h1, r, e2⟩)
      · by_cases hf : foL l = [47]
        · exact .inl hf.symm
        · exact .inr (.inl ⟨rfl, hf⟩)
      · rw [e] at e2
        have ha : a ≠ [] := by
          rintro rfl
          cases x with
          | nil => exact absurd rfl h1
          | cons c x =>
            simp only [List.nil_append, List.cons_append, List.cons.injEq] at e2
            exact hy 47 (by rw [e2.2]; simp) rfl
        rcases List.append_eq_append_iff.1 e2 with ⟨b, hb1, hb2⟩ | ⟨b, hb1, hb2⟩
        · cases b with
          | nil => simp at hb1; exact .inl (by rw [hfo, if_neg ha, hb1])
          | cons c b =>
            simp only [List.cons_append, List.cons.injEq] at hb2
            exact absurd rfl (hy 47 (by rw [hb2.2]; simp))
        · cases b with
          | nil => simp at hb1; exact .inl (by rw [hfo, if_neg ha, hb1])
          | cons c b =>
            simp only [List.cons_append, List.cons.injEq] at hb2
            refine .inr (.inr ⟨h1, b, ?_⟩)
            rw [hfo, if_neg ha, hb1, ← hb2.1]
theorem isPL_hd {l : L} (h : isPL l = true) : hd l := by
  cases l with
  | nil => cases h
  | cons c r => simp [isPL] at h; simp [hd, h.1]
def fo (s : ByteArray) : ByteArray := mkS (foL (byt s))
def abv (s : ByteArray) : List ByteArray := (abvL (byt s)).map mkS
def isP (s : ByteArray) : Bool := isPL (byt s)
def rootS : ByteArray := ⟨#[47]⟩
def noS : ByteArray := ⟨#[]⟩
theorem byt_root {s : ByteArray} : byt s = [47] ↔ s = rootS := ⟨fun h => byt_inj h, fun h => by rw [h]; rfl⟩
theorem isP_hd {s : ByteArray} (h : isP s = true) : hd (byt s) := isPL_hd h
theorem fo_lt {s : ByteArray} (h : isP s = true) (hn : s ≠ rootS) : (fo s).size < s.size := by
  rw [← byt_len s]; exact foL_lt (isP_hd h) (fun e => hn (byt_root.1 e))
theorem fo_le (s : ByteArray) : (fo s).size ≤ s.size := by
  rw [← byt_len s]; exact foL_le _
theorem fo_ne {s : ByteArray} (h : isP s = true) (hn : s ≠ rootS) : fo s ≠ s := fun e => by
  have := fo_lt h hn
  rw [e] at this
  omega
theorem abv_root : abv rootS = [] := rfl
theorem abv_step {s : ByteArray} (h : hd (byt s)) (hn : s ≠ rootS) : abv s = fo s :: abv (fo s) := by
  unfold abv
  rw [abvL_step h (fun e => hn (byt_root.1 e))]
  rfl
theorem mk_inj {a b : L} (h : mkS a = mkS b) : a = b := by rw [← byt_mk a, h, byt_mk]
theorem abv_nd {s : ByteArray} (h : hd (byt s)) : (abv s).Nodup := List.Pairwise.map _ (fun {a b} (h : a ≠ b) e => h (mk_inj e)) (abvL_nd _ h)
theorem abv_lt {s x : ByteArray} (h : hd (byt s)) (hx : x ∈ abv s) : x.size < s.size ∧ hd (byt x) := by
  obtain ⟨l, hl, rfl⟩ := List.mem_map.1 hx
  have := abvL_lt _ h l hl
  rw [byt_len] at this
  exact this
theorem abv_len {s : ByteArray} (h : hd (byt s)) : (abv s).length ≤ s.size := by
  unfold abv
  rw [List.length_map, ← byt_len]
  exact abvL_len _ h
end Go.Proofs.YtnniahlacfflmaaDoor
