/- The document's paths, plain: the reference's round over a path's bytes, its 'below', beside TP's. -/
import Derived.Test.YtnniahlacfflmaaDoorTP
namespace Go.Proofs.YtnniahlacfflmaaDoor
open Go.RowKit Go.Shelf
def okw (w : L) : Bool := !(w == [] || w == [46] || w == [46, 46] || decide (40 < w.length))
/-- The round: parts till now, the part that is under way, what is left. -/
def scan : Nat → L → L → Option Nat
  | n, w, [] => if okw w = true then some (n + 1) else none
  | n, w, c :: r => if c = 0 then none else if c = 47 then (if okw w = true then scan (n + 1) [] r else none) else scan n (w ++ [c]) r
def rIs (n : Nat) (w r : L) : Bool := match scan n w r with | some m => decide (m ≤ 8) | none => false
theorem okp_okw {w : L} (h : w.contains 0 = false) : okp w = okw w := by
  unfold okp okw
  rw [h]
  by_cases e : w.length ≤ 40
  · have : ¬ 40 < w.length := by omega
    simp [e, this]
  · have : 40 < w.length := by omega
    simp [this]
theorem pieces_cons : ∀ l : L, ∃ p q, pieces l = p :: q
  | [] => ⟨_, _, rfl⟩
  | c :: r => by
    obtain ⟨p, q, h⟩ := pieces_cons r
    unfold pieces
    by_cases e : c = 47
    · exact ⟨_, _, if_pos e⟩
    · rw [if_neg e, h]; exact ⟨_, _, rfl⟩
theorem rIs_eq : ∀ (r : L) (n : Nat) (w : L), w.contains 0 = false → ∀ p q, pieces r = p :: q → rIs n w r = okAll n ((w ++ p) :: q)
  | [], n, w, h0, p, q, hp => by
    have : p = [] ∧ q = [] := by unfold pieces at hp; cases hp; exact ⟨rfl, rfl⟩
    obtain ⟨rfl, rfl⟩ := this
    unfold rIs scan okAll okAll
    rw [List.append_nil, okp_okw h0]
    cases okw w with
    | false => simp
    | true => simp; omega
  | c :: r, n, w, h0, p, q, hp => by
    obtain ⟨p', q', hr⟩ := pieces_cons r
    unfold pieces at hp
    by_cases e0 : c = 0
    · subst e0
      rw [if_neg (by decide), hr] at hp
      cases hp
      unfold rIs scan okAll
      have : okp (w ++ 0 :: p') = false := by unfold okp; simp
      rw [this]
      simp
    · by_cases e : c = 47
      · subst e
        rw [if_pos rfl] at hp
        cases hp
        have ih := rIs_eq r (n + 1) [] rfl p' q' hr
        unfold rIs at ih ⊢
        unfold scan okAll
        rw [if_neg e0, if_pos rfl, List.append_nil, okp_okw h0]
        cases okw w with
        | false => simp
        | true =>
          simp only [if_true, Bool.true_and]
          rw [ih, hr, List.nil_append]
          by_cases hn : n < 8
          · simp [hn]
          · unfold okAll
            have : ¬ n + 1 < 8 := by omega
            simp [hn, this]
      · rw [if_neg e, hr] at hp
        cases hp
        have hz : (w ++ [c]).contains 0 = false := by
          have h1 : ¬ (0 : UInt8) ∈ w := by simpa using h0
          have h2 : ¬ (0 : UInt8) = c := fun q => e0 q.symm
          simp [h1, h2]
        have ih := rIs_eq r n (w ++ [c]) hz p' _ hr
        unfold rIs at ih ⊢
        unfold scan
        rw [if_neg e0, if_neg e, ih, List.append_assoc]
        rfl
theorem isPL_scan (c : UInt8) (r : L) : isPL (c :: r) = ((c == 47) && (r == [] || rIs 0 [] r)) := by
  obtain ⟨p, q, h⟩ := pieces_cons r
  show ((c == 47) && (r == [] || okAll 0 (pieces r))) = _
  rw [rIs_eq r 0 [] rfl p q h, List.nil_append, h]
/-- Below a folder, as the reference asks it. -/
theorem below_iff {l x : L} (h : hd l) (hx : x ≠ []) (hr : x ≠ [47]) : x ∈ abvL l ↔ (x.length < l.length ∧ l.take x.length = x ∧ l[x.length]? = some 47) := by
  rw [mem_abvL l h x]
  refine ⟨?_, ?_⟩
  · rintro (⟨e, _⟩ | ⟨_, r, rfl⟩)
    · exact absurd e hr
    · refine ⟨by simp, by simp, by simp⟩
  · rintro ⟨h1, h2, h3⟩
    refine .inr ⟨hx, l.drop (x.length + 1), ?_⟩
    have h4 : l[x.length] = 47 := by
      rw [List.getElem?_eq_getElem h1] at h3
      exact Option.some.inj h3
    have := List.take_append_drop x.length l
    rw [h2, List.drop_eq_getElem_cons h1, h4] at this
    exact this.symm
theorem below_root {l : L} (h : hd l) : [47] ∈ abvL l ↔ l ≠ [47] := by
  rw [mem_abvL l h [47]]
  refine ⟨?_, fun e => .inl ⟨rfl, e⟩⟩
  rintro (⟨_, e⟩ | ⟨_, r, rfl⟩)
  · exact e
  · intro q; cases q
end Go.Proofs.YtnniahlacfflmaaDoor
