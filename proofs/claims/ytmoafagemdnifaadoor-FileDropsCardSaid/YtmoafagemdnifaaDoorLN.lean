/- Plain mathematics of lines and words, no program: blanks, lines that go on, what a line is, words, quotes. -/
import Derived.Lib.IndexMore
import Derived.Lib.IndexBytes
import Derived.Lib.Strings
import Derived.Lib.SlTrimSet
import Derived.Lib.IndexAny
namespace Go.Proofs.YtmoafagemdnifaaDoor.Lin
abbrev L := List UInt8
theorem all8 (P : UInt8 → Prop) (h : ∀ n : Fin 256, P (UInt8.ofNat n.val)) (c : UInt8) : P c := by
  have := h ⟨c.toNat, c.toNat_lt⟩
  simpa using this
def al (c : UInt8) : Bool := decide ((97 ≤ c.toNat ∧ c.toNat ≤ 122) ∨ (65 ≤ c.toNat ∧ c.toNat ≤ 90) ∨ (48 ≤ c.toNat ∧ c.toNat ≤ 57))
def sc (c : UInt8) : Bool := decide (32 ≤ c.toNat ∧ c.toNat ≠ 91 ∧ c.toNat ≠ 93)
def bl (c : UInt8) : Bool := [32, 9].contains c
theorem bl_iff (c : UInt8) : bl c = true ↔ c = 32 ∨ c = 9 := by simp [bl]
theorem bl_no (c : UInt8) : bl c = false ↔ c ≠ 32 ∧ c ≠ 9 := by simp [bl]
def trimL (l : L) : L := Lib.trimLeftS l [32, 9]
def trimR (l : L) : L := Lib.trimRightS l [32, 9]
def trim (l : L) : L := Lib.trimS l [32, 9]
def made (p : UInt8 → Bool) (l : L) : Bool := l.all p && !(l == [])
/-- The name between a section's brackets. -/
def secN (t : L) : Option L :=
  if Lib.hasPrefix t [91] && Lib.hasSuffix (Lib.trimPrefix t [91]) [93] && made sc (Lib.trimSuffix (Lib.trimPrefix t [91]) [93]) then some (Lib.trimSuffix (Lib.trimPrefix t [91]) [93]) else none
abbrev Kv := Nat × L × L
/-- A line: its kind, key and value. -/
def prs (s : L) : Option Kv :=
  match secN (trim s) with
  | some n => some (1, n, [])
  | none => if (Lib.cut (trim s) [61]).2.2 && made al (trimR (Lib.cut (trim s) [61]).1) then some (2, trimR (Lib.cut (trim s) [61]).1, trimL (Lib.cut (trim s) [61]).2.1) else none
/-- Parts between line feeds. -/
def pieces : L → List L
  | [] => [[]]
  | c :: r => if c = 10 then [] :: pieces r else (match pieces r with | p :: q => (c :: p) :: q | [] => [[c]])
theorem pieces_none : ∀ l : L, (∀ x ∈ l, x ≠ 10) → pieces l = [l]
  | [], _ => rfl
  | c :: r, h => by
    have hc : c ≠ 10 := h c (by simp)
    simp only [pieces, if_neg hc]
    rw [pieces_none r (fun x hx => h x (by simp [hx]))]
theorem pieces_split : ∀ (a b : L), (∀ x ∈ a, x ≠ 10) → pieces (a ++ 10 :: b) = a :: pieces b
  | [], b, _ => by simp [pieces]
  | c :: r, b, h => by
    have hc : c ≠ 10 := h c (by simp)
    rw [List.cons_append]
    simp only [pieces, if_neg hc]
    rw [pieces_split r b (fun x hx => h x (by simp [hx]))]
def lout (p : L) : Bool := match trimL p with | [] => true | c :: _ => c == 35 || c == 59
/-- Whole lines: n lines are gone; b: where the line that goes on has begun, or 0; x: its text so far. -/
def whl (n b : Nat) (x : L) : List L → List (Nat × L)
  | [] => if b = 0 then [] else [(b, x)]
  | p :: r =>
    if b = 0 ∧ lout p = true then whl (n + 1) 0 x r
    else if Lib.hasSuffix p [92] then whl (n + 1) (if b = 0 then n + 1 else b) (x ++ Lib.trimSuffix p [92] ++ [32]) r
    else (if b = 0 then n + 1 else b, x ++ p) :: whl (n + 1) 0 [] r
abbrev Ln := Nat × L × L × Nat
abbrev Res := Except (Nat × Int) (List Ln)
def lnsW : List (Nat × L) → Res
  | [] => .ok []
  | (n, t) :: r => if 400 < t.length then .error (n, 51) else match prs t with
    | none => .error (n, 50)
    | some p => match lnsW r with
      | .ok l => .ok ((p.1, p.2.1, p.2.2, n) :: l)
      | .error e => .error e
/-- The lines of a text, or its first error and where. -/
def lns (s : L) : Res := if 4000 < s.length then .error (0, 51) else lnsW (whl 0 0 [] (pieces s))
/-- Words. -/
def bat (l : L) : Nat := (l.takeWhile (fun c => !bl c)).length
def es1 (c : UInt8) : Option UInt8 := if c = 34 ∨ c = 39 ∨ c = 92 then some c else if c = 110 then some 10 else none
def cutQF (q : UInt8) : Nat → L → Option (L × L)
  | _, [] => none
  | 0, _ :: _ => none
  | n + 1, c :: r => if c = q then some ([], r) else if c = 92 then (match r with | [] => none | d :: t => (es1 d).bind fun m => (cutQF q n t).map fun p => (m :: p.1, p.2)) else (cutQF q n r).map fun p => (c :: p.1, p.2)
theorem cutQF_fuel (q : UInt8) : ∀ (n m : Nat) (l : L), l.length ≤ n → l.length ≤ m → cutQF q n l = cutQF q m l
  | n, m, [], _, _ => by cases n <;> cases m <;> rfl
  | 0, _, _ :: _, h, _ => by simp at h
  | _, 0, _ :: _, _, h => by simp at h
  | n + 1, m + 1, c :: r, h1, h2 => by
    simp only [List.length_cons] at h1 h2
    simp only [cutQF]
    split
    · rfl
    · split
      · cases r with
        | nil => rfl
        | cons d t =>
          simp only [List.length_cons] at h1 h2
          simp only
          rw [cutQF_fuel q n m t (by omega) (by omega)]
      · rw [cutQF_fuel q n m r (by omega) (by omega)]
/-- A quoted word, its first quote gone: the word, and what is left. -/
def cutQ (q : UInt8) (l : L) : Option (L × L) := cutQF q l.length l
theorem cutQ_nil (q : UInt8) : cutQ q [] = none := rfl
theorem cutQ_end (q : UInt8) (r : L) : cutQ q (q :: r) = some ([], r) := by simp [cutQ, cutQF]
theorem cutQ_bs0 (q : UInt8) (hq : q ≠ 92) : cutQ q [92] = none := by simp [cutQ, cutQF, hq.symm]
theorem cutQ_bs (q d : UInt8) (t : L) (hq : q ≠ 92) : cutQ q (92 :: d :: t) = (es1 d).bind fun m => (cutQ q t).map fun p => (m :: p.1, p.2) := by
  unfold cutQ
  simp only [List.length_cons, cutQF, if_neg hq.symm, if_true]
  rw [cutQF_fuel q (t.length + 1) t.length t (by omega) (by omega)]
theorem cutQ_plain (q c : UInt8) (r : L) (h1 : c ≠ q) (h2 : c ≠ 92) : cutQ q (c :: r) = (cutQ q r).map fun p => (c :: p.1, p.2) := by
  unfold cutQ
  simp only [List.length_cons, cutQF, if_neg h1, if_neg h2]
theorem cutQF_len (q : UInt8) : ∀ (n : Nat) (l : L) (p : L × L), cutQF q n l = some p → p.1.length + p.2.length + 1 ≤ l.length
  | n, [], p, h => by cases n <;> cases h
  | 0, _ :: _, p, h => by cases h
  | n + 1, c :: r, p, h => by
    simp only [cutQF] at h
    split at h
    · cases h; simp
    · split at h
      · cases r with
        | nil => cases h
        | cons d t =>
          simp only at h
          cases he : es1 d with
          | none => rw [he] at h; cases h
          | some m =>
            rw [he] at h
            simp only [Option.bind_some, Option.map_eq_some_iff] at h
            obtain ⟨u, hu, rfl⟩ := h
            have := cutQF_len q n t u hu
            simp; omega
      · simp only [Option.map_eq_some_iff] at h
        obtain ⟨u, hu, rfl⟩ := h
        have := cutQF_len q n r u hu
        simp; omega
theorem cutQ_len {q : UInt8} {l : L} {p : L × L} (h : cutQ q l = some p) : p.1.length + p.2.length + 1 ≤ l.length := cutQF_len _ _ _ _ h
/-- The first word of a text that isn't empty, and what is left. -/
def cutW : L → Option (L × L)
  | [] => some ([], [])
  | c :: r => if c = 34 ∨ c = 39 then (cutQ c r).bind fun p => if bat p.2 = 0 then some p else none
    else some ((c :: r).take (bat (c :: r)), (c :: r).drop (bat (c :: r)))
def splF : Nat → L → Option (List L)
  | _, [] => some []
  | 0, _ :: _ => none
  | n + 1, c :: r => (cutW (c :: r)).bind fun p => (splF n (trimL p.2)).map (p.1 :: ·)
/-- The words of a text. -/
def spl (s : L) : Option (List L) := splF s.length (trimL s)
def q1 (c : UInt8) : L := if c = 34 ∨ c = 92 then [92, c] else if c = 10 then [92, 110] else [c]
def quo (s : L) : L := 34 :: (s.flatMap q1 ++ [34])
theorem trimL_len (l : L) : (trimL l).length ≤ l.length := by
  unfold trimL Lib.trimLeftS
  exact (List.dropWhile_suffix _).length_le
theorem trimR_len (l : L) : (trimR l).length ≤ l.length := by
  unfold trimR Lib.trimRightS
  rw [List.length_reverse]
  have := (List.dropWhile_suffix (l := l.reverse) ([32, 9].contains ·)).length_le
  rwa [List.length_reverse] at this
theorem trim_len (l : L) : (trim l).length ≤ l.length := by
  have h : trim l = trimL (trimR l) := rfl
  rw [h]
  exact Nat.le_trans (trimL_len _) (trimR_len _)
theorem bat_cons_pos {c : UInt8} (r : L) (h : bl c = false) : 0 < bat (c :: r) := by
  unfold bat
  rw [List.takeWhile_cons, h]
  simp
theorem bat_le (l : L) : bat l ≤ l.length := by
  unfold bat
  exact (List.takeWhile_prefix _).length_le
theorem bat_zero (l : L) : bat l = 0 ↔ l = [] ∨ ∃ c r, l = c :: r ∧ bl c = true := by
  cases l with
  | nil => simp [bat]
  | cons c r =>
    cases h : bl c
    · have := bat_cons_pos r h
      constructor
      · intro e; omega
      · rintro (e | ⟨d, t, e, hd⟩)
        · cases e
        · cases e; rw [h] at hd; cases hd
    · constructor
      · intro _; exact .inr ⟨c, r, rfl, h⟩
      · intro _; unfold bat; rw [List.takeWhile_cons, h]; rfl
/-- What skips blanks begins with none. -/
theorem trimL_head {l : L} {c : UInt8} {r : L} (h : trimL l = c :: r) : bl c = false := by
  have := List.head?_dropWhile_not ([32, 9].contains ·) l
  unfold trimL Lib.trimLeftS at h
  rw [h] at this
  simpa [bl] using this
theorem cutW_len {c : UInt8} {r : L} (hc : bl c = false) {p : L × L} (h : cutW (c :: r) = some p) : p.2.length < (c :: r).length ∧ p.1.length ≤ (c :: r).length := by
  simp only [cutW] at h
  split at h
  · cases hq : cutQ c r with
    | none => rw [hq] at h; cases h
    | some u =>
      rw [hq] at h
      have := cutQ_len hq
      simp only [Option.bind_some] at h
      split at h
      · cases h; simp; omega
      · cases h
  · cases h
    have := bat_cons_pos r hc
    simp only [List.length_drop, List.length_take, List.length_cons]
    omega
theorem splF_fuel : ∀ (n m : Nat) (l : L), (∀ c r, l = c :: r → bl c = false) → l.length ≤ n → l.length ≤ m → splF n l = splF m l
  | n, m, [], _, _, _ => by cases n <;> cases m <;> rfl
  | 0, _, _ :: _, _, h, _ => by simp at h
  | _, 0, _ :: _, _, _, h => by simp at h
  | n + 1, m + 1, c :: r, hb, h1, h2 => by
    simp only [splF]
    cases hp : cutW (c :: r) with
    | none => rfl
    | some p =>
      have hl := (cutW_len (hb c r rfl) hp).1
      have := trimL_len p.2
      simp only [List.length_cons] at h1 h2 hl
      simp only [Option.bind_some]
      rw [splF_fuel n m (trimL p.2) (fun c r h => trimL_head h) (by omega) (by omega)]
/-- Words of a text that begins with no blank. -/
def spl0 (l : L) : Option (List L) := splF l.length l
theorem spl_eq (s : L) : spl s = spl0 (trimL s) := splF_fuel _ _ _ (fun _ _ h => trimL_head h) (trimL_len s) (Nat.le_refl _)
theorem spl0_nil : spl0 [] = some [] := rfl
theorem spl0_cons {c : UInt8} {r : L} (hc : bl c = false) : spl0 (c :: r) = (cutW (c :: r)).bind fun p => (spl0 (trimL p.2)).map (p.1 :: ·) := by
  unfold spl0
  rw [List.length_cons]
  simp only [splF]
  cases hp : cutW (c :: r) with
  | none => rfl
  | some p =>
    have hl := (cutW_len hc hp).1
    have := trimL_len p.2
    simp only [List.length_cons] at hl
    simp only [Option.bind_some]
    rw [splF_fuel r.length (trimL p.2).length (trimL p.2) (fun _ _ h => trimL_head h) (by omega) (Nat.le_refl _)]
end Go.Proofs.YtmoafagemdnifaaDoor.Lin
