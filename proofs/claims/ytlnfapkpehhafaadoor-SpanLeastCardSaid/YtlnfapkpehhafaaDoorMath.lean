/- The plain functions behind package span: sums and differences within bounds, spans as text read and printed; facts on them. -/
import Derived.Lib.Strings
import Derived.Lib.TrimByte
import Derived.Lib.ItoaNum
import Derived.Lib.Join
namespace Go.Proofs.YtlnfapkpehhafaaDoor.Sp
def top : Int := 9223372036854775807
def low : Int := -9223372036854775808
def addS (a b : Int) : Int := if a = top ∨ b = top then top else if top < a + b then top else if a + b < low then low else a + b
def subS (a b : Int) : Int := if a = top then top else if b = top then low else if top < a - b then top else if a - b < low then low else a - b
def timesS (n k : Int) : Int := if top / k < n then top else n * k
def blk (l : List UInt8) : List UInt8 := Lib.trimLeftB l 32
def isDg (c : UInt8) : Bool := decide (48 ≤ (c.toNat : Int)) && decide ((c.toNat : Int) ≤ 57)
def dg (l : List UInt8) : List UInt8 := l.takeWhile isDg
def valS (l : List UInt8) : Int := l.foldl (fun n c => n * 10 + ((c.toNat : Int) - 48)) 0
def numV (l : List UInt8) : Int := if 18 < (dg l).length then 0 else valS (dg l)
def numR (l : List UInt8) : List UInt8 := if 18 < (dg l).length then [] else l.drop (dg l).length
def numB (l : List UInt8) : Bool := decide (0 < (dg l).length) && decide ((dg l).length ≤ 18)
def readT : List (List UInt8 × Int) := [([115, 101, 99], 1), ([115], 1), ([109, 105, 110], 60), ([109], 60), ([104, 114], 3600), ([104], 3600), ([100], 86400), ([119], 604800)]
def unitV : List (List UInt8 × Int) → List UInt8 → Int
  | [], _ => 1
  | (p, k) :: r, l => if Lib.hasPrefix l p then k else unitV r l
def unitR : List (List UInt8 × Int) → List UInt8 → List UInt8
  | [], l => l
  | (p, _) :: r, l => if Lib.hasPrefix l p then Lib.trimPrefix l p else unitR r l
def unitB : List (List UInt8 × Int) → List UInt8 → Bool
  | [], _ => false
  | (p, _) :: r, l => if Lib.hasPrefix l p then true else unitB r l
def aftR (l : List UInt8) : List UInt8 := blk (numR l)
def partR (l : List UInt8) : List UInt8 := blk (unitR readT (aftR l))
def partB (l : List UInt8) : Bool := numB l && (unitB readT (aftR l) || (partR l).isEmpty)
def partV (l : List UInt8) : Int := timesS (numV l) (unitV readT (aftR l))
def parseGo : Nat → Int → List UInt8 → Option Int
  | 0, sum, l => if l.isEmpty then some sum else none
  | f + 1, sum, l => if l.isEmpty then some sum else if partB l then parseGo f (addS sum (partV l)) (partR l) else none
def infL : List UInt8 := [105, 110, 102, 105, 110, 105, 116, 121]
def parse (l : List UInt8) : Option Int := if l == infL then some top else if (blk l).isEmpty then none else parseGo l.length 0 (blk l)
def parseV (l : List UInt8) : Int := (parse l).getD 0
def parseE (l : List UInt8) : Int := if (parse l).isSome then 0 else 10
def writT : List (List UInt8 × Int) := [([119], 604800), ([100], 86400), ([104], 3600), ([109, 105, 110], 60), ([115], 1)]
def partsOf : List (List UInt8 × Int) → Int → List (List UInt8)
  | [], _ => []
  | (u, k) :: r, n => (if 0 < n / k then [Lib.itoa (n / k) ++ u] else []) ++ partsOf r (n % k)
def printP (n : Int) : List UInt8 := if n = top then infL else if n = 0 then [48, 115] else Lib.join (partsOf writT n) [32]
def print (n : Int) : List UInt8 := if n = low then 45 :: infL else if n < 0 then 45 :: printP (-n) else printP n

theorem known_a : parse [49, 104, 32, 51, 48, 109, 105, 110] = some 5400 := by decide +kernel
theorem known_b : parse [53, 32, 54] = none := by decide +kernel
theorem known_c : print 90061 = [49, 100, 32, 49, 104, 32, 49, 109, 105, 110, 32, 49, 115] := by decide +kernel

theorem dg_le (l : List UInt8) : (dg l).length ≤ l.length := by
  unfold dg; exact (List.takeWhile_prefix isDg).length_le
theorem dg_take (l : List UInt8) (k : Nat) (h : k ≤ (dg l).length) : (dg l).take k = l.take k := by
  have := (List.takeWhile_prefix (p := isDg) (l := l))
  obtain ⟨t, ht⟩ := this
  unfold dg at h ⊢
  have h2 := List.take_append_of_le_length (l₂ := t) h
  rw [ht] at h2
  exact h2.symm
theorem dg_all (l : List UInt8) : ∀ c ∈ dg l, isDg c = true := by
  induction l with
  | nil => simp [dg]
  | cons c t ih =>
    unfold dg at *
    by_cases hd : isDg c = true
    · simp only [List.takeWhile_cons, hd, if_true, List.mem_cons]
      rintro x (rfl | hx)
      · exact hd
      · exact ih x hx
    · simp [hd]
theorem dg_get (l : List UInt8) (k : Nat) (h : k < (dg l).length) (hk : k < l.length) : 48 ≤ (l[k].toNat : Int) ∧ (l[k].toNat : Int) ≤ 57 := by
  have h1 : isDg (dg l)[k] = true := by
    exact dg_all l _ (List.getElem_mem h)
  have h2 : (dg l)[k] = l[k] := by
    have := (List.takeWhile_prefix (p := isDg) (l := l))
    exact this.getElem h
  rw [h2] at h1
  simpa [isDg] using h1
theorem dg_stop (l : List UInt8) (h : (dg l).length < l.length) : ¬ (48 ≤ (l[(dg l).length].toNat : Int) ∧ (l[(dg l).length].toNat : Int) ≤ 57) := by
  intro hc
  have h1 : isDg l[(dg l).length] = true := by simpa [isDg] using hc
  induction l with
  | nil => simp at h
  | cons c t ih =>
    unfold dg at *
    by_cases hd : isDg c = true
    · simp only [List.takeWhile_cons, hd, if_true, List.length_cons, List.getElem_cons_succ] at h hc h1 ⊢
      exact ih (by omega) hc h1
    · simp only [List.takeWhile_cons, hd] at h1
      exact hd h1
theorem valS_snoc (l : List UInt8) (c : UInt8) : valS (l ++ [c]) = valS l * 10 + ((c.toNat : Int) - 48) := by
  simp [valS, List.foldl_append]
theorem fold_bd (l : List UInt8) (h : ∀ c ∈ l, isDg c = true) : ∀ n : Int, 0 ≤ n → n * 10 ^ l.length ≤ l.foldl (fun n c => n * 10 + ((c.toNat : Int) - 48)) n ∧ l.foldl (fun n c => n * 10 + ((c.toNat : Int) - 48)) n < (n + 1) * 10 ^ l.length := by
  induction l with
  | nil => intro n _; simp; omega
  | cons c t ih =>
    intro n hn
    have hc : isDg c = true := h c (by simp)
    simp only [isDg, Bool.and_eq_true, decide_eq_true_eq] at hc
    have := ih (fun x hx => h x (by simp [hx])) (n * 10 + ((c.toNat : Int) - 48)) (by omega)
    rw [List.foldl_cons, List.length_cons, Int.pow_succ]
    have hp : (0 : Int) < 10 ^ t.length := Int.pow_pos (by decide)
    have e1 : n * (10 ^ t.length * 10) ≤ (n * 10 + ((c.toNat : Int) - 48)) * 10 ^ t.length := by
      rw [Int.mul_comm (10 ^ t.length) 10, ← Int.mul_assoc]
      exact Int.mul_le_mul_of_nonneg_right (by omega) (by omega)
    have e2 : (n * 10 + ((c.toNat : Int) - 48) + 1) * 10 ^ t.length ≤ (n + 1) * (10 ^ t.length * 10) := by
      rw [Int.mul_comm (10 ^ t.length) 10, ← Int.mul_assoc]
      exact Int.mul_le_mul_of_nonneg_right (by omega) (by omega)
    omega
theorem valS_bd (l : List UInt8) (h : ∀ c ∈ l, isDg c = true) : 0 ≤ valS l ∧ valS l < 10 ^ l.length := by
  have := fold_bd l h 0 (by omega)
  unfold valS
  omega
theorem pow_le (k : Nat) (h : k ≤ 18) : (10 : Int) ^ k ≤ 1000000000000000000 := by
  have : (10 : Int) ^ k ≤ 10 ^ 18 := by
    have h2 : (10 : Nat) ^ k ≤ 10 ^ 18 := Nat.pow_le_pow_right (by decide) h
    exact_mod_cast h2
  simpa using this
theorem valS_take (l : List UInt8) (k : Nat) (hk : k < l.length) : valS (l.take (k + 1)) = valS (l.take k) * 10 + ((l[k].toNat : Int) - 48) := by
  rw [List.take_succ_eq_append_getElem hk, valS_snoc]
theorem valS_take_bd (l : List UInt8) (k : Nat) (h : k ≤ (dg l).length) (h18 : k ≤ 18) : 0 ≤ valS (l.take k) ∧ valS (l.take k) < 1000000000000000000 := by
  rw [← dg_take l k h]
  have := valS_bd ((dg l).take k) (fun c hc => dg_all l c (List.mem_of_mem_take hc))
  have hp := pow_le ((dg l).take k).length (by rw [List.length_take]; omega)
  omega
theorem valS_take_bd17 (l : List UInt8) (k : Nat) (h : k ≤ (dg l).length) (h17 : k ≤ 17) : valS (l.take k) < 100000000000000000 := by
  rw [← dg_take l k h]
  have := valS_bd ((dg l).take k) (fun c hc => dg_all l c (List.mem_of_mem_take hc))
  have h2 : (10 : Nat) ^ ((dg l).take k).length ≤ 10 ^ 17 := Nat.pow_le_pow_right (by decide) (by rw [List.length_take]; omega)
  have h3 : (10 : Int) ^ ((dg l).take k).length ≤ 10 ^ 17 := by exact_mod_cast h2
  have h4 : (10 : Int) ^ 17 = 100000000000000000 := by decide
  omega
theorem addS_bd (a b : Int) : low ≤ addS a b ∧ addS a b ≤ top := by
  unfold addS; (repeat' split) <;> (unfold top low at *; omega)
theorem subS_bd (a b : Int) : low ≤ subS a b ∧ subS a b ≤ top := by
  unfold subS; (repeat' split) <;> (unfold top low at *; omega)
theorem timesS_bd (n k : Int) (hn : 0 ≤ n) (hk : 1 ≤ k) : 0 ≤ timesS n k ∧ timesS n k ≤ top := by
  unfold timesS
  split
  · unfold top; omega
  · rename_i h
    exact ⟨Int.mul_nonneg hn (by omega), Int.mul_le_of_le_ediv (by omega) (by omega)⟩
theorem blk_le (l : List UInt8) : (blk l).length ≤ l.length := by
  unfold blk Lib.trimLeftB
  exact (List.dropWhile_suffix _).length_le
theorem trimPrefix_le (l p : List UInt8) : (Lib.trimPrefix l p).length ≤ l.length := by
  unfold Lib.trimPrefix; split
  · rw [List.length_drop]; omega
  · omega
theorem unitR_le (T : List (List UInt8 × Int)) (l : List UInt8) : (unitR T l).length ≤ l.length := by
  induction T with
  | nil => simp [unitR]
  | cons x r ih =>
    obtain ⟨p, k⟩ := x
    unfold unitR
    split
    · exact trimPrefix_le l p
    · exact ih
theorem partR_lt (l : List UInt8) (h : partB l = true) : (partR l).length < l.length := by
  have hn : numB l = true := by unfold partB at h; simp only [Bool.and_eq_true] at h; exact h.1
  unfold numB at hn
  simp only [Bool.and_eq_true, decide_eq_true_eq] at hn
  have h1 := blk_le (unitR readT (aftR l))
  have h2 := unitR_le readT (aftR l)
  have h3 := blk_le (numR l)
  have h4 : (numR l).length < l.length := by
    unfold numR; rw [if_neg (by omega), List.length_drop]
    have := dg_le l
    omega
  unfold partR
  unfold aftR at *
  omega
theorem parseGo_nil (f : Nat) (t : Int) : parseGo f t [] = some t := by cases f <;> simp [parseGo]
theorem parseGo_yes (f : Nat) (t : Int) (l : List UInt8) (hne : l ≠ []) (hf : l.length ≤ f) (h : partB l = true) : ∃ g, (partR l).length ≤ g ∧ parseGo f t l = parseGo g (addS t (partV l)) (partR l) := by
  have hl := partR_lt l h
  cases f with
  | zero => cases l <;> simp_all
  | succ f =>
    refine ⟨f, by omega, ?_⟩
    cases l with
    | nil => exact absurd rfl hne
    | cons c r => simp [parseGo, h]
theorem parseGo_no (f : Nat) (t : Int) (l : List UInt8) (hne : l ≠ []) (h : partB l = false) : parseGo f t l = none := by
  cases l with
  | nil => exact absurd rfl hne
  | cons c r => cases f <;> simp [parseGo, h]
end Go.Proofs.YtlnfapkpehhafaaDoor.Sp
