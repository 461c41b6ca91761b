/- Texts of parts as the law SpanParts writes them: read as the sum. -/
import Derived.Test.YtlnfapkpehhafaaDoorMath3
namespace Go.Proofs.YtlnfapkpehhafaaDoor.Sp
structure Raw where
  a : Nat
  D : List UInt8
  m : Nat
  u : List UInt8
  k : Int
  n : Nat
def Raw.one (x : Raw) : List UInt8 := List.replicate x.a 32 ++ (x.D ++ (List.replicate x.m 32 ++ (x.u ++ List.replicate x.n 32)))
def Raw.ok (x : Raw) : Prop := (∀ c ∈ x.D, isDg c = true) ∧ x.D ≠ [] ∧ x.D.length ≤ 18 ∧ (x.u, x.k) ∈ unitsT
def rawTxt : List Raw → List UInt8
  | [] => []
  | x :: r => x.one ++ rawTxt r
def sumR : List Raw → Int
  | [] => 0
  | x :: r => valS x.D * x.k + sumR r
def conv : List Raw → List Part
  | [] => []
  | [x] => [⟨x.D, x.m, x.u, x.k, x.n⟩]
  | x :: y :: r => ⟨x.D, x.m, x.u, x.k, x.n + y.a⟩ :: conv (y :: r)
theorem raw_snoc (L : List Raw) (x : Raw) : rawTxt (L ++ [x]) = rawTxt L ++ x.one := by
  induction L with
  | nil => simp [rawTxt]
  | cons y r ih => rw [List.cons_append, rawTxt, ih, rawTxt, List.append_assoc]
theorem sumR_snoc (L : List Raw) (x : Raw) : sumR (L ++ [x]) = sumR L + valS x.D * x.k := by
  induction L with
  | nil => simp [sumR]
  | cons y r ih => rw [List.cons_append, sumR, ih, sumR]; omega
theorem raw_conv (x : Raw) (r : List Raw) : rawTxt (x :: r) = List.replicate x.a 32 ++ txt (conv (x :: r)) := by
  induction r generalizing x with
  | nil => simp [rawTxt, Raw.one, conv, txt]
  | cons y r ih =>
    rw [rawTxt, ih y]
    simp only [conv, txt, Raw.one]
    rw [← List.replicate_append_replicate]
    simp only [List.append_assoc]
theorem conv_ok (L : List Raw) (h : ∀ x ∈ L, x.ok) : ∀ p ∈ conv L, p.ok := by
  induction L with
  | nil => intro p hp; simp [conv] at hp
  | cons x t ih =>
    have hx := h x (by simp)
    have ih2 := ih (fun y hy => h y (by simp [hy]))
    cases t with
    | nil =>
      intro p hp
      simp only [conv, List.mem_singleton] at hp
      subst hp
      exact hx
    | cons y r =>
      intro p hp
      simp only [conv, List.mem_cons] at hp
      rcases hp with rfl | hp
      · exact hx
      · exact ih2 p hp
theorem conv_sum (L : List Raw) : sumP (conv L) = sumR L := by
  induction L with
  | nil => rfl
  | cons x t ih =>
    cases t with
    | nil => rfl
    | cons y r => simp only [conv, sumP]; rw [ih]; rfl
theorem conv_cons (x : Raw) (r : List Raw) : ∃ p q, conv (x :: r) = p :: q := by
  cases r with
  | nil => exact ⟨_, _, rfl⟩
  | cons y r => exact ⟨_, _, rfl⟩
theorem parse_raw (L : List Raw) (hne : L ≠ []) (h : ∀ x ∈ L, x.ok) (hs : sumR L < top) : parse (rawTxt L) = some (sumR L) := by
  cases L with
  | nil => exact absurd rfl hne
  | cons x r =>
    have hok := conv_ok (x :: r) h
    have hsum := conv_sum (x :: r)
    obtain ⟨p, q, hp⟩ := conv_cons x r
    rw [raw_conv]
    rw [hp] at hok hsum ⊢
    rw [parse_parts x.a p q hok (by rw [hsum]; exact hs), hsum]
def pName (k : Nat) : List UInt8 := ([[115], [115, 101, 99], [109], [109, 105, 110], [104], [104, 114], [100], [119]] : List (List UInt8))[k]?.getD []
def pSec (k : Nat) : Int := ([1, 1, 60, 60, 3600, 3600, 86400, 604800] : List Int)[k]?.getD 1
def pBl (k : Nat) : Nat := ([0, 1, 3] : List Nat)[k]?.getD 0
theorem pUnit (k : Nat) (h : k < 8) : (pName k, pSec k) ∈ unitsT ∧ 1 ≤ pSec k ∧ pSec k ≤ 604800 ∧ (pName k).length ≤ 3 := by
  have hk2 : k = 0 ∨ k = 1 ∨ k = 2 ∨ k = 3 ∨ k = 4 ∨ k = 5 ∨ k = 6 ∨ k = 7 := by omega
  rcases hk2 with rfl | rfl | rfl | rfl | rfl | rfl | rfl | rfl <;> decide
theorem pBl_le (k : Nat) (h : k < 3) : pBl k ≤ 3 := by
  have hk2 : k = 0 ∨ k = 1 ∨ k = 2 := by omega
  rcases hk2 with rfl | rfl | rfl <;> decide
/-- One part of SpanParts: its number, its unit's place, its gap. -/
def mkRaw (x y g : Nat) : Raw := ⟨pBl (g % 3), Lib.decDigits x, pBl (g / 3 % 3), pName (y % 8), pSec (y % 8), pBl (g / 9 % 3)⟩
theorem mkRaw_ok (x y g : Nat) (hx : x ≤ 65535) : (mkRaw x y g).ok ∧ (mkRaw x y g).one.length ≤ 20 ∧ valS (mkRaw x y g).D = x := by
  have hl : (Lib.decDigits x).length ≤ 5 := dec_len 4 x (by simp; omega)
  have hu := pUnit (y % 8) (by omega)
  have h1 := pBl_le (g % 3) (by omega)
  have h2 := pBl_le (g / 3 % 3) (by omega)
  have h3 := pBl_le (g / 9 % 3) (by omega)
  refine ⟨⟨dec_all x, dec_ne x, by show (Lib.decDigits x).length ≤ 18; omega, hu.1⟩, ?_, dec_val x⟩
  simp only [Raw.one, mkRaw, List.length_append, List.length_replicate]
  omega
end Go.Proofs.YtlnfapkpehhafaaDoor.Sp
