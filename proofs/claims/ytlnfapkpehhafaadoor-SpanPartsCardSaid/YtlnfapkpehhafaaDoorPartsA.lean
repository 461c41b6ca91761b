/- SpanParts: the early way out; the arrays that it lays. -/
import Derived.Test.YtlnfapkpehhafaaDoorR3
import Derived.Test.YtlnfapkpehhafaaDoorMath5
namespace Go.Proofs.YtlnfapkpehhafaaDoor
open Go.RowKit
set_option maxHeartbeats 1000000 in
theorem parts_early (a0 a1 a2 : Option Addr) (n0 n1 n2 c0 c1 c2 : Nat) (w : World) (hT : TabsIn w) (h : n0 < 1 ∨ 12 < n0 ∨ n1 < n0 ∨ n2 < n0) :
    Calls Tryd.prog 7 #[.slice a0 n0 c0, .slice a1 n1 c1, .slice a2 n2 c2] w fun e w' => e = .returned (.bool true) ∧ Below w.heap.size w w' := by
  go_enter Tryd.func7, Tryd.ntmps7
  go_wp2_with fail
  refine (known_any _ hT).mono ?_
  rintro e w1 ⟨rfl, hb1⟩
  go_wp2_with fail
  all_goals go_ret
  all_goals exact ⟨rfl, hb1⟩
structure PArr (w W : World) : Prop where
  nm : ∀ k, k < 8 → W.cell? ⟨w.heap.size, k, none⟩ = some (.string ⟨(Sp.pName k).toArray⟩)
  sc : ∀ k, k < 8 → W.cell? ⟨w.heap.size + 1, k, none⟩ = some (.int .i64 (Sp.pSec k))
  bk : ∀ k, k < 3 → W.cell? ⟨w.heap.size + 1 + 1, k, none⟩ = some (.string ⟨(List.replicate (Sp.pBl k) 32).toArray⟩)
  bl : Below w.heap.size w W
  sz : w.heap.size + 3 ≤ W.heap.size
theorem parr_new (w : World) : PArr w (((w.alloc (.cells #[.string ⟨#[115]⟩, .string ⟨#[115, 101, 99]⟩, .string ⟨#[109]⟩, .string ⟨#[109, 105, 110]⟩, .string ⟨#[104]⟩, .string ⟨#[104, 114]⟩, .string ⟨#[100]⟩, .string ⟨#[119]⟩] 41)).alloc (.cells #[.int .i64 1, .int .i64 1, .int .i64 60, .int .i64 60, .int .i64 3600, .int .i64 3600, .int .i64 86400, .int .i64 604800] 42)).alloc (.cells #[.string ⟨#[]⟩, .string ⟨#[32]⟩, .string ⟨#[32, 32, 32]⟩] 43)) := by
  refine ⟨fun k hk => ?_, fun k hk => ?_, fun k hk => ?_, (((Below.refl _ w).alloc (Nat.le_refl _) _).alloc (by simp) _).alloc (by simp; omega) _, by simp⟩
  · rw [Below.cell (B := w.heap.size + 1) (((Below.refl _ (w.alloc (.cells #[.string ⟨#[115]⟩, .string ⟨#[115, 101, 99]⟩, .string ⟨#[109]⟩, .string ⟨#[109, 105, 110]⟩, .string ⟨#[104]⟩, .string ⟨#[104, 114]⟩, .string ⟨#[100]⟩, .string ⟨#[119]⟩] 41))).alloc (by simp) _).alloc (by simp) _) (p := ⟨w.heap.size, k, none⟩) (by simp)]
    have hk2 : k = 0 ∨ k = 1 ∨ k = 2 ∨ k = 3 ∨ k = 4 ∨ k = 5 ∨ k = 6 ∨ k = 7 := by omega
    rcases hk2 with rfl | rfl | rfl | rfl | rfl | rfl | rfl | rfl <;> simp [Sp.pName]
  · rw [Below.cell (B := w.heap.size + 2) ((Below.refl _ ((w.alloc (.cells #[.string ⟨#[115]⟩, .string ⟨#[115, 101, 99]⟩, .string ⟨#[109]⟩, .string ⟨#[109, 105, 110]⟩, .string ⟨#[104]⟩, .string ⟨#[104, 114]⟩, .string ⟨#[100]⟩, .string ⟨#[119]⟩] 41)).alloc (.cells #[.int .i64 1, .int .i64 1, .int .i64 60, .int .i64 60, .int .i64 3600, .int .i64 3600, .int .i64 86400, .int .i64 604800] 42))).alloc (by simp) _) (p := ⟨w.heap.size + 1, k, none⟩) (by simp)]
    have hk2 : k = 0 ∨ k = 1 ∨ k = 2 ∨ k = 3 ∨ k = 4 ∨ k = 5 ∨ k = 6 ∨ k = 7 := by omega
    rcases hk2 with rfl | rfl | rfl | rfl | rfl | rfl | rfl | rfl <;> simp [Sp.pSec]
  · generalize hV : (w.alloc _).alloc _ = V
    have hz : w.heap.size + 1 + 1 = V.heap.size := by rw [← hV]; simp
    rw [hz]
    have hk2 : k = 0 ∨ k = 1 ∨ k = 2 := by omega
    rcases hk2 with rfl | rfl | rfl <;> simp [Sp.pBl]
theorem PArr.below {w W W' : World} (h : PArr w W) (hb : Below W.heap.size W W') : PArr w W' :=
  ⟨fun k hk => (hb.cell (p := ⟨w.heap.size, k, none⟩) (by have := h.sz; simp; omega)).trans (h.nm k hk),
   fun k hk => (hb.cell (p := ⟨w.heap.size + 1, k, none⟩) (by have := h.sz; simp; omega)).trans (h.sc k hk),
   fun k hk => (hb.cell (p := ⟨w.heap.size + 1 + 1, k, none⟩) (by have := h.sz; simp; omega)).trans (h.bk k hk),
   h.bl.trans (hb.mono h.bl.size), Nat.le_trans h.sz hb.size⟩
theorem i64w (x : Int) (h : 0 ≤ x) (h' : x ≤ 9223372036854775807) : IntKind.i64.wrap x = x := by
  show (if (true && decide (x % 18446744073709551616 ≥ 9223372036854775808)) = true then x % 18446744073709551616 - 18446744073709551616 else x % 18446744073709551616) = x
  have e : x % 18446744073709551616 = x := Int.emod_eq_of_lt h (by omega)
  rw [e]
  simp
  omega
def rawOf (x r1 r2 r3 r4 : Nat) : Sp.Raw := ⟨Sp.pBl r1, Lib.decDigits x, Sp.pBl r2, Sp.pName r4, Sp.pSec r4, Sp.pBl r3⟩
theorem rawOf_ok (x r1 r2 r3 r4 : Nat) (hx : x ≤ 65535) (h1 : r1 < 3) (h2 : r2 < 3) (h3 : r3 < 3) (h4 : r4 < 8) : (rawOf x r1 r2 r3 r4).ok ∧ (rawOf x r1 r2 r3 r4).one.length ≤ 20 ∧ Sp.valS (rawOf x r1 r2 r3 r4).D = x := by
  have hl : (Lib.decDigits x).length ≤ 5 := Sp.dec_len 4 x (by simp; omega)
  have hu := Sp.pUnit r4 h4
  have g1 := Sp.pBl_le r1 h1
  have g2 := Sp.pBl_le r2 h2
  have g3 := Sp.pBl_le r3 h3
  refine ⟨⟨Sp.dec_all x, Sp.dec_ne x, by show (Lib.decDigits x).length ≤ 18; omega, hu.1⟩, ?_, Sp.dec_val x⟩
  simp only [Sp.Raw.one, rawOf, List.length_append, List.length_replicate]
  omega
theorem raw_step (L : List Sp.Raw) (i x r1 r2 r3 r4 : Nat) (hx : x ≤ 65535) (h1 : r1 < 3) (h2 : r2 < 3) (h3 : r3 < 3) (h4 : r4 < 8)
    (hh : L.length = i ∧ (∀ z ∈ L, z.ok) ∧ (Sp.rawTxt L).length ≤ 20 * i ∧ 0 ≤ Sp.sumR L ∧ Sp.sumR L ≤ 39635568000 * i) :
    (L ++ [rawOf x r1 r2 r3 r4]).length = i + 1 ∧ (∀ z ∈ L ++ [rawOf x r1 r2 r3 r4], z.ok) ∧ (Sp.rawTxt (L ++ [rawOf x r1 r2 r3 r4])).length ≤ 20 * (i + 1) ∧ 0 ≤ Sp.sumR (L ++ [rawOf x r1 r2 r3 r4]) ∧ Sp.sumR (L ++ [rawOf x r1 r2 r3 r4]) ≤ 39635568000 * ((i + 1 : Nat) : Int) := by
  obtain ⟨a, b, c, d, e⟩ := hh
  obtain ⟨o1, o2, o3⟩ := rawOf_ok x r1 r2 r3 r4 hx h1 h2 h3 h4
  have hu := Sp.pUnit r4 h4
  have hk : (rawOf x r1 r2 r3 r4).k = Sp.pSec r4 := rfl
  have hP0 : 0 ≤ (x : Int) * Sp.pSec r4 := Int.mul_nonneg (by omega) (by omega)
  have hP1 : (x : Int) * Sp.pSec r4 ≤ 65535 * 604800 := Int.mul_le_mul (by omega) (by omega) (by omega) (by omega)
  refine ⟨by simp [a], fun z hz => ?_, ?_, ?_, ?_⟩
  · rw [List.mem_append, List.mem_singleton] at hz
    rcases hz with hz | rfl
    · exact b z hz
    · exact o1
  · rw [Sp.raw_snoc, List.length_append]; omega
  · rw [Sp.sumR_snoc, o3, hk]; omega
  · rw [Sp.sumR_snoc, o3, hk]; omega
theorem hid {p : Prop} (h : p) : Hid p := h
end Go.Proofs.YtlnfapkpehhafaaDoor
