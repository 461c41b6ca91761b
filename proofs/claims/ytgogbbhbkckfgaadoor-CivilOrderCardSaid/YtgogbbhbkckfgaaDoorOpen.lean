/- A date and a moment as arguments: how they are opened and shut; the laid variables of the laws that print. -/
import Derived.Test.YtgogbbhbkckfgaaDoorLaid
import Derived.Test.YtgogbbhbkckfgaaDoorP1
import Derived.Deep.Strs
import Derived.Lib.SmallJoins
namespace Go.Proofs.YtgogbbhbkckfgaaDoor
open Go.ChangeShapes Go.WideShapes Go.ChangeAt Go.RowKit Go.Deep Go.Joins
abbrev li (n : Int) {H : Type} : DataW H := .lit (.int .i64 n)
theorem c23 : Tryd.prog.cellsOf 23 = 3 := by kernel_rfl
theorem c25 : Tryd.prog.cellsOf 25 = 6 := by kernel_rfl
theorem c3 : Tryd.prog.cellsOf 3 = 1 := by kernel_rfl
section
variable {H : Type} {enc : TypeId × Value → H} {W : World} {base : Nat} {sp : Nat → Bool} {held : Bool}
theorem trod_date {fuel : Nat} {cs : List Value} {x : DataW H × List MemPlace} (h : DataW.trod enc Tryd.prog W base sp held fuel 23 cs = some x) :
    ∃ y m d : Int, cs = [.int .i64 y, .int .i64 m, .int .i64 d] ∧ x = (.agg [li y, li m, li d], []) ∧ (Lit.int .i64 y).wf = true ∧ (Lit.int .i64 m).wf = true ∧ (Lit.int .i64 d).wf = true := by
  obtain ⟨y0, y1, y2, n, rfl, hl, h0, h1, h2⟩ := trod_struct3 Tryd.underlying23 h
  rw [c23] at hl
  match cs, hl with
  | [a, b, c], _ =>
    simp only [c3] at h0 h1 h2
    obtain ⟨y, e0, rfl, w0⟩ := DataW.trod_int Tryd.underlying3 h0
    obtain ⟨m, e1, rfl, w1⟩ := DataW.trod_int Tryd.underlying3 h1
    obtain ⟨d, e2, rfl, w2⟩ := DataW.trod_int Tryd.underlying3 h2
    simp at e0 e1 e2
    exact ⟨y, m, d, by rw [e0, e1, e2], rfl, w0, w1, w2⟩
theorem trod_i (n : Nat) (k : Int) (h : (Lit.int .i64 k).wf = true) : DataW.trod enc Tryd.prog W base sp held (n + 1) 3 [.int .i64 k] = some (li k, []) := by
  simp [DataW.trod, Tryd.underlying3, h]
theorem trod_date_mk (n : Nat) (y m d : Int) (w0 : (Lit.int .i64 y).wf = true) (w1 : (Lit.int .i64 m).wf = true) (w2 : (Lit.int .i64 d).wf = true) :
    DataW.trod enc Tryd.prog W base sp held (n + 1 + 1) 23 [.int .i64 y, .int .i64 m, .int .i64 d] = some (.agg [li y, li m, li d], []) :=
  trod_struct3_mk (n := n + 1) (y0 := (li y, [])) (y1 := (li m, [])) (y2 := (li d, [])) Tryd.underlying23 (by rw [c23]; rfl) (by simpa [c3] using trod_i n y w0) (by simpa [c3] using trod_i n m w1) (by simpa [c3] using trod_i n d w2)
theorem open_date {r : Reach} {b0 : Nat} {v : Value} {x : DataW H} {p : List MemPlace} (hv : Value.okWide Tryd.prog W r b0 23 v) (h : DataW.Trod enc Tryd.prog W base sp held 23 v x p) :
    ∃ y m d : Int, v = .agg #[.int .i64 y, .int .i64 m, .int .i64 d] ∧ x = .agg [li y, li m, li d] ∧ p = [] ∧ (Lit.int .i64 y).wf = true ∧ (Lit.int .i64 m).wf = true ∧ (Lit.int .i64 d).wf = true := by
  obtain ⟨cs, rfl, _⟩ := okWide_struct Tryd.underlying23 hv
  obtain ⟨fuel, hf⟩ := h
  obtain ⟨y, m, d, e, hx, w0, w1, w2⟩ := trod_date hf
  simp only [Prod.mk.injEq] at hx
  obtain ⟨l⟩ := cs
  simp [Value.cells] at e
  subst e
  exact ⟨y, m, d, rfl, hx.1, hx.2, w0, w1, w2⟩
theorem shut_date {y m d : Int} (w0 : (Lit.int .i64 y).wf = true) (w1 : (Lit.int .i64 m).wf = true) (w2 : (Lit.int .i64 d).wf = true) :
    DataW.Trod enc Tryd.prog W base sp held 23 (.agg #[.int .i64 y, .int .i64 m, .int .i64 d]) (.agg [li y, li m, li d]) [] :=
  ⟨_, trod_date_mk 0 y m d w0 w1 w2⟩
theorem open_mom {r : Reach} {b0 : Nat} {v : Value} {x : DataW H} {p : List MemPlace} (hv : Value.okWide Tryd.prog W r b0 25 v) (h : DataW.Trod enc Tryd.prog W base sp held 25 v x p) :
    ∃ y m d a b c : Int, v = .agg #[.int .i64 y, .int .i64 m, .int .i64 d, .int .i64 a, .int .i64 b, .int .i64 c] ∧ x = .agg [.agg [li y, li m, li d], li a, li b, li c] ∧ p = [] ∧
      (Lit.int .i64 y).wf = true ∧ (Lit.int .i64 m).wf = true ∧ (Lit.int .i64 d).wf = true ∧ (Lit.int .i64 a).wf = true ∧ (Lit.int .i64 b).wf = true ∧ (Lit.int .i64 c).wf = true := by
  obtain ⟨cs, rfl, _⟩ := okWide_struct Tryd.underlying25 hv
  obtain ⟨fuel, hf⟩ := h
  obtain ⟨y0, y1, y2, y3, n, hx, hl, h0, h1, h2, h3⟩ := trod_struct4 Tryd.underlying25 hf
  obtain ⟨l⟩ := cs
  simp only [Value.cells] at hl h0 h1 h2 h3
  rw [c25] at hl
  match l, hl with
  | [q0, q1, q2, q3, q4, q5], _ =>
    simp only [c3, c23] at h0 h1 h2 h3
    obtain ⟨y, m, d, e0, rfl, w0, w1, w2⟩ := trod_date h0
    obtain ⟨a, e1, rfl, w3⟩ := DataW.trod_int Tryd.underlying3 h1
    obtain ⟨b, e2, rfl, w4⟩ := DataW.trod_int Tryd.underlying3 h2
    obtain ⟨c, e3, rfl, w5⟩ := DataW.trod_int Tryd.underlying3 h3
    simp at e0 e1 e2 e3
    simp only [Prod.mk.injEq] at hx
    exact ⟨y, m, d, a, b, c, by rw [e0.1, e0.2.1, e0.2.2, e1, e2, e3], hx.1, hx.2, w0, w1, w2, w3, w4, w5⟩
theorem shut_mom {y m d a b c : Int} (w0 : (Lit.int .i64 y).wf = true) (w1 : (Lit.int .i64 m).wf = true) (w2 : (Lit.int .i64 d).wf = true) (w3 : (Lit.int .i64 a).wf = true) (w4 : (Lit.int .i64 b).wf = true) (w5 : (Lit.int .i64 c).wf = true) :
    DataW.Trod enc Tryd.prog W base sp held 25 (.agg #[.int .i64 y, .int .i64 m, .int .i64 d, .int .i64 a, .int .i64 b, .int .i64 c]) (.agg [.agg [li y, li m, li d], li a, li b, li c]) [] :=
  ⟨_, trod_struct4_mk (n := 1 + 1) (y0 := (.agg [li y, li m, li d], [])) (y1 := (li a, [])) (y2 := (li b, [])) (y3 := (li c, [])) Tryd.underlying25 (by rw [c25]; rfl) (by simpa [c23, Value.cells] using trod_date_mk 0 y m d w0 w1 w2) (by simpa [c3, Value.cells] using trod_i 1 a w3) (by simpa [c3, Value.cells] using trod_i 1 b w4) (by simpa [c3, Value.cells] using trod_i 1 c w5)⟩
end
theorem tyPow : (Tryd.prog.globals[1]?).map (·.type) = some 77 := by kernel_rfl
theorem gDb64 : Tryd.prog.globalNamed "math/bits.deBruijn64tab" = some 3 := by kernel_rfl
theorem var_lt {P : Program} {W : World} {n : String} {g : Nat} {cs : Array Value} (hg : P.globalNamed n = some g) (h : W.var? P n = some cs) : g < W.heap.size := by
  simp only [World.var?, hg, Option.bind_some] at h
  rcases Nat.lt_or_ge g W.heap.size with hl | hl
  · exact hl
  · rw [Array.getElem?_eq_none hl] at h; cases h
theorem tab_P {W : World} (h : laidMetH Tryd.prog laidP W) : TabP W := by
  have hl := len_P h
  obtain ⟨ps, hL, _, _⟩ : laidMet Tryd.prog laidP W := h
  refine ⟨hl, ?_, ?_⟩
  · obtain ⟨g, t, cs, fuel, p, h1, h2, h3, h4⟩ := laid_at hL "internal/strconv.uint64pow10" Rows.laid_internal_strconv_uint64pow10 (by simp [laidP])
    obtain rfl := Option.some.inj (gPow.symm.trans h1)
    obtain rfl := Option.some.inj (tyPow.symm.trans h2)
    have hc := Lib.cells_of_tab (zs := Lib.pow10Tab) Tryd.underlying77 Tryd.underlying70 (by kernel_rfl) (by kernel_rfl) h4
    unfold Lib.TabIs
    rw [h3, ← hc]
  · obtain ⟨g, t, cs, fuel, p, h1, h2, h3, h4⟩ := laid_at hL "math/bits.deBruijn64tab" Rows.laid_math_bits_deBruijn64tab (by simp [laidP])
    obtain rfl := Option.some.inj (gDb64.symm.trans h1)
    exact var_lt gDb64 h3
end Go.Proofs.YtgogbbhbkckfgaaDoor
