/- What the rows' list of package-level variables gives: the tables' cells; a world that holds them all, for the witness. -/
import Derived.Test.YtlnfapkpehhafaaDoorW6
import Derived.Test.YtlnfapkpehhafaaDoorRows
import Derived.Lib.LaidTab
import Derived.OpenShut
import Derived.Stop.LaidErr
import Derived.Deep.DeepLaidRun
namespace Go.Proofs.YtlnfapkpehhafaaDoor
open Go.RowKit Go.ChangeShapes
def laidAll : List (String × DataW Unit) := [("math/bits.deBruijn32tab", Rows.laid_math_bits_deBruijn32tab), ("math/bits.deBruijn64tab", Rows.laid_math_bits_deBruijn64tab), ("internal/strconv.uint64pow10", Rows.laid_internal_strconv_uint64pow10), ("unicode/utf8.acceptRanges", Rows.laid_unicode_utf8_acceptRanges), ("reveille/span.read", Rows.laid_reveille_span_read), ("reveille/span.written", Rows.laid_reveille_span_written), ("unicode/utf8.first", Rows.laid_unicode_utf8_first)]
/-- A variable that is listed: its cells, and how they read. -/
theorem laid_at {P : Program} {W : World} : ∀ {l : List (String × DataW Unit)} {ps : List MemPlace}, DataW.LaidVars P W l ps → ∀ n d, (n, d) ∈ l → ∃ g t cs fuel p, P.globalNamed n = some g ∧ (P.globals[g]?).map (·.type) = some t ∧ W.var? P n = some cs ∧ DataW.trod (fun _ => ()) P W 0 (fun _ => true) false fuel t cs.toList = some (d, p)
  | [], _, _, n, d, hm => by simp at hm
  | (m, c) :: r, ps, ⟨g, t, cs, fuel, p, q, h1, h2, h3, h4, h5, _⟩, n, d, hm => by
    rcases List.mem_cons.1 hm with he | hm
    · obtain ⟨rfl, rfl⟩ := Prod.mk.inj he
      exact ⟨g, t, cs, fuel, p, h1, h2, h3, h4⟩
    · exact laid_at h5 n d hm
def pairD (x : List UInt8 × Int) : DataW Unit := .agg [.lit (.string x.1), .lit (.int .i64 x.2)]
/-- An array of pairs, a string and an int64 each, that reads as listed holds just these cells. -/
theorem cells_of_pairs {W : World} {base : Nat} {sp : Nat → Bool} {held : Bool} {fuel n : Nat} {t : TypeId} {cs : List Value} {xs : List (List UInt8 × Int)} {p : List MemPlace}
    (ht : Tryd.prog.underlying t = some (.array n 49)) (h : DataW.trod (fun _ => ()) Tryd.prog W base sp held fuel t cs = some (.agg (xs.map pairD), p)) (i : Nat) (x : List UInt8 × Int) (hx : xs[i]? = some x) :
    cs[i * 2]? = some (.string ⟨x.1.toArray⟩) ∧ cs[i * 2 + 1]? = some (.int .i64 x.2) := by
  have c49 : Tryd.prog.cellsOf 49 = 2 := by kernel_rfl
  have c9 : Tryd.prog.cellsOf 9 = 1 := by kernel_rfl
  have c2 : Tryd.prog.cellsOf 2 = 1 := by kernel_rfl
  obtain ⟨ys, m, _, hxe, _, hlen, hat⟩ := DataW.trod_array ht h
  have hfst : xs.map pairD = ys.map (·.1) := by
    have := congrArg Prod.fst hxe
    simpa using this
  have hn : xs.length = n := by
    have := congrArg List.length hfst
    simpa [hlen] using this
  have hi : i < n := by
    rw [← hn]
    rcases Nat.lt_or_ge i xs.length with h | h
    · exact h
    · rw [List.getElem?_eq_none h] at hx; cases hx
  obtain ⟨y, hy⟩ : ∃ y, ys[i]? = some y := ⟨ys[i]'(by omega), List.getElem?_eq_getElem _⟩
  have hy1 : y.1 = pairD x := by
    have := congrArg (·[i]?) hfst
    simp only [List.getElem?_map, hx, hy, Option.map_some, Option.some.injEq] at this
    exact this.symm
  have hr := hat i hi
  rw [hy, c49] at hr
  obtain ⟨y0, y1, k, rfl, _, h0, h1⟩ := trod_struct2 Tryd.underlying49 hr
  simp only [c9, c2] at h0 h1
  obtain ⟨s, hs, rfl, _⟩ := DataW.trod_string Tryd.underlying9 h0
  obtain ⟨z, hz, rfl, _⟩ := DataW.trod_int Tryd.underlying2 h1
  simp only [pairD, DataW.agg.injEq, List.cons.injEq, DataW.lit.injEq, Lit.string.injEq, Lit.int.injEq, true_and, and_true] at hy1
  have e0 : cs[i * 2]? = some (.string s) := by
    have := congrArg (·[0]?) hs
    simpa [List.getElem?_take, List.getElem?_drop] using this
  have e1 : cs[i * 2 + 1]? = some (.int .i64 z) := by
    have := congrArg (·[0]?) hz
    simpa [List.getElem?_take, List.getElem?_drop] using this
  refine ⟨?_, ?_⟩
  · rw [e0, ← hy1.1]
  · rw [e1, hy1.2]
theorem gRead : Tryd.prog.globalNamed "reveille/span.read" = some 1 := by kernel_rfl
theorem gWrit : Tryd.prog.globalNamed "reveille/span.written" = some 0 := by kernel_rfl
theorem gAcc : Tryd.prog.globalNamed "unicode/utf8.acceptRanges" = some 7 := by kernel_rfl
theorem tyRead : (Tryd.prog.globals[1]?).map (·.type) = some 88 := by kernel_rfl
theorem tyWrit : (Tryd.prog.globals[0]?).map (·.type) = some 50 := by kernel_rfl
theorem tyPow : (Tryd.prog.globals[2]?).map (·.type) = some 93 := by kernel_rfl
theorem var_lt {P : Program} {W : World} {n : String} {g : Nat} {cs : Array Value} (hg : P.globalNamed n = some g) (h : W.var? P n = some cs) : g < W.heap.size := by
  simp only [World.var?, hg, Option.bind_some] at h
  rcases Nat.lt_or_ge g W.heap.size with hl | hl
  · exact hl
  · rw [Array.getElem?_eq_none hl] at h; cases h
theorem tabs_of_laid {W : World} (h : laidMetH Tryd.prog laidAll W) : TabsIn W := by
  obtain ⟨ps, hL, _, _⟩ : laidMet Tryd.prog laidAll W := h
  refine ⟨?_, ?_, ?_, ?_⟩
  · obtain ⟨g, t, cs, fuel, p, h1, h2, h3, h4⟩ := laid_at hL "reveille/span.read" Rows.laid_reveille_span_read (by simp [laidAll])
    obtain rfl := Option.some.inj (gRead.symm.trans h1)
    obtain rfl := Option.some.inj (tyRead.symm.trans h2)
    have hc := cells_of_pairs (xs := Sp.readT) Tryd.underlying88 h4
    intro j v hv
    rw [World.var?_cell gRead h3 j, ← Array.getElem?_toList]
    have hj : j < 16 := by
      rcases Nat.lt_or_ge j 16 with h | h
      · exact h
      · rw [List.getElem?_eq_none h] at hv; cases hv
    have hd : j = j / 2 * 2 ∨ j = j / 2 * 2 + 1 := by omega
    have hk : j / 2 = 0 ∨ j / 2 = 1 ∨ j / 2 = 2 ∨ j / 2 = 3 ∨ j / 2 = 4 ∨ j / 2 = 5 ∨ j / 2 = 6 ∨ j / 2 = 7 := by omega
    generalize j / 2 = k at hd hk
    rcases hk with rfl | rfl | rfl | rfl | rfl | rfl | rfl | rfl
    · have h := hc 0 ([115, 101, 99], 1) rfl
      rcases hd with rfl | rfl
      · exact h.1.trans hv
      · exact h.2.trans hv
    · have h := hc 1 ([115], 1) rfl
      rcases hd with rfl | rfl
      · exact h.1.trans hv
      · exact h.2.trans hv
    · have h := hc 2 ([109, 105, 110], 60) rfl
      rcases hd with rfl | rfl
      · exact h.1.trans hv
      · exact h.2.trans hv
    · have h := hc 3 ([109], 60) rfl
      rcases hd with rfl | rfl
      · exact h.1.trans hv
      · exact h.2.trans hv
    · have h := hc 4 ([104, 114], 3600) rfl
      rcases hd with rfl | rfl
      · exact h.1.trans hv
      · exact h.2.trans hv
    · have h := hc 5 ([104], 3600) rfl
      rcases hd with rfl | rfl
      · exact h.1.trans hv
      · exact h.2.trans hv
    · have h := hc 6 ([100], 86400) rfl
      rcases hd with rfl | rfl
      · exact h.1.trans hv
      · exact h.2.trans hv
    · have h := hc 7 ([119], 604800) rfl
      rcases hd with rfl | rfl
      · exact h.1.trans hv
      · exact h.2.trans hv
  · obtain ⟨g, t, cs, fuel, p, h1, h2, h3, h4⟩ := laid_at hL "reveille/span.written" Rows.laid_reveille_span_written (by simp [laidAll])
    obtain rfl := Option.some.inj (gWrit.symm.trans h1)
    obtain rfl := Option.some.inj (tyWrit.symm.trans h2)
    have hc := cells_of_pairs (xs := Sp.writT) Tryd.underlying50 h4
    intro j v hv
    rw [World.var?_cell gWrit h3 j, ← Array.getElem?_toList]
    have hj : j < 10 := by
      rcases Nat.lt_or_ge j 10 with h | h
      · exact h
      · rw [List.getElem?_eq_none h] at hv; cases hv
    have hd : j = j / 2 * 2 ∨ j = j / 2 * 2 + 1 := by omega
    have hk : j / 2 = 0 ∨ j / 2 = 1 ∨ j / 2 = 2 ∨ j / 2 = 3 ∨ j / 2 = 4 := by omega
    generalize j / 2 = k at hd hk
    rcases hk with rfl | rfl | rfl | rfl | rfl
    · have h := hc 0 ([119], 604800) rfl
      rcases hd with rfl | rfl
      · exact h.1.trans hv
      · exact h.2.trans hv
    · have h := hc 1 ([100], 86400) rfl
      rcases hd with rfl | rfl
      · exact h.1.trans hv
      · exact h.2.trans hv
    · have h := hc 2 ([104], 3600) rfl
      rcases hd with rfl | rfl
      · exact h.1.trans hv
      · exact h.2.trans hv
    · have h := hc 3 ([109, 105, 110], 60) rfl
      rcases hd with rfl | rfl
      · exact h.1.trans hv
      · exact h.2.trans hv
    · have h := hc 4 ([115], 1) rfl
      rcases hd with rfl | rfl
      · exact h.1.trans hv
      · exact h.2.trans hv
  · obtain ⟨g, t, cs, fuel, p, h1, h2, h3, h4⟩ := laid_at hL "internal/strconv.uint64pow10" Rows.laid_internal_strconv_uint64pow10 (by simp [laidAll])
    obtain rfl := Option.some.inj (gPow.symm.trans h1)
    obtain rfl := Option.some.inj (tyPow.symm.trans h2)
    have hc := Lib.cells_of_tab (zs := Lib.pow10Tab) Tryd.underlying93 Tryd.underlying46 (by kernel_rfl) (by kernel_rfl) h4
    unfold Lib.TabIs
    rw [h3, ← hc]
  · obtain ⟨g, t, cs, fuel, p, h1, h2, h3, h4⟩ := laid_at hL "unicode/utf8.acceptRanges" Rows.laid_unicode_utf8_acceptRanges (by simp [laidAll])
    obtain rfl := Option.some.inj (gAcc.symm.trans h1)
    exact var_lt gAcc h3
end Go.Proofs.YtlnfapkpehhafaaDoor
