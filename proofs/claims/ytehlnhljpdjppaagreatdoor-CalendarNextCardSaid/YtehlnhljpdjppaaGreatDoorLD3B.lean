/- What the rows' list of package-level variables gives; a world that holds them all, for the rows' witnesses. -/
import Derived.Test.YtehlnhljpdjppaaGreatDoorZD
import Derived.Test.YtehlnhljpdjppaaGreatDoorRows
import Derived.Lib.LaidTab
import Derived.OpenShut
import Derived.Stop.LaidErr
import Derived.Deep.DeepLaidRun
import Derived.Deep.DeepHandedRow
import Derived.ProofKit
import Derived.Shelf.Vars
namespace Go.Proofs.YtehlnhljpdjppaaGreatDoor
open Go.RowKit Go.ChangeShapes
def laidAll : List (String × DataW Unit) := [("unicode/utf8.acceptRanges", Rows.laid_unicode_utf8_acceptRanges), ("reveille/civil.lengths", Rows.laid_reveille_civil_lengths), ("reveille/calendar.limits", Rows.laid_reveille_calendar_limits), ("unicode/utf8.first", Rows.laid_unicode_utf8_first)]
/-- A variable that is listed: its cells, and how they read. -/
theorem laid_at {P : Program} {W : World} : ∀ {l : List (String × DataW Unit)} {ps : List MemPlace}, DataW.LaidVars P W l ps → ∀ n d, (n, d) ∈ l → ∃ g t cs fuel p, P.globalNamed n = some g ∧ (P.globals[g]?).map (·.type) = some t ∧ W.var? P n = some cs ∧ DataW.trod (fun _ => ()) P W 0 (fun _ => true) false fuel t cs.toList = some (d, p)
  | [], _, _, n, d, hm => by simp at hm
  | (m, c) :: r, ps, ⟨g, t, cs, fuel, p, q, h1, h2, h3, h4, h5, _⟩, n, d, hm => by
    rcases List.mem_cons.1 hm with he | hm
    · obtain ⟨rfl, rfl⟩ := Prod.mk.inj he
      exact ⟨g, t, cs, fuel, p, h1, h2, h3, h4⟩
    · exact laid_at h5 n d hm
def pairD (x : Int × Int) : DataW Unit := .agg [.lit (.int .i64 x.1), .lit (.int .i64 x.2)]
/-- An array of pairs, two ints each, that reads as listed holds just these cells. -/
theorem cells_of_pairs {W : World} {base : Nat} {sp : Nat → Bool} {held : Bool} {fuel n : Nat} {t : TypeId} {cs : List Value} {xs : List (Int × Int)} {p : List MemPlace}
    (ht : Tryz.prog.underlying t = some (.array n 66)) (h : DataW.trod (fun _ => ()) Tryz.prog W base sp held fuel t cs = some (.agg (xs.map pairD), p)) (i : Nat) (x : Int × Int) (hx : xs[i]? = some x) :
    cs[i * 2]? = some (.int .i64 x.1) ∧ cs[i * 2 + 1]? = some (.int .i64 x.2) := by
  have c49 : Tryz.prog.cellsOf 66 = 2 := by kernel_rfl
  have c2 : Tryz.prog.cellsOf 3 = 1 := by kernel_rfl
  obtain ⟨ys, m, _, hxe, _, hlen, hat⟩ := DataW.trod_array ht h
  have hfst : xs.map pairD = ys.map (·.1) := by
    have := congrArg Prod.fst hxe
    simpa using this
  have hn : xs.length = n := by
    have := congrArg List.length hfst
    simpa [hlen] using this
  have hi : i < n := by
    rw [← hn]
    rcases Nat.lt_or_ge i xs.length with h | h
    · exact h
    · rw [List.getElem?_eq_none h] at hx; cases hx
  obtain ⟨y, hy⟩ : ∃ y, ys[i]? = some y := ⟨ys[i]'(by omega), List.getElem?_eq_getElem _⟩
  have hy1 : y.1 = pairD x := by
    have := congrArg (·[i]?) hfst
    simp only [List.getElem?_map, hx, hy, Option.map_some, Option.some.injEq] at this
    exact this.symm
  have hr := hat i hi
  rw [hy, c49] at hr
  obtain ⟨y0, y1, k, rfl, _, h0, h1⟩ := trod_struct2 Tryz.underlying66 hr
  simp only [c2] at h0 h1
  obtain ⟨s, hs, rfl, _⟩ := DataW.trod_int Tryz.underlying3 h0
  obtain ⟨z, hz, rfl, _⟩ := DataW.trod_int Tryz.underlying3 h1
  simp only [pairD, DataW.agg.injEq, List.cons.injEq, DataW.lit.injEq, Lit.int.injEq, true_and, and_true] at hy1
  have e0 : cs[i * 2]? = some (.int .i64 s) := by
    have := congrArg (·[0]?) hs
    simpa [List.getElem?_take, List.getElem?_drop] using this
  have e1 : cs[i * 2 + 1]? = some (.int .i64 z) := by
    have := congrArg (·[0]?) hz
    simpa [List.getElem?_take, List.getElem?_drop] using this
  refine ⟨?_, ?_⟩
  · rw [e0, ← hy1.1]
  · rw [e1, hy1.2]
theorem gLim : Tryz.prog.globalNamed "reveille/calendar.limits" = some 0 := by kernel_rfl
theorem tyLim : (Tryz.prog.globals[0]?).map (·.type) = some 67 := by kernel_rfl
theorem gLen : Tryz.prog.globalNamed "reveille/civil.lengths" = some 1 := by kernel_rfl
theorem tyLen : (Tryz.prog.globals[1]?).map (·.type) = some 121 := by kernel_rfl
def limT : List (Int × Int) := [(1970, 2200), (1, 12), (1, 31), (0, 23), (0, 59), (0, 59)]
theorem gl_of_laid {W : World} (h : laidMetH Tryz.prog laidAll W) (hsh : W.ShapedOpen Tryz.prog) : GlP W := by
  obtain ⟨ps, hL, _, _⟩ : laidMet Tryz.prog laidAll W := h
  refine ⟨⟨?_, ?_, fun h => h, fun h => h⟩, ?_⟩
  · obtain ⟨g, t, cs, fuel, p, h1, h2, h3, h4⟩ := laid_at hL "reveille/calendar.limits" Rows.laid_reveille_calendar_limits (by simp [laidAll])
    obtain rfl := Option.some.inj (gLim.symm.trans h1)
    obtain rfl := Option.some.inj (tyLim.symm.trans h2)
    have hc := cells_of_pairs (xs := limT) Tryz.underlying67 h4
    intro j e he
    rw [World.var?_cell gLim h3, ← Array.getElem?_toList]
    have hj : j < 12 := by have := (List.getElem?_eq_some_iff.1 he).1; simpa [limCells] using this
    match j, hj with
    | 0, _ => cases he; exact (hc 0 _ rfl).1
    | 1, _ => cases he; exact (hc 0 _ rfl).2
    | 2, _ => cases he; exact (hc 1 _ rfl).1
    | 3, _ => cases he; exact (hc 1 _ rfl).2
    | 4, _ => cases he; exact (hc 2 _ rfl).1
    | 5, _ => cases he; exact (hc 2 _ rfl).2
    | 6, _ => cases he; exact (hc 3 _ rfl).1
    | 7, _ => cases he; exact (hc 3 _ rfl).2
    | 8, _ => cases he; exact (hc 4 _ rfl).1
    | 9, _ => cases he; exact (hc 4 _ rfl).2
    | 10, _ => cases he; exact (hc 5 _ rfl).1
    | 11, _ => cases he; exact (hc 5 _ rfl).2
  · obtain ⟨g, t, cs, fuel, p, h1, h2, h3, h4⟩ := laid_at hL "reveille/civil.lengths" Rows.laid_reveille_civil_lengths (by simp [laidAll])
    obtain rfl := Option.some.inj (gLen.symm.trans h1)
    obtain rfl := Option.some.inj (tyLen.symm.trans h2)
    have hc := Lib.cells_of_tab (zs := lenCells) Tryz.underlying121 Tryz.underlying3 (by kernel_rfl) (by kernel_rfl) h4
    intro j v hv
    rw [World.var?_cell gLen h3 j, ← Array.getElem?_toList, hc, List.getElem?_map, hv]
    rfl
  · exact cell_of_shapedOpen_int (P := Tryz.prog) (g := 2) (t := 3) (zero := #[.int .i64 0]) hsh (of_decide_eq_true (by kernel_rfl)) (by kernel_rfl) rfl (by kernel_rfl) (by kernel_rfl) Tryz.underlying3
def putCells (w : World) (b : Nat) (cs : Array Value) : World :=
  { w with heap := w.heap.modify b fun
      | .cells _ t frozen => .cells cs t frozen
      | o => o }
def firstCells : Array Value := match Go.Pinned.utf8First with
  | .agg l => (l.map fun
      | .lit (.int k n) => Value.int k n
      | _ => .int .u8 0).toArray
  | _ => #[]
def laidWorld (P : Program) (os : Os) : World :=
  putCells (putCells (putCells (putCells (World.holding P os ⟨#[], #[], []⟩)
    0 #[.int .i64 1970, .int .i64 2200, .int .i64 1, .int .i64 12, .int .i64 1, .int .i64 31, .int .i64 0, .int .i64 23, .int .i64 0, .int .i64 59, .int .i64 0, .int .i64 59])
    1 #[.int .i64 31, .int .i64 28, .int .i64 31, .int .i64 30, .int .i64 31, .int .i64 30, .int .i64 31, .int .i64 31, .int .i64 30, .int .i64 31, .int .i64 30, .int .i64 31]) 3 firstCells) 4 #[.int .u8 128, .int .u8 191, .int .u8 160, .int .u8 191, .int .u8 128, .int .u8 159, .int .u8 144, .int .u8 191, .int .u8 128, .int .u8 143, .int .u8 0, .int .u8 0, .int .u8 0, .int .u8 0, .int .u8 0, .int .u8 0, .int .u8 0, .int .u8 0, .int .u8 0, .int .u8 0, .int .u8 0, .int .u8 0, .int .u8 0, .int .u8 0, .int .u8 0, .int .u8 0, .int .u8 0, .int .u8 0, .int .u8 0, .int .u8 0, .int .u8 0, .int .u8 0]
theorem laid_met (os : Os) (args : Array Value) : laidMet Tryz.prog laidAll ((laidWorld Tryz.prog os).forCall (fun _ _ => 0) ⟨#[], args, []⟩).memory :=
  laidMet_of_run3 8 (by kernel_rfl) (by kernel_rfl) (by kernel_rfl)
end Go.Proofs.YtehlnhljpdjppaaGreatDoor
