import Derived.Test.YtedgnigogkmgkaaGreatDoorBab
import Derived.Test.YtedgnigogkmgkaaGreatDoorRows
import Derived.Lib.LaidTab
import Derived.OpenShut
import Derived.Stop.LaidErr
import Derived.Deep.DeepLaidRun
import Derived.Deep.DeepHandedRow
import Derived.ProofKit
import Derived.Shelf.Vars
import Derived.Test.YtedgnigogkmgkaaGreatDoorZ0
/- What the rows' list of package-level variables gives; a world that holds them all, for the rows' witnesses. -/
namespace Go.Proofs.YtedgnigogkmgkaaGreatDoor
open Go.RowKit Go.ChangeShapes Nam
def laidAll : List (String × DataW Unit) := [("reveille/name.endings", Rows.laid_reveille_name_endings)]
/-- A variable that is listed: its cells, and how they read. -/
theorem laid_at {P : Program} {W : World} : ∀ {l : List (String × DataW Unit)} {ps : List MemPlace}, DataW.LaidVars P W l ps → ∀ n d, (n, d) ∈ l → ∃ g t cs fuel p, P.globalNamed n = some g ∧ (P.globals[g]?).map (·.type) = some t ∧ W.var? P n = some cs ∧ DataW.trod (fun _ => ()) P W 0 (fun _ => true) false fuel t cs.toList = some (d, p)
  | [], _, _, n, d, hm => by simp at hm
  | (m, c) :: r, ps, ⟨g, t, cs, fuel, p, q, h1, h2, h3, h4, h5, _⟩, n, d, hm => by
    rcases List.mem_cons.1 hm with he | hm
    · obtain ⟨rfl, rfl⟩ := Prod.mk.inj he
      exact ⟨g, t, cs, fuel, p, h1, h2, h3, h4⟩
    · exact laid_at h5 n d hm
def pairD (x : L × Int) : DataW Unit := .agg [.lit (.string x.1), .lit (.int .i64 x.2)]
/-- An array of pairs, a string and an int each, that reads as listed holds just these cells. -/
theorem cells_of_pairs {W : World} {base : Nat} {sp : Nat → Bool} {held : Bool} {fuel n : Nat} {t : TypeId} {cs : List Value} {xs : List (L × Int)} {p : List MemPlace}
    (ht : Tryz.prog.underlying t = some (.array n 158)) (h : DataW.trod (fun _ => ()) Tryz.prog W base sp held fuel t cs = some (.agg (xs.map pairD), p)) (i : Nat) (x : L × Int) (hx : xs[i]? = some x) :
    cs[i * 2]? = some (.string ⟨x.1.toArray⟩) ∧ cs[i * 2 + 1]? = some (.int .i64 x.2) := by
  have c49 : Tryz.prog.cellsOf 158 = 2 := by kernel_rfl
  have c9 : Tryz.prog.cellsOf 9 = 1 := by kernel_rfl
  have c2 : Tryz.prog.cellsOf 3 = 1 := by kernel_rfl
  obtain ⟨ys, m, _, hxe, _, hlen, hat⟩ := DataW.trod_array ht h
  have hfst : xs.map pairD = ys.map (·.1) := by
    have := congrArg Prod.fst hxe
    simpa using this
  have hn : xs.length = n := by
    have := congrArg List.length hfst
    simpa [hlen] using this
  have hi : i < n := by
    rw [← hn]
    rcases Nat.lt_or_ge i xs.length with h | h
    · exact h
    · rw [List.getElem?_eq_none h] at hx; cases hx
  obtain ⟨y, hy⟩ : ∃ y, ys[i]? = some y := ⟨ys[i]'(by omega), List.getElem?_eq_getElem _⟩
  have hy1 : y.1 = pairD x := by
    have := congrArg (·[i]?) hfst
    simp only [List.getElem?_map, hx, hy, Option.map_some, Option.some.injEq] at this
    exact this.symm
  have hr := hat i hi
  rw [hy, c49] at hr
  obtain ⟨y0, y1, k, rfl, _, h0, h1⟩ := trod_struct2 Tryz.underlying158 hr
  simp only [c9, c2] at h0 h1
  obtain ⟨s, hs, rfl, _⟩ := DataW.trod_string Tryz.underlying9 h0
  obtain ⟨z, hz, rfl, _⟩ := DataW.trod_int Tryz.underlying3 h1
  simp only [pairD, DataW.agg.injEq, List.cons.injEq, DataW.lit.injEq, Lit.string.injEq, Lit.int.injEq, true_and, and_true] at hy1
  have e0 : cs[i * 2]? = some (.string s) := by
    have := congrArg (·[0]?) hs
    simpa [List.getElem?_take, List.getElem?_drop] using this
  have e1 : cs[i * 2 + 1]? = some (.int .i64 z) := by
    have := congrArg (·[0]?) hz
    simpa [List.getElem?_take, List.getElem?_drop] using this
  refine ⟨?_, ?_⟩
  · rw [e0, ← hy1.1]
  · rw [e1, hy1.2]
theorem gEnd : Tryz.prog.globalNamed "reveille/name.endings" = some 0 := by kernel_rfl
theorem tyEnd : (Tryz.prog.globals[0]?).map (·.type) = some 193 := by kernel_rfl
def endT : List (L × Int) := [(endk 0, 1), (endk 1, 2), (endk 2, 3), (endk 3, 4), (endk 4, 5), (endk 5, 6)]
theorem gl_of_laid {W : World} (h : laidMetH Tryz.prog laidAll W) (hsh : W.ShapedOpen Tryz.prog) : GlN W := by
  obtain ⟨ps, hL, _, _⟩ : laidMet Tryz.prog laidAll W := h
  refine ⟨?_, ?_⟩
  · obtain ⟨g, t, cs, fuel, p, h1, h2, h3, h4⟩ := laid_at hL "reveille/name.endings" Rows.laid_reveille_name_endings (by simp [laidAll])
    obtain rfl := Option.some.inj (gEnd.symm.trans h1)
    obtain rfl := Option.some.inj (tyEnd.symm.trans h2)
    have hc := cells_of_pairs (xs := endT) undE h4
    intro j e he
    have hj : j < 6 := by have := (List.getElem?_eq_some_iff.1 he).1; simpa [ends] using this
    have hx : endT[j]? = some (e, (j : Int) + 1) := by
      rw [← endk_of he]
      match j, hj with
      | 0, _ => rfl
      | 1, _ => rfl
      | 2, _ => rfl
      | 3, _ => rfl
      | 4, _ => rfl
      | 5, _ => rfl
    have h := hc j _ hx
    rw [Nat.mul_comm 2 j, World.var?_cell gEnd h3, World.var?_cell gEnd h3, ← Array.getElem?_toList, ← Array.getElem?_toList]
    exact h
  · exact cell_of_shapedOpen_int (P := Tryz.prog) (g := 1) (t := 3) (zero := #[.int .i64 0]) hsh (of_decide_eq_true (by kernel_rfl)) (by kernel_rfl) rfl (by kernel_rfl) (by kernel_rfl) Tryz.underlying3
def putCells (w : World) (b : Nat) (cs : Array Value) : World :=
  { w with heap := w.heap.modify b fun
      | .cells _ t frozen => .cells cs t frozen
      | o => o }
def laidWorld (P : Program) (os : Os) : World :=
  putCells (World.holding P os ⟨#[], #[], []⟩)
    0 #[.string ⟨#[46, 115, 101, 114, 118, 105, 99, 101]⟩, .int .i64 1, .string ⟨#[46, 115, 111, 99, 107, 101, 116]⟩, .int .i64 2, .string ⟨#[46, 116, 105, 109, 101, 114]⟩, .int .i64 3, .string ⟨#[46, 112, 97, 116, 104]⟩, .int .i64 4, .string ⟨#[46, 109, 111, 117, 110, 116]⟩, .int .i64 5, .string ⟨#[46, 116, 97, 114, 103, 101, 116]⟩, .int .i64 6]
theorem laid_met (os : Os) (args : Array Value) : laidMet Tryz.prog laidAll ((laidWorld Tryz.prog os).forCall (fun _ _ => 0) ⟨#[], args, []⟩).memory :=
  laidMet_of_run3 8 (by kernel_rfl) (by kernel_rfl) (by kernel_rfl)
end Go.Proofs.YtedgnigogkmgkaaGreatDoor
/- A slice of bytes that came in, nil or not. -/
namespace Go.Proofs.YtedgnigogkmgkaaGreatDoor
open Go.RowKit
def IsRowU (w : World) (a : Option Addr) (len cap : Nat) (zs : List Int) : Prop :=
  (a = none ∧ len = 0) ∨
  ∃ x, a = some x ∧ len ≤ cap ∧ cap ≤ maxLen ∧ zs.length = cap ∧ (∀ i, i < zs.length → w.cell? (x.add i) = some (.int .u8 (zs.getD i 0))) ∧ ∀ z ∈ zs, (Lit.int .u8 z).wf = true
theorem rowU {w : World} {a : Option Addr} {len cap : Nat} {zs : List Int} (h : IsRowU w a len cap zs) :
    ∃ (b o : Nat) (us : List Nat), (0 < len → a = some ⟨b, o, none⟩) ∧ us.length = len ∧ (∀ (j u : Nat), us[j]? = some u → w.cell? ⟨b, o + j, none⟩ = some (.int .u8 u)) ∧ (∀ u ∈ us, u ≤ 255) ∧ len ≤ maxLen := by
  rcases h with ⟨_, h0⟩ | ⟨x, rfl, hlc, hm, hz, hcell, hwf⟩
  · exact ⟨0, 0, [], fun h => by omega, by rw [h0]; rfl, fun j x hj => by simp at hj, fun x hx => by simp at hx, by rw [h0]; exact Nat.zero_le _⟩
  · by_cases hl : 0 < len
    · obtain ⟨b, o, rfl, hc⟩ := ints_at hcell (by omega)
      have hb : ∀ z ∈ zs, 0 ≤ z ∧ z ≤ 255 := fun z hz => bounds_u8 (hwf z hz)
      refine ⟨b, o, (zs.take len).map Int.toNat, fun _ => rfl, by rw [List.length_map, List.length_take]; omega, fun j u hj => ?_, fun u hu => ?_, Nat.le_trans hlc hm⟩
      · have hj' : j < len := by
          have := (List.getElem?_eq_some_iff.1 hj).1
          rw [List.length_map, List.length_take] at this; omega
        rw [List.getElem?_map, List.getElem?_take_of_lt hj'] at hj
        obtain ⟨z, hz1, rfl⟩ := Option.map_eq_some_iff.1 hj
        have h1 := hc j (by omega)
        rw [List.getD_eq_getElem?_getD, hz1] at h1
        have h2 := hb z (List.mem_of_getElem? hz1)
        rw [h1]
        simp only [Option.getD_some]
        rw [Int.toNat_of_nonneg h2.1]
      · obtain ⟨z, hz1, rfl⟩ := List.mem_map.1 hu
        have h2 := hb z (List.mem_of_mem_take hz1)
        omega
    · exact ⟨0, 0, [], fun h => absurd h hl, by simp; omega, fun j x hj => by simp at hj, fun x hx => by simp at hx, Nat.le_trans hlc hm⟩
end Go.Proofs.YtedgnigogkmgkaaGreatDoor
