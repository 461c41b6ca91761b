/- Contracts of the reference's Blank and Quote; rows that are owned, beside one another. -/
import Derived.Test.YtmoafagemdnifaaDoorA4
import Derived.Test.YtmoafagemdnifaaDoorB0
import Derived.Laws.BytesString
import Derived.Lib.BufferRead
namespace Go.Proofs.YtmoafagemdnifaaDoor
open Go.RowKit Lin
set_option maxHeartbeats 1000000 in
theorem blank_any (c : UInt8) (w : World) :
    Calls Tryd.prog 59 #[.int .u8 c.toNat] w fun e w' => e = .returned (.bool (bl c)) ∧ w' = w := by
  have hA : Hid (bl c = (((c.toNat : Int) == 32) || ((c.toNat : Int) == 9))) := by
    show _ = _
    rw [Bool.eq_iff_iff, bl_iff]
    simp only [Bool.or_eq_true, beq_iff_eq]
    constructor
    · rintro (h | h) <;> rw [h] <;> simp
    · rintro (h | h)
      · exact .inl (UInt8.toNat_inj.1 (by simp; omega))
      · exact .inr (UInt8.toNat_inj.1 (by simp; omega))
  cases h1 : ((c.toNat : Int) == 32)
  all_goals
    go_enter Tryd.func59, Tryd.ntmps59
    go_wp2_with fail
    go_ret
    exact ⟨ret_bool (by rw [hA.out, h1]; rfl), rfl⟩
theorem own_ne {w : World} {B1 B2 : Nat} {e1 e2 : TypeId} {s1 s2 : Nat} {v1 v2 : Value} {n1 n2 : Nat} {xs1 xs2 : List Value} (h1 : w.ownsRow B1 e1 s1 v1 n1 xs1) (h2 : w.ownsRow B2 e2 s2 v2 n2 xs2) (he : e1 ≠ e2) : ∀ g, v1.ownBlock = some g → ¬ v2.ownBlock = some g := by
  intro g hg hg2
  rcases h1.2 with ⟨rfl, _⟩ | ⟨g1, c1, cu1, rfl, _, q1, _⟩
  · simp [Value.ownBlock] at hg
  · rcases h2.2 with ⟨rfl, _⟩ | ⟨g2, c2, cu2, rfl, _, q2, _⟩
    · simp [Value.ownBlock] at hg2
    · simp only [Value.ownBlock, Option.some.injEq] at hg hg2
      subst hg
      subst hg2
      rw [q1] at q2
      simp only [Option.some.injEq, Obj.cells.injEq] at q2
      exact he q2.2.1
theorem own_grown {w w' : World} {base : Nat} {e : TypeId} {size : Nat} {v : Value} {n : Nat} {xs : List Value} {r : Option Nat} (h : w.ownsRow base e size v n xs) (hg : w.grownBy w' r) (hr : ∀ g, v.ownBlock = some g → ¬ r = some g) : w'.ownsRow base e size v n xs := by
  refine ⟨h.1, ?_⟩
  rcases h.2 with h2 | ⟨g, cap, cur, h1, h2, h3, h4⟩
  · exact .inl h2
  · exact .inr ⟨g, cap, cur, h1, h2, (hg.block g (Array.getElem?_eq_some_iff.1 h3).1 (fun e => hr g (by rw [h1]; rfl) e.symm)).trans h3, h4⟩
theorem foldl_push : ∀ (X : L) (s : ByteArray), ((X.map fun b => (b.toNat : Int)).foldl (fun r n => r.push (UInt8.ofNat n.toNat)) s).data.toList = s.data.toList ++ X
  | [], s => by simp
  | b :: X, s => by
    rw [List.map_cons, List.foldl_cons, foldl_push X]
    have : UInt8.ofNat ((b.toNat : Int).toNat) = b := by simp
    rw [this]
    simp [ByteArray.push]
theorem conv_row {w : World} {base : Nat} {v : Value} {X : L} (h : w.ownsRow base 5 1 v X.length (Lib.byteCells X)) : (convert 53 9 v).run Tryd.prog w = .ok (.string ⟨X.toArray⟩) w := by
  have hx := h
  rcases h.2 with ⟨rfl, h0⟩ | ⟨g, cap, cur, rfl, _, hb, hle, _, hsz, htk⟩
  · have : X = [] := List.length_eq_zero_iff.1 h0
    subst this
    exact Lib.run_convert_nil_bytes w _ _ _ 0 Tryd.underlying53 Tryd.underlying5 Tryd.underlying9
  · rw [run_convert_bytes_string w _ _ _ _ _ _ Tryd.underlying53 Tryd.underlying5 Tryd.underlying9]
    have hl : (loadCells ⟨g, 0, none⟩ X.length).run Tryd.prog w = .ok ((X.map fun b => (b.toNat : Int)).map (Value.int .u8)).toArray w := by
      have hbc : ((X.map fun b => (b.toNat : Int)).map (Value.int .u8)) = Lib.byteCells X := by simp [Lib.byteCells]
      rw [hbc]
      have := run_loadCells_list (P := Tryd.prog) (w := w) ⟨g, 0, none⟩ (Lib.byteCells X) (fun j u hj => by
        have hjl : j < X.length := by have := (List.getElem?_eq_some_iff.1 hj).1; rwa [Lib.byteCells_length] at this
        have hc := hx.cellAt j (by omega)
        rw [Go.WideShapes.add_plain, Nat.zero_add]
        exact hc.trans hj)
      rw [Lib.byteCells_length] at this
      exact this
    rw [run_bytesToString w _ _ _ _ hl]
    congr 2
    rw [← Lib.mk_data (List.foldl _ _ _), foldl_push]
    rfl
theorem row_news2 (w : World) (c d : Value) (t : TypeId) : ∀ j u, [c, d][j]? = some u → (w.alloc (.cells #[c, d] t)).cell? ((⟨w.heap.size, 0, none⟩ : Addr).add j) = some u := by
  intro j u hj
  match j, hj with
  | 0, hj => simp at hj; subst hj; simp [Addr.add]
  | 1, hj => simp at hj; subst hj; simp [Addr.add]
theorem own_lit1 (w : World) (c : UInt8) : (w.alloc (.cells #[.int .u8 c.toNat] 5)).ownsRow w.heap.size 5 1 (.slice (some ⟨w.heap.size, 0, none⟩) 1 1) [c].length (Lib.byteCells [c]) :=
  ⟨rfl, .inr ⟨w.heap.size, 1, #[.int .u8 c.toNat], rfl, Nat.le_refl _, heap_alloc_new w _, Nat.le_refl _, by unfold maxLen; omega, rfl, rfl⟩⟩
end Go.Proofs.YtmoafagemdnifaaDoor
