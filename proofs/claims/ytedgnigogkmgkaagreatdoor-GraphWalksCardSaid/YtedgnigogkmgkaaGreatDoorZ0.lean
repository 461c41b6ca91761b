/- Small laws of texts, cells, blocks and rows. -/
import Derived.Test.YtedgnigogkmgkaaGreatDoorChecked
import Derived.Test.YtedgnigogkmgkaaGreatDoorIt
import Derived.WalkKit
import Derived.WalkSpells
import Derived.BigQuiet
import Derived.Deep.QuietTactic
import Derived.KernelRfl
import Derived.OwnWalk
import Derived.Maps.AppendAt
import Derived.Maps.OwnIn
import Derived.RangeFuncBox
namespace Go.Proofs.YtedgnigogkmgkaaGreatDoor
open Go.RowKit Go.Shelf
theorem ret_bool {a b : Bool} (h : a = b) : Ending.returned (.bool a) = .returned (.bool b) := by rw [h]
theorem ret_int {k : IntKind} {a b : Int} (h : a = b) : Ending.returned (.int k a) = .returned (.int k b) := by rw [h]
theorem ret_str {a b : ByteArray} (h : a = b) : Ending.returned (.string a) = .returned (.string b) := by rw [h]
theorem size_list (s : ByteArray) : s.data.toList.length = s.size := by rw [Array.length_toList]; rfl
theorem get_list (s : ByteArray) (k : Nat) (h : k < s.size) : s.data.toList[k]? = some s[k] := by
  rw [Array.getElem?_toList]; exact Array.getElem?_eq_getElem h
theorem letters (x : List UInt8) : ∃ A : ByteArray, A.data.toList = x ∧ A.size = x.length ∧ (⟨x.toArray⟩ : ByteArray) = A := ⟨⟨x.toArray⟩, rfl, rfl, rfl⟩
theorem below_drewN {w w' : World} {m : Nat} (h : Below m w w') (n : Nat) : Below m w (w'.drewN n) := ⟨h.os, h.tape, h.output, h.size, h.block⟩
theorem cell_at {W : World} {cs : Array Value} {t : TypeId} {n j : Nat} {v : Value} (hn : W.heap.size = n) (h : cs[j]? = some v) : (W.alloc (.cells cs t)).cell? ⟨n, j, none⟩ = some v := by
  subst hn
  have := heap_alloc_new W (.cells cs t)
  unfold World.cell?
  rw [this]
  exact h
theorem cell_lt {W : World} {a : Addr} {v : Value} (h : W.cell? a = some v) : a.block < W.heap.size := by
  rcases Nat.lt_or_ge a.block W.heap.size with hl | hl
  · exact hl
  · have : W.cell? a = none := by
      unfold World.cell?
      rw [Array.getElem?_eq_none hl]
    rw [this] at h; cases h
theorem own_below {w w' : World} {base : Nat} {e : TypeId} {size : Nat} {v : Value} {n : Nat} {xs : List Value} (h : w.ownsRow base e size v n xs) (hb : Below w.heap.size w w') : w'.ownsRow base e size v n xs := by
  refine ⟨h.1, ?_⟩
  rcases h.2 with h2 | ⟨g, cap, cur, h1, h2, h3, h4⟩
  · exact .inl h2
  · exact .inr ⟨g, cap, cur, h1, h2, (hb.block g (Array.getElem?_eq_some_iff.1 h3).1).trans h3, h4⟩
theorem row_news1 (w : World) (c : Value) (t : TypeId) : ∀ j u, [c][j]? = some u → (w.alloc (.cells #[c] t)).cell? ((⟨w.heap.size, 0, none⟩ : Addr).add j) = some u := by
  intro j u hj
  match j, hj with
  | 0, hj => simp at hj; subst hj; simp [Addr.add]
theorem own_mv {w w' : World} {base : Nat} {e : TypeId} {size : Nat} {v : Value} {n : Nat} {xs : List Value} {E : Nat → Prop} (h : w.ownsRow base e size v n xs) (m : Mv E w w') (hE : ∀ g, v.ownBlock = some g → ¬ E g) : w'.ownsRow base e size v n xs := by
  refine ⟨h.1, ?_⟩
  rcases h.2 with h2 | ⟨g, cap, cur, h1, h2, h3, h4⟩
  · exact .inl h2
  · exact .inr ⟨g, cap, cur, h1, h2, (m.block g (Array.getElem?_eq_some_iff.1 h3).1 (hE g (by rw [h1]; rfl))).trans h3, h4⟩
theorem Mv.grown {E : Nat → Prop} {A W W' : World} {r : Option Nat} (h : Mv E A W) (hg : W.grownBy W' r) (hr : ∀ k, r = some k → E k ∨ A.heap.size ≤ k) : Mv E A W' :=
  ⟨hg.os.trans h.os, hg.tape.trans h.tape, hg.output.trans h.output, Nat.le_trans h.size hg.size, fun k hk he => (hg.block k (Nat.lt_of_lt_of_le hk h.size) (fun e => by rcases hr k e.symm with q | q; exact he q; omega)).trans (h.block k hk he)⟩
theorem Mv.setc {E : Nat → Prop} {A W : World} {p : Addr} (h : Mv E A W) (hp : E p.block ∨ A.heap.size ≤ p.block) (v : Value) : Mv E A (W.setCell p v) :=
  ⟨h.os, h.tape, h.output, by simpa using h.size, fun k hk he => (heap_setCell_other _ _ _ _ (fun e => by rcases hp with q | q; exact he (e ▸ q); omega)).trans (h.block k hk he)⟩
theorem lt_of_heap {w : World} {b : Nat} {o : Obj} (h : w.heap[b]? = some o) : b < w.heap.size := (Array.getElem?_eq_some_iff.1 h).1
theorem Mv.cell {E : Nat → Prop} {W V : World} {a : Addr} {v : Value} (m : Mv E W V) (hE : ¬ E a.block) (h : W.cell? a = some v) : V.cell? a = some v := by
  rw [← h]
  exact World.cell?_of_block (m.block a.block (cell_lt h) hE)
theorem Mv.froz {E : Nat → Prop} {W V : World} {a : Addr} (m : Mv E W V) (hE : ¬ E a.block) (hl : a.block < W.heap.size) : V.frozen? a = W.frozen? a := by
  have := m.block a.block hl hE
  unfold World.frozen?
  rw [this]
theorem Mv.set1 {E : Nat → Prop} {W : World} {o : Nat} (h : E o) (v : Value) : Mv E W (W.setCell ⟨o, 0, none⟩ v) := (Mv.refl E W).setc (p := ⟨o, 0, none⟩) (.inl h) v
/-- A variable of one cell. -/
structure Cl (i : Nat) (v : Value) (W : World) : Prop where
  c : W.cell? ⟨i, 0, none⟩ = some v
  f : W.frozen? ⟨i, 0, none⟩ = false
theorem Cl.lt {i : Nat} {v : Value} {W : World} (h : Cl i v W) : i < W.heap.size := cell_lt h.c
theorem Cl.mv {i : Nat} {v : Value} {E : Nat → Prop} {W V : World} (h : Cl i v W) (m : Mv E W V) (hE : ¬ E i) : Cl i v V :=
  ⟨m.cell hE h.c, (m.froz (a := ⟨i, 0, none⟩) hE h.lt).trans h.f⟩
theorem Cl.set {i : Nat} {v : Value} {W : World} (h : Cl i v W) (u : Value) : Cl i u (W.setCell ⟨i, 0, none⟩ u) :=
  ⟨World.cell?_setCell_same' _ _ _ (by rw [h.c]; rfl), by rw [World.frozen?_setCell]; exact h.f⟩
theorem Cl.oth {i j : Nat} {v : Value} {W : World} (h : Cl i v W) (hij : i ≠ j) (u : Value) : Cl i v (W.setCell ⟨j, 0, none⟩ u) := h.mv (E := fun k => k = j) (Mv.set1 (E := fun k => k = j) rfl _) hij
theorem four_new (w : World) (a b c d : Value) (t : TypeId) : ∀ j u, [a, b, c, d][j]? = some u → (w.alloc (.cells #[a, b, c, d] t)).cell? ((⟨w.heap.size, 0, none⟩ : Addr).add j) = some u := by
  intro j u hj
  match j, hj with
  | 0, hj => simp at hj; subst hj; simp [Addr.add]
  | 1, hj => simp at hj; subst hj; simp [Addr.add]
  | 2, hj => simp at hj; subst hj; simp [Addr.add]
  | 3, hj => simp at hj; subst hj; simp [Addr.add]
theorem own_base {w : World} {b1 b2 : Nat} {e : TypeId} {size : Nat} {v : Value} {n : Nat} {xs : List Value} (h : w.ownsRow b1 e size v n xs) (hle : b2 ≤ b1) : w.ownsRow b2 e size v n xs :=
  ⟨h.1, h.2.imp id (fun ⟨g, c, cu, q1, q2, q3⟩ => ⟨g, c, cu, q1, Nat.le_trans hle q2, q3⟩)⟩
end Go.Proofs.YtedgnigogkmgkaaGreatDoor
