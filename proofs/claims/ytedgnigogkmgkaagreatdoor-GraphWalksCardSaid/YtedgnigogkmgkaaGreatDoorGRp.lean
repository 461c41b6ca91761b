/- Relations in memory. -/
import Derived.Test.YtedgnigogkmgkaaGreatDoorGL
import Derived.Test.YtedgnigogkmgkaaGreatDoorRWr
namespace Go.Proofs.YtedgnigogkmgkaaGreatDoor
open Go.RowKit Go.Shelf Go.Lib
def rsl (x : Rr) : Value := .slice x.p x.n x.c
/-- The rows l are the relations rs. -/
def RelsIs (w : World) : List Rr → List Rl → Prop
  | [], [] => True
  | x :: l, r :: rs => (x.k = r.1 ∧ x.t = r.2.1 ∧ NR w (rsl x) r.2.2) ∧ RelsIs w l rs
  | _, _ => False
theorem RelsIs.app {w : World} : ∀ {l : List Rr} {rs : List Rl} {l2 : List Rr} {rs2 : List Rl}, RelsIs w l rs → RelsIs w l2 rs2 → RelsIs w (l ++ l2) (rs ++ rs2)
  | [], [], _, _, _, h => h
  | _ :: _, _ :: _, _, _, h, h2 => ⟨h.1, h.2.app h2⟩
  | [], _ :: _, _, _, h, _ => h.elim
  | _ :: _, [], _, _, h, _ => h.elim
theorem RelsIs.mv {w w' : World} {E : Nat → Prop} (m : Mv E w w') : ∀ {l : List Rr} {rs : List Rl}, RelsIs w l rs → (∀ x ∈ l, ∀ b, rbk (rsl x) = some b → ¬ E b) → RelsIs w' l rs
  | [], [], _, _ => trivial
  | x :: _, _ :: _, h, hE => ⟨⟨h.1.1, h.1.2.1, h.1.2.2.mv m (hE x (List.mem_cons_self ..))⟩, RelsIs.mv m h.2 fun y hy => hE y (List.mem_cons_of_mem _ hy)⟩
  | [], _ :: _, h, _ => h.elim
  | _ :: _, [], h, _ => h.elim
theorem RelsIs.len {w : World} : ∀ {l : List Rr} {rs : List Rl}, RelsIs w l rs → l.length = rs.length
  | [], [], _ => rfl
  | _ :: _, _ :: _, h => by simp [RelsIs.len h.2]
  | [], _ :: _, h => h.elim
  | _ :: _, [], h => h.elim
theorem RelsIs.at {w : World} : ∀ {l : List Rr} {rs : List Rl} {i : Nat} {x : Rr}, RelsIs w l rs → l[i]? = some x → ∃ r, rs[i]? = some r ∧ x.k = r.1 ∧ x.t = r.2.1 ∧ NR w (rsl x) r.2.2
  | x :: l, r :: rs, 0, y, h, hy => by simp at hy; subst hy; exact ⟨r, rfl, h.1⟩
  | x :: l, r :: rs, i + 1, y, h, hy => by
    obtain ⟨q, q1, q2⟩ := RelsIs.at (i := i) h.2 (by simpa using hy)
    exact ⟨q, by simpa using q1, q2⟩
  | [], _, _, _, _, hy => by simp at hy
  | _ :: _, [], _, _, h, _ => h.elim
theorem NR.shape {w : World} {v : Value} {xs : List ByteArray} (h : NR w v xs) : ∃ p c, v = .slice p xs.length c := by
  rcases h with ⟨rfl, p, c, rfl⟩ | ⟨b, o, c, rfl, _⟩
  · exact ⟨p, c, rfl⟩
  · exact ⟨_, c, rfl⟩
theorem NR.one1 {w : World} {b c : Nat} {x : ByteArray} (h : w.cell? ⟨b, 0, none⟩ = some (.string x)) : NR w (.slice (some ⟨b, 0, none⟩) 1 c) [x] :=
  .inr ⟨b, 0, c, rfl, by simp, by simp, fun j y hj => by
    match j, hj with
    | 0, hj => simp at hj; subst hj; exact h
    | j + 1, hj => simp at hj⟩
/-- A unit's list, as a relation's. -/
theorem UV.rel {w : World} {vs : Array Value} {u : Un} (h : UV w vs u) {i p : Nat} (hp : posL[i]? = some p) : ∃ q c, vs[p]? = some (.slice q (u.ls i).length c) ∧ NR w (.slice q (u.ls i).length c) (u.ls i) ∧ ∀ b, rbk (.slice q (u.ls i).length c) = some b → ubk vs b := by
  obtain ⟨v, h1, h2⟩ := h.ls i p hp
  obtain ⟨q, c, rfl⟩ := h2.shape
  exact ⟨q, c, h1, h2, fun b hb => ⟨p, _, h1, hb⟩⟩
/-- What relations answers. -/
def RelsEnd (w : World) (vs : Array Value) (rs : List Rl) (e : Ending) (w' : World) : Prop :=
  ∃ g o c l, e = .returned (Rw.slv g o l.length c) ∧ Rw.RS w' g o c l ∧ RelsIs w' l rs ∧ w.heap.size ≤ g ∧ (∀ x ∈ l, ∀ b, rbk (rsl x) = some b → (ubk vs b ∨ w.heap.size ≤ b) ∧ b < w'.heap.size ∧ b ≠ g) ∧ Below w.heap.size w w'
end Go.Proofs.YtedgnigogkmgkaaGreatDoor
