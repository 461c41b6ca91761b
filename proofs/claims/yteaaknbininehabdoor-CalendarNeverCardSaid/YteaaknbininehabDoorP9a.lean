/- What holds where one block alone has turned. -/
import Derived.Test.YteaaknbininehabDoorP6z
import Derived.Test.YteaaknbininehabDoorP8z
import Derived.Test.YteaaknbininehabDoorP4
import Derived.Test.YteaaknbininehabDoorN2
namespace Go.Proofs.YteaaknbininehabDoor
open Go.RowKit
def nil7 : Array Value := #[.slice none 0 0, .slice none 0 0, .slice none 0 0, .slice none 0 0, .slice none 0 0, .slice none 0 0, .slice none 0 0]
structure Ob (b : Nat) (w w' : World) : Prop where
  os : w'.os = w.os
  tape : w'.tape = w.tape
  output : w'.output = w.output
  size : w.heap.size ≤ w'.heap.size
  block : ∀ k, k < w.heap.size → k ≠ b → w'.heap[k]? = w.heap[k]?
theorem St.ob {W0 W : World} {b o : Nat} {c1 c2 c3 : Option (List Part)} (h : St W0 b o c1 c2 c3 W) : Ob b W0 W := ⟨h.os, h.tape, h.output, h.size, h.block⟩
theorem Ob.old {b : Nat} {w w' : World} (h : Ob b w w') {k j : Nat} {u : Value} (hk : k ≠ b) (hu : w.cell? ⟨k, j, none⟩ = some u) : w'.cell? ⟨k, j, none⟩ = some u := by
  rw [← hu]
  exact World.cell?_of_block (a := ⟨k, j, none⟩) (h.block k (cell_lt hu) hk)
theorem Ob.glp {b : Nat} {w w' : World} (h : Ob b w w') (hg : GlP w) (hb : 2 < b) : GlP w' := by
  obtain ⟨m, hm⟩ := hg.mx
  exact ⟨⟨fun j v hv => h.old (by omega) (hg.gl.lim j v hv), fun j v hv => h.old (by omega) (hg.gl.len j v hv), fun h => h, fun h => h⟩, ⟨m, h.old (by omega) hm⟩⟩
theorem Ob.pin {b : Nat} {w w' : World} (h : Ob b w w') {E : Nat → Prop} {u : Value} {ps : List Part} (hp : Pin E w u ps) (hb : E b) : Pin E w' u ps := by
  obtain ⟨p, cap, rfl, hl, hc⟩ := hp
  refine ⟨p, cap, rfl, hl, fun i q hq => ?_⟩
  obtain ⟨b', o', rfl, hE, c0, c1, c2, c3⟩ := hc i q hq
  have hne : b' ≠ b := fun e => hE (e ▸ hb)
  exact ⟨b', o', rfl, hE, h.old hne c0, h.old hne c1, h.old hne c2, h.old hne c3⟩
theorem nil7_cell {W : World} {r x : Nat} {t : TypeId} (h : W.heap[r]? = some (.cells nil7 t (0, 0))) (u : Value) (hu : W.cell? ⟨r, x, none⟩ = some u) : u = .slice none 0 0 := by
  have : nil7[x]? = some u := by simpa [World.cell?, h] using hu
  obtain ⟨hx, e⟩ := Array.getElem?_eq_some_iff.1 this
  have hx' : x < 7 := hx
  rw [← e]
  match x, hx' with
  | 0, _ => rfl
  | 1, _ => rfl
  | 2, _ => rfl
  | 3, _ => rfl
  | 4, _ => rfl
  | 5, _ => rfl
  | 6, _ => rfl
theorem nil7_at {W : World} {r : Nat} {t : TypeId} (h : W.heap[r]? = some (.cells nil7 t (0, 0))) (j : Nat) (hj : j < 7) : W.cell? ⟨r, j, none⟩ = some (.slice none 0 0) := by
  have : W.cell? ⟨r, j, none⟩ = nil7[j]? := by simp [World.cell?, h]
  rw [this]
  match j, hj with
  | 0, _ => rfl
  | 1, _ => rfl
  | 2, _ => rfl
  | 3, _ => rfl
  | 4, _ => rfl
  | 5, _ => rfl
  | 6, _ => rfl
theorem nil7_froz {W : World} {r : Nat} {t : TypeId} (h : W.heap[r]? = some (.cells nil7 t (0, 0))) (j : Nat) : W.frozen? ⟨r, j, none⟩ = false := by simp [World.frozen?, h]
theorem pin_off {E : Nat → Prop} {W : World} {v : Value} {ps : List Part} {r : Nat} {t : TypeId} (hp : Pin E W v ps) (h : W.heap[r]? = some (.cells nil7 t (0, 0))) : Pin (fun k => k = r) W v ps := by
  obtain ⟨p, cap, rfl, hl, hc⟩ := hp
  refine ⟨p, cap, rfl, hl, fun i q hq => ?_⟩
  obtain ⟨b', o', rfl, _, c0, c1, c2, c3⟩ := hc i q hq
  refine ⟨b', o', rfl, fun e => ?_, c0, c1, c2, c3⟩
  subst e
  cases nil7_cell h _ c0
theorem ob_set (r j : Nat) (w : World) (v : Value) : Ob r w (w.setCell ⟨r, j, none⟩ v) :=
  ⟨rfl, rfl, rfl, by simp [World.setCell], fun k _ hk => by simp [World.setCell, Array.getElem?_modify, Ne.symm hk]⟩
theorem Ob.trans {r : Nat} {a b c : World} (h : Ob r a b) (h' : Ob r b c) : Ob r a c :=
  ⟨h'.os.trans h.os, h'.tape.trans h.tape, h'.output.trans h.output, Nat.le_trans h.size h'.size, fun k hk hne => (h'.block k (Nat.lt_of_lt_of_le hk h.size) hne).trans (h.block k hk hne)⟩
theorem Ob.below {r : Nat} {w a b : World} (hb : Below w.heap.size w a) (h : Ob r a b) (hr : w.heap.size ≤ r) : Below w.heap.size w b :=
  ⟨h.os.trans hb.os, h.tape.trans hb.tape, h.output.trans hb.output, Nat.le_trans hb.size h.size, fun k hk => (h.block k (Nat.lt_of_lt_of_le hk hb.size) (by omega)).trans (hb.block k hk)⟩
theorem cb_nil {W : World} {b : Nat} {t : TypeId} (hb : 2 < b) (h : W.heap[b]? = some (.cells nil7 t (0, 0))) : Cb W b :=
  ⟨hb, fun j hj => ⟨_, nil7_at h j hj⟩, fun j => nil7_froz h j⟩
theorem St.cb {W0 W : World} {b o : Nat} {c1 c2 c3 : Option (List Part)} (h : St W0 b o c1 c2 c3 W) (hc : Cb W0 b) : Cb W b :=
  ⟨hc.hb, fun j hj => by
    obtain ⟨u, hu⟩ := hc.hc j hj
    exact Option.isSome_iff_exists.1 (h.there j (by rw [hu]; rfl)), fun j => (h.froz j).trans (hc.hf j)⟩
end Go.Proofs.YteaaknbininehabDoor
