/- The row of package line's whole lines. -/
import Derived.Test.YtmoafagemdnifaaDoorB2
import Derived.Test.YtmoafagemdnifaaDoorB0s
import Derived.Test.YtmoafagemdnifaaDoorLN3
import Derived.RegionIn
namespace Go.Proofs.YtmoafagemdnifaaDoor
open Go.RowKit Go.Shelf Lin
attribute [local go_sem] Oper.semAt_some
set_option maxHeartbeats 1000000 in
theorem splitSeq0_any (s t : ByteArray) (w : World) :
    Calls Tryd.prog 63 #[.string s, .string t, .int .i64 0] w fun e w' => e = .returned (.func (.func 75) #[] #[.pointer (some ⟨w.heap.size + 1, 0, none⟩), .pointer (some ⟨w.heap.size, 0, none⟩), .pointer (some ⟨w.heap.size + 2, 0, none⟩)]) ∧ w' = ((w.alloc (.cells #[.string s] 9)).alloc (.cells #[.string t] 9)).alloc (.cells #[.int .i64 0] 3) := by
  go_enter Tryd.func63, Tryd.ntmps63
  go_wp2_with fail
  go_ret
  exact ⟨rfl, rfl⟩
set_option maxHeartbeats 1000000 in
theorem splitSeq_any (s t : ByteArray) (w : World) :
    Calls Tryd.prog 47 #[.string s, .string t] w fun e w' => e = .returned (.func (.func 75) #[] #[.pointer (some ⟨w.heap.size + 1, 0, none⟩), .pointer (some ⟨w.heap.size, 0, none⟩), .pointer (some ⟨w.heap.size + 2, 0, none⟩)]) ∧ w' = ((w.alloc (.cells #[.string s] 9)).alloc (.cells #[.string t] 9)).alloc (.cells #[.int .i64 0] 3) := by
  go_enter Tryd.func47, Tryd.ntmps47
  go_wp2_with fail
  refine (splitSeq0_any s t w).mono ?_
  rintro e w1 ⟨rfl, rfl⟩
  go_wp2_with fail
  go_ret
  exact ⟨rfl, rfl⟩
def encW (p : Nat × L) : Array Value := #[.int .i64 p.1, .string ⟨p.2.toArray⟩]
/-- A variable of one number. -/
structure Nm (i : Nat) (n : Nat) (W : World) : Prop where
  c : W.cell? ⟨i, 0, none⟩ = some (.int .i64 n)
  f : W.frozen? ⟨i, 0, none⟩ = false
theorem Nm.lt {i n : Nat} {W : World} (h : Nm i n W) : i < W.heap.size := cell_lt h.c
theorem Nm.mv {i n : Nat} {E : Nat → Prop} {W V : World} (h : Nm i n W) (m : Mv E W V) (hE : ¬ E i) : Nm i n V :=
  ⟨m.cell hE h.c, (m.froz (a := ⟨i, 0, none⟩) hE h.lt).trans h.f⟩
theorem Nm.set {i n : Nat} {W : World} (h : Nm i n W) (k : Nat) : Nm i k (W.setCell ⟨i, 0, none⟩ (.int .i64 k)) :=
  ⟨World.cell?_setCell_same' _ _ _ (by rw [h.c]; rfl), by rw [World.frozen?_setCell]; exact h.f⟩
/-- What the row of whole lines keeps for itself. -/
def OT (bb nb gb : Nat) (v : Value) (k : Nat) : Prop := Ow bb v k ∨ k = nb ∨ k = gb
structure Own3 (B bb nb gb : Nat) (v : Value) (n b : Nat) (x : L) (E0 : Nat → Prop) (W : World) : Prop where
  bld : Bld bb v x W
  nm : Nm nb n W
  gm : Nm gb b W
  ng : nb ≠ gb
  on : ¬ Ow bb v nb
  og : ¬ Ow bb v gb
  dis : ∀ k, E0 k → ¬ OT bb nb gb v k
  low : ∀ k, OT bb nb gb v k → B ≤ k
theorem Own3.lo {B bb nb gb : Nat} {v : Value} {n b : Nat} {x : L} {E0 : Nat → Prop} {W : World} (h : Own3 B bb nb gb v n b x E0 W) (k : Nat) (hk : OT bb nb gb v k) : k < W.heap.size := by
  rcases hk with hk | rfl | rfl
  · exact h.bld.lo k hk
  · exact h.nm.lt
  · exact h.gm.lt
theorem Own3.mv {B bb nb gb : Nat} {v : Value} {n b : Nat} {x : L} {E0 E : Nat → Prop} {W V : World} (h : Own3 B bb nb gb v n b x E0 W) (m : Mv E W V) (hE : ∀ k, OT bb nb gb v k → ¬ E k) : Own3 B bb nb gb v n b x E0 V :=
  ⟨h.bld.mv m (fun k hk => hE k (.inl hk)), h.nm.mv m (hE nb (.inr (.inl rfl))), h.gm.mv m (hE gb (.inr (.inr rfl))), h.ng, h.on, h.og, h.dis, h.low⟩
theorem Own3.terr {B bb nb gb : Nat} {v : Value} {n b : Nat} {x : L} {E0 E1 : Nat → Prop} {W : World} (h : Own3 B bb nb gb v n b x E0 W) (hd : ∀ k, E1 k → ¬ OT bb nb gb v k) : Own3 B bb nb gb v n b x E1 W :=
  ⟨h.bld, h.nm, h.gm, h.ng, h.on, h.og, hd, h.low⟩
/-- The number is set. -/
theorem Own3.setN {B bb nb gb : Nat} {v : Value} {n b : Nat} {x : L} {E0 : Nat → Prop} {W : World} (h : Own3 B bb nb gb v n b x E0 W) (k : Nat) : Own3 B bb nb gb v k b x E0 (W.setCell ⟨nb, 0, none⟩ (.int .i64 k)) :=
  ⟨h.bld.mv (E := fun j => j = nb) (Mv.set1 (E := fun j => j = nb) rfl _) (fun _ hj e => h.on (e ▸ hj)), h.nm.set k, h.gm.mv (E := fun j => j = nb) (Mv.set1 (E := fun j => j = nb) rfl _) (fun e => h.ng e.symm), h.ng, h.on, h.og, h.dis, h.low⟩
theorem Own3.setG {B bb nb gb : Nat} {v : Value} {n b : Nat} {x : L} {E0 : Nat → Prop} {W : World} (h : Own3 B bb nb gb v n b x E0 W) (k : Nat) : Own3 B bb nb gb v n k x E0 (W.setCell ⟨gb, 0, none⟩ (.int .i64 k)) :=
  ⟨h.bld.mv (E := fun j => j = gb) (Mv.set1 (E := fun j => j = gb) rfl _) (fun _ hj e => h.og (e ▸ hj)), h.nm.mv (E := fun j => j = gb) (Mv.set1 (E := fun j => j = gb) rfl _) h.ng, h.gm.set k, h.ng, h.on, h.og, h.dis, h.low⟩
/-- A write to the builder. -/
theorem Own3.wrote {B bb nb gb : Nat} {v : Value} {n b : Nat} {x y : L} {E0 : Nat → Prop} {W V : World} (h : Own3 B bb nb gb v n b x E0 W) (hE : ∀ k, E0 k → k < W.heap.size) (hB : B ≤ W.heap.size) (hw : Wrote bb v y W V) :
    ∃ v', Own3 B bb nb gb v' n b y E0 V ∧ Mv (OT bb nb gb v) W V ∧ ∀ k, OT bb nb gb v' k → OT bb nb gb v k ∨ W.heap.size ≤ k := by
  obtain ⟨v', hb, m, hn⟩ := hw
  have ho : ∀ k, Ow bb v' k → Ow bb v k ∨ W.heap.size ≤ k := fun k hk => by
    rcases hk with rfl | hk
    · exact .inl (.inl rfl)
    · rcases hn k hk with q | q
      · exact .inl (.inr q)
      · exact .inr q
  have hot : ∀ k, OT bb nb gb v' k → OT bb nb gb v k ∨ W.heap.size ≤ k := fun k hk => by
    rcases hk with hk | hk
    · exact (ho k hk).imp .inl id
    · exact .inl (.inr hk)
  refine ⟨v', ⟨hb, h.nm.mv m h.on, h.gm.mv m h.og, h.ng, fun e => ?_, fun e => ?_, fun k hk e => ?_, fun k hk => ?_⟩, m.mono (fun k _ hk => .inl hk), hot⟩
  · rcases ho _ e with q | q
    · exact h.on q
    · have := h.nm.lt; omega
  · rcases ho _ e with q | q
    · exact h.og q
    · have := h.gm.lt; omega
  · rcases hot k e with q | q
    · exact h.dis k hk q
    · have := hE k hk; omega
  · rcases hot k hk with q | q
    · exact h.low k q
    · omega
/-- The invariant of the loop over the lines. -/
def WI (J : List (Nat × L) → (Nat → Prop) → World → Prop) (B bb nb gb : Nat) (rest : List L) (E : Nat → Prop) (W : World) : Prop :=
  ∃ (E0 : Nat → Prop) (v : Value) (n b : Nat) (x : L), ((∀ k, E k ↔ (E0 k ∨ OT bb nb gb v k)) ∧ n + rest.length ≤ 5000 ∧ x.length + tot rest ≤ 5000 ∧ b ≤ n) ∧ J (whl n b x rest) E0 W ∧ Own3 B bb nb gb v n b x E0 W
theorem WI.ter {J : List (Nat × L) → (Nat → Prop) → World → Prop} {B B' C bb nb gb : Nat} (hJ : Ter B' J) (hBC : B' ≤ C) : Ter C (WI J B bb nb gb) := by
  refine ⟨fun s E W V h m => ?_, fun s E W h k hk => ?_⟩
  · obtain ⟨E0, v, n, b, x, hp, hj, ho⟩ := h
    refine ⟨E0, v, n, b, x, hp, hJ.keep _ _ _ _ hj (m.mono (fun k _ hk => ⟨fun e => hk.1 ((hp.1 k).2 (.inl e)), by omega⟩)), ho.mv m (fun k hk e => e.1 ((hp.1 k).2 (.inr hk)))⟩
  · obtain ⟨E0, v, n, b, x, hp, hj, ho⟩ := h
    rcases (hp.1 k).1 hk with q | q
    · exact hJ.low _ _ _ hj k q
    · exact ho.lo k q
end Go.Proofs.YtmoafagemdnifaaDoor
