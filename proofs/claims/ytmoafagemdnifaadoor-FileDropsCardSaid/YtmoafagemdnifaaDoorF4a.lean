/- What unitfile.Merge keeps while it goes through files and settings from the end on. -/
import Derived.Test.YtmoafagemdnifaaDoorF3
namespace Go.Proofs.YtmoafagemdnifaaDoor
open Go.RowKit Go.Shelf
attribute [local go_sem] Oper.semAt_some
set_option maxHeartbeats 1000000 in
theorem backS_any (a : Option Addr) (n c : Nat) (w : World) : Calls Tryd.prog 27 #[.slice a n c] w fun e w' => e = .returned (.func (.func 41) #[] #[.pointer (some ⟨w.heap.size, 0, none⟩)]) ∧ w' = w.alloc (.cells #[.slice a n c] 23) := by
  go_enter Tryd.func27, Tryd.ntmps27
  go_wp2
  go_ret
  exact ⟨rfl, rfl⟩
set_option maxHeartbeats 1000000 in
theorem backF_any (a : Option Addr) (n c : Nat) (w : World) : Calls Tryd.prog 26 #[.slice a n c] w fun e w' => e = .returned (.func (.func 40) #[] #[.pointer (some ⟨w.heap.size, 0, none⟩)]) ∧ w' = w.alloc (.cells #[.slice a n c] 33) := by
  go_enter Tryd.func26, Tryd.ntmps26
  go_wp2
  go_ret
  exact ⟨rfl, rfl⟩
abbrev Sp := List (ByteArray × ByteArray) × List St
/-- One setting, from the end on. -/
def stp (p : Sp) (x : St) : Sp := if x.v = ⟨#[]⟩ then ((x.s, x.k) :: p.1, p.2) else if inE p.1 x.s x.k then p else (p.1, p.2 ++ [x])
/-- The variables of Merge. -/
structure MI (H : Nat) (p : Sp) (v : Value) (W : World) : Prop where
  re : Cl H (.slice none 0 0) W
  em : Em W (H + 1) p.1.length p.1
  cm : Cl (H + 2) (.map (some (H + 1))) W
  cs : Cl (H + 3) v W
  ow : W.ownsRow (H + 4) 44 4 v p.2.length (stsC p.2)
def MT (H : Nat) (v : Value) (k : Nat) : Prop := (H ≤ k ∧ k < H + 4) ∨ v.ownBlock = some k
theorem MI.mv {H : Nat} {p : Sp} {v : Value} {E : Nat → Prop} {W V : World} (h : MI H p v W) (m : Mv E W V) (hE : ∀ k, MT H v k → ¬ E k) : MI H p v V :=
  ⟨h.re.mv m (hE _ (.inl (by omega))), h.em.mv m (hE _ (.inl (by omega))), h.cm.mv m (hE _ (.inl (by omega))), h.cs.mv m (hE _ (.inl (by omega))), own_mv h.ow m (fun g hg => hE g (.inr hg))⟩
theorem MI.lo {H : Nat} {p : Sp} {v : Value} {W : World} (h : MI H p v W) (k : Nat) (hk : MT H v k) : k < W.heap.size := by
  rcases hk with hk | hk
  · have := h.cs.lt; omega
  · exact (h.ow.lt k hk).2
/-- The settings of seq are still to come. -/
def MJ (H : Nat) (T : Sp) (seq : List St) (E : Nat → Prop) (W : World) : Prop :=
  ∃ p v, ((∀ k, E k ↔ MT H v k) ∧ Hid (seq.foldl stp p = T) ∧ p.1.length + seq.length ≤ 1000000000 ∧ p.2.length + seq.length ≤ 1000000000 ∧ ∀ x ∈ seq, x.s.size ≤ 1000000000 ∧ x.k.size ≤ 1000000000) ∧ MI H p v W
theorem MJ.ter (H B : Nat) (T : Sp) : Ter B (MJ H T) := by
  refine ⟨?_, ?_⟩
  · rintro s E W V ⟨p, v, ⟨hE, h⟩, hm⟩ m
    exact ⟨p, v, ⟨hE, h⟩, hm.mv m (fun k hk h => h.1 ((hE k).2 hk))⟩
  · rintro s E W ⟨p, v, ⟨hE, h⟩, hm⟩ k hk
    exact hm.lo k ((hE k).1 hk)
def MX (_ : Code) (_ : Nat → Prop) (_ : World) : Prop := False
theorem MX.ter (B : Nat) : Ter B MX := ⟨fun _ _ _ _ h _ => h.elim, fun _ _ _ h => h.elim⟩
theorem infoSt : (Tryd.prog.info? 44).map (fun i => (i.zero, i.size, i.bytes)) = some (some (.agg #[.string ⟨#[]⟩, .string ⟨#[]⟩, .string ⟨#[]⟩, .int .i64 0]), 4, 56) := by kernel_rfl
theorem zeroU (w : World) : (zeroValue 72).run Tryd.prog w = .ok (.agg #[]) w := by kernel_rfl
/-- What one more setting leaves. -/
theorem MI.more {H : Nat} {em : List (ByteArray × ByteArray)} {out : List St} {x : St} {v v' : Value} {W U4 w4 : World} (h : MI H (em, out) v W) (m : Mv (fun _ => False) W U4) (hgrow : U4.grownBy w4 v.ownBlock) (hown' : w4.ownsRow (H + 4) 44 4 v' (out.length + 1) (stsC out ++ stC x))
    (hat : v'.ownBlock = v.ownBlock ∨ v'.ownBlock = some U4.heap.size) : Cl (H + 3) v w4 ∧ MI H (em, out ++ [x]) v' (w4.setCell ⟨H + 3, 0, none⟩ v') ∧ Mv (MT H v) W (w4.setCell ⟨H + 3, 0, none⟩ v') ∧ ∀ k, MT H v' k → MT H v k ∨ W.heap.size ≤ k := by
  have hv : ∀ k, v.ownBlock = some k → H + 4 ≤ k := fun k e => (h.ow.lt k e).1
  have hv' : ∀ k, v'.ownBlock = some k → H + 4 ≤ k := fun k e => (hown'.lt k e).1
  have mg : Mv (fun k => v.ownBlock = some k) W w4 := (m.mono (fun _ _ h => h.elim)).grown hgrow (fun k e => .inl e)
  have n0 : ∀ k, k < H + 4 → ¬ v.ownBlock = some k := fun k hk e => by have := hv k e; omega
  have c3 := h.cs.mv mg (n0 _ (by omega))
  have ms : Mv (fun k => k = H + 3) w4 (w4.setCell ⟨H + 3, 0, none⟩ v') := Mv.set1 (E := fun k => k = H + 3) rfl _
  refine ⟨c3, ⟨(h.re.mv mg (n0 _ (by omega))).mv ms (by omega), (h.em.mv mg (n0 _ (by omega))).mv ms (by omega), (h.cm.mv mg (n0 _ (by omega))).mv ms (by omega), c3.set v', ?_⟩, ?_, ?_⟩
  · have := own_mv hown' ms (fun g hg e => by have := hv' g hg; omega)
    simpa [stsC_snoc] using this
  · exact (mg.mono (fun k _ e => .inr e)).trans' (ms.mono (fun k _ e => .inl (by omega)))
  · intro k hk
    rcases hk with hk | hk
    · exact .inl (.inl hk)
    · rcases hat with e | e
      · exact .inl (.inr (e ▸ hk))
      · rw [hk] at e
        have := m.size
        cases e; exact .inr this
end Go.Proofs.YtmoafagemdnifaaDoor
