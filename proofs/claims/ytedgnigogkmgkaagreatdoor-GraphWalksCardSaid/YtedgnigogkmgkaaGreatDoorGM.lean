/- Maps of edges in memory: keys of three fields; what a store behind an entry does. -/
import Derived.Test.YtedgnigogkmgkaaGreatDoorNB0
import Derived.Test.YtedgnigogkmgkaaGreatDoorGP
import Derived.DeepKeys4
import Derived.WideKeyEntry
namespace Go.Proofs.YtedgnigogkmgkaaGreatDoor
open Go.RowKit Go.Shelf Go.Lib
/-- An edge that can be a key. -/
abbrev EK := {e : Ed // okE e}
def edV (e : Ed) : Value := .agg #[.int .i64 e.1, .string e.2.1, .string e.2.2]
def eE (e : EK) : Lit := .string (keyBytes [.int .i64 e.1.1, .string e.1.2.1.data.toList, .string e.1.2.2.data.toList])
theorem laidOutE : laidOutB Tryz.prog = true := by kernel_rfl
theorem rowEd : (156 : TypeId) < Tryz.prog.types.size := of_decide_eq_true (by kernel_rfl)
theorem wideEd : (match Tryz.prog.underlying 156 with | some (.array _ _) | some (.struct _) => true | _ => false) = true := by kernel_rfl
theorem deepEd : Tryz.prog.keyTypeAt 2 156 = true := by kernel_rfl
set_option maxRecDepth 1000000 in
theorem lawE : Maps.Keyed Tryz.prog 156 := .of_law (deep_law_laid laidOutE (m := 2) (by decide) rowEd deepEd wideEd)
theorem ktypeE : Tryz.prog.keyType 156 = true := by kernel_rfl
theorem cellsEd : Tryz.prog.cellsOf 156 = 3 := by kernel_rfl
theorem cellsStr : Tryz.prog.cellsOf 9 = 1 := by kernel_rfl
theorem cellsInt : Tryz.prog.cellsOf 3 = 1 := by kernel_rfl
theorem litsS (n : Nat) (s : ByteArray) (h : s.size ≤ maxLen) : Tryz.prog.keyLits (n + 1) 9 [.string s] = some [.string s.data.toList] := by
  unfold Program.keyLits
  rw [Tryz.underlying9]
  simp [h]
theorem litsI (n : Nat) (a : Int) (h : -9223372036854775808 ≤ a ∧ a ≤ 9223372036854775807) : Tryz.prog.keyLits (n + 1) 3 [.int .i64 a] = some [.int .i64 a] := by
  have hw : (Lit.int .i64 a).wf = true := WalkArith.wf_i64 (by omega)
  unfold Program.keyLits
  rw [Tryz.underlying3]
  simp [hw]
set_option maxRecDepth 1000000 in
theorem keyE (k : EK) : keyOf Tryz.prog 156 (edV k.1) = some (eE k) := by
  have h0 := k.2.1
  have h1 := k.2.2.1
  have h2 := k.2.2.2
  obtain ⟨n, hn⟩ : ∃ n, Tryz.prog.types.size = n + 1 := ⟨_, (Nat.succ_pred_eq_of_pos (Nat.lt_of_le_of_lt (Nat.zero_le _) rowEd)).symm⟩
  have hf : (edV k.1).formed Tryz.prog 156 = true := by
    unfold edV Value.formed
    rw [Tryz.underlying156]
    simp [cellsEd]
  unfold keyOf
  have hu := Tryz.underlying156
  rw [hu]
  simp only [ktypeE, hf, Bool.and_self, if_true]
  have hk : Tryz.prog.keyLits (Tryz.prog.types.size + 1) 156 (edV k.1).cells.toList = some [.int .i64 k.1.1, .string k.1.2.1.data.toList, .string k.1.2.2.data.toList] := by
    rw [hn]
    unfold Program.keyLits
    rw [hu]
    have e0 := litsI n k.1.1 h0
    have e1 := litsS n k.1.2.1 (by unfold maxLen; omega)
    have e2 := litsS n k.1.2.2 (by unfold maxLen; omega)
    simp [edV, Value.cells, cellsEd, cellsStr, cellsInt, e0, e1, e2]
  rw [hk]; rfl
theorem edV_inj {a b : EK} (h : edV a.1 = edV b.1) : a = b := by
  unfold edV at h
  injection h with h
  simp at h
  exact Subtype.ext (Prod.ext h.1 (Prod.ext h.2.1 h.2.2))
theorem eE_inj {a b : EK} (h : eE a = eE b) : a = b := edV_inj (lawE.inj (keyE a) (h ▸ keyE b))
theorem klE (k : EK) : WideAt.IsKeyLit (eE k) := trivial
/-- A map of edges: what it tells, and that it has no other keys. -/
def ME (w : World) (b m : Nat) (f : EK → Option Value) : Prop := ∃ D, w.ownsMap Tryz.prog 156 heldElem b m D ∧ Maps.size D = m ∧ Vw eE D f ∧ ∀ kl, Maps.has D kl = true → ∃ a, eE a = kl
theorem ME.is {w : World} {b m : Nat} {f : EK → Option Value} (h : ME w b m f) : MapIs 156 eE w b m f := by
  obtain ⟨D, h1, h2, h3, _⟩ := h
  exact ⟨D, h1, h2, h3⟩
theorem ME.lt {w : World} {b m : Nat} {f : EK → Option Value} (h : ME w b m f) : b < w.heap.size := h.is.lt
theorem ME.mv {w w' : World} {b m : Nat} {f : EK → Option Value} {E : Nat → Prop} (h : ME w b m f) (mv : Mv E w w') (hE : ¬ E b) : ME w' b m f := by
  obtain ⟨D, h1, h2⟩ := h
  exact ⟨D, ownsMap_mv h1 mv hE, h2⟩
theorem ME.cong {w : World} {b m : Nat} {f g : EK → Option Value} (h : ME w b m f) (hg : ∀ a, g a = f a) : ME w b m g := by
  obtain ⟨D, h1, h2, h3, h4⟩ := h
  exact ⟨D, h1, h2, ⟨fun a => by rw [hg]; exact h3.has a, fun a z => by rw [hg]; exact h3.val a z⟩, h4⟩
theorem ME.made (w : World) : ME (w.alloc (.map #[] 0)) w.heap.size 0 fun _ => none :=
  ⟨_, World.ownsMap_made w _ _ _, rfl, ⟨fun _ => rfl, fun _ _ => rfl⟩, fun kl h => by cases h⟩
theorem ME.look1 {w : World} {b m : Nat} {f : EK → Option Value} (h : ME w b m f) (K : Maps.Keyed Tryz.prog 156) {t et : TypeId} (ht : Tryz.prog.underlying t = some (.map 156 et)) {z : Value} (hz : (zeroValue et).run Tryz.prog w = .ok z w) {a : EK} {key : Value} (hk : keyOf Tryz.prog 156 key = some (eE a)) :
    (Instr.lookup t (.map (some b)) key false).run Tryz.prog w = .ok ((f a).getD z) w := h.is.look1 K ht hz hk
theorem ME.len {w : World} {b m : Nat} {f : EK → Option Value} (h : ME w b m f) {t et : TypeId} (ht : Tryz.prog.underlying t = some (.map 156 et)) (ty : TypeId) : (Builtin.len_ #[t] ty #[.map (some b)]).run Tryz.prog w = .ok (.int .i64 m) w := h.is.len ht ty
theorem ME.store {w : World} {b m : Nat} {f : EK → Option Value} (h : ME w b m f) {t et : TypeId} (ht : Tryz.prog.underlying t = some (.map 156 et)) {a : EK} {key : Value} (hk : keyOf Tryz.prog 156 key = some (eE a)) (v : Value) (hm : m < maxLen) :
    ∃ w', (Instr.mapUpdate t (.map (some b)) key v).run Tryz.prog w = .ok () w' ∧ ME w' b (upN (f a).isSome m) (fun x => if x = a then some v else f x) ∧ Mv (fun k => k = b) w w' := by
  obtain ⟨D, h1, h2, h3, h4⟩ := h
  obtain ⟨w', hrun, ho, hg⟩ := h1.update lawE ht hm hk (val := v) (d := .held v) (ps := []) rfl
  have hs : Maps.size (D.put (eE a) (.held v)) = upN (f a).isSome m := by unfold upN; rw [Maps.size_put (h1.tidy lawE), h3.has, h2]
  refine ⟨w', hrun, ⟨_, ?_, hs, ⟨fun x => ?_, fun x z => ?_⟩, fun kl hkl => ?_⟩, (Mv.refl _ _).grown hg (fun k e => .inl (by cases e; rfl))⟩
  · rw [← hs]; exact ownsMap_norm ho
  · by_cases hx : x = a
    · subst hx; rw [if_pos rfl, Maps.has_put_same h1.isMap (klE _)]; rfl
    · rw [if_neg hx, Maps.has_put_other (fun q => hx (eE_inj q)), h3.has]
  · by_cases hx : x = a
    · subst hx; rw [if_pos rfl, Maps.atKey_put_same h1.isMap (klE _)]
    · rw [if_neg hx, Maps.atKey_put_other (fun q => hx (eE_inj q)), h3.val]
  · by_cases hx : kl = eE a
    · exact ⟨a, hx.symm⟩
    · rw [Maps.has_put_other hx] at hkl
      exact h4 kl hkl
theorem ME.drop {w : World} {b m : Nat} {f : EK → Option Value} (h : ME w b m f) (K : Maps.Keyed Tryz.prog 156) (hinj : ∀ a b : EK, eE a = eE b → a = b) {t et : TypeId} (ht : Tryz.prog.underlying t = some (.map 156 et)) {a : EK} {key : Value} (hk : keyOf Tryz.prog 156 key = some (eE a)) (ty : TypeId) :
    ∃ w', (Builtin.delete_ #[t, 156] ty #[.map (some b), key]).run Tryz.prog w = .ok (.tuple #[]) w' ∧ ME w' b (dnN (f a).isSome m) (fun x => if x = a then none else f x) ∧ Mv (fun k => k = b) w w' := by
  obtain ⟨D, h1, h2, h3, h4⟩ := h
  obtain ⟨w', hrun, ho, hg⟩ := h1.drop K ht hk ty
  have hs : Maps.size (D.del (eE a)) = dnN (f a).isSome m := by
    unfold dnN
    have := Maps.size_del (k := eE a) (h1.tidy K)
    rw [h3.has, h2] at this
    split at this <;> simp_all <;> omega
  refine ⟨w', hrun, ⟨_, ?_, hs, ⟨fun x => ?_, fun x z => ?_⟩, fun kl hkl => ?_⟩, (Mv.refl _ _).grown hg.grown (fun k e => .inl (by cases e; rfl))⟩
  · rw [← hs]; exact ownsMap_norm ho
  · by_cases hx : x = a
    · subst hx; rw [if_pos rfl, Maps.has_del_same]; rfl
    · rw [if_neg hx, Maps.has_del_other (fun q => hx (hinj _ _ q)), h3.has]
  · by_cases hx : x = a
    · subst hx; rw [if_pos rfl, Maps.atKey_del_same]
    · rw [if_neg hx, Maps.atKey_del_other (fun q => hx (hinj _ _ q)), h3.val]
  · by_cases hx : kl = eE a
    · exact ⟨a, hx.symm⟩
    · rw [Maps.has_del_other hx] at hkl
      exact h4 kl hkl
theorem ME.empty {w : World} {b : Nat} {f : EK → Option Value} (h : ME w b 0 f) (a : EK) : f a = none := by
  obtain ⟨D, h1, h2, h3, _⟩ := h
  have h4 := h3.has a
  obtain ⟨es, rfl⟩ := h1.isMap
  rw [Maps.size_eq] at h2
  have : es = [] := List.eq_nil_of_length_eq_zero h2
  subst this
  cases hf : f a with
  | none => rfl
  | some v => rw [hf, Maps.has_eq] at h4; simp at h4
end Go.Proofs.YtedgnigogkmgkaaGreatDoor
