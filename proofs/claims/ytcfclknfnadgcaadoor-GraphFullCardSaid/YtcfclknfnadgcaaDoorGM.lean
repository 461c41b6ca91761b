/- Maps of edges in memory: keys of three fields; what a store behind an entry does. -/
import Derived.Test.YtcfclknfnadgcaaDoorNB0
import Derived.Test.YtcfclknfnadgcaaDoorGP
import Derived.DeepKeys4
import Derived.WideKeyEntry
namespace Go.Proofs.YtcfclknfnadgcaaDoor
open Go.RowKit Go.Shelf Go.Lib
/-- An edge that can be a key. -/
abbrev EK := {e : Ed // okE e}
def edV (e : Ed) : Value := .agg #[.int .i64 e.1, .string e.2.1, .string e.2.2]
def eE (e : EK) : Lit := .string (keyBytes [.int .i64 e.1.1, .string e.1.2.1.data.toList, .string e.1.2.2.data.toList])
theorem laidOutE : laidOutB Tryd.prog = true := by kernel_rfl
theorem rowEd : (37 : TypeId) < Tryd.prog.types.size := of_decide_eq_true (by kernel_rfl)
theorem wideEd : (match Tryd.prog.underlying 37 with | some (.array _ _) | some (.struct _) => true | _ => false) = true := by kernel_rfl
theorem deepEd : Tryd.prog.keyTypeAt 2 37 = true := by kernel_rfl
set_option maxRecDepth 1000000 in
theorem lawE : Maps.Keyed Tryd.prog 37 := .of_law (deep_law_laid laidOutE (m := 2) (by decide) rowEd deepEd wideEd)
theorem ktypeE : Tryd.prog.keyType 37 = true := by kernel_rfl
theorem cellsEd : Tryd.prog.cellsOf 37 = 3 := by kernel_rfl
theorem cellsStr : Tryd.prog.cellsOf 9 = 1 := by kernel_rfl
theorem cellsInt : Tryd.prog.cellsOf 3 = 1 := by kernel_rfl
theorem litsS (n : Nat) (s : ByteArray) (h : s.size ≤ maxLen) : Tryd.prog.keyLits (n + 1) 9 [.string s] = some [.string s.data.toList] := by
  unfold Program.keyLits
  rw [Tryd.underlying9]
  simp [h]
theorem litsI (n : Nat) (a : Int) (h : -9223372036854775808 ≤ a ∧ a ≤ 9223372036854775807) : Tryd.prog.keyLits (n + 1) 3 [.int .i64 a] = some [.int .i64 a] := by
  have hw : (Lit.int .i64 a).wf = true := WalkArith.wf_i64 (by omega)
  unfold Program.keyLits
  rw [Tryd.underlying3]
  simp [hw]
set_option maxRecDepth 1000000 in
theorem keyE (k : EK) : keyOf Tryd.prog 37 (edV k.1) = some (eE k) := by
  have h0 := k.2.1
  have h1 := k.2.2.1
  have h2 := k.2.2.2
  obtain ⟨n, hn⟩ : ∃ n, Tryd.prog.types.size = n + 1 := ⟨_, (Nat.succ_pred_eq_of_pos (Nat.lt_of_le_of_lt (Nat.zero_le _) rowEd)).symm⟩
  have hf : (edV k.1).formed Tryd.prog 37 = true := by
    unfold edV Value.formed
    rw [Tryd.underlying37]
    simp [cellsEd]
  unfold keyOf
  have hu := Tryd.underlying37
  rw [hu]
  simp only [ktypeE, hf, Bool.and_self, if_true]
  have hk : Tryd.prog.keyLits (Tryd.prog.types.size + 1) 37 (edV k.1).cells.toList = some [.int .i64 k.1.1, .string k.1.2.1.data.toList, .string k.1.2.2.data.toList] := by
    rw [hn]
    unfold Program.keyLits
    rw [hu]
    have e0 := litsI n k.1.1 h0
    have e1 := litsS n k.1.2.1 (by unfold maxLen; omega)
    have e2 := litsS n k.1.2.2 (by unfold maxLen; omega)
    simp [edV, Value.cells, cellsEd, cellsStr, cellsInt, e0, e1, e2]
  rw [hk]; rfl
theorem edV_inj {a b : EK} (h : edV a.1 = edV b.1) : a = b := by
  unfold edV at h
  injection h with h
  simp at h
  exact Subtype.ext (Prod.ext h.1 (Prod.ext h.2.1 h.2.2))
theorem eE_inj {a b : EK} (h : eE a = eE b) : a = b := edV_inj (lawE.inj (keyE a) (h ▸ keyE b))
theorem klE (k : EK) : WideAt.IsKeyLit (eE k) := trivial
abbrev ME := MapIs (κ := EK) 37 eE
theorem MapIs.empty {κ : Type} {k : TypeId} {e : κ → Lit} {w : World} {b : Nat} {f : κ → Option Value} (h : MapIs k e w b 0 f) (a : κ) : f a = none := by
  obtain ⟨D, h1, h2, h3⟩ := h
  have h4 := h3.has a
  obtain ⟨es, rfl⟩ := h1.isMap
  rw [Maps.size_eq] at h2
  have : es = [] := List.eq_nil_of_length_eq_zero h2
  subst this
  cases hf : f a with
  | none => rfl
  | some v => rw [hf, Maps.has_eq] at h4; simp at h4
end Go.Proofs.YtcfclknfnadgcaaDoor
