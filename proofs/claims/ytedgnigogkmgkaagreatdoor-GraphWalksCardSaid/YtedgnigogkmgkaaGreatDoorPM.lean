/- Maps in memory, by what they tell. -/
import Derived.Test.YtedgnigogkmgkaaGreatDoorZ0
import Derived.ArgAppend
import Derived.StringKeys
namespace Go.Proofs.YtedgnigogkmgkaaGreatDoor
open Go.RowKit Go.Shelf
theorem froz_new {W : World} {cs : Array Value} {t : TypeId} {n j : Nat} (hn : W.heap.size = n) : (W.alloc (.cells cs t)).frozen? ⟨n, j, none⟩ = false := by
  subst hn
  have := heap_alloc_new W (.cells cs t)
  unfold World.frozen?
  rw [this]
  simp
theorem hidP {p : Prop} (h : p) : Hid p := h
def heldElem (v : Value) : Option (DataW Value × List MemPlace) := some (.held v, [])
def eZ (a : Int) : Lit := .int .i64 a
def eS (s : ByteArray) : Lit := .string s.data.toList
theorem eZ_inj {a b : Int} (h : eZ a = eZ b) : a = b := by unfold eZ at h; injection h
theorem eS_inj {a b : ByteArray} (h : eS a = eS b) : a = b := by
  unfold eS at h
  injection h with h
  exact ByteArray.ext (Array.toList_inj.1 h)
structure Vw {κ : Type} (e : κ → Lit) (D : DataW Value) (f : κ → Option Value) : Prop where
  has : ∀ a, Maps.has D (e a) = (f a).isSome
  val : ∀ a z, D.atKey (e a) z = match f a with | some v => .held v | none => z
def upN (b : Bool) (m : Nat) : Nat := if b then m else m + 1
def dnN (b : Bool) (m : Nat) : Nat := if b then m - 1 else m
/-- A map in memory: its size, what it tells. -/
def MapIs {κ : Type} (k : TypeId) (e : κ → Lit) (w : World) (b m : Nat) (f : κ → Option Value) : Prop :=
  ∃ D, w.ownsMap Tryz.prog k heldElem b m D ∧ Maps.size D = m ∧ Vw e D f
theorem ownsMap_mv {H : Type} {P : Program} {k : TypeId} {R : Value → Option (DataW H × List MemPlace)} {w w' : World} {b n : Nat} {D : DataW H} {E : Nat → Prop} (h : w.ownsMap P k R b n D) (m : Mv E w w') (hE : ¬ E b) : w'.ownsMap P k R b n D := by
  obtain ⟨es, c, hb, q⟩ := h
  exact ⟨es, c, (m.block b (Array.getElem?_eq_some_iff.1 hb).1 hE).trans hb, q⟩
theorem ownsMap_norm {H : Type} {P : Program} {k : TypeId} {R : Value → Option (DataW H × List MemPlace)} {w : World} {b n : Nat} {D : DataW H} (h : w.ownsMap P k R b n D) : w.ownsMap P k R b (Maps.size D) D := by
  obtain ⟨es, c, hb, F, hs, hD⟩ := h
  refine ⟨es, c, hb, F, ?_, hD⟩
  have := congrArg Maps.size hD
  rw [Maps.size_eq, length_read] at this
  omega
section
variable {κ : Type} {k : TypeId} {e : κ → Lit} {w : World} {b m : Nat} {f : κ → Option Value}
theorem MapIs.lt (h : MapIs k e w b m f) : b < w.heap.size := by obtain ⟨D, h, _⟩ := h; exact h.lt
theorem MapIs.mv {w' : World} {E : Nat → Prop} (h : MapIs k e w b m f) (mv : Mv E w w') (hE : ¬ E b) : MapIs k e w' b m f := by
  obtain ⟨D, h1, h2⟩ := h
  exact ⟨D, ownsMap_mv h1 mv hE, h2⟩
theorem MapIs.cong {g : κ → Option Value} (h : MapIs k e w b m f) (hg : ∀ a, g a = f a) : MapIs k e w b m g := by
  obtain ⟨D, h1, h2, h3⟩ := h
  exact ⟨D, h1, h2, fun a => by rw [hg]; exact h3.has a, fun a z => by rw [hg]; exact h3.val a z⟩
theorem MapIs.notCell {a : Addr} (h : MapIs k e w b m f) {v : Value} (hc : w.cell? a = some v) : a.block ≠ b := by
  obtain ⟨D, ⟨es, c, hb, _⟩, _⟩ := h
  rintro rfl
  unfold World.cell? at hc
  rw [hb] at hc
  cases hc
theorem MapIs.made (w : World) : MapIs k e (w.alloc (.map #[] 0)) w.heap.size 0 fun _ => none :=
  ⟨_, World.ownsMap_made w _ _ _, rfl, ⟨fun _ => rfl, fun _ _ => rfl⟩⟩
theorem MapIs.look (h : MapIs k e w b m f) (K : Maps.Keyed Tryz.prog k) {t et : TypeId} (ht : Tryz.prog.underlying t = some (.map k et)) {z : Value} (hz : (zeroValue et).run Tryz.prog w = .ok z w) {a : κ} {key : Value} (hk : keyOf Tryz.prog k key = some (e a)) :
    (Instr.lookup t (.map (some b)) key true).run Tryz.prog w = .ok (.tuple #[(f a).getD z, .bool (f a).isSome]) w := by
  obtain ⟨D, h1, h2, h3⟩ := h
  obtain ⟨v, ps, hrun, hv⟩ := h1.look_ok K ht hz (zd := .held z) (zp := []) rfl hk
  rw [h3.val] at hv
  rw [hrun, h3.has]
  cases hl : f a <;> rw [hl] at hv <;> simp only [heldElem, Option.some.injEq, Prod.mk.injEq, DataW.held.injEq] at hv <;> rw [hv.1] <;> rfl
theorem MapIs.look1 (h : MapIs k e w b m f) (K : Maps.Keyed Tryz.prog k) {t et : TypeId} (ht : Tryz.prog.underlying t = some (.map k et)) {z : Value} (hz : (zeroValue et).run Tryz.prog w = .ok z w) {a : κ} {key : Value} (hk : keyOf Tryz.prog k key = some (e a)) :
    (Instr.lookup t (.map (some b)) key false).run Tryz.prog w = .ok ((f a).getD z) w := by
  obtain ⟨D, h1, h2, h3⟩ := h
  obtain ⟨v, ps, hrun, hv⟩ := h1.lookup K ht hz (zd := .held z) (zp := []) rfl hk
  rw [h3.val] at hv
  rw [hrun]
  cases hl : f a <;> rw [hl] at hv <;> simp only [heldElem, Option.some.injEq, Prod.mk.injEq, DataW.held.injEq] at hv <;> rw [hv.1] <;> rfl
theorem MapIs.len (h : MapIs k e w b m f) {t et : TypeId} (ht : Tryz.prog.underlying t = some (.map k et)) (ty : TypeId) :
    (Builtin.len_ #[t] ty #[.map (some b)]).run Tryz.prog w = .ok (.int .i64 m) w := by
  obtain ⟨D, h1, h2, h3⟩ := h
  rw [h1.len ht ty, h2]
theorem MapIs.store [DecidableEq κ] (h : MapIs k e w b m f) (K : Maps.Keyed Tryz.prog k) (hinj : ∀ a b, e a = e b → a = b) (hkl : ∀ a, WideAt.IsKeyLit (e a)) {t et : TypeId} (ht : Tryz.prog.underlying t = some (.map k et)) {a : κ} {key : Value} (hk : keyOf Tryz.prog k key = some (e a)) (v : Value) (hm : m < maxLen) :
    ∃ w', (Instr.mapUpdate t (.map (some b)) key v).run Tryz.prog w = .ok () w' ∧ MapIs k e w' b (upN (f a).isSome m) (fun x => if x = a then some v else f x) ∧ Mv (fun k => k = b) w w' := by
  obtain ⟨D, h1, h2, h3⟩ := h
  obtain ⟨w', hrun, ho, hg⟩ := h1.update K ht hm hk (val := v) (d := .held v) (ps := []) rfl
  have hs : Maps.size (D.put (e a) (.held v)) = upN (f a).isSome m := by unfold upN; rw [Maps.size_put (h1.tidy K), h3.has, h2]
  refine ⟨w', hrun, ⟨_, ?_, hs, ⟨fun x => ?_, fun x z => ?_⟩⟩, (Mv.refl _ _).grown hg (fun k e => .inl (by cases e; rfl))⟩
  · rw [← hs]; exact ownsMap_norm ho
  · by_cases hx : x = a
    · subst hx; rw [if_pos rfl, Maps.has_put_same h1.isMap (hkl _)]; rfl
    · rw [if_neg hx, Maps.has_put_other (fun q => hx (hinj _ _ q)), h3.has]
  · by_cases hx : x = a
    · subst hx; rw [if_pos rfl, Maps.atKey_put_same h1.isMap (hkl _)]
    · rw [if_neg hx, Maps.atKey_put_other (fun q => hx (hinj _ _ q)), h3.val]
theorem MapIs.drop [DecidableEq κ] (h : MapIs k e w b m f) (K : Maps.Keyed Tryz.prog k) (hinj : ∀ a b, e a = e b → a = b) {t et : TypeId} (ht : Tryz.prog.underlying t = some (.map k et)) {a : κ} {key : Value} (hk : keyOf Tryz.prog k key = some (e a)) (ty : TypeId) :
    ∃ w', (Builtin.delete_ #[t, k] ty #[.map (some b), key]).run Tryz.prog w = .ok (.tuple #[]) w' ∧ MapIs k e w' b (dnN (f a).isSome m) (fun x => if x = a then none else f x) ∧ Mv (fun k => k = b) w w' := by
  obtain ⟨D, h1, h2, h3⟩ := h
  obtain ⟨w', hrun, ho, hg⟩ := h1.drop K ht hk ty
  have hs : Maps.size (D.del (e a)) = dnN (f a).isSome m := by
    unfold dnN
    have := Maps.size_del (k := e a) (h1.tidy K)
    rw [h3.has, h2] at this
    split at this <;> simp_all <;> omega
  refine ⟨w', hrun, ⟨_, ?_, hs, ⟨fun x => ?_, fun x z => ?_⟩⟩, (Mv.refl _ _).grown hg.grown (fun k e => .inl (by cases e; rfl))⟩
  · rw [← hs]; exact ownsMap_norm ho
  · by_cases hx : x = a
    · subst hx; rw [if_pos rfl, Maps.has_del_same]; rfl
    · rw [if_neg hx, Maps.has_del_other (fun q => hx (hinj _ _ q)), h3.has]
  · by_cases hx : x = a
    · subst hx; rw [if_pos rfl, Maps.atKey_del_same]
    · rw [if_neg hx, Maps.atKey_del_other (fun q => hx (hinj _ _ q)), h3.val]
end
theorem lawS : Maps.Keyed Tryz.prog 9 := Maps.string_keyed Tryz.underlying9
theorem keyS {s : ByteArray} (h : s.size ≤ 1000) : keyOf Tryz.prog 9 (.string s) = some (eS s) := WideMaps.keyOf_string_mk Tryz.underlying9 (by unfold maxLen; omega)
theorem klZ (a : Int) : WideAt.IsKeyLit (eZ a) := trivial
theorem klS (a : ByteArray) : WideAt.IsKeyLit (eS a) := trivial
abbrev MS := MapIs (κ := ByteArray) 9 eS
/-- The block of a slice. -/
def nb : Value → Option Nat
  | .slice (some a) _ _ => some a.block
  | _ => none
end Go.Proofs.YtedgnigogkmgkaaGreatDoor
