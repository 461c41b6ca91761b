/- Groups in memory: maps by what they tell; the row of notes. -/
import Derived.Test.YtgienkdfodjoiaaGreatGP
import Derived.ArgAppend
import Derived.StringKeys
namespace Go.Proofs.YtgienkdfodjoiaaGreat.Cg
open Go.RowKit Go.Shelf
theorem froz_new {W : World} {cs : Array Value} {t : TypeId} {n j : Nat} (hn : W.heap.size = n) : (W.alloc (.cells cs t)).frozen? ⟨n, j, none⟩ = false := by
  subst hn
  have := heap_alloc_new W (.cells cs t)
  unfold World.frozen?
  rw [this]
  simp
theorem hidP {p : Prop} (h : p) : Hid p := h
def heldElem (v : Value) : Option (DataW Value × List MemPlace) := some (.held v, [])
def eZ (a : Int) : Lit := .int .i64 a
def eS (s : ByteArray) : Lit := .string s.data.toList
theorem eZ_inj {a b : Int} (h : eZ a = eZ b) : a = b := by unfold eZ at h; injection h
theorem eS_inj {a b : ByteArray} (h : eS a = eS b) : a = b := by
  unfold eS at h
  injection h with h
  exact ByteArray.ext (Array.toList_inj.1 h)
structure Vw {κ : Type} (e : κ → Lit) (D : DataW Value) (f : κ → Option Value) : Prop where
  has : ∀ a, Maps.has D (e a) = (f a).isSome
  val : ∀ a z, D.atKey (e a) z = match f a with | some v => .held v | none => z
def upN (b : Bool) (m : Nat) : Nat := if b then m else m + 1
def dnN (b : Bool) (m : Nat) : Nat := if b then m - 1 else m
/-- A map in memory: its size, what it tells. -/
def MapIs {κ : Type} (k : TypeId) (e : κ → Lit) (w : World) (b m : Nat) (f : κ → Option Value) : Prop :=
  ∃ D, w.ownsMap Tryz.prog k heldElem b m D ∧ Maps.size D = m ∧ Vw e D f
theorem ownsMap_mv {H : Type} {P : Program} {k : TypeId} {R : Value → Option (DataW H × List MemPlace)} {w w' : World} {b n : Nat} {D : DataW H} {E : Nat → Prop} (h : w.ownsMap P k R b n D) (m : Mv E w w') (hE : ¬ E b) : w'.ownsMap P k R b n D := by
  obtain ⟨es, c, hb, q⟩ := h
  exact ⟨es, c, (m.block b (Array.getElem?_eq_some_iff.1 hb).1 hE).trans hb, q⟩
theorem ownsMap_norm {H : Type} {P : Program} {k : TypeId} {R : Value → Option (DataW H × List MemPlace)} {w : World} {b n : Nat} {D : DataW H} (h : w.ownsMap P k R b n D) : w.ownsMap P k R b (Maps.size D) D := by
  obtain ⟨es, c, hb, F, hs, hD⟩ := h
  refine ⟨es, c, hb, F, ?_, hD⟩
  have := congrArg Maps.size hD
  rw [Maps.size_eq, length_read] at this
  omega
section
variable {κ : Type} {k : TypeId} {e : κ → Lit} {w : World} {b m : Nat} {f : κ → Option Value}
theorem MapIs.lt (h : MapIs k e w b m f) : b < w.heap.size := by obtain ⟨D, h, _⟩ := h; exact h.lt
theorem MapIs.mv {w' : World} {E : Nat → Prop} (h : MapIs k e w b m f) (mv : Mv E w w') (hE : ¬ E b) : MapIs k e w' b m f := by
  obtain ⟨D, h1, h2⟩ := h
  exact ⟨D, ownsMap_mv h1 mv hE, h2⟩
theorem MapIs.cong {g : κ → Option Value} (h : MapIs k e w b m f) (hg : ∀ a, g a = f a) : MapIs k e w b m g := by
  obtain ⟨D, h1, h2, h3⟩ := h
  exact ⟨D, h1, h2, fun a => by rw [hg]; exact h3.has a, fun a z => by rw [hg]; exact h3.val a z⟩
theorem MapIs.notCell {a : Addr} (h : MapIs k e w b m f) {v : Value} (hc : w.cell? a = some v) : a.block ≠ b := by
  obtain ⟨D, ⟨es, c, hb, _⟩, _⟩ := h
  rintro rfl
  unfold World.cell? at hc
  rw [hb] at hc
  cases hc
theorem MapIs.made (w : World) : MapIs k e (w.alloc (.map #[] 0)) w.heap.size 0 fun _ => none :=
  ⟨_, World.ownsMap_made w _ _ _, rfl, ⟨fun _ => rfl, fun _ _ => rfl⟩⟩
theorem MapIs.look (h : MapIs k e w b m f) (K : Maps.Keyed Tryz.prog k) {t et : TypeId} (ht : Tryz.prog.underlying t = some (.map k et)) {z : Value} (hz : (zeroValue et).run Tryz.prog w = .ok z w) {a : κ} {key : Value} (hk : keyOf Tryz.prog k key = some (e a)) :
    (Instr.lookup t (.map (some b)) key true).run Tryz.prog w = .ok (.tuple #[(f a).getD z, .bool (f a).isSome]) w := by
  obtain ⟨D, h1, h2, h3⟩ := h
  obtain ⟨v, ps, hrun, hv⟩ := h1.look_ok K ht hz (zd := .held z) (zp := []) rfl hk
  rw [h3.val] at hv
  rw [hrun, h3.has]
  cases hl : f a <;> rw [hl] at hv <;> simp only [heldElem, Option.some.injEq, Prod.mk.injEq, DataW.held.injEq] at hv <;> rw [hv.1] <;> rfl
theorem MapIs.look1 (h : MapIs k e w b m f) (K : Maps.Keyed Tryz.prog k) {t et : TypeId} (ht : Tryz.prog.underlying t = some (.map k et)) {z : Value} (hz : (zeroValue et).run Tryz.prog w = .ok z w) {a : κ} {key : Value} (hk : keyOf Tryz.prog k key = some (e a)) :
    (Instr.lookup t (.map (some b)) key false).run Tryz.prog w = .ok ((f a).getD z) w := by
  obtain ⟨D, h1, h2, h3⟩ := h
  obtain ⟨v, ps, hrun, hv⟩ := h1.lookup K ht hz (zd := .held z) (zp := []) rfl hk
  rw [h3.val] at hv
  rw [hrun]
  cases hl : f a <;> rw [hl] at hv <;> simp only [heldElem, Option.some.injEq, Prod.mk.injEq, DataW.held.injEq] at hv <;> rw [hv.1] <;> rfl
theorem MapIs.len (h : MapIs k e w b m f) {t et : TypeId} (ht : Tryz.prog.underlying t = some (.map k et)) (ty : TypeId) :
    (Builtin.len_ #[t] ty #[.map (some b)]).run Tryz.prog w = .ok (.int .i64 m) w := by
  obtain ⟨D, h1, h2, h3⟩ := h
  rw [h1.len ht ty, h2]
theorem MapIs.store [DecidableEq κ] (h : MapIs k e w b m f) (K : Maps.Keyed Tryz.prog k) (hinj : ∀ a b, e a = e b → a = b) (hkl : ∀ a, WideAt.IsKeyLit (e a)) {t et : TypeId} (ht : Tryz.prog.underlying t = some (.map k et)) {a : κ} {key : Value} (hk : keyOf Tryz.prog k key = some (e a)) (v : Value) (hm : m < maxLen) :
    ∃ w', (Instr.mapUpdate t (.map (some b)) key v).run Tryz.prog w = .ok () w' ∧ MapIs k e w' b (upN (f a).isSome m) (fun x => if x = a then some v else f x) ∧ Mv (fun k => k = b) w w' := by
  obtain ⟨D, h1, h2, h3⟩ := h
  obtain ⟨w', hrun, ho, hg⟩ := h1.update K ht hm hk (val := v) (d := .held v) (ps := []) rfl
  have hs : Maps.size (D.put (e a) (.held v)) = upN (f a).isSome m := by unfold upN; rw [Maps.size_put (h1.tidy K), h3.has, h2]
  refine ⟨w', hrun, ⟨_, ?_, hs, ⟨fun x => ?_, fun x z => ?_⟩⟩, (Mv.refl _ _).grown hg (fun k e => .inl (by cases e; rfl))⟩
  · rw [← hs]; exact ownsMap_norm ho
  · by_cases hx : x = a
    · subst hx; rw [if_pos rfl, Maps.has_put_same h1.isMap (hkl _)]; rfl
    · rw [if_neg hx, Maps.has_put_other (fun q => hx (hinj _ _ q)), h3.has]
  · by_cases hx : x = a
    · subst hx; rw [if_pos rfl, Maps.atKey_put_same h1.isMap (hkl _)]
    · rw [if_neg hx, Maps.atKey_put_other (fun q => hx (hinj _ _ q)), h3.val]
theorem MapIs.drop [DecidableEq κ] (h : MapIs k e w b m f) (K : Maps.Keyed Tryz.prog k) (hinj : ∀ a b, e a = e b → a = b) {t et : TypeId} (ht : Tryz.prog.underlying t = some (.map k et)) {a : κ} {key : Value} (hk : keyOf Tryz.prog k key = some (e a)) (ty : TypeId) :
    ∃ w', (Builtin.delete_ #[t, k] ty #[.map (some b), key]).run Tryz.prog w = .ok (.tuple #[]) w' ∧ MapIs k e w' b (dnN (f a).isSome m) (fun x => if x = a then none else f x) ∧ Mv (fun k => k = b) w w' := by
  obtain ⟨D, h1, h2, h3⟩ := h
  obtain ⟨w', hrun, ho, hg⟩ := h1.drop K ht hk ty
  have hs : Maps.size (D.del (e a)) = dnN (f a).isSome m := by
    unfold dnN
    have := Maps.size_del (k := e a) (h1.tidy K)
    rw [h3.has, h2] at this
    split at this <;> simp_all <;> omega
  refine ⟨w', hrun, ⟨_, ?_, hs, ⟨fun x => ?_, fun x z => ?_⟩⟩, (Mv.refl _ _).grown hg.grown (fun k e => .inl (by cases e; rfl))⟩
  · rw [← hs]; exact ownsMap_norm ho
  · by_cases hx : x = a
    · subst hx; rw [if_pos rfl, Maps.has_del_same]; rfl
    · rw [if_neg hx, Maps.has_del_other (fun q => hx (hinj _ _ q)), h3.has]
  · by_cases hx : x = a
    · subst hx; rw [if_pos rfl, Maps.atKey_del_same]
    · rw [if_neg hx, Maps.atKey_del_other (fun q => hx (hinj _ _ q)), h3.val]
end
theorem lawZ : Maps.Keyed Tryz.prog 3 := Maps.int_keyed Tryz.underlying3
theorem lawS : Maps.Keyed Tryz.prog 9 := Maps.string_keyed Tryz.underlying9
theorem keyZ {a : Int} (h0 : -9223372036854775808 ≤ a) (h1 : a ≤ 9223372036854775807) : keyOf Tryz.prog 3 (.int .i64 a) = some (eZ a) :=
  Maps.keyOf_int_mk Tryz.underlying3 (WalkArith.wf_i64 (by omega))
theorem keyS {s : ByteArray} (h : s.size ≤ 1000) : keyOf Tryz.prog 9 (.string s) = some (eS s) := WideMaps.keyOf_string_mk Tryz.underlying9 (by unfold maxLen; omega)
theorem klZ (a : Int) : WideAt.IsKeyLit (eZ a) := trivial
theorem klS (a : ByteArray) : WideAt.IsKeyLit (eS a) := trivial
abbrev MZ := MapIs (κ := Int) 3 eZ
abbrev MS := MapIs (κ := ByteArray) 9 eS
def unitV : Value := .agg #[]
def gzV : Value := .agg #[.string ⟨#[]⟩, .map none]
def gV (g : G) : Value := .agg #[.string g.name, .map (some g.blk)]
theorem zeroG (w : World) : (zeroValue 131).run Tryz.prog w = .ok gzV w := by kernel_rfl
theorem zeroU (w : World) : (zeroValue 181).run Tryz.prog w = .ok unitV w := by kernel_rfl
/-- The block of a slice. -/
def nb : Value → Option Nat
  | .slice (some a) _ _ => some a.block
  | _ => none
/-- A row of texts behind a slice. -/
def NS (w : World) (v : Value) (xs : List ByteArray) : Prop :=
  (v = .slice none 0 0 ∧ xs = []) ∨ ∃ g o cap, v = .slice (some ⟨g, o, none⟩) xs.length cap ∧ g < w.heap.size ∧ xs.length ≤ cap ∧ cap ≤ maxLen ∧
    (∀ j x, xs[j]? = some x → w.cell? ⟨g, o + j, none⟩ = some (.string x)) ∧ (∀ j, j < cap → (w.cell? ⟨g, o + j, none⟩).isSome = true ∧ w.frozen? ⟨g, o + j, none⟩ = false)
theorem NS.lt {w : World} {v : Value} {xs : List ByteArray} (h : NS w v xs) {k : Nat} (hk : nb v = some k) : k < w.heap.size := by
  rcases h with ⟨rfl, _⟩ | ⟨g, o, cap, rfl, hg, _⟩
  · cases hk
  · cases hk; exact hg
theorem NS.mv {w w' : World} {v : Value} {xs : List ByteArray} {E : Nat → Prop} (h : NS w v xs) (m : Mv E w w') (hE : ∀ k, nb v = some k → ¬ E k) : NS w' v xs := by
  rcases h with h | ⟨g, o, cap, rfl, hg, h1, h2, h3, h4⟩
  · exact .inl h
  · have hb := m.block g hg (hE g rfl)
    have hc : ∀ j, w'.cell? ⟨g, o + j, none⟩ = w.cell? ⟨g, o + j, none⟩ := fun j => World.cell?_of_block hb
    have hf : ∀ j, w'.frozen? ⟨g, o + j, none⟩ = w.frozen? ⟨g, o + j, none⟩ := fun j => by unfold World.frozen?; rw [hb]
    exact .inr ⟨g, o, cap, rfl, Nat.lt_of_lt_of_le hg m.size, h1, h2, fun j x hx => (hc j).trans (h3 j x hx), fun j hj => by rw [hc, hf]; exact h4 j hj⟩
/-- A row that is owned is one. -/
theorem NS.own {w : World} {v : Value} {base : Nat} {e : TypeId} {xs : List ByteArray} (h : w.ownsRow base e 1 v xs.length (xs.map Value.string)) : NS w v xs := by
  rcases h.2 with ⟨rfl, h0⟩ | ⟨g, cap, cur, rfl, _, hg, h1, h2, h3, h4⟩
  · exact .inl ⟨rfl, List.eq_nil_of_length_eq_zero h0⟩
  · refine .inr ⟨g, 0, cap, rfl, (Array.getElem?_eq_some_iff.1 hg).1, h1, h2, fun j x hx => ?_, fun j hj => ?_⟩
    · unfold World.cell?
      rw [hg]
      have hj : j < xs.length := (List.getElem?_eq_some_iff.1 hx).1
      have : (xs.map Value.string)[j]? = some (.string x) := by rw [List.getElem?_map, hx]; rfl
      rw [← h4, List.getElem?_take_of_lt (by simpa using hj), Array.getElem?_toList] at this
      simpa using this
    · unfold World.cell? World.frozen?
      rw [hg]
      have : j < cur.size := by rw [h3]; omega
      simp [this]
theorem infoS : ∃ i, Tryz.prog.info? 9 = some i ∧ i.zero = some (.string ⟨#[]⟩) ∧ i.size = 1 ∧ i.bytes = 16 := by
  have h : (Tryz.prog.info? 9).map (fun i => (i.zero, i.size, i.bytes)) = some (some (.string ⟨#[]⟩), 1, 16) := by kernel_rfl
  cases e : Tryz.prog.info? 9 with
  | none => rw [e] at h; cases h
  | some i => rw [e] at h; simp at h; exact ⟨i, rfl, h⟩
theorem NS.append {w : World} {v : Value} {xs : List ByteArray} (h : NS w v xs) {a : Addr} {s : ByteArray} {c : Nat} (ha : w.cell? a = some (.string s)) (hl : xs.length ≤ 1000000) (ty : TypeId) :
    ∃ v' w', (Builtin.append_ #[105, 105] ty #[v, .slice (some a) 1 c]).run Tryz.prog w = .ok v' w' ∧ NS w' v' (xs ++ [s]) ∧ Mv (fun k => nb v = some k) w w' ∧ (nb v' = nb v ∨ ∃ k, nb v' = some k ∧ w.heap.size ≤ k) := by
  have hnews : ∀ j u, [Value.string s][j]? = some u → w.cell? (a.add j) = some u := by
    intro j u hj
    match j, hj with
    | 0, hj =>
      simp at hj; subst hj
      rw [← ha]; congr 1
  have he : (xs ++ [s]).map Value.string = xs.map Value.string ++ [Value.string s] := by simp
  have hL : (xs ++ [s]).length = xs.length + 1 := by simp
  obtain ⟨i0, hi, hz0, hz1, hz2⟩ := infoS
  rcases h with ⟨rfl, rfl⟩ | ⟨g, o, cap, rfl, hg, h1, h2, h3, h4⟩
  · obtain ⟨v', w', hrun, ho, hgr, _, hat⟩ := run_append_own_at (P := Tryz.prog) w w.heap.size 105 ty 9 _ (.string ⟨#[]⟩) 1 16 Tryz.underlying105 hi hz0 hz1 hz2 rfl (by decide) (.slice none 0 0) 0 [] (World.ownsRow_nil w _ _ _) a 1 c [.string s] rfl hnews (by simp [Value.oneCell']) (by unfold maxLen; omega) (by omega) (Nat.le_refl _)
    refine ⟨v', w', hrun, NS.own (base := w.heap.size) (e := 9) (by rw [he]; exact ho), (Mv.refl _ _).grown hgr (fun k e => by cases e), ?_⟩
    rcases ho.2 with ⟨rfl, h0⟩ | ⟨g, cap, cur, rfl, _, hg, _⟩
    · simp at h0
    · rcases hat with hat | hat
      · cases hat
      · exact .inr ⟨w.heap.size, by simpa [Value.ownBlock, nb] using hat, Nat.le_refl _⟩
  · by_cases hr : xs.length + 1 ≤ cap
    · have hrun := run_append_room_cells (P := Tryz.prog) w 105 ty 9 _ Tryz.underlying105 hi g o xs.length cap a 1 c [.string s] (by rw [hz1]; rfl) hnews (by simp [Value.oneCell']) hr (fun j hj => by rw [hz1]; obtain rfl : j = 0 := (by simpa using hj); simpa using (h4 xs.length (by omega)).1) (fun j hj => by rw [hz1]; obtain rfl : j = 0 := (by simpa using hj); simpa using (h4 xs.length (by omega)).2)
      rw [hz1] at hrun
      · refine ⟨_, _, hrun, .inr ⟨g, o, cap, by rw [hL], ?_, by rw [hL]; exact hr, h2, fun j x hx => ?_, fun j hj => ?_⟩, ?_, .inl rfl⟩
        · show g < (w.setCell _ _).heap.size
          simpa using hg
        · show (w.setCell ⟨g, o + xs.length * 1, none⟩ (.string s)).cell? _ = _
          rw [Nat.mul_one]
          rcases Nat.lt_or_ge j xs.length with hj | hj
          · rw [World.cell?_setCell_other _ _ _ _ (by simp; try omega)]
            rw [List.getElem?_append_left hj] at hx
            exact h3 j x hx
          · rw [List.getElem?_append_right hj] at hx
            obtain hj0 : j - xs.length = 0 := by
              rcases Nat.eq_zero_or_pos (j - xs.length) with h | h
              · exact h
              · rw [List.getElem?_eq_none (by simp; omega)] at hx; cases hx
            rw [hj0] at hx
            simp at hx; subst hx
            have : j = xs.length := by omega
            subst this
            exact World.cell?_setCell_same' _ _ _ (h4 _ (by omega)).1
        · refine ⟨?_, by show (w.setCell _ _).frozen? _ = false; rw [World.frozen?_setCell]; exact (h4 j hj).2⟩
          show ((w.setCell ⟨g, o + xs.length * 1, none⟩ (.string s)).cell? _).isSome = true
          rw [Nat.mul_one]
          by_cases hj2 : j = xs.length
          · subst hj2
            rw [World.cell?_setCell_same' _ _ _ (h4 _ (by omega)).1]; rfl
          · rw [World.cell?_setCell_other _ _ _ _ (by simp; try omega)]
            exact (h4 j hj).1
        · exact (Mv.refl (fun k => nb (Value.slice (some ⟨g, o, none⟩) xs.length cap) = some k) w).setc (p := ⟨g, o + xs.length * 1, none⟩) (.inl rfl) _
    · have hold : ∀ j u, (xs.map Value.string)[j]? = some u → w.cell? ((⟨g, o, none⟩ : Addr).add j) = some u := by
        intro j u hj
        rw [List.getElem?_map] at hj
        cases hx : xs[j]? with
        | none => rw [hx] at hj; cases hj
        | some x =>
          rw [hx] at hj; cases hj
          rw [Addr.add_lit]
          exact h3 j x hx
      obtain ⟨v', w', hrun, ho, hgr⟩ := run_append_arg_grows (P := Tryz.prog) w 105 ty 9 _ (.string ⟨#[]⟩) 1 16 Tryz.underlying105 hi hz0 hz1 hz2 rfl (by decide) ⟨g, o, none⟩ xs.length cap (xs.map Value.string) (by simp) hold a 1 c [.string s] rfl hnews (by omega) (by unfold maxLen; omega) (by omega)
      rw [← he, ← hL] at ho
      · refine ⟨v', w', hrun, NS.own ho, (Mv.refl _ _).grown hgr (fun k e => by cases e), .inr ?_⟩
        have hle := hgr.size
        rcases ho.2 with ⟨rfl, h0⟩ | ⟨g2, cap2, cur, rfl, hb2, hg2, _⟩
        · simp at h0
        · exact ⟨g2, rfl, hb2⟩
end Go.Proofs.YtgienkdfodjoiaaGreat.Cg
