/- Settings grouped by their sections: plain, and in a map of slices. -/
import Derived.Test.YtmoafagemdnifaaDoorF3
import Derived.Test.YtmoafagemdnifaaDoorIt2
namespace Go.Proofs.YtmoafagemdnifaaDoor
open Go.RowKit Go.Shelf
abbrev Gs := List (ByteArray × List St)
/-- The settings of one section so far. -/
def look (gs : Gs) (a : ByteArray) : List St := match gs with
  | [] => []
  | g :: r => if g.1 = a then g.2 else look r a
/-- One setting more in its section. -/
def grp (gs : Gs) (x : St) : Gs := match gs with
  | [] => [(x.s, [x])]
  | g :: r => if g.1 = x.s then (g.1, g.2 ++ [x]) :: r else g :: grp r x
theorem grp_mem {gs : Gs} {x : St} (hn : (gs.map Prod.fst).Nodup) {b : ByteArray} {ls : List St} : (b, ls) ∈ grp gs x ↔ (b = x.s ∧ ls = look gs x.s ++ [x]) ∨ (b ≠ x.s ∧ (b, ls) ∈ gs) := by
  induction gs with
  | nil => simp [grp, look]
  | cons g r ih =>
    simp only [List.map_cons, List.nodup_cons] at hn
    have ih := ih hn.2
    unfold grp look
    by_cases hg : g.1 = x.s
    · rw [if_pos hg, if_pos hg]
      simp only [List.mem_cons]
      have hno : ∀ ls, (x.s, ls) ∉ r := fun ls h => hn.1 (by rw [hg]; exact List.mem_map_of_mem (f := Prod.fst) h)
      constructor
      · rintro (h | h)
        · left; cases h; exact ⟨hg, rfl⟩
        · right; exact ⟨fun e => hno ls (e ▸ h), .inr h⟩
      · rintro (⟨rfl, rfl⟩ | ⟨h1, h2 | h2⟩)
        · left; rw [hg]
        · exact absurd (by rw [← hg, ← h2]) h1
        · exact .inr h2
    · rw [if_neg hg, if_neg hg]
      simp only [List.mem_cons, ih]
      constructor
      · rintro (h | h | h)
        · right; exact ⟨fun e => hg (by rw [← e, ← h]), .inl h⟩
        · exact .inl h
        · exact .inr ⟨h.1, .inr h.2⟩
      · rintro (h | ⟨h1, h2 | h2⟩)
        · exact .inr (.inl h)
        · exact .inl h2
        · exact .inr (.inr ⟨h1, h2⟩)
theorem look_mem {gs : Gs} (hn : (gs.map Prod.fst).Nodup) {a : ByteArray} {ls : List St} (h : (a, ls) ∈ gs) : look gs a = ls := by
  induction gs with
  | nil => simp at h
  | cons g r ih =>
    simp only [List.map_cons, List.nodup_cons] at hn
    unfold look
    rcases List.mem_cons.1 h with rfl | h
    · rw [if_pos rfl]
    · rw [if_neg (fun e => hn.1 (by rw [e]; exact List.mem_map_of_mem (f := Prod.fst) h))]
      exact ih hn.2 h
theorem look_none {gs : Gs} {a : ByteArray} (h : a ∉ gs.map Prod.fst) : look gs a = [] := by
  induction gs with
  | nil => rfl
  | cons g r ih =>
    simp only [List.map_cons, List.mem_cons, not_or] at h
    unfold look
    rw [if_neg (fun e => h.1 e.symm)]
    exact ih h.2
theorem grp_names (gs : Gs) (x : St) : (x.s ∈ gs.map Prod.fst ∧ (grp gs x).map Prod.fst = gs.map Prod.fst) ∨ (x.s ∉ gs.map Prod.fst ∧ (grp gs x).map Prod.fst = gs.map Prod.fst ++ [x.s]) := by
  induction gs with
  | nil => right; simp [grp]
  | cons g r ih =>
    unfold grp
    by_cases hg : g.1 = x.s
    · left; rw [if_pos hg]; simp [hg]
    · rw [if_neg hg]
      have hne : ¬ x.s = g.1 := fun e => hg e.symm
      rcases ih with ⟨h1, h2⟩ | ⟨h1, h2⟩
      · left; exact ⟨by simp only [List.map_cons, List.mem_cons]; exact .inr h1, by rw [List.map_cons, h2, List.map_cons]⟩
      · right; exact ⟨by simp only [List.map_cons, List.mem_cons, hne, false_or]; exact h1, by rw [List.map_cons, h2, List.map_cons]; rfl⟩
theorem grp_nodup {gs : Gs} (hn : (gs.map Prod.fst).Nodup) (x : St) : ((grp gs x).map Prod.fst).Nodup := by
  rcases grp_names gs x with ⟨_, h⟩ | ⟨h1, h⟩
  · rw [h]; exact hn
  · rw [h, List.nodup_append]
    exact ⟨hn, by simp, fun a ha b hb e => by simp at hb; subst hb; exact h1 (e ▸ ha)⟩
def heldElem (v : Value) : Option (DataW Value × List MemPlace) := some (.held v, [])
theorem law9 : Maps.Keyed Tryd.prog 9 := Maps.string_keyed Tryd.underlying9
/-- Block bm is the map of the sections' slices. -/
structure PG (w : World) (bm n : Nat) (gs : Gs) (vf : ByteArray → Value) : Prop where
  mp : ∃ D, w.ownsMap Tryd.prog 9 heldElem bm n D ∧ ∀ a kl, keyOf Tryd.prog 9 (.string a) = some kl → D.atKey kl (.held (.slice none 0 0)) = .held (vf a)
  row : ∀ a, w.ownsRow (bm + 1) 44 4 (vf a) (look gs a).length (stsC (look gs a))
  ne : ∀ a ls, (a, ls) ∈ gs → ls ≠ []
  sep : ∀ a b k, (vf a).ownBlock = some k → (vf b).ownBlock = some k → a = b
  nam : (gs.map Prod.fst).Nodup
theorem PG.new (w : World) : PG (w.alloc (.map #[] 0)) w.heap.size 0 [] (fun _ => .slice none 0 0) :=
  ⟨⟨_, World.ownsMap_made _ _ _ _, fun _ _ _ => rfl⟩, fun _ => World.ownsRow_nil _ _ _ _, fun _ _ h => (by simp at h), fun _ _ _ h => (by simp [Value.ownBlock] at h), by simp⟩
theorem ownsMap_mv {H : Type} {P : Program} {k : TypeId} {R : Value → Option (DataW H × List MemPlace)} {w w' : World} {b n : Nat} {D : DataW H} {E : Nat → Prop} (h : w.ownsMap P k R b n D) (m : Mv E w w') (hE : ¬ E b) : w'.ownsMap P k R b n D := by
  obtain ⟨es, c, hb, q⟩ := h
  exact ⟨es, c, (m.block b (Array.getElem?_eq_some_iff.1 hb).1 hE).trans hb, q⟩
theorem PG.mv {w w' : World} {bm n : Nat} {gs : Gs} {vf : ByteArray → Value} {E : Nat → Prop} (h : PG w bm n gs vf) (m : Mv E w w') (hm : ¬ E bm) (hE : ∀ a k, (vf a).ownBlock = some k → ¬ E k) : PG w' bm n gs vf := by
  obtain ⟨D, hD, hDm⟩ := h.mp
  exact ⟨⟨D, ownsMap_mv hD m hm, hDm⟩, fun a => own_mv (h.row a) m (fun g hg => hE a g hg), h.ne, h.sep, h.nam⟩
theorem PG.lt {w : World} {bm n : Nat} {gs : Gs} {vf : ByteArray → Value} (h : PG w bm n gs vf) : bm < w.heap.size := by obtain ⟨D, hD, _⟩ := h.mp; exact hD.lt
theorem PG.lookup {w : World} {bm n : Nat} {gs : Gs} {vf : ByteArray → Value} (h : PG w bm n gs vf) {a : ByteArray} (ha : a.size ≤ 1000000000) (hz : (zeroValue 23).run Tryd.prog w = .ok (.slice none 0 0) w) :
    (Instr.lookup 98 (.map (some bm)) (.string a) false).run Tryd.prog w = .ok (vf a) w := by
  obtain ⟨D, hD, hDm⟩ := h.mp
  have hk := WideMaps.keyOf_string_mk (P := Tryd.prog) Tryd.underlying9 (s := a) (by unfold maxLen; omega)
  obtain ⟨v, ps, hrun, hv⟩ := hD.lookup (t := 98) (e := 23) law9 Tryd.underlying98 hz (zd := .held (.slice none 0 0)) (zp := []) rfl hk
  rw [hDm _ _ hk] at hv
  simp only [heldElem, Option.some.injEq, Prod.mk.injEq, DataW.held.injEq] at hv
  rw [hrun, hv.1]
theorem look_grp (gs : Gs) (x : St) (a : ByteArray) : look (grp gs x) a = if a = x.s then look gs a ++ [x] else look gs a := by
  induction gs with
  | nil =>
    by_cases h : a = x.s
    · subst h; simp [grp, look]
    · rw [if_neg h]; simp only [grp, look, if_neg (fun e : x.s = a => h e.symm)]
  | cons g r ih =>
    unfold grp
    by_cases hg : g.1 = x.s
    · rw [if_pos hg]
      by_cases h : a = x.s
      · subst h; simp [look, hg]
      · rw [if_neg h]
        have : ¬ g.1 = a := fun e => h (by rw [← e, hg])
        simp [look, this]
    · rw [if_neg hg]
      by_cases hga : g.1 = a
      · subst hga; simp [look, hg]
      · simp only [look, if_neg hga]; exact ih
theorem PG.step {w w2 w3 : World} {bm n : Nat} {gs : Gs} {vf : ByteArray → Value} {x : St} {v' : Value} (h : PG w bm n gs vf) (hx : x.s.size ≤ 1000000000) (hn : n ≤ 1000000000) (m : Mv (fun _ => False) w w2) (hgrow : w2.grownBy w3 (vf x.s).ownBlock)
    (hown : w3.ownsRow (bm + 1) 44 4 v' ((look gs x.s).length + 1) (stsC (look gs x.s) ++ stC x)) (hat : v'.ownBlock = (vf x.s).ownBlock ∨ v'.ownBlock = some w2.heap.size) :
    ∃ w4, (Instr.mapUpdate 98 (.map (some bm)) (.string x.s) v').run Tryd.prog w3 = .ok () w4 ∧ PG w4 bm (n + 1) (grp gs x) (fun b => if b = x.s then v' else vf b) ∧ w3.grownBy w4 (some bm) := by
  obtain ⟨D, hD, hDm⟩ := h.mp
  have m3 : Mv (fun k => (vf x.s).ownBlock = some k) w w3 := (m.mono (fun _ _ h => h.elim)).grown hgrow (fun k e => .inl e)
  have hlo : ∀ a k, (vf a).ownBlock = some k → bm + 1 ≤ k ∧ k < w.heap.size := fun a k e => (h.row a).lt k e
  have hD3 := ownsMap_mv hD m3 (fun e => by have := (hlo _ _ e).1; omega)
  have hk := WideMaps.keyOf_string_mk (P := Tryd.prog) Tryd.underlying9 (s := x.s) (by unfold maxLen; omega)
  obtain ⟨w4, hrun, hown4, hg4⟩ := hD3.update (t := 98) (e := 23) law9 Tryd.underlying98 (by unfold maxLen; omega) hk (val := v') (d := .held v') (ps := []) rfl
  have m4 : Mv (fun k => k = bm) w3 w4 := (Mv.refl _ _).grown hg4 (fun k e => .inl (by cases e; rfl))
  have hv' : ∀ k, v'.ownBlock = some k → bm + 1 ≤ k := fun k e => (hown.lt k e).1
  refine ⟨w4, hrun, ⟨⟨_, hown4, fun a kl hkl => ?_⟩, fun a => ?_, fun a ls hm => ?_, fun a b k ha hb => ?_, grp_nodup h.nam x⟩, hg4⟩
  · by_cases e : a = x.s
    · subst e
      rw [hk] at hkl
      cases hkl
      simp only [if_true]
      exact Maps.atKey_put_same hD3.isMap (law9.key hk) _ _
    · rw [if_neg e, Maps.atKey_put_other (fun e2 => e ?_) _ _]
      · exact hDm a kl hkl
      · have := law9.inj (e2 ▸ hkl) hk
        simpa using this
  · simp only [look_grp]
    by_cases e : a = x.s
    · subst e
      simp only [if_true]
      have := own_mv hown m4 (fun g hg e => by have := hv' g hg; omega)
      rw [List.length_append, stsC_snoc]
      exact this
    · simp only [if_neg e]
      exact own_mv (own_mv (h.row a) m3 (fun g hg e2 => e (h.sep a x.s g hg e2))) m4 (fun g hg e => by have := (hlo a g hg).1; omega)
  · rcases (grp_mem h.nam).1 hm with ⟨_, rfl⟩ | ⟨_, hm2⟩
    · simp
    · exact h.ne a ls hm2
  · by_cases ea : a = x.s <;> by_cases eb : b = x.s
    · rw [ea, eb]
    · exfalso
      simp only [if_pos ea] at ha
      simp only [if_neg eb] at hb
      rcases hat with e | e
      · rw [e] at ha; exact eb (h.sep b x.s k hb ha)
      · rw [e] at ha; cases ha
        have := (hlo b _ hb).2; have := m.size; omega
    · exfalso
      simp only [if_neg ea] at ha
      simp only [if_pos eb] at hb
      rcases hat with e | e
      · rw [e] at hb; exact ea (h.sep a x.s k ha hb)
      · rw [e] at hb; cases hb
        have := (hlo a _ ha).2; have := m.size; omega
    · simp only [if_neg ea] at ha
      simp only [if_neg eb] at hb
      exact h.sep a b k ha hb
theorem zeroSl (w : World) : (zeroValue 23).run Tryd.prog w = .ok (.slice none 0 0) w := by kernel_rfl
end Go.Proofs.YtmoafagemdnifaaDoor
