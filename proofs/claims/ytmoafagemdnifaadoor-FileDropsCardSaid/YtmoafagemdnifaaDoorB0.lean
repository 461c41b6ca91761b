/- The methods of strings.Builder, by territories: what each turns is the builder's block, its bytes' block, and what is new. -/
import Derived.Test.YtmoafagemdnifaaDoorU
import Derived.Test.YtmoafagemdnifaaDoorIt
import Derived.Maps.AppendAt
import Derived.Lib.AppendStr
namespace Go.Proofs.YtmoafagemdnifaaDoor
open Go.RowKit Lin
/-- A builder lies in block b, its row of bytes is v. -/
structure Bld (b : Nat) (v : Value) (x : L) (w : World) : Prop where
  at0 : ∃ p, (p = .pointer none ∨ p = .pointer (some ⟨b, 0, none⟩)) ∧ w.heap[b]? = some (.cells #[p, v] 77 (0, 0))
  own : w.ownsRow 0 5 1 v x.length (Lib.byteCells x)
  ne : v.ownBlock ≠ some b
  nil : x = [] → v = .slice none 0 0
/-- The builder's territory. -/
def Ow (b : Nat) (v : Value) (k : Nat) : Prop := k = b ∨ v.ownBlock = some k
theorem Bld.lt {b : Nat} {v : Value} {x : L} {w : World} (h : Bld b v x w) : b < w.heap.size := by
  obtain ⟨p, _, hp⟩ := h.at0
  exact (Array.getElem?_eq_some_iff.1 hp).1
theorem Bld.lo {b : Nat} {v : Value} {x : L} {w : World} (h : Bld b v x w) (k : Nat) (hk : Ow b v k) : k < w.heap.size := by
  rcases hk with rfl | hk
  · exact h.lt
  · exact (h.own.lt k hk).2
theorem Bld.mv {b : Nat} {v : Value} {x : L} {E : Nat → Prop} {w w' : World} (h : Bld b v x w) (m : Mv E w w') (hE : ∀ k, Ow b v k → ¬ E k) : Bld b v x w' := by
  refine ⟨?_, ?_, h.ne, h.nil⟩
  · obtain ⟨p, hp, hh⟩ := h.at0
    exact ⟨p, hp, (m.block b h.lt (hE b (.inl rfl))).trans hh⟩
  · refine ⟨h.own.1, ?_⟩
    rcases h.own.2 with h2 | ⟨g, cap, cur, h1, h2, h3, h4⟩
    · exact .inl h2
    · exact .inr ⟨g, cap, cur, h1, h2, (m.block g (Array.getElem?_eq_some_iff.1 h3).1 (hE g (.inr (by rw [h1]; rfl)))).trans h3, h4⟩
theorem Bld.isB {b : Nat} {v : Value} {x : L} {w : World} (h : Bld b v x w) : Lib.IsBuilder 77 5 0 b (Lib.byteCells x) w := by
  obtain ⟨p, hp, hh⟩ := h.at0
  have ho := h.own
  rw [← Lib.byteCells_length x] at ho
  rcases hp with rfl | rfl
  · exact .inl ⟨Nat.zero_le _, v, hh, ho, h.ne⟩
  · exact .inr ⟨Nat.zero_le _, v, hh, ho, h.ne⟩
theorem Bld.new (w : World) : Bld w.heap.size (.slice none 0 0) [] (w.alloc (.cells #[.pointer none, .slice none 0 0] 77)) :=
  ⟨⟨_, .inl rfl, heap_alloc_new w _⟩, World.ownsRow_nil _ _ _ _, by simp [Value.ownBlock], fun _ => rfl⟩
set_option maxHeartbeats 1000000 in
theorem copyCheck_mv (b : Nat) (v : Value) (x : L) (w : World) (h : Bld b v x w) :
    Calls Tryd.prog 43 #[.pointer (some ⟨b, 0, none⟩)] w fun e w' => e = .returned (.tuple #[]) ∧ w'.heap[b]? = some (.cells #[.pointer (some ⟨b, 0, none⟩), v] 77 (0, 0)) ∧ Mv (fun k => k = b) w w' := by
  obtain ⟨p, hp, hh⟩ := h.at0
  rcases hp with rfl | rfl
  · refine (Any.Builder_copyCheck_fresh { Tryd.laysW167 with } Tryd.Builder_ExtraW.toX72 b w (by rw [Lib.cell_of_heap hh]; rfl) (by simp [World.shape?, hh]; rfl) (Lib.frozen_of_heap hh 0)).mono ?_
    rintro e w' ⟨rfl, rfl⟩
    refine ⟨rfl, by simp [World.setCell, Array.getElem?_modify, hh], ⟨rfl, rfl, rfl, by simp, fun k _ he => heap_setCell_other _ _ _ _ (fun e => he e)⟩⟩
  · refine (Any.Builder_copyCheck_used { Tryd.laysW167 with } Tryd.Builder_ExtraW.toX72 b w (by rw [Lib.cell_of_heap hh]; rfl)).mono ?_
    rintro e w' ⟨rfl, rfl⟩
    exact ⟨rfl, hh, Mv.refl _ _⟩
theorem bld_put {b : Nat} {v v' : Value} {x : L} {w : World} (hb : w.heap[b]? = some (.cells #[.pointer (some ⟨b, 0, none⟩), v] 77 (0, 0))) (hown : w.ownsRow 0 5 1 v' x.length (Lib.byteCells x)) (hnil : x = [] → v' = .slice none 0 0) : Bld b v' x (w.setCell ⟨b, 1, none⟩ v') := by
  have hne : v'.ownBlock ≠ some b := Lib.ownBlock_ne hown hb (by decide)
  exact ⟨⟨_, .inr rfl, by simp [World.setCell, Array.getElem?_modify, hb]⟩, own_mv hown (E := fun k => k = b) ⟨rfl, rfl, rfl, by simp, fun k _ he => heap_setCell_other _ _ _ _ (fun e => he e)⟩ (fun g hg e => hne (by rw [hg, e])), hne, hnil⟩
/-- What a write leaves. -/
def Wrote (b : Nat) (v : Value) (x : L) (w w' : World) : Prop := ∃ v', Bld b v' x w' ∧ Mv (Ow b v) w w' ∧ ∀ k, v'.ownBlock = some k → v.ownBlock = some k ∨ w.heap.size ≤ k
theorem info8 : (Tryd.prog.info? 5).map (fun i => (i.zero, i.size, i.bytes)) = some (some (.int .u8 0), 1, 1) := by kernel_rfl
set_option maxRecDepth 100000 in
set_option maxHeartbeats 2000000 in
theorem writeByte_mv (b : Nat) (v : Value) (x : L) (c : UInt8) (w : World) (h : Bld b v x w) (hl : x.length ≤ 4000000) :
    Calls Tryd.prog 50 #[.pointer (some ⟨b, 0, none⟩), .int .u8 c.toNat] w fun e w' => e = .returned .nilIface ∧ Wrote b v (x ++ [c]) w w' := by
  obtain ⟨i0, hi, hz0, hz1, hz2⟩ := info_parts info8
  have hcc := copyCheck_mv b v x w h
  have hne := h.ne
  go_enter Tryd.func50, Tryd.ntmps50
  go_wp2_with fail
  refine hcc.mono ?_
  rintro e w1 ⟨rfl, hbk, m1⟩
  have c0 : w1.cell? ⟨b, 0, none⟩ = some (.pointer (some ⟨b, 0, none⟩)) := by rw [Lib.cell_of_heap hbk]; rfl
  have c1 : w1.cell? ⟨b, 1, none⟩ = some v := by rw [Lib.cell_of_heap hbk]; rfl
  have hown := own_mv h.own m1 (fun g hg e => hne (by rw [hg, e]))
  have hr1 := hown.alloc (.cells #[.int .u8 c.toNat] 5)
  have hlt := lt_of_heap hbk
  go_wp2_with (at_builtin; refine wpList_append_own_at _ rfl _ _ 53 rfl 0 5 i0 (.int .u8 0) 1 1 Tryd.underlying53 hi hz0 hz1 hz2 rfl (by decide) _ _ _ rfl hr1 ⟨_, 0, none⟩ 1 1 [.int .u8 c.toNat] rfl rfl (fun j u hj => by match j, hj with | 0, hj => simp at hj; subst hj; simp [Addr.add]) (fun x hx => by simp at hx; rcases hx with rfl <;> rfl) (by unfold maxLen; omega) (by omega) (by omega) ?_)
  intro v' w2 hown' hgrow _ hat
  have hb2 : w2.heap[b]? = some (.cells #[.pointer (some ⟨b, 0, none⟩), v] 77 (0, 0)) := by
    rw [hgrow.block b (by simp; omega) (fun e => hne e.symm), Lib.alloc_old w1 _ b hlt]
    exact hbk
  have d0 : w2.cell? ⟨b, 0, none⟩ = some (.pointer (some ⟨b, 0, none⟩)) := by rw [Lib.cell_of_heap hb2]; rfl
  have d1 : w2.cell? ⟨b, 1, none⟩ = some v := by rw [Lib.cell_of_heap hb2]; rfl
  have f1 : w2.frozen? ⟨b, 1, none⟩ = false := Lib.frozen_of_heap hb2 1
  have m2 : Mv (Ow b v) w w2 := ((m1.mono (fun k _ e => .inl e)).trans' (Mv.alloc _ _ _)).grown hgrow (fun k e => .inl (.inr e))
  have hnew : ∀ k, v'.ownBlock = some k → v.ownBlock = some k ∨ w.heap.size ≤ k := fun k e => by
    rcases hat with ha | ha
    · exact .inl (ha ▸ e)
    · rw [ha] at e
      have := m1.size
      simp at e; omega
  obtain ⟨g, cap, rfl⟩ : ∃ g cap, v' = .slice (some ⟨g, 0, none⟩) (x.length + 1) cap := by
    rcases hown'.2 with ⟨_, h0⟩ | ⟨g, cap, cur, hv, _⟩
    · omega
    · exact ⟨g, cap, hv⟩
  go_wp2_with fail
  go_ret
  refine ⟨rfl, _, ?_, m2.setc (p := ⟨b, 1, none⟩) (.inl (.inl rfl)) _, hnew⟩
  exact bld_put hb2 (by rw [byteCells_snoc, List.length_append]; exact hown') (by simp)
theorem string_at {t u ty e : TypeId} {i : TypeInfo} (ht : Tryd.prog.underlying t = some (.slice e)) (hu : Tryd.prog.underlying u = some .string) (hi : Tryd.prog.info? e = some i) (hz : i.zero = some (.int .u8 0)) (hsize : i.size = 1) (hby : i.bytes = 1)
    {w w' : World} {v v' : Value} {n : Nat} {xs : List Value} (hown : w.ownsRow 0 e 1 v n xs) (s : ByteArray) (h63 : n + s.size ≤ 8000000) (hr : (Builtin.append_ #[t, u] ty #[v, .string s]).run Tryd.prog w = .ok v' w') : v'.ownBlock = v.ownBlock ∨ v'.ownBlock = some w.heap.size := by
  have hxl : xs.length = n := by simpa using hown.1
  rcases hown.2 with ⟨rfl, rfl⟩ | ⟨g, cap, cur, rfl, hbg, hg, hnc, hcm, hcs, htake⟩
  · by_cases hm : s.size = 0
    · left
      have hf := Lib.run_firstCells_string (P := Tryd.prog) w 1 s
      rw [hm] at hf
      simp [Builtin.append_, run_underlying ht, run_underlying hu, sizeOf, typeInfo, hi, hsize, Builtin.lenOf, hm, hf] at hr
      rw [← hr.1]
    · right
      have := run_append_nil_string (P := Tryd.prog) w t u ty e i (.int .u8 0) ht hu hi hz s (by omega) (by omega) (by rw [hby]; omega)
      rw [this] at hr
      cases hr
      rfl
  · by_cases hroom : n + s.size ≤ cap
    · left
      have := Lib.run_append_room_string (P := Tryd.prog) w t u ty e i ht hu hi hsize g n cap cur hg s hroom (by omega)
      rw [this] at hr
      cases hr
      rfl
    · right
      have := Lib.run_append_grow_string (P := Tryd.prog) w t u ty e i (.int .u8 0) ht hu hi hz ⟨g, 0, none⟩ n cap xs (by rw [hsize]; simpa using hxl) (hown.cells (g := g) rfl) s (by omega) (by omega) (by rw [hby]; exact growslice_fits (by omega) (by omega))
      rw [this] at hr
      cases hr
      rfl
theorem wpList_run {ops : Array Oper} {rest : List Oper} {o : Oper} {a : Act} {Q : Exit → Act → World → Prop} {w : World} (hgd : o.guard = none) (s x : Operand) (t u : TypeId) (ho : o.op = .call { callee := .builtin .append, args := #[s, x], argTypes := #[t, u] })
    (v y v' : Value) (w' : World) (hs : a.eval s = v) (hx : a.eval x = y) (hr : (Builtin.append_ #[t, u] o.type #[v, y]).run Tryd.prog w = .ok v' w') (h : wpList Tryd.prog ops Q rest (a.put o.dst v') w') : wpList Tryd.prog ops Q (o :: rest) a w := by
  refine wpList_plain hgd fun K hK => ?_
  unfold Oper.wp execOp
  simp only [ho, resolve, invoke, builtin, Sem.run_bind, Sem.run_pure, Result.andThen_ok, List.map_toArray, List.map_cons, List.map_nil, hs, hx, hr]
  exact hK _ _ h
set_option maxRecDepth 100000 in
set_option maxHeartbeats 2000000 in
theorem writeString_mv (b : Nat) (v : Value) (x : L) (s : ByteArray) (w : World) (h : Bld b v x w) (hl : x.length ≤ 4000000) (hs : s.size ≤ 4000000) :
    Calls Tryd.prog 30 #[.pointer (some ⟨b, 0, none⟩), .string s] w fun e w' => (∃ r, e = .returned r) ∧ Wrote b v (x ++ s.data.toList) w w' := by
  obtain ⟨i0, hi, hz0, hz1, hz2⟩ := info_parts info8
  have hcc := copyCheck_mv b v x w h
  have hne := h.ne
  go_enter Tryd.func30, Tryd.ntmps30
  go_wp2_with fail
  refine hcc.mono ?_
  rintro e w1 ⟨rfl, hbk, m1⟩
  have c0 : w1.cell? ⟨b, 0, none⟩ = some (.pointer (some ⟨b, 0, none⟩)) := by rw [Lib.cell_of_heap hbk]; rfl
  have c1 : w1.cell? ⟨b, 1, none⟩ = some v := by rw [Lib.cell_of_heap hbk]; rfl
  have hown := own_mv h.own m1 (fun g hg e => hne (by rw [hg, e]))
  have hlt := lt_of_heap hbk
  have hat := fun ty v' w' => string_at (ty := ty) Tryd.underlying53 Tryd.underlying9 hi hz0 hz1 hz2 (w := w1) (w' := w') (v' := v') hown s (by omega)
  obtain ⟨v', w2, hrun, hown', hgrow, hnl⟩ := Lib.run_append_own_string (P := Tryd.prog) w1 0 53 9 53 5 i0 Tryd.underlying53 Tryd.underlying9 hi hz0 hz1 hz2 v x.length (Lib.byteCells x) hown s (by unfold maxLen; omega) (by omega) (by omega)
  have hat' := hat _ _ _ hrun
  clear hat
  have hb2 : w2.heap[b]? = some (.cells #[.pointer (some ⟨b, 0, none⟩), v] 77 (0, 0)) := by
    rw [hgrow.block b hlt (fun e => hne e.symm)]
    exact hbk
  have d0 : w2.cell? ⟨b, 0, none⟩ = some (.pointer (some ⟨b, 0, none⟩)) := by rw [Lib.cell_of_heap hb2]; rfl
  have d1 : w2.cell? ⟨b, 1, none⟩ = some v := by rw [Lib.cell_of_heap hb2]; rfl
  have f1 : w2.frozen? ⟨b, 1, none⟩ = false := Lib.frozen_of_heap hb2 1
  have m2 : Mv (Ow b v) w w2 := (m1.mono (fun k _ e => .inl e)).grown hgrow (fun k e => .inl (.inr e))
  have hnew : ∀ k, v'.ownBlock = some k → v.ownBlock = some k ∨ w.heap.size ≤ k := fun k e => by
    rcases hat' with ha | ha
    · exact .inl (ha ▸ e)
    · rw [ha] at e
      have h1 : w1.heap.size = k := Option.some.inj e
      have := m1.size
      omega
  have hput : Bld b v' (x ++ s.data.toList) (w2.setCell ⟨b, 1, none⟩ v') := bld_put hb2 (by
    have e1 : Lib.byteCells (x ++ s.data.toList) = Lib.byteCells x ++ Lib.strCells s := by simp [Lib.byteCells, Lib.strCells]
    rw [e1, List.length_append, size_list]; exact hown') (fun e => by
      obtain ⟨e1, e2⟩ := List.append_eq_nil_iff.1 e
      exact hnl.2 ⟨h.nil e1, by rw [← size_list, e2]; rfl⟩)
  obtain ⟨ao, n', cap, rfl⟩ : ∃ ao n' cap, v' = .slice ao n' cap := by
    rcases hown'.2 with ⟨hv, _⟩ | ⟨g, cap, cur, hv, _⟩
    · exact ⟨_, _, _, hv⟩
    · exact ⟨_, _, _, hv⟩
  go_wp2_with (at_builtin; refine wpList_run rfl _ _ 53 9 rfl _ _ _ w2 rfl rfl hrun ?_)
  go_ret2
  exact ⟨⟨_, rfl⟩, _, hput, m2.setc (p := ⟨b, 1, none⟩) (.inl (.inl rfl)) _, hnew⟩
end Go.Proofs.YtmoafagemdnifaaDoor
