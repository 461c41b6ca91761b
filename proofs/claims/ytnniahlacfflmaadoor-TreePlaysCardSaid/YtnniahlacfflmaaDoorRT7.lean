/- TreePlays: Make of the document's tree: a row with a new file in its place. -/
import Derived.Test.YtnniahlacfflmaaDoorRT6
namespace Go.Proofs.YtnniahlacfflmaaDoor
open Go.RowKit Go.Shelf
attribute [local go_sem] Oper.semAt_some
theorem step_copy_run {P : Program} {w : World} {ops : Array Oper} {o : Oper} {a : Act} {K : Act → World → Prop} {Q : Exit → Act → World → Prop} {E : Prop} (hgd : o.guard = none) (s x : Operand) (t : TypeId)
    (ho : o.op = .call { callee := .builtin .copy, args := #[s, x], argTypes := #[t, t] }) (v xv v' : Value) (w' : World) (hs : a.eval s = v) (hx : a.eval x = xv)
    (hr : (Builtin.copy_ #[t, t] o.type #[v, xv]).run P w = .ok v' w') (h : K (a.put o.dst v') w') : if Region.wanted o (yielded ops a.tmps) = true then Oper.wp P o a w K Q else E := by
  have hw : Region.wanted o (yielded ops a.tmps) = true := by simp [Region.wanted, hgd]
  rw [if_pos hw]
  unfold Oper.wp execOp
  simp only [ho, resolve, invoke, builtin, Sem.run_bind, Sem.run_pure, Result.andThen_ok, List.map_toArray, List.map_cons, List.map_nil, hs, hx, hr]
  exact h
namespace Rf1
theorem slice_at {w : World} {g o c : Nat} {L : List (ByteArray × Bool)} (h : RS w g o c L) {k : Nat} (hk : k ≤ L.length) (W : World) : (Instr.slice 43 (slv g o L.length c) (some (.int .i64 k)) none none).run Tryd.prog W = .ok (slv g (if c = k then o else o + k * 2) (L.length - k) (c - k)) W := by
  obtain ⟨i0, hi, hz0, hz1, hz2⟩ := infoT
  have hle := h.le
  by_cases e : c = k
  · simp [Instr.slice, Instr.sliceBounds, Instr.sliceBound, run_underlying Tryd.underlying43, sizeOf, typeInfo, hi, asIntOf, hz1, e, Addr.add_lit]; intro z; omega
  · simp [Instr.slice, Instr.sliceBounds, Instr.sliceBound, run_underlying Tryd.underlying43, sizeOf, typeInfo, hi, asIntOf, hz1, e, Addr.add_lit]; intro z; omega
theorem copy_run (w : World) (b o dLen dCap : Nat) (a : Addr) (sLen sCap : Nat) (cs : List Value) (ty : TypeId) (hn : cs.length = Nat.min sLen dLen * 2)
    (hsrc : ∀ j v, cs[j]? = some v → w.cell? (a.add j) = some v) (hc : ∀ j, j < cs.length → (w.cell? ⟨b, o + j, none⟩).isSome = true) (hf : ∀ j, j < cs.length → w.frozen? ⟨b, o + j, none⟩ = false) (h1 : ∀ v ∈ cs, v.oneCell' = true) :
    (Builtin.copy_ #[43, 43] ty #[.slice (some ⟨b, o, none⟩) dLen dCap, .slice (some a) sLen sCap]).run Tryd.prog w = .ok (goInt (Nat.min sLen dLen)) (w.setCells b o cs) := by
  obtain ⟨i, hi, _, hz, _⟩ := infoT
  have hl := run_loadCells_list (P := Tryd.prog) w a cs hsrc
  have hst := run_storeCells_cells (P := Tryd.prog) b o cs 0 w (by simpa using hc) (by simpa using hf) h1
  rw [hn] at hl
  simp [Builtin.copy_, run_underlying Tryd.underlying43, Builtin.lenOf, Builtin.firstCells, sizeOf, typeInfo, hi, hz, hl, hst]
theorem copy_none (w : World) (d a : Option Addr) (dCap sLen sCap : Nat) (ty : TypeId) :
    (Builtin.copy_ #[43, 43] ty #[.slice d 0 dCap, .slice a sLen sCap]).run Tryd.prog w = .ok (goInt 0) w := by
  obtain ⟨i, hi, _⟩ := infoT
  have hl : ∀ (x : Addr), (loadCells x 0).run Tryd.prog w = .ok #[] w := fun x => by simpa using run_loadCells_list (P := Tryd.prog) w x [] (by simp)
  cases d <;> cases a <;> simp [Builtin.copy_, run_underlying Tryd.underlying43, Builtin.lenOf, Builtin.firstCells, sizeOf, typeInfo, hi, storeCells, hl]
/-- Shifted by one from i on, then the new one laid. -/
theorem ins {X : World} {g o c : Nat} {L : List (ByteArray × Bool)} {z : ByteArray × Bool} (h : RS X g o c (L ++ [z])) {i : Nat} (hi : i ≤ L.length) (s : ByteArray) (f : Bool) (ty : TypeId) :
    ∃ p1 n1 c1 p2 n2 c2 r Y, (∀ W, (Instr.slice 43 (slv g o (L.length + 1) c) (some (.int .i64 ((i : Int) + 1))) none none).run Tryd.prog W = .ok (.slice p1 n1 c1) W) ∧ (∀ W, (Instr.slice 43 (slv g o (L.length + 1) c) (some (.int .i64 i)) none none).run Tryd.prog W = .ok (.slice p2 n2 c2) W) ∧
      (Builtin.copy_ #[43, 43] ty #[.slice p1 n1 c1, .slice p2 n2 c2]).run Tryd.prog X = .ok r Y ∧ Mv (fun k => k = g) X Y ∧ (∀ k j, k ≠ g → Y.cell? ⟨k, j, none⟩ = X.cell? ⟨k, j, none⟩) ∧ ((Y.cell? ⟨g, o + i * 2, none⟩).isSome = true ∧ (Y.cell? ⟨g, o + i * 2 + 1, none⟩).isSome = true ∧ Y.frozen? ⟨g, o + i * 2, none⟩ = false ∧ Y.frozen? ⟨g, o + i * 2 + 1, none⟩ = false ∧ i < c) ∧
      ∀ U, (Y.setCell ⟨g, o + i * 2, none⟩ (.string s)).setCell ⟨g, o + i * 2 + 1, none⟩ (.bool f) = U → RS U g o c (L.take i ++ (s, f) :: L.drop i) ∧ Mv (fun k => k = g) X U := by
  have hle := h.le
  have hle' : L.length + 1 ≤ c := by simpa using hle
  have s1 := fun W => slice_at h (k := i + 1) (by simp; omega) W
  have s2 := fun W => slice_at h (k := i) (by simp; omega) W
  have el : (L ++ [z]).length = L.length + 1 := by simp
  rw [el] at s1 s2
  obtain ⟨a1, a2⟩ := RA.app.1 h.ra
  have ai := (RA.app.1 (by rw [List.take_append_drop]; exact a1 : RA X g o (L.take i ++ L.drop i)))
  have lt : (L.take i).length = i := by rw [List.length_take]; omega
  rw [lt] at ai
  have fl : (flat (L.drop i)).length = (L.length - i) * 2 := by rw [flat_len, List.length_drop]
  have hcopy : ∃ r Y, (Builtin.copy_ #[43, 43] ty #[slv g (if c = i + 1 then o else o + (i + 1) * 2) (L.length + 1 - (i + 1)) (c - (i + 1)), slv g (if c = i then o else o + i * 2) (L.length + 1 - i) (c - i)]).run Tryd.prog X = .ok r Y ∧ Y = X.setCells g (o + (i + 1) * 2) (flat (L.drop i)) := by
    by_cases e : i = L.length
    · have e0 : L.drop i = [] := List.drop_eq_nil_of_le (by omega)
      rw [show L.length + 1 - (i + 1) = 0 by omega, e0]
      exact ⟨_, X, copy_none X _ _ _ _ _ _, rfl⟩
    · rw [if_neg (by omega), if_neg (by omega)]
      have hmin : Nat.min (L.length + 1 - i) (L.length + 1 - (i + 1)) = L.length - i := by
        show min _ _ = _
        omega
      refine ⟨_, _, copy_run X g (o + (i + 1) * 2) _ _ ⟨g, o + i * 2, none⟩ _ _ (flat (L.drop i)) ty (by rw [fl, hmin]) (fun j v hj => by rw [Addr.add_lit]; exact ai.2 j v hj) (fun j hj => ?_) (fun j hj => ?_) (flat_one _), rfl⟩
      · rw [fl] at hj; have := h.rm.so ((i + 1) * 2 + j) (by omega); rw [← Nat.add_assoc] at this; exact this
      · rw [fl] at hj; have := h.rm.fz ((i + 1) * 2 + j) (by omega); rw [← Nat.add_assoc] at this; exact this
  obtain ⟨r, Y, hrun, hY⟩ := hcopy
  have cv := Cv.cells X g (o + (i + 1) * 2) (flat (L.drop i))
  rw [← hY, fl] at cv
  have mY : Mv (fun k => k = g) X Y := cv.mv.mono fun k _ s => by obtain ⟨j, s, _⟩ := s; exact s
  have hic : i < c := by omega
  have hg : g < X.heap.size := h.rm.lt
  have c0 := h.rm.so (i * 2) (by omega)
  have c1 := h.rm.so (i * 2 + 1) (by omega)
  rw [← Nat.add_assoc] at c1
  have f0 := h.rm.fz (i * 2) (by omega)
  have f1 := h.rm.fz (i * 2 + 1) (by omega)
  rw [← Nat.add_assoc] at f1
  have y0 := cv.pr g (o + i * 2) hg c0
  have y1 := cv.pr g (o + i * 2 + 1) hg c1
  refine ⟨_, _, _, _, _, _, r, Y, fun W => s1 W, s2, hrun, mY, fun k j hk => ?_, ⟨y0, y1, (cv.fr g _ hg).trans f0, (cv.fr g _ hg).trans f1, hic⟩, fun U hU => ?_⟩
  · rw [hY]
    exact World.cell?_setCells_out _ _ _ _ _ (fun e => absurd e hk)
  · have k1 := Cv.one Y g (o + i * 2) (.string s)
    obtain ⟨Z, hZ⟩ : ∃ Z, Y.setCell ⟨g, o + i * 2, none⟩ (.string s) = Z := ⟨_, rfl⟩
    rw [hZ] at k1 hU
    have k2 := Cv.one Z g (o + i * 2 + 1) (.bool f)
    rw [hU] at k2
    obtain ⟨u0, hu0⟩ := Option.isSome_iff_exists.1 y0
    obtain ⟨u1, hu1⟩ := Option.isSome_iff_exists.1 y1
    have z1 : Z.cell? ⟨g, o + i * 2 + 1, none⟩ = some u1 := k1.cell (fun s => by have := s.2; omega) hu1
    have hc : ∀ j, (L.drop i).length * 2 > j → U.cell? ⟨g, o + (i + 1) * 2 + j, none⟩ = Y.cell? ⟨g, o + (i + 1) * 2 + j, none⟩ := fun j _ => (k2.ce g _ (Nat.lt_of_lt_of_le hg (Nat.le_trans mY.size k1.size)) (fun s => by have := s.2; omega)).trans (k1.ce g _ (Nat.lt_of_lt_of_le hg mY.size) (fun s => by have := s.2; omega))
    have mU : Mv (fun k => k = g) Y U := (k1.mv.mono fun k _ s => by obtain ⟨j, s, _⟩ := s; exact s).trans' (k2.mv.mono fun k _ s => by obtain ⟨j, s, _⟩ := s; exact s)
    refine ⟨⟨by simp; omega, ((h.rm.cv cv).cv k1).cv k2, ?_⟩, mY.trans' mU⟩
    refine RA.app.2 ⟨((ai.1.cv cv (fun j _ hj s => by rw [lt] at hj; have := s.2.1; omega)).cv k1 (fun j _ hj s => by rw [lt] at hj; have := s.2; omega)).cv k2 (fun j _ hj s => by rw [lt] at hj; have := s.2; omega), ?_⟩
    rw [lt]
    refine RA.app (xs := [(s, f)]).2 ⟨fun j u hj => ?_, fun j u hj => ?_⟩
    · match j, hj with
      | 0, hj => simp [flat] at hj; subst hj; exact k2.cell (fun s => by have := s.2; omega) (by rw [← hZ]; exact World.cell?_setCell_same _ _ _ hu0)
      | 1, hj => simp [flat] at hj; subst hj; rw [← hU]; exact World.cell?_setCell_same _ _ _ z1
      | j + 2, hj => simp [flat] at hj
    · have hjl := (List.getElem?_eq_some_iff.1 hj).1
      rw [flat_len] at hjl
      have e := hc j hjl
      simp only [List.length_cons, List.length_nil] at *
      rw [show o + i * 2 + (0 + 1) * 2 + j = o + (i + 1) * 2 + j by omega, e, hY]
      obtain ⟨hlt, hge⟩ := List.getElem?_eq_some_iff.1 hj
      rw [World.cell?_setCells_in g _ _ X (fun q hq => by rw [fl] at hq; have := h.rm.so ((i + 1) * 2 + q) (by omega); rw [← Nat.add_assoc] at this; exact this) j hlt, hge]
end Rf1
end Go.Proofs.YtnniahlacfflmaaDoor
