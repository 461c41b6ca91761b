/- The reference's Members, forget, Emptied. -/
import Derived.Test.YtfmceioiglmepaaRG2
namespace Go.Proofs.Ytfmceioiglmepaa
open Go.RowKit Go.Shelf Go.Lib
theorem infoI : ∃ i, Try.prog.info? 3 = some i ∧ i.zero = some (.int .i64 0) ∧ i.size = 1 ∧ i.bytes = 8 := by
  have h : (Try.prog.info? 3).map (fun i => (i.zero, i.size, i.bytes)) = some (some (.int .i64 0), 1, 8) := by kernel_rfl
  cases e : Try.prog.info? 3 with
  | none => rw [e] at h; cases h
  | some i => rw [e] at h; simp at h; exact ⟨i, rfl, h⟩
/-- append of a row of numbers to one that is owned. -/
theorem app_ints {W : World} {B : Nat} {v u : Value} {xs ys : List Int} (h : W.ownsRow B 3 1 v xs.length (xs.map encZ)) (hu : IR W u ys) (hx : xs.length ≤ 100000) (hy : ys.length ≤ 100000) (hB : B ≤ W.heap.size) :
    ∃ v' W', (Builtin.append_ #[43, 43] 43 #[v, u]).run Try.prog W = .ok v' W' ∧ W'.ownsRow B 3 1 v' (xs ++ ys).length ((xs ++ ys).map encZ) ∧ W.grownBy W' v.ownBlock ∧ (v'.ownBlock = v.ownBlock ∨ v'.ownBlock = some W.heap.size) := by
  obtain ⟨i0, hi, hz0, hz1, hz2⟩ := infoI
  obtain ⟨p, c, rfl, hu⟩ := hu
  have none_case : ys = [] → ∃ v' W', (Builtin.append_ #[43, 43] 43 #[v, .slice p ys.length c]).run Try.prog W = .ok v' W' ∧ W'.ownsRow B 3 1 v' (xs ++ ys).length ((xs ++ ys).map encZ) ∧ W.grownBy W' v.ownBlock ∧ (v'.ownBlock = v.ownBlock ∨ v'.ownBlock = some W.heap.size) := by
    intro e
    subst e
    refine ⟨v, W, ?_, by simpa using h, ⟨rfl, rfl, rfl, Nat.le_refl _, fun _ _ _ => rfl⟩, .inl rfl⟩
    rcases h.2 with ⟨rfl, e0⟩ | ⟨g, cap, cur, rfl, _, _, hle, _⟩
    · cases p <;> simp [Builtin.append_, run_underlying Try.underlying43, sizeOf, typeInfo, hi, Builtin.lenOf, Builtin.firstCells, loadCells, loadCellsFrom]
    · cases p <;> simp [Builtin.append_, run_underlying Try.underlying43, sizeOf, typeInfo, hi, Builtin.lenOf, Builtin.firstCells, loadCells, loadCellsFrom, storeCells, hle]
  rcases hu with e | ⟨g, o, rfl, hc⟩
  · exact none_case e
  · obtain ⟨v', W', hrun, hown, hgr, _, hat⟩ := run_append_own_at (P := Try.prog) W B 43 43 3 i0 (.int .i64 0) 1 8 Try.underlying43 hi hz0 hz1 hz2 rfl (by decide) v _ _ h ⟨g, o, none⟩ ys.length c (ys.map encZ) (by simp) (fun j u hj => by
      rw [List.getElem?_map] at hj
      cases hx : ys[j]? with
      | none => rw [hx] at hj; cases hj
      | some x =>
        rw [hx] at hj; cases hj
        rw [Addr.add_lit]
        exact hc j x hx) (fun u hu => by obtain ⟨x, _, rfl⟩ := List.mem_map.1 hu; rfl) (by unfold maxLen; omega) (by omega) hB
    exact ⟨v', W', hrun, by simpa using hown, hgr, hat⟩
theorem thereR_some {l : List RG} {s : ByteArray} (h : thereR l s = true) : ∃ x, l[atP l s]? = some x ∧ x.nm = s := by
  unfold thereR at h
  cases e : l[atP l s]? with
  | none => rw [e] at h; cases h
  | some x => rw [e] at h; exact ⟨x, rfl, by simpa using h⟩
/-- The members of that name, or none. -/
def mOfR (l : List RG) (s : ByteArray) : List Int := if thereR l s then ((l[atP l s]?).map RG.ps).getD [] else []
set_option maxRecDepth 100000 in
set_option maxHeartbeats 400000 in
theorem rmembers_any (R : Rt) (s : ByteArray) (w : World) (h : Rs w R) (hl : R.l.length ≤ 1000) (hp : ∀ x ∈ R.l, x.ps.length ≤ 1000) :
    Calls Try.prog 22 #[.pointer (some ⟨R.b, 0, none⟩), .string s] w fun e w' => ∃ v, e = .returned v ∧ IR w' v (mOfR R.l s) ∧ Below w.heap.size w w' := by
  have hat := hidP (rat_any R s w h hl)
  have hH := hidP h
  cases ht : thereR R.l s with
  | false =>
    rw [ht] at hat
    have hm : Hid (mOfR R.l s = []) := by show _ = _; unfold mOfR; rw [ht]; rfl
    clear h ht
    go_enter Try.func22, Try.ntmps22
    go_wp2_with fail
    refine hat.out.mono ?_
    rintro e w1 ⟨rfl, hb⟩
    clear hat
    go_wp2_with fail
    go_ret
    exact ⟨_, rfl, by rw [hm.out]; exact ⟨none, 0, rfl, .inl rfl⟩, hb⟩
  | true =>
    rw [ht] at hat
    obtain ⟨x, hx, hn⟩ := thereR_some ht
    have hm : Hid (mOfR R.l s = x.ps) := by show _ = _; unfold mOfR; rw [ht, hx]; rfl
    have hxl : x.ps.length ≤ 1000 := hp x (List.mem_of_getElem? hx)
    have hil : atP R.l s < R.l.length := (List.getElem?_eq_some_iff.1 hx).1
    obtain ⟨i, hi⟩ : ∃ i, atP R.l s = i := ⟨_, rfl⟩
    rw [hi] at hat hx hil
    obtain ⟨n, hnn⟩ : ∃ n, R.l.length = n := ⟨_, rfl⟩
    have hiI : (i : Int) < (n : Int) := by omega
    have hxH := hidP hx
    have hnnH := hidP hnn
    clear h ht hn hi hx hnn
    go_enter Try.func22, Try.ntmps22
    go_wp2_with fail
    refine hat.out.mono ?_
    rintro e w1 ⟨rfl, hb⟩
    have h1 := hH.out.below hb
    obtain ⟨g, cap, e1, e2, e3⟩ := h1.at hxH.out
    have c0 := h1.c0
    rw [e1, hnnH.out] at c0
    have hIR := (h1.ps x (List.mem_of_getElem? hxH.out)).1
    obtain ⟨v', W', hrun, hown, hgr, hat2⟩ := app_ints (B := w1.heap.size) (v := .slice none 0 0) (xs := []) (World.ownsRow_nil _ _ _ _) hIR (by simp) (by omega) (Nat.le_refl _)
    have fin : Hid (IR W' v' (mOfR R.l s) ∧ Below w.heap.size w W') := by
      refine ⟨by rw [hm.out]; exact IR.own (by simpa using hown), hb.trans ((Mv.below (E := fun _ => False) ⟨hgr.os, hgr.tape, hgr.output, hgr.size, fun x hx => hgr.block x hx (by simp [Value.ownBlock])⟩).toBelow hb.size (fun _ _ h => h))⟩
    obtain ⟨p', n', c', rfl⟩ : ∃ p n c, v' = .slice p n c := by
      rcases hown.2 with ⟨e, _⟩ | ⟨g, cp, cur, e, _⟩
      · exact ⟨_, _, _, e⟩
      · exact ⟨_, _, _, e⟩
    clear hat hown hgr hat2 hIR hb h1 e1 e2 hxH hnnH hm
    go_wp2_with (at_builtin; refine wpList_append_run rfl _ _ 43 rfl _ _ _ _ rfl rfl hrun ?_)
    go_ret
    exact ⟨_, rfl, fin.out⟩
end Go.Proofs.Ytfmceioiglmepaa
