/- The reference's forget, Emptied. -/
import Derived.Test.YtfmceioiglmepaaRG3
namespace Go.Proofs.Ytfmceioiglmepaa
open Go.RowKit Go.Shelf Go.Lib
structure RGoes (R : Rt) (W : World) (R' : Rt) (W' : World) : Prop where
  r : Rs W' R'
  b : R'.b = R.b
  mv : Mv (hasR R) W W'
  gr : ∀ k, hasR R' k → hasR R k ∨ W.heap.size ≤ k
  al : ∀ x ∈ R'.l, ∀ k, nb x.v = some k → (∃ y ∈ R.l, nb y.v = some k) ∨ W.heap.size ≤ k
theorem RGoes.trans {R S T : Rt} {w v u : World} (h : RGoes R w S v) (k : RGoes S v T u) : RGoes R w T u :=
  ⟨k.r, k.b.trans h.b, h.mv.trans h.gr k.mv, fun x hx => by
    rcases k.gr x hx with q | q
    · exact h.gr x q
    · exact .inr (Nat.le_trans h.mv.size q), fun x hx j hj => by
    rcases k.al x hx j hj with ⟨y, hy, q⟩ | q
    · exact h.al y hy j q
    · exact .inr (Nat.le_trans h.mv.size q)⟩
theorem RGoes.below {R : Rt} {w w' : World} (h : Rs w R) (b : Below w.heap.size w w') : RGoes R w R w' := ⟨h.below b, rfl, Mv.below b, fun _ h => .inl h, fun x hx _ hk => .inl ⟨x, hx, hk⟩⟩
/-- The notes turn. -/
theorem Rs.turnN {w w' : World} {R : Rt} (h : Rs w R) {nv : Value} {ns : List ByteArray} (mv : Mv (fun _ => False) w w') (hv : NS w' nv ns) (hb : ∀ k, nb nv = some k → nb R.nv = some k ∨ w.heap.size ≤ k) :
    RGoes R w { R with nv := nv, ns := ns } (w'.setCell ⟨R.b, 1, none⟩ nv) := by
  have h' := h.mv mv (fun _ _ h => h) (fun _ _ _ _ h => h)
  have m2 : Mv (fun k => k = R.b) w' (w'.setCell ⟨R.b, 1, none⟩ nv) := (Mv.refl (fun k => k = R.b) _).setc (p := ⟨R.b, 1, none⟩) (.inl rfl) _
  have hbl : R.b < w.heap.size := h.lt (.inl rfl)
  have hnb : ∀ k, nb nv = some k → k ≠ R.b ∧ R.lv.ownBlock ≠ some k := fun k hk => by
    rcases hb k hk with q | q
    · exact h.n2 k q
    · refine ⟨by omega, fun e => ?_⟩
      have := h.lt (.inr (.inl e))
      omega
  refine ⟨⟨?_, World.cell?_setCell_same' _ _ _ (by rw [h'.c1]; rfl), by rw [World.frozen?_setCell]; exact h'.f0, by rw [World.frozen?_setCell]; exact h'.f1, own_mv h'.row m2 (fun g hg e => h.n1 g hg e), fun x hx => ⟨(h'.ps x hx).1.mv m2 (fun k hk e => ((h'.ps x hx).2 k hk).2 (.inl e)), fun k hk => ⟨Nat.lt_of_lt_of_le ((h'.ps x hx).2 k hk).1 m2.size, fun q => ?_⟩⟩, hv.mv m2 (fun k hk e => (hnb k hk).1 e), h.n1, hnb⟩, rfl, (mv.mono (fun k _ e => absurd e id)).trans' (m2.mono (fun k _ e => .inl e)), fun k hk => ?_, fun x hx _ hk => .inl ⟨x, hx, hk⟩⟩
  · exact (World.cell?_setCell_other _ _ _ _ (by simp)).trans h'.c0
  · have hx2 := (h.ps x hx).2 k hk
    rcases q with q | q | q
    · exact hx2.2 (.inl q)
    · exact hx2.2 (.inr (.inl q))
    · rcases hb k q with r | r
      · exact hx2.2 (.inr (.inr r))
      · omega
  · rcases hk with q | q | q
    · exact .inl (.inl q)
    · exact .inl (.inr (.inl q))
    · rcases hb k q with r | r
      · exact .inl (.inr (.inr r))
      · exact .inr r
/-- One text more behind a row that is owned. -/
theorem app_text {W : World} {B : Nat} {v : Value} {xs : List ByteArray} {s : ByteArray} (h : W.ownsRow B 9 1 v xs.length (xs.map Value.string)) (hx : xs.length ≤ 100000) (hB : B ≤ W.heap.size) :
    ∃ v' W', (Builtin.append_ #[28, 28] 28 #[v, .slice (some ⟨W.heap.size, 0, none⟩) 1 1]).run Try.prog (W.alloc (.cells #[.string s] 9)) = .ok v' W' ∧ W'.ownsRow B 9 1 v' (xs ++ [s]).length ((xs ++ [s]).map Value.string) ∧ Below B W W' ∧ ∃ p n c, v' = .slice p n c := by
  obtain ⟨i0, hi, hz0, hz1, hz2⟩ := infoS
  obtain ⟨v', W', hrun, hown, hgr, _, hat⟩ := run_append_own_at (P := Try.prog) (W.alloc (.cells #[.string s] 9)) B 28 28 9 i0 (.string ⟨#[]⟩) 1 16 Try.underlying28 hi hz0 hz1 hz2 rfl (by decide) v _ _ (h.alloc _) ⟨W.heap.size, 0, none⟩ 1 1 [.string s] rfl (row_news1 _ _ _) (by simp [Value.oneCell']) (by unfold maxLen; omega) (by omega) (by simp; omega)
  have m : Mv (fun k => v.ownBlock = some k) W W' := (Mv.alloc _ _ _).trans' ((Mv.refl _ _).grown hgr (fun k e => .inl (by rw [e])))
  refine ⟨v', W', hrun, by simpa using hown, m.toBelow hB (fun k hk e => ?_), ?_⟩
  · have := (h.lt k e).1
    omega
  · rcases hown.2 with ⟨e, _⟩ | ⟨g, cp, cur, e, _⟩
    · exact ⟨_, _, _, e⟩
    · exact ⟨_, _, _, e⟩
theorem remN_take {ns : List ByteArray} {s x : ByteArray} {j : Nat} (hx : ns[j]? = some x) : remN (ns.take (j + 1)) s = remN (ns.take j) s ++ (if x = s then [] else [x]) := by
  unfold remN
  rw [List.take_add_one, hx, List.filter_append]
  by_cases e : x = s
  · simp [e]
  · simp [e]
set_option maxRecDepth 100000 in
set_option maxHeartbeats 400000 in
theorem rforget_any (R : Rt) (s : ByteArray) (w : World) (h : Rs w R) (hl : R.ns.length ≤ 1000) :
    Calls Try.prog 29 #[.pointer (some ⟨R.b, 0, none⟩), .string s] w fun e w' => e = .returned (.tuple #[]) ∧ ∃ nv, RGoes R w { R with nv := nv, ns := remN R.ns s } w' := by
  have hH := hidP h
  obtain ⟨B, hB⟩ : ∃ B, w.heap.size = B := ⟨_, rfl⟩
  obtain ⟨p, m, c, hnv⟩ := h.nts.shape
  have hm : m = R.ns.length := by have := h.nts.len; rw [hnv] at this; exact this
  have hnvH := hidP hnv
  have hmH := hidP hm
  have hml : m ≤ 1000 := by omega
  have c1 := h.c1
  rw [hnv] at c1
  have hBH := hidP hB
  have c1H := hidP c1
  clear h hnv hm c1 hB
  go_enter Try.func29, Try.ntmps29
  go_wp2_with fail
  go_loopw [4, 5] (fun lv i wr => ∃ j : Nat, j ≤ m ∧ i = .int .i64 j ∧ Hid (wr.ownsRow B 9 1 lv (remN (R.ns.take j) s).length ((remN (R.ns.take j) s).map Value.string) ∧ Below B w wr)) (fun _ i _ => m - (intOf i).toNat)
  case atStart => exact ⟨0, by omega, rfl, World.ownsRow_nil _ _ _ _, Below.refl _ _⟩
  case round =>
    obtain ⟨j, hj, rfl, hI⟩ := hrel
    have hb : Hid (Below w.heap.size w wr) := by have := hI.out.2; rw [← hBH.out] at this; exact this
    have c1 := (Mv.below (E := fun _ => False) hb.out).cell (fun h => h) c1H.out
    by_cases hlt : j < m
    · have hltI : (j : Int) < (m : Int) := by omega
      obtain ⟨x, hx⟩ : ∃ x, R.ns[j]? = some x := ⟨_, List.getElem?_eq_getElem (by have := hmH.out; omega)⟩
      obtain ⟨g, o, cap, e1, _, _, _, hc, _⟩ := hH.out.nts.some (by intro e; rw [e] at hx; simp at hx)
      rw [hnvH.out] at e1
      injection e1 with e1 _ _
      subst e1
      have cx := (Mv.below (E := fun _ => False) hb.out).cell (fun h => h) (hc j x hx)
      have hst := remN_take (s := s) hx
      clear hx hc
      by_cases he : x = s
      · subst he
        rw [if_pos rfl, List.append_nil] at hst
        have fin : Hid (wr.ownsRow B 9 1 u4 (remN (R.ns.take (j + 1)) x).length ((remN (R.ns.take (j + 1)) x).map Value.string) ∧ Below B w wr) := by
          show _ ∧ _
          rw [hst]; exact hI.out
        clear hst hI
        go_wp2_with fail
        exact ⟨⟨j + 1, by omega, by go_num, fin⟩, by simp [intOf]; omega⟩
      · rw [if_neg he] at hst
        have hne : (x.toList == s.toList) = false := by
          cases q : (x.toList == s.toList) with
          | false => rfl
          | true => exact absurd ((bytes_beq_iff _ _).1 q) he
        have hlr : (remN (R.ns.take j) s).length ≤ 1000 := Nat.le_trans (List.length_filter_le _ _) (by rw [List.length_take]; omega)
        obtain ⟨v', W', hrun, hown, hb2, p', n', c', hv'⟩ := app_text (s := x) hI.out.1 (by omega) (by have := hI.out.2.size; have := hBH.out; omega)
        have fin : Hid (W'.ownsRow B 9 1 v' (remN (R.ns.take (j + 1)) s).length ((remN (R.ns.take (j + 1)) s).map Value.string) ∧ Below B w W') := by
          show _ ∧ _
          rw [hst]; exact ⟨hown, hI.out.2.trans hb2⟩
        subst hv'
        obtain ⟨W2, hW2⟩ : ∃ W2, wr.alloc (.cells #[.string x] 9) = W2 := ⟨_, rfl⟩
        rw [hW2] at hrun
        clear hst hI hown hb2 he hlr
        go_wp2_with (first | rw [hW2] | (at_builtin; refine wpList_append_run rfl _ _ 28 rfl _ _ _ _ rfl rfl hrun ?_))
        exact ⟨⟨j + 1, by omega, by go_num, fin⟩, by simp [intOf]; omega⟩
    · have hge : ¬ (j : Int) < (m : Int) := by omega
      have f1 := ((Mv.below (E := fun _ => False) hb.out).froz (a := ⟨R.b, 1, none⟩) (fun h => h) (cell_lt c1H.out)).trans hH.out.f1
      obtain ⟨p', n', c', hv'⟩ : ∃ p n c, u4 = .slice p n c := by
        rcases hI.out.1.2 with ⟨e, _⟩ | ⟨g, cp, cur, e, _⟩
        · exact ⟨_, _, _, e⟩
        · exact ⟨_, _, _, e⟩
      subst hv'
      have fin : Hid (RGoes R w { R with nv := .slice p' n' c', ns := remN R.ns s } (wr.setCell ⟨R.b, 1, none⟩ (.slice p' n' c'))) := by
        have ho := hI.out.1
        rw [List.take_of_length_le (by have := hmH.out; omega)] at ho
        refine hH.out.turnN (Mv.below hb.out) (NS.own ho) (fun k hk => .inr ?_)
        rcases ho.2 with ⟨e, _⟩ | ⟨g, cp, cur, e, hg, _⟩
        · rw [e] at hk; cases hk
        · rw [e] at hk; cases hk
          have := hBH.out
          show w.heap.size ≤ g
          omega
      clear hI
      go_wp2_with fail
      refine bodyPost_end (v := .tuple #[]) (by simp [results, Try.results29, go_sem]) rfl ?_
      exact ⟨rfl, _, fin.out⟩
end Go.Proofs.Ytfmceioiglmepaa
