/- Contract of cgroup's unnote. -/
import Derived.Test.YtgienkdfodjoiaaGreatGB
namespace Go.Proofs.YtgienkdfodjoiaaGreat.Cg
open Go.RowKit Go.Shelf
theorem setS_del {ns : List ByteArray} (hn : ns.Nodup) {i : Nat} {s : ByteArray} (hi : ns[i]? = some s) (x : ByteArray) : (if x = s then none else setS ns x) = setS (ns.eraseIdx i) x := by
  have hlt : i < ns.length := (List.getElem?_eq_some_iff.1 hi).1
  have hs : ns[i] = s := (List.getElem?_eq_some_iff.1 hi).2
  have key : x ∈ ns.eraseIdx i ↔ x ≠ s ∧ x ∈ ns := by
    rw [List.mem_eraseIdx_iff_getElem]
    constructor
    · rintro ⟨j, hj, hne, rfl⟩
      refine ⟨fun e => hne ?_, List.getElem_mem _⟩
      exact (List.getElem_inj hn).1 (e.trans hs.symm)
    · rintro ⟨h1, h2⟩
      obtain ⟨j, hj, rfl⟩ := List.getElem_of_mem h2
      exact ⟨j, hj, fun e => h1 (by subst e; exact hs), rfl⟩
  unfold setS
  by_cases e : x = s
  · rw [if_pos e, if_neg (by rw [inN_iff, key]; exact fun h => h.1 e)]
  · rw [if_neg e]
    have : inN ns x = inN (ns.eraseIdx i) x := by
      rw [Bool.eq_iff_iff, inN_iff, inN_iff, key]
      exact ⟨fun h => ⟨e, h⟩, fun h => h.2⟩
    rw [this]
theorem NS.some {w : World} {v : Value} {xs : List ByteArray} (h : NS w v xs) (hne : xs ≠ []) : ∃ g o cap, v = .slice (some ⟨g, o, none⟩) xs.length cap ∧ g < w.heap.size ∧ xs.length ≤ cap ∧ cap ≤ maxLen ∧
    (∀ j x, xs[j]? = some x → w.cell? ⟨g, o + j, none⟩ = some (.string x)) ∧ (∀ j, j < cap → (w.cell? ⟨g, o + j, none⟩).isSome = true ∧ w.frozen? ⟨g, o + j, none⟩ = false) := by
  rcases h with ⟨_, h⟩ | h
  · exact absurd h hne
  · exact h
/-- Behind drop, whichever end the row of notes then comes to. -/
theorem Gs.unnoted {w w2 w4 : World} {S : St} {i m : Nat} {x : ByteArray} (h : Gs w S) (hx : S.ns[i]? = some x) (mv2 : Mv (fun k => k = S.bn) w w2) (hn2 : MS w2 S.bn (dnN (setS S.ns x).isSome m) (fun y => if y = x then none else setS S.ns y)) (hm : m ≤ S.c)
    (mv4 : Mv (fun k => nb S.nv = some k) w2 w4) {nv : Value} (hv : NS w4 nv (S.ns.eraseIdx i)) (hb : nb nv = nb S.nv) :
    Goes S w { S with nv := nv, ns := S.ns.eraseIdx i } (w4.setCell ⟨S.bt, 5, none⟩ nv) 0 := by
  obtain ⟨n1, n2, n3, n4, n5, n6, n7⟩ := h.nes
  have mv5 : Mv (fun k => k = S.bn ∨ nb S.nv = some k) w w4 := (mv2.mono (fun k _ e => .inl e)).trans' (mv4.mono (fun k _ e => .inr e))
  have hbt : ¬ (S.bt = S.bn ∨ nb S.nv = some S.bt) := by rintro (q | q); exact n3 q; exact (h.nbs q).1 rfl
  have d2 := mv5.cell (a := ⟨S.bt, 5, none⟩) hbt h.c2
  have f2 := (mv5.froz (a := ⟨S.bt, 5, none⟩) hbt (cell_lt h.c2)).trans (h.fz 5)
  have hy : ∀ j, j ≠ 5 → ∀ v, w.cell? ⟨S.bt, j, none⟩ = some v → (w4.setCell ⟨S.bt, 5, none⟩ nv).cell? ⟨S.bt, j, none⟩ = some v := fun j hj v hv =>
    (World.cell?_setCell_other _ _ _ _ (by simp; try exact hj)).trans (mv5.cell (a := ⟨S.bt, j, none⟩) hbt hv)
  have hle : (S.ns.eraseIdx i).length ≤ S.ns.length := by have := List.length_eraseIdx_le S.ns i; exact this
  have := h.turnN (w' := w4.setCell ⟨S.bt, 5, none⟩ nv) (E := fun k => k = S.bt ∨ k = S.bn ∨ nb S.nv = some k) (nv := nv) (ns := S.ns.eraseIdx i) (m := dnN (setS S.ns x).isSome m) (c := S.c)
      ((mv5.mono (fun k _ e => .inr e)).setc (p := ⟨S.bt, 5, none⟩) (.inl (.inl rfl)) _) (fun k e => e) (hy 3 (by decide) _ h.c0) (hy 4 (by decide) _ h.c1) (World.cell?_setCell_same' _ _ _ (by rw [d2]; rfl)) (hy 6 (by decide) _ h.c3) (fun j => by rw [World.frozen?_setCell]; exact (mv5.froz (a := ⟨S.bt, j, none⟩) hbt (h.lt (hasT S))).trans (h.fz j)) (fun j hj => (World.cell?_setCell_other _ _ _ _ (by intro e; cases e; omega)).trans ((mv5.cellq (a := ⟨S.bt, j, none⟩) hbt (h.lt (hasT S))).trans (h.cx j hj)))
      ((hn2.mv mv4 (fun q => (h.nbs q).2.2.2.1 rfl)).mv ((Mv.refl (fun k => k = S.bt) _).setc (p := ⟨S.bt, 5, none⟩) (.inl rfl) _) n3.symm |>.cong (fun y => (setS_del h.wf.nn hx y).symm))
      (by unfold dnN; split <;> omega)
      (hv.mv ((Mv.refl (fun k => k = S.bt) _).setc (p := ⟨S.bt, 5, none⟩) (.inl rfl) _) (fun k hk e => (h.nbs (hb ▸ hk)).1 e))
      (fun k hk => .inl (hb ▸ hk)) (h.wf.nn.sublist (List.eraseIdx_sublist _ _)) (Nat.le_trans hle h.nl) (Nat.le_refl _)
  exact this.mono (by omega)
set_option maxRecDepth 100000 in
set_option maxHeartbeats 2000000 in
theorem unnote0 (S : St) (x : ByteArray) (r : List ByteArray) (w : World) (h : Gs w S) (hx : S.ns = x :: r) (hs : x.size ≤ 1000) :
    Calls Tryz.prog 86 #[.pointer (some ⟨S.bt, 3, none⟩), .int .i64 0] w fun e w' => e = .returned (.tuple #[]) ∧ ∃ nv, Goes S w { S with nv := nv, ns := S.ns.eraseIdx 0 } w' 0 := by
  obtain ⟨m, hm, hn⟩ := h.noted
  have hH := hidP h
  obtain ⟨g, o, cap, hnv, hg, hcap, hmx, hcells, hsp⟩ := h.nts.some (by rw [hx]; simp)
  have c2 := h.c2
  have c3 := h.c3
  rw [hnv] at c2
  have hlen : S.ns.length = r.length + 1 := by rw [hx]; rfl
  have hl2 := h.nl
  rw [hlen] at c2 hcap hl2
  have k0 : w.cell? ⟨g, o, none⟩ = some (.string x) := hcells 0 x (by rw [hx]; rfl)
  have hD : Hid (∀ W, Below w.heap.size w W → Calls Tryz.prog 103 #[.map (some S.bn), .string x] W fun e w' => e = .returned (.tuple #[]) ∧ MS w' S.bn (dnN (setS S.ns x).isSome m) (fun y => if y = x then none else setS S.ns y) ∧ Mv (fun k => k = S.bn) W w') := fun W hb => dropS_any S.bn m _ x W (hn.mv (E := fun _ => False) (Mv.below hb) (fun h => h)) hs
  have hsn := hidP (And.intro hcells hsp)
  have hnvH := hidP hnv
  have hxH := hidP hx
  have hmH := hidP hm
  clear hcells hsp h hn hnv hx hm
  go_enter Tryz.func86, Tryz.ntmps86
  go_wp2_with fail
  go_region_with (go_at_call 103; refine (hD.out _ (Below.refl _ _).drew).mono ?_; rintro e w2 ⟨rfl, hn2, mv2⟩)
  all_goals
    have mw : Mv (fun k => k = S.bn) w w2 := (Mv.drew _ _).trans' mv2
    have hgB := (hH.out.nbs (k := g) (by rw [hnvH.out]; rfl))
    have hne := hH.out.nes
    have d2 := mw.cell (a := ⟨S.bt, 5, none⟩) hne.2.2.1 c2
    have f2 := (mw.froz (a := ⟨S.bt, 5, none⟩) hne.2.2.1 (cell_lt c2)).trans (hH.out.fz 5)
    have her : S.ns.eraseIdx 0 = r := by rw [hxH.out]; rfl
    have hfin : Hid (∀ o', (cap - 1 ≠ 0 → o' = o + 1) → Goes S w { S with nv := .slice (some ⟨g, o', none⟩) r.length (cap - 1), ns := S.ns.eraseIdx 0 } (w2.setCell ⟨S.bt, 5, none⟩ (.slice (some ⟨g, o', none⟩) r.length (cap - 1))) 0) := fun o' ho' =>
      hH.out.unnoted (i := 0) (x := x) (by rw [hxH.out]; rfl) mw hn2 hmH.out (Mv.refl _ _) (.inr ⟨g, o', cap - 1, by rw [her], Nat.lt_of_lt_of_le hg mw.size, by rw [her]; omega, by omega, fun j y hy => by
        rw [her] at hy
        have hj : j < r.length := (List.getElem?_eq_some_iff.1 hy).1
        rw [ho' (by omega)]
        have := hsn.out.1 (j + 1) y (by rw [hxH.out]; exact hy)
        rw [show o + 1 + j = o + (j + 1) by omega]
        exact mw.cell (a := ⟨g, o + (j + 1), none⟩) hgB.2.2.2.1 this, fun j hj => by
        rw [ho' (by omega), show o + 1 + j = o + (j + 1) by omega]
        have := hsn.out.2 (j + 1) (by omega)
        have hbk := mw.block g hg hgB.2.2.2.1
        refine ⟨?_, (mw.froz (a := ⟨g, o + (j + 1), none⟩) hgB.2.2.2.1 hg).trans this.2⟩
        rw [show w2.cell? ⟨g, o + (j + 1), none⟩ = w.cell? ⟨g, o + (j + 1), none⟩ from World.cell?_of_block hbk]
        exact this.1⟩) (by rw [hnvH.out]; rfl)
    clear hD hsn hnvH hxH hmH c2 c3 k0 hgB hne mw mv2 hn2 hH her
    rcases Nat.lt_or_ge 1 cap with h1 | h1
    · have fin := hidP (hfin.out (o + 1) (fun _ => rfl))
      clear hfin
      go_wp2_with fail
      refine bodyPost_ret (v := .tuple #[]) (by simp [results, Tryz.results86, go_sem]) rfl ?_
      exact ⟨rfl, _, fin.out⟩
    · have hc1 : cap = 1 := by omega
      subst hc1
      have fin := hidP (hfin.out o (fun h => absurd rfl h))
      have hr0 : r.length = 0 := by omega
      rw [hr0] at fin
      clear hfin hr0
      go_wp2_with fail
      refine bodyPost_ret (v := .tuple #[]) (by simp [results, Tryz.results86, go_sem]) rfl ?_
      exact ⟨rfl, _, fin.out⟩
end Go.Proofs.YtgienkdfodjoiaaGreat.Cg
