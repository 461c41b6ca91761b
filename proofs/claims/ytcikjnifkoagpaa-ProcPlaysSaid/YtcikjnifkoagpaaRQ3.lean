/- The reference's Get, Fork. -/
import Derived.Test.YtcikjnifkoagpaaRQ2
namespace Go.Proofs.Ytcikjnifkoagpaa
open Go.RowKit Go.Shelf Go.Lib
theorem six_set {W V : World} {n : Nat} (hc : ∀ j, j < 6 → (W.cell? ⟨n, j, none⟩).isSome = true) {v0 v1 v2 v3 v4 v5 : Value}
    (hV : (((((W.setCell ⟨n, 0, none⟩ v0).setCell ⟨n, 1, none⟩ v1).setCell ⟨n, 2, none⟩ v2).setCell ⟨n, 3, none⟩ v3).setCell ⟨n, 4, none⟩ v4).setCell ⟨n, 5, none⟩ v5 = V) :
    Mv (fun k => k = n) W V ∧ V.cell? ⟨n, 0, none⟩ = some v0 ∧ V.cell? ⟨n, 1, none⟩ = some v1 ∧ V.cell? ⟨n, 2, none⟩ = some v2 ∧ V.cell? ⟨n, 3, none⟩ = some v3 ∧ V.cell? ⟨n, 4, none⟩ = some v4 ∧ V.cell? ⟨n, 5, none⟩ = some v5 := by
  have oth : ∀ (U : World) (j i : Nat) (u : Value), j ≠ i → (U.setCell ⟨n, i, none⟩ u).cell? ⟨n, j, none⟩ = U.cell? ⟨n, j, none⟩ := fun U j i u hj => World.cell?_setCell_other _ _ _ _ (by intro e; cases e; exact hj rfl)
  refine ⟨?_, ?_, ?_, ?_, ?_, ?_, ?_⟩
  · rw [← hV]
    exact ((((((Mv.refl (fun k => k = n) W).setc (p := ⟨n, 0, none⟩) (.inl rfl) _).setc (p := ⟨n, 1, none⟩) (.inl rfl) _).setc (p := ⟨n, 2, none⟩) (.inl rfl) _).setc (p := ⟨n, 3, none⟩) (.inl rfl) _).setc (p := ⟨n, 4, none⟩) (.inl rfl) _).setc (p := ⟨n, 5, none⟩) (.inl rfl) _
  · rw [← hV, oth _ 0 5 _ (by decide), oth _ 0 4 _ (by decide), oth _ 0 3 _ (by decide), oth _ 0 2 _ (by decide), oth _ 0 1 _ (by decide)]; exact World.cell?_setCell_same' _ _ _ (hc 0 (by decide))
  · rw [← hV, oth _ 1 5 _ (by decide), oth _ 1 4 _ (by decide), oth _ 1 3 _ (by decide), oth _ 1 2 _ (by decide)]; exact World.cell?_setCell_same' _ _ _ (by rw [oth _ 1 0 _ (by decide)]; exact hc 1 (by decide))
  · rw [← hV, oth _ 2 5 _ (by decide), oth _ 2 4 _ (by decide), oth _ 2 3 _ (by decide)]; exact World.cell?_setCell_same' _ _ _ (by rw [oth _ 2 1 _ (by decide), oth _ 2 0 _ (by decide)]; exact hc 2 (by decide))
  · rw [← hV, oth _ 3 5 _ (by decide), oth _ 3 4 _ (by decide)]; exact World.cell?_setCell_same' _ _ _ (by rw [oth _ 3 2 _ (by decide), oth _ 3 1 _ (by decide), oth _ 3 0 _ (by decide)]; exact hc 3 (by decide))
  · rw [← hV, oth _ 4 5 _ (by decide)]; exact World.cell?_setCell_same' _ _ _ (by rw [oth _ 4 3 _ (by decide), oth _ 4 2 _ (by decide), oth _ 4 1 _ (by decide), oth _ 4 0 _ (by decide)]; exact hc 4 (by decide))
  · rw [← hV]; exact World.cell?_setCell_same' _ _ _ (by rw [oth _ 5 4 _ (by decide), oth _ 5 3 _ (by decide), oth _ 5 2 _ (by decide), oth _ 5 1 _ (by decide), oth _ 5 0 _ (by decide)]; exact hc 5 (by decide))
set_option maxRecDepth 100000 in
set_option maxHeartbeats 2000000 in
theorem rget_any {b g cap : Nat} {room last : Int} {l : Ps} (k : Int) (w : World) (h : RO w b g cap room last l) :
    Calls Try.prog 18 #[.pointer (some ⟨b, 0, none⟩), .int .i64 k] w fun e w' => e = .returned (.tuple #[prV ((lk l k).getD zPr), .bool (lk l k).isSome]) ∧ Below w.heap.size w w' := by
  obtain ⟨W, hW⟩ : ∃ W, w.alloc (.cells #[.int .i64 0, .int .i64 0, .string ⟨#[]⟩, .bool false, .int .i64 0, .string ⟨#[]⟩] 40) = W := ⟨_, rfl⟩
  have b0 : Below w.heap.size w W := by rw [← hW]; exact (Below.refl _ _).alloc (Nat.le_refl _) _
  have hA := rat_any k W (h.below b0).rt
  obtain ⟨n, hn⟩ : ∃ n, w.heap.size = n := ⟨_, rfl⟩
  have hcl : ∀ j v, #[Value.int .i64 0, .int .i64 0, .string ⟨#[]⟩, .bool false, .int .i64 0, .string ⟨#[]⟩][j]? = some v → W.cell? ⟨n, j, none⟩ = some v := fun j v e => by rw [← hW]; exact cell_at hn e
  have hfz : ∀ j, W.frozen? ⟨n, j, none⟩ = false := fun j => by rw [← hW]; exact froz_new hn
  have hsome : Hid (∀ j, j < 6 → (W.cell? ⟨n, j, none⟩).isSome = true) := fun j hj => by
    match j, hj with
    | 0, _ => rw [hcl 0 _ rfl]; rfl
    | 1, _ => rw [hcl 1 _ rfl]; rfl
    | 2, _ => rw [hcl 2 _ rfl]; rfl
    | 3, _ => rw [hcl 3 _ rfl]; rfl
    | 4, _ => rw [hcl 4 _ rfl]; rfl
    | 5, _ => rw [hcl 5 _ rfl]; rfl
  have c0 := hcl 0 _ rfl
  have c1 := hcl 1 _ rfl
  have c2 := hcl 2 _ rfl
  have c3 := hcl 3 _ rfl
  have c4 := hcl 4 _ rfl
  have c5 := hcl 5 _ rfl
  have f0 := hfz 0
  have f1 := hfz 1
  have f2 := hfz 2
  have f3 := hfz 3
  have f4 := hfz 4
  have f5 := hfz 5
  have b0H := hidP b0
  have hnH := hidP hn
  have hRO := hidP (h.below b0)
  rcases ixP_lk l k with ⟨e1, e2⟩ | ⟨i, p, hp, e1, e2⟩
  · rw [e1] at hA
    rw [e2]
    obtain ⟨V, hV⟩ : ∃ V, (((((W.setCell ⟨n, 0, none⟩ (.int .i64 0)).setCell ⟨n, 1, none⟩ (.int .i64 0)).setCell ⟨n, 2, none⟩ (.string ⟨#[]⟩)).setCell ⟨n, 3, none⟩ (.bool false)).setCell ⟨n, 4, none⟩ (.int .i64 0)).setCell ⟨n, 5, none⟩ (.string ⟨#[]⟩) = V := ⟨_, rfl⟩
    obtain ⟨mV, d0, d1, d2, d3, d4, d5⟩ := six_set hsome.out hV
    have fin : Hid (Below w.heap.size w V) := b0.trans (mV.toBelow b0.size (fun k hk e => by omega))
    clear h b0 hcl hfz e1 e2 mV
    go_enter Try.func18, Try.ntmps18
    go_wp2_with (rw [hW])
    refine hA.mono ?_
    rintro e w1 ⟨rfl, rfl⟩
    clear hA
    go_wp2_with (rw [hV])
    exact bodyPost_ret (v := .tuple #[prV zPr, .bool false]) (by simp [results, Try.results18, go_sem, prV, zPr, d0, d1, d2, d3, d4, d5]) rfl ⟨rfl, fin.out⟩
  · rw [e1] at hA
    rw [e2]
    have r0 := hRO.out.c0
    have q0 := hRO.out.at hp (q := 0) rfl
    have q1 := hRO.out.at hp (q := 1) rfl
    have q2 := hRO.out.at hp (q := 2) rfl
    have q3 := hRO.out.at hp (q := 3) rfl
    have q4 := hRO.out.at hp (q := 4) rfl
    have q5 := hRO.out.at hp (q := 5) rfl
    simp only [Nat.add_zero] at q0
    obtain ⟨nl, hnl⟩ : ∃ nl, l.length = nl := ⟨_, rfl⟩
    have hlen := h.len
    rw [hnl] at r0 hlen
    have hi : (i : Int) < (nl : Int) := by have := (List.getElem?_eq_some_iff.1 hp).1; omega
    obtain ⟨z0, z1, z2, z3, z4, z5, z6, z7⟩ := p
    simp only at q0 q1 q2 q3 q4 q5
    obtain ⟨V, hV⟩ : ∃ V, (((((W.setCell ⟨n, 0, none⟩ (.int .i64 z0)).setCell ⟨n, 1, none⟩ (.int .i64 z1)).setCell ⟨n, 2, none⟩ (.string z2)).setCell ⟨n, 3, none⟩ (.bool z3)).setCell ⟨n, 4, none⟩ (.int .i64 z4)).setCell ⟨n, 5, none⟩ (.string z5) = V := ⟨_, rfl⟩
    obtain ⟨mV, d0, d1, d2, d3, d4, d5⟩ := six_set hsome.out hV
    have fin : Hid (Below w.heap.size w V) := b0.trans (mV.toBelow b0.size (fun k hk e => by omega))
    clear h b0 hcl hfz e1 e2 mV hp hnl
    go_enter Try.func18, Try.ntmps18
    go_wp2_with (rw [hW])
    refine hA.mono ?_
    rintro e w1 ⟨rfl, rfl⟩
    clear hA
    go_wp2_with (rw [hV])
    exact bodyPost_ret (v := .tuple #[prV ⟨z0, z1, z2, z3, z4, z5, z6, z7⟩, .bool true]) (by simp [results, Try.results18, go_sem, prV, d0, d1, d2, d3, d4, d5]) rfl ⟨rfl, fin.out⟩
end Go.Proofs.Ytcikjnifkoagpaa
