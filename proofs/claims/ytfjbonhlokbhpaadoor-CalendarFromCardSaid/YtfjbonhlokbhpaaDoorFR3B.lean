/- The contract of package calendar's copyOf. -/
import Derived.Test.YtfjbonhlokbhpaaDoorFR2B
import Derived.Deep.RegionHeld
namespace Go.Proofs.YtfjbonhlokbhpaaDoor
open Go.RowKit Go.Shelf
theorem below7r {w W : World} (r : Nat) (hr : w.heap.size ≤ r) (h : Below w.heap.size w W) (v0 v1 v2 v3 v4 v5 v6 : Value) : Below w.heap.size w (((((((W.setCell ⟨r, 0, none⟩ v0).setCell ⟨r, 1, none⟩ v1).setCell ⟨r, 2, none⟩ v2).setCell ⟨r, 3, none⟩ v3).setCell ⟨r, 4, none⟩ v4).setCell ⟨r, 5, none⟩ v5).setCell ⟨r, 6, none⟩ v6) :=
  ((((((h.setCell (p := ⟨r, 0, none⟩) hr _).setCell (p := ⟨r, 1, none⟩) hr _).setCell (p := ⟨r, 2, none⟩) hr _).setCell (p := ⟨r, 3, none⟩) hr _).setCell (p := ⟨r, 4, none⟩) hr _).setCell (p := ⟨r, 5, none⟩) hr _).setCell (p := ⟨r, 6, none⟩) hr _
set_option maxRecDepth 100000 in
set_option maxHeartbeats 4000000 in
theorem copyOf_any (S : Nat → Sl) (c : Cal.C7) (w : World) (hp : CalPin (fun _ => False) w S c) :
    Calls Tryd.prog 21 #[aggC S] w fun e w' => ∃ S' : Nat → Sl, e = .returned (aggC S') ∧ Below w.heap.size w w' ∧ CalPin (fun k => k < w.heap.size) w' S' c := by
  obtain ⟨W0, hW0⟩ : ∃ W0, (w.alloc (.cells #[slv (S 0), slv (S 1), slv (S 2), slv (S 3), slv (S 4), slv (S 5), slv (S 6)] 24)).alloc (.cells #[.slice none 0 0, .slice none 0 0, .slice none 0 0, .slice none 0 0, .slice none 0 0, .slice none 0 0, .slice none 0 0] 24) = W0 := ⟨_, rfl⟩
  have hB0 : Below w.heap.size w W0 := by rw [← hW0]; exact ((Below.refl _ _).alloc (Nat.le_refl _) _).alloc (by simp) _
  have hs0 : W0.heap.size = w.heap.size + 2 := by rw [← hW0]; simp
  have kres : W0.heap[w.heap.size + 1]? = some (.cells nil7 24 (0, 0)) := by
    have := heap_alloc_new (w.alloc (.cells #[slv (S 0), slv (S 1), slv (S 2), slv (S 3), slv (S 4), slv (S 5), slv (S 6)] 24)) (.cells nil7 24)
    rw [World.size_alloc] at this
    rw [← hW0]
    exact this
  have q0 : W0.cell? ⟨w.heap.size, 0, none⟩ = some (slv (S 0)) := by rw [← hW0]; exact (((Below.refl _ _).alloc (Nat.le_refl _) _).cell (p := ⟨w.heap.size, 0, none⟩) (by simp)).trans (cell_at rfl rfl)
  have q1 : W0.cell? ⟨w.heap.size, 1, none⟩ = some (slv (S 1)) := by rw [← hW0]; exact (((Below.refl _ _).alloc (Nat.le_refl _) _).cell (p := ⟨w.heap.size, 1, none⟩) (by simp)).trans (cell_at rfl rfl)
  have q2 : W0.cell? ⟨w.heap.size, 2, none⟩ = some (slv (S 2)) := by rw [← hW0]; exact (((Below.refl _ _).alloc (Nat.le_refl _) _).cell (p := ⟨w.heap.size, 2, none⟩) (by simp)).trans (cell_at rfl rfl)
  have q3 : W0.cell? ⟨w.heap.size, 3, none⟩ = some (slv (S 3)) := by rw [← hW0]; exact (((Below.refl _ _).alloc (Nat.le_refl _) _).cell (p := ⟨w.heap.size, 3, none⟩) (by simp)).trans (cell_at rfl rfl)
  have q4 : W0.cell? ⟨w.heap.size, 4, none⟩ = some (slv (S 4)) := by rw [← hW0]; exact (((Below.refl _ _).alloc (Nat.le_refl _) _).cell (p := ⟨w.heap.size, 4, none⟩) (by simp)).trans (cell_at rfl rfl)
  have q5 : W0.cell? ⟨w.heap.size, 5, none⟩ = some (slv (S 5)) := by rw [← hW0]; exact (((Below.refl _ _).alloc (Nat.le_refl _) _).cell (p := ⟨w.heap.size, 5, none⟩) (by simp)).trans (cell_at rfl rfl)
  have q6 : W0.cell? ⟨w.heap.size, 6, none⟩ = some (slv (S 6)) := by rw [← hW0]; exact (((Below.refl _ _).alloc (Nat.le_refl _) _).cell (p := ⟨w.heap.size, 6, none⟩) (by simp)).trans (cell_at rfl rfl)
  have hall : ∀ y, Below W0.heap.size W0 y → ((y.cell? ⟨w.heap.size, 0, none⟩ = some (slv (S 0)) ∧ y.cell? ⟨w.heap.size, 1, none⟩ = some (slv (S 1)) ∧ y.cell? ⟨w.heap.size, 2, none⟩ = some (slv (S 2)) ∧ y.cell? ⟨w.heap.size, 3, none⟩ = some (slv (S 3)) ∧ y.cell? ⟨w.heap.size, 4, none⟩ = some (slv (S 4)) ∧ y.cell? ⟨w.heap.size, 5, none⟩ = some (slv (S 5)) ∧ y.cell? ⟨w.heap.size, 6, none⟩ = some (slv (S 6))) ∧ Hid (Below w.heap.size w y)) := fun y hb => ⟨⟨(hb.cell (p := ⟨w.heap.size, 0, none⟩) (by show w.heap.size < _; omega)).trans q0, (hb.cell (p := ⟨w.heap.size, 1, none⟩) (by show w.heap.size < _; omega)).trans q1, (hb.cell (p := ⟨w.heap.size, 2, none⟩) (by show w.heap.size < _; omega)).trans q2, (hb.cell (p := ⟨w.heap.size, 3, none⟩) (by show w.heap.size < _; omega)).trans q3, (hb.cell (p := ⟨w.heap.size, 4, none⟩) (by show w.heap.size < _; omega)).trans q4, (hb.cell (p := ⟨w.heap.size, 5, none⟩) (by show w.heap.size < _; omega)).trans q5, (hb.cell (p := ⟨w.heap.size, 6, none⟩) (by show w.heap.size < _; omega)).trans q6⟩, hB0.trans (hb.mono hB0.size)⟩
  have hpW := hp.below hB0
  have hs0H := hidI2 hs0
  have hB0H := hidI2 hB0
  have kresH := hidI2 kres
  have hpWH := hidI2 hpW
  have bD : Hid (Below W0.heap.size W0 W0.drew) := (Below.refl _ W0).drew
  clear q0 q1 q2 q3 q4 q5 q6 hs0 hB0 kres hpW hp
  go_enter Tryd.func21, Tryd.ntmps21
  go_upto_region 1 with (rw [hW0])
  clear hW0
  refine wp_region_held_drew (S := fun y => ((y.cell? ⟨w.heap.size, 0, none⟩ = some (slv (S 0)) ∧ y.cell? ⟨w.heap.size, 1, none⟩ = some (slv (S 1)) ∧ y.cell? ⟨w.heap.size, 2, none⟩ = some (slv (S 2)) ∧ y.cell? ⟨w.heap.size, 3, none⟩ = some (slv (S 3)) ∧ y.cell? ⟨w.heap.size, 4, none⟩ = some (slv (S 4)) ∧ y.cell? ⟨w.heap.size, 5, none⟩ = some (slv (S 5)) ∧ y.cell? ⟨w.heap.size, 6, none⟩ = some (slv (S 6))) ∧ Hid (Below w.heap.size w y))) (by kernel_rfl) (hall _ (Below.refl _ _).drew) (fun hHeld => ?_)
  refine wpAnyH_take (i := 0) (oi := ⟨some 3, _, _, _, _, _⟩) (v := ?v0) rfl (by kernel_rfl) (by kernel_rfl) (by kernel_rfl) (fun _ _ _ h => h) (Or.inl ⟨by rfl, ?hy0⟩) (by assumption) ?_
  case hy0 => (intro w hSw; (try dsimp only at hSw); go_simp; try with_reducible rfl)
  simp only [Act.put, List.setIfInBounds_toArray, List.set_cons_zero, List.set_cons_succ]
  refine wpAnyH_take (i := 1) (oi := ⟨some 4, _, _, _, _, _⟩) (v := ?v1) rfl (by kernel_rfl) (by kernel_rfl) (by kernel_rfl) (fun _ _ _ h => h) (Or.inl ⟨by rfl, ?hy1⟩) (by assumption) ?_
  case hy1 => (intro w hSw; (try dsimp only at hSw); go_simp; try with_reducible rfl)
  simp only [Act.put, List.setIfInBounds_toArray, List.set_cons_zero, List.set_cons_succ]
  refine wpAnyH_take (i := 3) (oi := ⟨some 6, _, _, _, _, _⟩) (v := ?v3) rfl (by kernel_rfl) (by kernel_rfl) (by kernel_rfl) (fun _ _ _ h => h) (Or.inl ⟨by rfl, ?hy3⟩) (by assumption) ?_
  case hy3 => (intro w hSw; (try dsimp only at hSw); go_simp; try with_reducible rfl)
  simp only [Act.put, List.setIfInBounds_toArray, List.set_cons_zero, List.set_cons_succ]
  refine wpAnyH_take (i := 4) (oi := ⟨some 7, _, _, _, _, _⟩) (v := ?v4) rfl (by kernel_rfl) (by kernel_rfl) (by kernel_rfl) (fun _ _ _ h => h) (Or.inl ⟨by rfl, ?hy4⟩) (by assumption) ?_
  case hy4 => (intro w hSw; (try dsimp only at hSw); go_simp; try with_reducible rfl)
  simp only [Act.put, List.setIfInBounds_toArray, List.set_cons_zero, List.set_cons_succ]
  refine wpAnyH_take (i := 6) (oi := ⟨some 9, _, _, _, _, _⟩) (v := ?v6) rfl (by kernel_rfl) (by kernel_rfl) (by kernel_rfl) (fun _ _ _ h => h) (Or.inl ⟨by rfl, ?hy6⟩) (by assumption) ?_
  case hy6 => (intro w hSw; (try dsimp only at hSw); go_simp; try with_reducible rfl)
  simp only [Act.put, List.setIfInBounds_toArray, List.set_cons_zero, List.set_cons_succ]
  refine wpAnyH_take (i := 7) (oi := ⟨some 10, _, _, _, _, _⟩) (v := ?v7) rfl (by kernel_rfl) (by kernel_rfl) (by kernel_rfl) (fun _ _ _ h => h) (Or.inl ⟨by rfl, ?hy7⟩) (by assumption) ?_
  case hy7 => (intro w hSw; (try dsimp only at hSw); go_simp; try with_reducible rfl)
  simp only [Act.put, List.setIfInBounds_toArray, List.set_cons_zero, List.set_cons_succ]
  refine wpAnyH_take (i := 9) (oi := ⟨some 12, _, _, _, _, _⟩) (v := ?v9) rfl (by kernel_rfl) (by kernel_rfl) (by kernel_rfl) (fun _ _ _ h => h) (Or.inl ⟨by rfl, ?hy9⟩) (by assumption) ?_
  case hy9 => (intro w hSw; (try dsimp only at hSw); go_simp; try with_reducible rfl)
  simp only [Act.put, List.setIfInBounds_toArray, List.set_cons_zero, List.set_cons_succ]
  refine wpAnyH_take (i := 10) (oi := ⟨some 13, _, _, _, _, _⟩) (v := ?v10) rfl (by kernel_rfl) (by kernel_rfl) (by kernel_rfl) (fun _ _ _ h => h) (Or.inl ⟨by rfl, ?hy10⟩) (by assumption) ?_
  case hy10 => (intro w hSw; (try dsimp only at hSw); go_simp; try with_reducible rfl)
  simp only [Act.put, List.setIfInBounds_toArray, List.set_cons_zero, List.set_cons_succ]
  refine wpAnyH_take (i := 12) (oi := ⟨some 15, _, _, _, _, _⟩) (v := ?v12) rfl (by kernel_rfl) (by kernel_rfl) (by kernel_rfl) (fun _ _ _ h => h) (Or.inl ⟨by rfl, ?hy12⟩) (by assumption) ?_
  case hy12 => (intro w hSw; (try dsimp only at hSw); go_simp; try with_reducible rfl)
  simp only [Act.put, List.setIfInBounds_toArray, List.set_cons_zero, List.set_cons_succ]
  refine wpAnyH_take (i := 13) (oi := ⟨some 16, _, _, _, _, _⟩) (v := ?v13) rfl (by kernel_rfl) (by kernel_rfl) (by kernel_rfl) (fun _ _ _ h => h) (Or.inl ⟨by rfl, ?hy13⟩) (by assumption) ?_
  case hy13 => (intro w hSw; (try dsimp only at hSw); go_simp; try with_reducible rfl)
  simp only [Act.put, List.setIfInBounds_toArray, List.set_cons_zero, List.set_cons_succ]
  refine wpAnyH_take (i := 15) (oi := ⟨some 18, _, _, _, _, _⟩) (v := ?v15) rfl (by kernel_rfl) (by kernel_rfl) (by kernel_rfl) (fun _ _ _ h => h) (Or.inl ⟨by rfl, ?hy15⟩) (by assumption) ?_
  case hy15 => (intro w hSw; (try dsimp only at hSw); go_simp; try with_reducible rfl)
  simp only [Act.put, List.setIfInBounds_toArray, List.set_cons_zero, List.set_cons_succ]
  refine wpAnyH_take (i := 16) (oi := ⟨some 19, _, _, _, _, _⟩) (v := ?v16) rfl (by kernel_rfl) (by kernel_rfl) (by kernel_rfl) (fun _ _ _ h => h) (Or.inl ⟨by rfl, ?hy16⟩) (by assumption) ?_
  case hy16 => (intro w hSw; (try dsimp only at hSw); go_simp; try with_reducible rfl)
  simp only [Act.put, List.setIfInBounds_toArray, List.set_cons_zero, List.set_cons_succ]
  refine wpAnyH_take (i := 18) (oi := ⟨some 21, _, _, _, _, _⟩) (v := ?v18) rfl (by kernel_rfl) (by kernel_rfl) (by kernel_rfl) (fun _ _ _ h => h) (Or.inl ⟨by rfl, ?hy18⟩) (by assumption) ?_
  case hy18 => (intro w hSw; (try dsimp only at hSw); go_simp; try with_reducible rfl)
  simp only [Act.put, List.setIfInBounds_toArray, List.set_cons_zero, List.set_cons_succ]
  refine wpAnyH_take (i := 19) (oi := ⟨some 22, _, _, _, _, _⟩) (v := ?v19) rfl (by kernel_rfl) (by kernel_rfl) (by kernel_rfl) (fun _ _ _ h => h) (Or.inl ⟨by rfl, ?hy19⟩) (by assumption) ?_
  case hy19 => (intro w hSw; (try dsimp only at hSw); go_simp; try with_reducible rfl)
  simp only [Act.put, List.setIfInBounds_toArray, List.set_cons_zero, List.set_cons_succ]
  refine wpAnyH_ready (rs := [2]) (by kernel_rfl) (by simp) ?_
  refine AllReadyH.cons (o := ⟨some 5, _, _, _, _, _⟩) rfl (fun K hK => ?_) AllReadyH.nil
  go_simp
  refine (clone_any (S 0) c.week W0.drew (hpWH.out.below (bD.out)).p0).mono ?_
  rintro e x0 ⟨s0, rfl, hb, hp⟩
  have b0 := hidI2 ((bD.out).trans (hb.mono (bD.out).size))
  have p0 : Hid (Pin (fun k => k = w.heap.size + 1 ∨ k < w.heap.size) x0 (slv s0) c.week) := pin_mono hp (by have h1 := hs0H.out; have h2 := (bD.out).size; intro k hk; rcases hk with hk | hk <;> (first | omega | (simp at h2 ⊢; omega)))
  clear hb hp
  go_wp2_with fail
  refine hK.out _ _ (hall _ b0.out) (fun _ => ?_)
  clear hK K
  refine wpAnyH_ready (rs := [5]) (by kernel_rfl) (by simp) ?_
  refine AllReadyH.cons (o := ⟨some 8, _, _, _, _, _⟩) rfl (fun K hK => ?_) AllReadyH.nil
  go_simp
  refine (clone_any (S 1) c.year x0 (hpWH.out.below (b0.out)).p1).mono ?_
  rintro e x1 ⟨s1, rfl, hb, hp⟩
  have b1 := hidI2 ((b0.out).trans (hb.mono (b0.out).size))
  have p0 := hidI2 (p0.out.below hb)
  have p1 : Hid (Pin (fun k => k = w.heap.size + 1 ∨ k < w.heap.size) x1 (slv s1) c.year) := pin_mono hp (by have h1 := hs0H.out; have h2 := (b0.out).size; intro k hk; rcases hk with hk | hk <;> (first | omega | (simp at h2 ⊢; omega)))
  clear hb hp
  go_wp2_with fail
  refine hK.out _ _ (hall _ b1.out) (fun _ => ?_)
  clear hK K
  refine wpAnyH_ready (rs := [8]) (by kernel_rfl) (by simp) ?_
  refine AllReadyH.cons (o := ⟨some 11, _, _, _, _, _⟩) rfl (fun K hK => ?_) AllReadyH.nil
  go_simp
  refine (clone_any (S 2) c.month x1 (hpWH.out.below (b1.out)).p2).mono ?_
  rintro e x2 ⟨s2, rfl, hb, hp⟩
  have b2 := hidI2 ((b1.out).trans (hb.mono (b1.out).size))
  have p0 := hidI2 (p0.out.below hb)
  have p1 := hidI2 (p1.out.below hb)
  have p2 : Hid (Pin (fun k => k = w.heap.size + 1 ∨ k < w.heap.size) x2 (slv s2) c.month) := pin_mono hp (by have h1 := hs0H.out; have h2 := (b1.out).size; intro k hk; rcases hk with hk | hk <;> (first | omega | (simp at h2 ⊢; omega)))
  clear hb hp
  go_wp2_with fail
  refine hK.out _ _ (hall _ b2.out) (fun _ => ?_)
  clear hK K
  refine wpAnyH_ready (rs := [11]) (by kernel_rfl) (by simp) ?_
  refine AllReadyH.cons (o := ⟨some 14, _, _, _, _, _⟩) rfl (fun K hK => ?_) AllReadyH.nil
  go_simp
  refine (clone_any (S 3) c.day x2 (hpWH.out.below (b2.out)).p3).mono ?_
  rintro e x3 ⟨s3, rfl, hb, hp⟩
  have b3 := hidI2 ((b2.out).trans (hb.mono (b2.out).size))
  have p0 := hidI2 (p0.out.below hb)
  have p1 := hidI2 (p1.out.below hb)
  have p2 := hidI2 (p2.out.below hb)
  have p3 : Hid (Pin (fun k => k = w.heap.size + 1 ∨ k < w.heap.size) x3 (slv s3) c.day) := pin_mono hp (by have h1 := hs0H.out; have h2 := (b2.out).size; intro k hk; rcases hk with hk | hk <;> (first | omega | (simp at h2 ⊢; omega)))
  clear hb hp
  go_wp2_with fail
  refine hK.out _ _ (hall _ b3.out) (fun _ => ?_)
  clear hK K
  refine wpAnyH_ready (rs := [14]) (by kernel_rfl) (by simp) ?_
  refine AllReadyH.cons (o := ⟨some 17, _, _, _, _, _⟩) rfl (fun K hK => ?_) AllReadyH.nil
  go_simp
  refine (clone_any (S 4) c.hour x3 (hpWH.out.below (b3.out)).p4).mono ?_
  rintro e x4 ⟨s4, rfl, hb, hp⟩
  have b4 := hidI2 ((b3.out).trans (hb.mono (b3.out).size))
  have p0 := hidI2 (p0.out.below hb)
  have p1 := hidI2 (p1.out.below hb)
  have p2 := hidI2 (p2.out.below hb)
  have p3 := hidI2 (p3.out.below hb)
  have p4 : Hid (Pin (fun k => k = w.heap.size + 1 ∨ k < w.heap.size) x4 (slv s4) c.hour) := pin_mono hp (by have h1 := hs0H.out; have h2 := (b3.out).size; intro k hk; rcases hk with hk | hk <;> (first | omega | (simp at h2 ⊢; omega)))
  clear hb hp
  go_wp2_with fail
  refine hK.out _ _ (hall _ b4.out) (fun _ => ?_)
  clear hK K
  refine wpAnyH_ready (rs := [17]) (by kernel_rfl) (by simp) ?_
  refine AllReadyH.cons (o := ⟨some 20, _, _, _, _, _⟩) rfl (fun K hK => ?_) AllReadyH.nil
  go_simp
  refine (clone_any (S 5) c.minute x4 (hpWH.out.below (b4.out)).p5).mono ?_
  rintro e x5 ⟨s5, rfl, hb, hp⟩
  have b5 := hidI2 ((b4.out).trans (hb.mono (b4.out).size))
  have p0 := hidI2 (p0.out.below hb)
  have p1 := hidI2 (p1.out.below hb)
  have p2 := hidI2 (p2.out.below hb)
  have p3 := hidI2 (p3.out.below hb)
  have p4 := hidI2 (p4.out.below hb)
  have p5 : Hid (Pin (fun k => k = w.heap.size + 1 ∨ k < w.heap.size) x5 (slv s5) c.minute) := pin_mono hp (by have h1 := hs0H.out; have h2 := (b4.out).size; intro k hk; rcases hk with hk | hk <;> (first | omega | (simp at h2 ⊢; omega)))
  clear hb hp
  go_wp2_with fail
  refine hK.out _ _ (hall _ b5.out) (fun _ => ?_)
  clear hK K
  refine wpAnyH_ready (rs := [20]) (by kernel_rfl) (by simp) ?_
  refine AllReadyH.cons (o := ⟨some 23, _, _, _, _, _⟩) rfl (fun K hK => ?_) AllReadyH.nil
  go_simp
  refine (clone_any (S 6) c.second x5 (hpWH.out.below (b5.out)).p6).mono ?_
  rintro e x6 ⟨s6, rfl, hb, hp⟩
  have b6 := hidI2 ((b5.out).trans (hb.mono (b5.out).size))
  have p0 := hidI2 (p0.out.below hb)
  have p1 := hidI2 (p1.out.below hb)
  have p2 := hidI2 (p2.out.below hb)
  have p3 := hidI2 (p3.out.below hb)
  have p4 := hidI2 (p4.out.below hb)
  have p5 := hidI2 (p5.out.below hb)
  have p6 : Hid (Pin (fun k => k = w.heap.size + 1 ∨ k < w.heap.size) x6 (slv s6) c.second) := pin_mono hp (by have h1 := hs0H.out; have h2 := (b5.out).size; intro k hk; rcases hk with hk | hk <;> (first | omega | (simp at h2 ⊢; omega)))
  clear hb hp
  go_wp2_with fail
  refine hK.out _ _ (hall _ b6.out) (fun _ => ?_)
  clear hK K
  refine wpAnyH_take (i := 21) (oi := ⟨some 24, _, _, _, _, _⟩) (v := ?v21) rfl (by kernel_rfl) (by kernel_rfl) (by kernel_rfl) (fun _ _ _ h => h) (Or.inl ⟨by rfl, ?hy21⟩) (by assumption) ?_
  case hy21 => (intro w hSw; (try dsimp only at hSw); go_simp; try with_reducible rfl)
  simp only [Act.put, List.setIfInBounds_toArray, List.set_cons_zero, List.set_cons_succ]
  refine wpAnyH_ready (rs := [22]) (by kernel_rfl) (by simp) ?_
  refine AllReadyH.cons (o := ⟨none, _, _, _, _, _⟩) rfl (fun K hK => ?_) AllReadyH.nil
  have kr4 : x6.heap[w.heap.size + 1]? = some (.cells nil7 24 (0, 0)) := (b6.out.block _ (by have := hs0H.out; omega)).trans kresH.out
  have g0 := nil7_at kr4 0 (by decide)
  have g1 := nil7_at kr4 1 (by decide)
  have g2 := nil7_at kr4 2 (by decide)
  have g3 := nil7_at kr4 3 (by decide)
  have g4 := nil7_at kr4 4 (by decide)
  have g5 := nil7_at kr4 5 (by decide)
  have g6 := nil7_at kr4 6 (by decide)
  have r0 := nil7_froz kr4 0
  have r1 := nil7_froz kr4 1
  have r2 := nil7_froz kr4 2
  have r3 := nil7_froz kr4 3
  have r4 := nil7_froz kr4 4
  have r5 := nil7_froz kr4 5
  have r6 := nil7_froz kr4 6
  have Y : Hid (CalPin (fun k => k = w.heap.size + 1 ∨ k < w.heap.size) x6 (fun j => [s0, s1, s2, s3, s4, s5, s6].getD j (none, 0, 0)) c) := ⟨p0.out, p1.out, p2.out, p3.out, p4.out, p5.out, p6.out⟩
  have hx6 := hall x6 b6.out
  have hall2 : ∀ V, Ob (w.heap.size + 1) x6 V → ((V.cell? ⟨w.heap.size, 0, none⟩ = some (slv (S 0)) ∧ V.cell? ⟨w.heap.size, 1, none⟩ = some (slv (S 1)) ∧ V.cell? ⟨w.heap.size, 2, none⟩ = some (slv (S 2)) ∧ V.cell? ⟨w.heap.size, 3, none⟩ = some (slv (S 3)) ∧ V.cell? ⟨w.heap.size, 4, none⟩ = some (slv (S 4)) ∧ V.cell? ⟨w.heap.size, 5, none⟩ = some (slv (S 5)) ∧ V.cell? ⟨w.heap.size, 6, none⟩ = some (slv (S 6))) ∧ Hid (Below w.heap.size w V)) := fun V ho => ⟨⟨ho.old (by omega) hx6.1.1, ho.old (by omega) hx6.1.2.1, ho.old (by omega) hx6.1.2.2.1, ho.old (by omega) hx6.1.2.2.2.1, ho.old (by omega) hx6.1.2.2.2.2.1, ho.old (by omega) hx6.1.2.2.2.2.2.1, ho.old (by omega) hx6.1.2.2.2.2.2.2⟩, ho.below hx6.2.out (by omega)⟩
  have Z : Hid (Below w.heap.size w x6) := hB0H.out.trans (b6.out.mono hB0H.out.size)
  clear p0 p1 p2 p3 p4 p5 p6 b0 b1 b2 b3 b4 b5 kr4 hpWH
  go_simp
  refine hK.out _ _ (hall2 _ (ob7 _ _ _ _ _ _ _ _ _)) (fun _ => ?_)
  clear hK K
  refine wpAnyH_done (by kernel_rfl) ?_ _
  go_wp2_with fail
  refine bodyPost_ret (v := aggC (fun j => [s0, s1, s2, s3, s4, s5, s6].getD j (none, 0, 0))) (by simp [results, Tryd.results21, go_sem, g0, g1, g2, g3, g4, g5, g6]) rfl ⟨_, rfl, ?_, ?_⟩
  · exact below7r (w.heap.size + 1) (by omega) Z.out _ _ _ _ _ _ _
  · have ho := ob7 (w.heap.size + 1) x6 (slv s0) (slv s1) (slv s2) (slv s3) (slv s4) (slv s5) (slv s6)
    have h := Y.out
    exact ⟨pin_mono (ho.pin h.p0 (.inl rfl)) (fun _ h => .inr h), pin_mono (ho.pin h.p1 (.inl rfl)) (fun _ h => .inr h), pin_mono (ho.pin h.p2 (.inl rfl)) (fun _ h => .inr h), pin_mono (ho.pin h.p3 (.inl rfl)) (fun _ h => .inr h), pin_mono (ho.pin h.p4 (.inl rfl)) (fun _ h => .inr h), pin_mono (ho.pin h.p5 (.inl rfl)) (fun _ h => .inr h), pin_mono (ho.pin h.p6 (.inl rfl)) (fun _ h => .inr h)⟩
end Go.Proofs.YtfjbonhlokbhpaaDoor
